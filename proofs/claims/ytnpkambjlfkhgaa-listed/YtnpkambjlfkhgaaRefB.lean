import Derived.Test.YtnpkambjlfkhgaaRefA
import Derived.Lib.Strings
import Derived.Lib.IndexBytes
namespace Go.Proofs.Ytnpkambjlfkhgaa
open Go.RowKit

theorem opnL_len {c : UInt8} {more : List UInt8} (h : opnL c = some more) : more.length ≤ 6 := by
  unfold opnL at h
  repeat (split at h; · (cases h; decide))
  cases h

theorem cat_data (a b : ByteArray) : (a ++ b).data.toList = a.data.toList ++ b.data.toList := by simp [ByteArray.data_append]
theorem tail_data (f : ByteArray) (k : Nat) : (f.extract k f.size).data.toList = f.data.toList.drop k := by
  rw [Lib.extract_data, List.take_of_length_le (by simp)]

theorem ne_empty (f : ByteArray) (h : 0 < f.size) : f.toList.isEmpty = false := by
  have hl : f.data.toList.length = f.size := by simp
  rw [ByteArray.toList_eq, List.isEmpty_eq_false_iff]
  intro hn
  rw [hn] at hl
  simp at hl
  omega

theorem ret2_eq {g : ByteArray} {x y : Bool} (h : x = y) : Ending.returned (.tuple #[.string g, .bool x]) = .returned (.tuple #[.string g, .bool y]) := by rw [h]

theorem all_snoc (f : ByteArray) (k : Nat) (hk1 : 1 ≤ k) (h : k < f.size) : (f.data.toList.drop 1).take (k + 1 - 1) = (f.data.toList.drop 1).take (k - 1) ++ [f[k]] := by
  obtain ⟨j, rfl⟩ : ∃ j, k = j + 1 := ⟨k - 1, by omega⟩
  simp only [Nat.add_sub_cancel]
  rw [List.take_succ_eq_append_getElem (by simp; omega)]
  congr 2
  rw [List.getElem_drop]
  show f.data.toList[1 + j]'_ = f.data[j + 1]
  simp [Nat.add_comm]

theorem whole_of {l : List UInt8} {k : Nat} (h : ((l.drop 1).take k).all (· == 109) = false) : wholeF l = false := by
  cases l with
  | nil => rfl
  | cons e r =>
    simp only [List.drop_succ_cons, List.drop_zero] at h
    have : r.all (· == 109) = false := by
      cases hr : r.all (· == 109) with
      | false => rfl
      | true =>
        rw [List.all_eq_true] at hr
        have : (r.take k).all (· == 109) = true := by rw [List.all_eq_true]; exact fun x hx => hr x (List.mem_of_mem_take hx)
        rw [this] at h; cases h
    simp [wholeF, this]

theorem whole_end (f : ByteArray) (h0 : 0 < f.size) (h : (f.data.toList.drop 1).all (· == 109) = true) : wholeF f.data.toList = (f[0] == 66) := by
  have e : f.data.toList = f[0] :: f.data.toList.drop 1 := by
    exact List.drop_eq_getElem_cons (l := f.data.toList) (i := 0) (by simpa using h0)
  rw [e, wholeF, h, Bool.and_true]

end Go.Proofs.Ytnpkambjlfkhgaa
