import Derived.Test.YtnpkambjlfkhgaaGreatRefA
import Derived.Lib.Strings
import Derived.Lib.IndexBytes
namespace Go.Proofs.YtnpkambjlfkhgaaGreat
open Go.RowKit

theorem opnL_len {c : UInt8} {more : List UInt8} (h : opnL c = some more) : more.length ≤ 6 := by
  unfold opnL at h
  repeat (split at h; · (cases h; decide))
  cases h

theorem cat_data (a b : ByteArray) : (a ++ b).data.toList = a.data.toList ++ b.data.toList := by simp [ByteArray.data_append]
theorem tail_data (f : ByteArray) (k : Nat) : (f.extract k f.size).data.toList = f.data.toList.drop k := by
  rw [Lib.extract_data, List.take_of_length_le (by simp)]

theorem ne_empty (f : ByteArray) (h : 0 < f.size) : f.toList.isEmpty = false := by
  have hl : f.data.toList.length = f.size := by simp
  rw [ByteArray.toList_eq, List.isEmpty_eq_false_iff]
  intro hn
  rw [hn] at hl
  simp at hl
  omega

theorem ret2_eq {g : ByteArray} {x y : Bool} (h : x = y) : Ending.returned (.tuple #[.string g, .bool x]) = .returned (.tuple #[.string g, .bool y]) := by rw [h]

set_option maxHeartbeats 800000 in
theorem next_any (f : ByteArray) (c : UInt8) (w : World) (hf : f.size ≤ 100000) :
    Calls Tryz.prog 21 #[.string f, .int .u8 (c.toNat : Int)] w fun e w' => ∃ g : ByteArray, e = .returned (.tuple #[.string g, .bool (nxt f.data.toList c).2]) ∧ g.data.toList = (nxt f.data.toList c).1 ∧ w' = w := by
  go_enter Tryz.func21, Tryz.ntmps21
  go_wp2
  go_loop [6] (fun i => ∃ k : Nat, k ≤ f.size ∧ i = .int .i64 k ∧ nxt f.data.toList c = nxt (f.data.toList.drop k) c) (fun i => f.size - (intOf i).toNat)
  case atStart => exact ⟨0, Nat.zero_le _, rfl, rfl⟩
  case round =>
    obtain ⟨k, hk, rfl, hr⟩ := hrel
    have HR : Hid (nxt f.data.toList c = nxt (f.data.toList.drop k) c) := hr
    clear hr
    by_cases hlt : k < f.size
    · have HD : Hid (f.data.toList.drop k = f[k] :: f.data.toList.drop (k + 1)) := List.drop_eq_getElem_cons (by simpa using hlt)
      by_cases hB : f[k] = 66
      · have hB' : ((f[k].toNat : Int) == 66) = true := by rw [hB]; rfl
        cases ho : opnL c with
        | some more =>
          have HO : Hid (opnL c = some more) := ho
          clear ho
          go_wp2_with fail
          refine (opened_any c w).mono ?_
          rintro e w' ⟨rfl, rfl⟩
          rw [HO.out]
          simp only [Option.getD_some, Option.isSome_some]
          obtain ⟨mb, hmb⟩ : ∃ mb : ByteArray, mb = ⟨more.toArray⟩ := ⟨_, rfl⟩
          have hms : mb.size ≤ 6 := by rw [hmb]; exact opnL_len HO.out
          rw [← hmb]
          have HMB : Hid (mb = ⟨more.toArray⟩) := hmb
          clear hmb
          go_wp2
          go_ret2
          refine ⟨mb ++ f.extract k f.size, ret2_eq ?_, ?_, rfl⟩
          · rw [HR.out, HD.out, nxt, if_pos hB, HO.out]
          · rw [HR.out, cat_data, tail_data, HD.out, nxt, if_pos hB, HO.out, HMB.out]
        | none =>
          have HO : Hid (opnL c = none) := ho
          clear ho
          go_wp2_with fail
          refine (opened_any c w).mono ?_
          rintro e w' ⟨rfl, rfl⟩
          rw [HO.out]
          go_wp2
          go_round
          case rel => exact ⟨k + 1, by omega, by go_num, by rw [HR.out, HD.out, nxt, if_pos hB, HO.out]⟩
          case measure => simp [intOf]; omega
      · have hB' : ((f[k].toNat : Int) == 66) = false := u8g hB
        by_cases hM : f[k] = 109
        · have hM' : ((f[k].toNat : Int) == 109) = true := by rw [hM]; rfl
          go_wp2
          go_ret2
          refine ⟨(⟨#[66]⟩ : ByteArray) ++ f.extract (k + 1) f.size, ret2_eq ?_, ?_, rfl⟩
          · rw [HR.out, HD.out, nxt, if_neg hB, if_pos hM]; exact u8q c 124
          · rw [HR.out, cat_data, tail_data, HD.out, nxt, if_neg hB, if_pos hM]; rfl
        · have hM' : ((f[k].toNat : Int) == 109) = false := u8g hM
          go_wp2_with fail
          refine (stands_any f[k] c w).mono ?_
          rintro e w' ⟨rfl, rfl⟩
          go_wp2
          go_ret2
          refine ⟨f.extract (k + 1) f.size, ret2_eq ?_, ?_, rfl⟩
          · rw [HR.out, HD.out, nxt, if_neg hB, if_neg hM]
          · rw [HR.out, tail_data, HD.out, nxt, if_neg hB, if_neg hM]
    · go_wp2
      go_ret2
      have hd : f.data.toList.drop k = [] := List.drop_eq_nil_of_le (by simp; omega)
      exact ⟨⟨#[]⟩, by rw [HR.out, hd]; rfl, by rw [HR.out, hd]; rfl, rfl⟩

theorem all_snoc (f : ByteArray) (k : Nat) (hk1 : 1 ≤ k) (h : k < f.size) : (f.data.toList.drop 1).take (k + 1 - 1) = (f.data.toList.drop 1).take (k - 1) ++ [f[k]] := by
  obtain ⟨j, rfl⟩ : ∃ j, k = j + 1 := ⟨k - 1, by omega⟩
  simp only [Nat.add_sub_cancel]
  rw [List.take_succ_eq_append_getElem (by simp; omega)]
  congr 2
  rw [List.getElem_drop]
  show f.data.toList[1 + j]'_ = f.data[j + 1]
  simp [Nat.add_comm]

theorem whole_of {l : List UInt8} {k : Nat} (h : ((l.drop 1).take k).all (· == 109) = false) : wholeF l = false := by
  cases l with
  | nil => rfl
  | cons e r =>
    simp only [List.drop_succ_cons, List.drop_zero] at h
    have : r.all (· == 109) = false := by
      cases hr : r.all (· == 109) with
      | false => rfl
      | true =>
        rw [List.all_eq_true] at hr
        have : (r.take k).all (· == 109) = true := by rw [List.all_eq_true]; exact fun x hx => hr x (List.mem_of_mem_take hx)
        rw [this] at h; cases h
    simp [wholeF, this]

theorem whole_end (f : ByteArray) (h0 : 0 < f.size) (h : (f.data.toList.drop 1).all (· == 109) = true) : wholeF f.data.toList = (f[0] == 66) := by
  have e : f.data.toList = f[0] :: f.data.toList.drop 1 := by
    exact List.drop_eq_getElem_cons (l := f.data.toList) (i := 0) (by simpa using h0)
  rw [e, wholeF, h, Bool.and_true]

set_option maxHeartbeats 800000 in
theorem whole_any (f : ByteArray) (w : World) (hf : f.size ≤ 100000) :
    Calls Tryz.prog 22 #[.string f] w fun e w' => e = .returned (.bool (wholeF f.data.toList)) ∧ w' = w := by
  go_enter Tryz.func22, Tryz.ntmps22
  go_wp2
  go_loop [3] (fun i => ∃ k : Nat, 1 ≤ k ∧ (k ≤ f.size ∨ k = 1) ∧ i = .int .i64 k ∧ ((f.data.toList.drop 1).take (k - 1)).all (· == 109) = true) (fun i => f.size - (intOf i).toNat)
  case atStart => exact ⟨1, by omega, .inr rfl, rfl, rfl⟩
  case round =>
    obtain ⟨k, hk1, hk, rfl, hr⟩ := hrel
    have HR : Hid (((f.data.toList.drop 1).take (k - 1)).all (· == 109) = true) := hr
    clear hr
    by_cases hlt : k < f.size
    · by_cases hM : f[k] = 109
      · have hM' : ((f[k].toNat : Int) != 109) = false := by rw [hM]; rfl
        go_wp2
        go_round
        case rel => exact ⟨k + 1, by omega, by omega, by go_num, by rw [all_snoc f k hk1 hlt, List.all_append, HR.out, hM]; rfl⟩
        case measure => simp [intOf]; omega
      · have hM' : ((f[k].toNat : Int) != 109) = true := by have := u8g hM; simp only [bne]; exact congrArg not this
        have HW : Hid (wholeF f.data.toList = false) := whole_of (k := k + 1 - 1) (by rw [all_snoc f k hk1 hlt, List.all_append]; simp [hM])
        go_wp2
        go_ret
        rw [HW.out]
        exact ⟨rfl, rfl⟩
    · by_cases h0 : f.size = 0
      · have hf0 : f = ⟨#[]⟩ := by
          apply ByteArray.ext
          exact Array.eq_empty_of_size_eq_zero h0
        subst hf0
        clear HR
        go_wp2
        go_ret
        exact ⟨rfl, rfl⟩
      · have HE : Hid (wholeF f.data.toList = ((f[0]'(by omega)).toNat == (66 : Int))) := by
          have := HR.out
          rw [List.take_of_length_le (by simp; omega)] at this
          rw [show wholeF f.data.toList = _ from whole_end f (by omega) this]
          exact (u8q _ _).symm
        clear HR
        have h0' : 0 < f.size := by omega
        have hne := ne_empty f h0'
        go_wp2
        go_ret
        rw [HE.out]
        exact ⟨rfl, rfl⟩

set_option maxHeartbeats 800000 in
theorem held_any (now s : ByteArray) (i : Nat) (w : World) (hn : now.size ≤ 100000) (hs : s.size ≤ 240) (hi : i < s.size) (h2 : s[i] = 91 ∨ s[i] = 60 → i + 1 < s.size) :
    Calls Tryz.prog 25 #[.string now, .string s, .int .i64 i] w fun e w' => ∃ g : ByteArray, e = .returned (.string g) ∧ g.data.toList = heldU now.data.toList s.data.toList i ∧ w' = w := by
  have hb : s.data.toList[i]? = some s[i] := by rw [List.getElem?_eq_getElem (by simpa using hi)]; rfl
  by_cases h1 : s[i] = 91 ∨ s[i] = 60
  · have hi1 := h2 h1
    have hb1 : s.data.toList[i + 1]? = some s[i + 1] := by rw [List.getElem?_eq_getElem (by simpa using hi1)]; rfl
    have HH : Hid (heldU now.data.toList s.data.toList i = now.data.toList ++ [s[i + 1]]) := by
      show heldU now.data.toList s.data.toList i = now.data.toList ++ [s[i + 1]]
      simp [heldU, hb, hb1, h1]
    clear hb hb1 h2
    rcases h1 with h1 | h1
    all_goals
      go_enter Tryz.func25, Tryz.ntmps25
      go_wp2
      go_ret
      refine ⟨_, rfl, ?_, rfl⟩
      rw [HH.out, cat_data, Lib.extract_data]
      rw [List.drop_eq_getElem_cons (by simpa using hi1), show i + 2 - (i + 1) = 1 by omega]
      rfl
  · by_cases h3 : s[i] = 93 ∨ s[i] = 62
    · have HH : Hid (heldU now.data.toList s.data.toList i = now.data.toList.dropLast) := by
        show heldU now.data.toList s.data.toList i = now.data.toList.dropLast
        simp [heldU, hb, h1, h3]
      simp only [not_or] at h1
      have m1 : ((s[i].toNat : Int) == 91) = false := u8g h1.1
      have m2 : ((s[i].toNat : Int) == 60) = false := u8g h1.2
      clear hb h1 h2
      by_cases h0 : now.size = 0
      · have hf0 : now = ⟨#[]⟩ := by
          apply ByteArray.ext
          exact Array.eq_empty_of_size_eq_zero h0
        subst hf0
        rcases h3 with h3 | h3
        all_goals
          go_enter Tryz.func25, Tryz.ntmps25
          go_wp2
          go_ret
          exact ⟨_, rfl, by rw [HH.out]; rfl, rfl⟩
      · have h0' : 0 < now.size := by omega
        have hne := ne_empty now h0'
        rcases h3 with h3 | h3
        all_goals
          go_enter Tryz.func25, Tryz.ntmps25
          go_wp2
          go_ret
          refine ⟨_, rfl, ?_, rfl⟩
          rw [HH.out, Lib.extract_data, List.drop_zero, List.dropLast_eq_take]
          simp
    · have HH : Hid (heldU now.data.toList s.data.toList i = now.data.toList) := by
        show heldU now.data.toList s.data.toList i = now.data.toList
        simp [heldU, hb, h1, h3]
      simp only [not_or] at h1 h3
      have m1 : ((s[i].toNat : Int) == 91) = false := u8g h1.1
      have m2 : ((s[i].toNat : Int) == 60) = false := u8g h1.2
      have m3 : ((s[i].toNat : Int) == 93) = false := u8g h3.1
      have m4 : ((s[i].toNat : Int) == 62) = false := u8g h3.2
      clear hb h1 h2 h3
      go_enter Tryz.func25, Tryz.ntmps25
      go_wp2
      go_ret
      exact ⟨_, rfl, HH.out.symm, rfl⟩

end Go.Proofs.YtnpkambjlfkhgaaGreat
