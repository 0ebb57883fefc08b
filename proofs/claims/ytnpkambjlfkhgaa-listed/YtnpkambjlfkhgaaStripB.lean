import Derived.Test.YtnpkambjlfkhgaaStripA
namespace Go.Proofs.Ytnpkambjlfkhgaa
open Go.RowKit

theorem tO_len (p : List UInt8) (k : Nat) : (tO p k).length ≤ (tw p k).i := by
  induction k with
  | zero => exact Nat.le_refl _
  | succ k ih =>
    by_cases hlt : (tw p k).i < p.length
    · have hc := List.getElem?_eq_getElem hlt
      have ei : (tw p (k + 1)).i = (tw p k).i + sizeU p[(tw p k).i] := by rw [tw, if_pos hlt, tstep, hc]
      have eo : tO p (k + 1) = tO p k ++ (if p[(tw p k).i] = 60 ∨ p[(tw p k).i] = 62 then [] else (p.drop (tw p k).i).take (sizeU p[(tw p k).i])) := by rw [tO, hc]
      rw [ei, eo, List.length_append]
      split
      · simp; omega
      · have := List.length_take_le (sizeU p[(tw p k).i]) (p.drop (tw p k).i)
        omega
    · have ei : tw p (k + 1) = tw p k := by rw [tw, if_neg hlt]
      rw [ei, tO, List.getElem?_eq_none (by omega)]
      exact ih

theorem mid_data (s : ByteArray) (k z : Nat) : (s.extract k (k + z)).data.toList = (s.data.toList.drop k).take z := by
  rw [Lib.extract_data, Nat.add_sub_cancel_left]

def StripOut (s : ByteArray) (e : Ending) : Prop := ∃ (j : Nat) (g : ByteArray), s.size ≤ (tw s.data.toList j).i ∧ e = .returned (.tuple #[.string g, .int .i64 0]) ∧ g.data.toList = tO s.data.toList j

/-- What Strip answers. -/
def StripIs (s : ByteArray) (o : ByteArray) (a : Int) : Prop := ∃ b, ChkIs s a b ∧ ((a ≠ 0 ∧ o = ⟨#[]⟩) ∨ (a = 0 ∧ ∃ n, s.size ≤ (sb s.data.toList n).1 ∧ o = ⟨(sb s.data.toList n).2.toArray⟩))

theorem StripIs.unique {s o o' : ByteArray} {a a' : Int} (h : StripIs s o a) (h' : StripIs s o' a') : o = o' ∧ a = a' := by
  obtain ⟨b, hc, h⟩ := h
  obtain ⟨b', hc', h'⟩ := h'
  obtain ⟨rfl, rfl⟩ := hc.unique hc'
  refine ⟨?_, rfl⟩
  rcases h with ⟨h0, rfl⟩ | ⟨h0, n, hn, rfl⟩
  · rcases h' with ⟨_, rfl⟩ | ⟨h1, _⟩
    · rfl
    · exact absurd h1 h0
  · rcases h' with ⟨h1, _⟩ | ⟨_, n', hn', rfl⟩
    · exact absurd h0 h1
    · rw [sb_final (p := s.data.toList) (k := n) (j := n') (by rw [len_eq]; exact hn) (by rw [len_eq]; exact hn')]

end Go.Proofs.Ytnpkambjlfkhgaa
