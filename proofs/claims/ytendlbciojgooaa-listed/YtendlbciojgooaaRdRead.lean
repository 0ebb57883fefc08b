import Derived.Test.YtendlbciojgooaaRdProg
import Derived.Test.YtendlbciojgooaaPure5
namespace Go.Proofs.Ytendlbciojgooaa
open Go.RowKit

set_option maxHeartbeats 800000 in
set_option maxRecDepth 100000 in
theorem nested_any (m : MK) (w : World) :
    Calls Try.prog 31 #[.agg #[.int .i64 m.kind, .int .i64 m.place, .int .i64 m.thread, .int .i64 m.num, .bool m.h0, .bool m.h1, .bool m.h2, .bool m.h3, .bool m.h4]] w fun e w' => e = .returned (.bool (nestB m)) ∧ ∃ o, w' = w.alloc o := by
  obtain ⟨kind, place, thread, num, h0, h1, h2, h3, h4⟩ := m
  unfold nestB
  simp only
  by_cases hk : kind = 3
  · subst hk
    by_cases hn : num < 0
    · have e : (((3 : Int) == 3) && ((num == 0 && h0) || (num == 1 && h1) || (num == 2 && h2) || (num == 3 && h3) || (num == 4 && h4))) = false := by
        have a0 : (num == 0) = false := by rw [beq_eq_false_iff_ne]; omega
        have a1 : (num == 1) = false := by rw [beq_eq_false_iff_ne]; omega
        have a2 : (num == 2) = false := by rw [beq_eq_false_iff_ne]; omega
        have a3 : (num == 3) = false := by rw [beq_eq_false_iff_ne]; omega
        have a4 : (num == 4) = false := by rw [beq_eq_false_iff_ne]; omega
        simp [a0, a1, a2, a3, a4]
      rw [e]
      clear e
      go_enter Try.func31, Try.ntmps31
      go_wp2
      go_ret
      exact ⟨rfl, _, rfl⟩
    · by_cases hm : 5 ≤ num
      · have e : (((3 : Int) == 3) && ((num == 0 && h0) || (num == 1 && h1) || (num == 2 && h2) || (num == 3 && h3) || (num == 4 && h4))) = false := by
          have a0 : (num == 0) = false := by rw [beq_eq_false_iff_ne]; omega
          have a1 : (num == 1) = false := by rw [beq_eq_false_iff_ne]; omega
          have a2 : (num == 2) = false := by rw [beq_eq_false_iff_ne]; omega
          have a3 : (num == 3) = false := by rw [beq_eq_false_iff_ne]; omega
          have a4 : (num == 4) = false := by rw [beq_eq_false_iff_ne]; omega
          simp [a0, a1, a2, a3, a4]
        rw [e]
        clear e
        go_enter Try.func31, Try.ntmps31
        go_wp2
        go_ret
        exact ⟨rfl, _, rfl⟩
      · have hc : num = 0 ∨ num = 1 ∨ num = 2 ∨ num = 3 ∨ num = 4 := by omega
        clear hn hm
        rcases hc with rfl | rfl | rfl | rfl | rfl
        all_goals
          simp
          go_enter Try.func31, Try.ntmps31
          go_wp2
          go_ret
          exact ⟨rfl, _, rfl⟩
  · have hk' : (kind == 3) = false := by simpa using hk
    have hk2 : (kind != 3) = true := by simpa using hk
    rw [hk', Bool.false_and]
    clear hk hk'
    go_enter Try.func31, Try.ntmps31
    go_wp2
    go_ret
    exact ⟨rfl, _, rfl⟩

theorem mksV_get (l : List MK) (i : Nat) (m : MK) (h : l[i]? = some m) (j : Nat) (hj : j < 9) : (mksV l)[i * 9 + j]? = (mkV m)[j]? := by
  induction l generalizing i with
  | nil => simp at h
  | cons y r ih =>
    have e : mksV (y :: r) = mkV y ++ mksV r := by simp [mksV]
    have hl : (mkV y).length = 9 := rfl
    cases i with
    | zero =>
      simp at h; subst h
      rw [e, List.getElem?_append_left (by omega)]; simp
    | succ i =>
      have := ih i (by simpa using h)
      rw [e, List.getElem?_append_right (by omega), ← this]
      congr 1
      omega

theorem RD.markCell {w b s pl th op mk ao co am cm} (h : RD w b s pl th op mk ao co am cm) {g : Nat} (hg : am = some ⟨g, 0, none⟩) (i : Nat) (m : MK) (hx : mk[i]? = some m) (j : Nat) (hj : j < 9) (v : Value) (hv : (mkV m)[j]? = some v) :
    w.cell? ⟨g, i * 9 + j, none⟩ = some v := by
  subst hg
  have hi : i < mk.length := (List.getElem?_eq_some_iff.1 hx).1
  exact (h.rm.cellAt (i * 9 + j) (by omega)).trans ((mksV_get mk i m hx j hj).trans hv)

theorem RD.markForm {w b s pl th op mk ao co am cm} (h : RD w b s pl th op mk ao co am cm) (hn : 0 < mk.length) : ∃ g, am = some ⟨g, 0, none⟩ := by
  obtain ⟨g, cap, hv, hb, _⟩ := h.rm.form hn
  cases hv
  exact ⟨g, rfl⟩

end Go.Proofs.Ytendlbciojgooaa
