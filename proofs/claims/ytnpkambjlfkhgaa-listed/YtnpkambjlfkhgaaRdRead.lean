import Derived.Test.YtnpkambjlfkhgaaRdProg
namespace Go.Proofs.Ytnpkambjlfkhgaa
open Go.RowKit

def nestS (m : ST) : Bool := m.kind == 6 && ((m.num == 0 && m.h0) || (m.num == 1 && m.h1) || (m.num == 2 && m.h2) || (m.num == 3 && m.h3) || (m.num == 4 && m.h4))

/-- The first step that is nested wrongly is the first such mark. -/
theorem nest_find (l : List ST) : (mksS l).find? nestB = (l.find? nestS).bind mkS ∧ (∀ m, l.find? nestS = some m → ∃ k, mkS m = some k ∧ k.place = m.place) := by
  induction l with
  | nil => exact ⟨rfl, by simp⟩
  | cons x r ih =>
    have hp : ∀ k, mkS x = some k → nestB k = nestS x ∧ k.place = x.place := by
      intro k hk
      unfold mkS at hk
      split at hk
      · have := Option.some.inj hk; subst this
        rename_i h6
        simp [nestB, nestS, h6]
      · split at hk
        · have := Option.some.inj hk; subst this
          rename_i h6 h12
          have e3 : (x.kind == 3) = false := by rw [beq_eq_false_iff_ne]; omega
          have e6 : (x.kind == 6) = false := by rw [beq_eq_false_iff_ne]; omega
          simp [nestB, nestS, e3, e6]
        · cases hk
    have hn : mkS x = none → nestS x = false := by
      intro hk
      unfold mkS at hk
      split at hk
      · cases hk
      · rename_i h6
        have e6 : (x.kind == 6) = false := by rw [beq_eq_false_iff_ne]; omega
        simp [nestS, e6]
    cases hx : mkS x with
    | none =>
      have h0 := hn hx
      refine ⟨?_, ?_⟩
      · rw [mksS, List.filterMap_cons, hx, List.find?_cons, h0]; exact ih.1
      · intro m hm; rw [List.find?_cons, h0] at hm; exact ih.2 m hm
    | some k =>
      obtain ⟨h1, h2⟩ := hp k hx
      cases hq : nestS x with
      | true =>
        refine ⟨?_, ?_⟩
        · rw [mksS, List.filterMap_cons, hx]
          simp only [List.find?_cons, h1, hq, Option.bind_some, hx]
        · intro m hm; rw [List.find?_cons, hq] at hm
          have := Option.some.inj hm; subst this
          exact ⟨k, hx, h2⟩
      | false =>
        refine ⟨?_, ?_⟩
        · rw [mksS, List.filterMap_cons, hx]
          simp only [List.find?_cons, h1, hq]
          exact ih.1
        · intro m hm; rw [List.find?_cons, hq] at hm; exact ih.2 m hm

set_option maxHeartbeats 800000 in
set_option maxRecDepth 100000 in
theorem nested_any (m : ST) (w : World) :
    Calls Try.prog 27 #[.agg #[.int .i64 m.kind, .int .i64 m.place, .int .i64 m.thread, .int .i64 m.num, .bool m.mend, .int .i64 m.nx, .int .i64 m.el, .bool m.h0, .bool m.h1, .bool m.h2, .bool m.h3, .bool m.h4]] w fun e w' => e = .returned (.bool (nestS m)) ∧ ∃ o, w' = w.alloc o := by
  obtain ⟨kind, place, thread, num, mend, nx, el, h0, h1, h2, h3, h4⟩ := m
  unfold nestS
  simp only
  by_cases hk : kind = 6
  · subst hk
    by_cases hn : num < 0
    · have e : (((6 : Int) == 6) && ((num == 0 && h0) || (num == 1 && h1) || (num == 2 && h2) || (num == 3 && h3) || (num == 4 && h4))) = false := by
        have a0 : (num == 0) = false := by rw [beq_eq_false_iff_ne]; omega
        have a1 : (num == 1) = false := by rw [beq_eq_false_iff_ne]; omega
        have a2 : (num == 2) = false := by rw [beq_eq_false_iff_ne]; omega
        have a3 : (num == 3) = false := by rw [beq_eq_false_iff_ne]; omega
        have a4 : (num == 4) = false := by rw [beq_eq_false_iff_ne]; omega
        simp [a0, a1, a2, a3, a4]
      rw [e]
      clear e
      go_enter Try.func27, Try.ntmps27
      go_wp2
      go_ret
      exact ⟨rfl, _, rfl⟩
    · by_cases hm : 5 ≤ num
      · have e : (((6 : Int) == 6) && ((num == 0 && h0) || (num == 1 && h1) || (num == 2 && h2) || (num == 3 && h3) || (num == 4 && h4))) = false := by
          have a0 : (num == 0) = false := by rw [beq_eq_false_iff_ne]; omega
          have a1 : (num == 1) = false := by rw [beq_eq_false_iff_ne]; omega
          have a2 : (num == 2) = false := by rw [beq_eq_false_iff_ne]; omega
          have a3 : (num == 3) = false := by rw [beq_eq_false_iff_ne]; omega
          have a4 : (num == 4) = false := by rw [beq_eq_false_iff_ne]; omega
          simp [a0, a1, a2, a3, a4]
        rw [e]
        clear e
        go_enter Try.func27, Try.ntmps27
        go_wp2
        go_ret
        exact ⟨rfl, _, rfl⟩
      · have hc : num = 0 ∨ num = 1 ∨ num = 2 ∨ num = 3 ∨ num = 4 := by omega
        clear hn hm
        rcases hc with rfl | rfl | rfl | rfl | rfl
        all_goals
          simp
          go_enter Try.func27, Try.ntmps27
          go_wp2
          go_ret
          exact ⟨rfl, _, rfl⟩
  · have hk' : (kind == 6) = false := by simpa using hk
    have hk2 : (kind != 6) = true := by simpa using hk
    rw [hk', Bool.false_and]
    clear hk hk'
    go_enter Try.func27, Try.ntmps27
    go_wp2
    go_ret
    exact ⟨rfl, _, rfl⟩

end Go.Proofs.Ytnpkambjlfkhgaa
