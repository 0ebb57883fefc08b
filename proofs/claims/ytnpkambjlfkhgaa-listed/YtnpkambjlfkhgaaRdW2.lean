import Derived.Test.YtnpkambjlfkhgaaRdW
import Derived.Deep.RegionWith
namespace Go.Proofs.Ytnpkambjlfkhgaa
open Go.RowKit

theorem op_ne_of_top {r : RT} (h : r.top.1 ≠ 0) : r.op ≠ [] := fun e => h (by simp [RT.top, e])

theorem RR.alloc {w b s r} (h : RR w b s r) (o : Obj) : RR (w.alloc o) b s r := by obtain ⟨_, _, _, _, h⟩ := h; exact ⟨_, _, _, _, h.alloc o⟩

set_option maxHeartbeats 800000 in
set_option maxRecDepth 100000 in
theorem regionEndR (b : Nat) (s : ByteArray) (r : RT) (w : World) (h : RR w b s r) (hp : r.pl ≤ 900) (ho : r.op.length ≤ 900) (hm0 : r.st.length ≤ 900) :
    Calls Try.prog 43 #[.pointer (some ⟨b, 0, none⟩)] w fun e w' => e = .returned (.bool r.regionEnd.2) ∧ RR w' b s r.regionEnd.1 ∧ Below b w w' := by
  by_cases ht : r.top.1 = 1
  · have hr : r.regionEnd = ((r.pop.step 7 r.pl r.top.2.1 false).to 1, true) := by simp [RT.regionEnd, ht]
    rw [hr]
    clear hr
    have h0 : r.op ≠ [] := op_ne_of_top (by omega)
    go_enter Try.func43, Try.ntmps43
    go_wp2_with fail
    refine (topR b s r w h (by omega)).mono ?_
    rintro e w1 ⟨rfl, h1, b1⟩
    have hlt1 := h1.lt
    have HB : Hid (∀ o, Below b w (w1.alloc o)) := fun o => b1.alloc (by omega) o
    have hpp : r.pop.pl = r.pl := rfl
    obtain ⟨l, hl⟩ : ∃ l, l = r.top.2.1 := ⟨_, rfl⟩
    have HL : Hid (l = r.top.2.1) := hl
    rw [← hl, ht]
    clear ht b1 h hl
    go_wp2_with fail
    refine (popR b s r _ (h1.alloc _) (by omega) h0).mono ?_
    rintro e w2 ⟨rfl, h2, b2, k2⟩
    obtain ⟨q0, q1, q2⟩ := k2.cells hlt1 _ _ _ (heap_alloc_new _ _)
    have c1 := h2.c1
    rw [hpp] at c1
    have hs2 : w1.heap.size < w2.heap.size := by have := b2.size; simp at this; omega
    clear k2 q0 q2
    go_wp2_with fail
    go_region_with (
      go_at_call 32
      refine (stepR b _ _ _ _ _ _ s r.pop _ (by first | exact h2.drewN 1 | exact h2) (by simp [RT.pop]; omega) (by simp [RT.pop]; omega)).mono ?_
      rintro e w3 ⟨rfl, h3, b3, _⟩)
    all_goals
      have d1 := h3.c1
      have f1 := h3.fz 1
      have hm := h3.moved
      have hpl : (r.pop.step 7 r.pl l false).pl = r.pl := rfl
      rw [hpl] at d1 hm
      have HBB : Hid (Below b w w3) := ((HB.out _).trans b2).trans ((below_drewN' b w2 1).trans b3)
      go_wp2
      go_ret
      exact ⟨rfl, by rw [← HL.out]; exact hm, HBB.out.trans (moved_below _ _ _)⟩
  · have hr : r.regionEnd = (r, false) := by simp [RT.regionEnd, ht]
    rw [hr]
    clear hr
    have ht' : (r.top.1 != 1) = true := by simpa using ht
    go_enter Try.func43, Try.ntmps43
    go_wp2_with fail
    refine (topR b s r w h (by omega)).mono ?_
    rintro e w1 ⟨rfl, h1, b1⟩
    have hlt1 := h1.lt
    have HB : Hid (∀ o, Below b w (w1.alloc o)) := fun o => b1.alloc (by omega) o
    go_wp2
    go_ret
    exact ⟨rfl, h1.alloc _, HB.out _⟩

set_option maxHeartbeats 800000 in
set_option maxRecDepth 100000 in
theorem bodyBeginR (b : Nat) (k : Int) (s : ByteArray) (r : RT) (w : World) (h : RR w b s r) (hs : s.size ≤ 240) (hp : r.pl ≤ 900) (ho : r.op.length ≤ 900) (hm0 : r.st.length ≤ 900) :
    Calls Try.prog 57 #[.pointer (some ⟨b, 0, none⟩), .int .i64 k] w fun e w' => e = .returned (.bool (r.bodyBegin s.data.toList k).2) ∧ RR w' b s (r.bodyBegin s.data.toList k).1 ∧ Below b w w' := by
  have c1 := h.c1
  have f1 := h.fz 1
  have hm := h.moved
  cases hx : nxI s.data.toList (r.pl + 1) [123] with
  | none =>
    have hr : r.bodyBegin s.data.toList k = (r.to 1, false) := by simp [RT.bodyBegin, hx]
    rw [hr]
    clear hr
    have hx' : nxI s.data.toList (r.to 1).pl [123] = none := hx
    go_enter Try.func57, Try.ntmps57
    go_wp2_with fail
    refine (nextR_none b [123] s (r.to 1) _ hm hs (by decide) (by simp [RT.to]; omega) hx').mono ?_
    rintro e w1 ⟨rfl, h1, b1⟩
    clear hx hx' h hm
    go_wp2
    go_ret
    exact ⟨rfl, h1, (moved_below _ _ _).trans b1⟩
  | some i =>
    have hr : r.bodyBegin s.data.toList k = (((r.to 1).to 1).push k (-1) ((r.st.length : Int) - 1), true) := by simp [RT.bodyBegin, hx, RT.to]
    rw [hr]
    clear hr
    have hx' : nxI s.data.toList (r.to 1).pl [123] = some i := hx
    go_enter Try.func57, Try.ntmps57
    go_wp2_with fail
    refine (nextR_some b [123] s (r.to 1) i _ hm hs (by decide) (by simp [RT.to]; omega) hx').mono ?_
    rintro e w1 ⟨rfl, h1, b1⟩
    clear hx hx' h hm
    have hi0 : (0 : Int) ≤ (i : Int) := Int.natCast_nonneg _
    obtain ⟨am, cm, c4⟩ := h1.c4
    have hst : ((r.to 1).to 1).st.length = r.st.length := rfl
    rw [hst] at c4
    go_wp2_with fail
    refine (pushR b _ _ _ s ((r.to 1).to 1) w1 h1 (by simp [RT.to]; omega)).mono ?_
    rintro e w3 ⟨rfl, h3, b3⟩
    go_wp2
    go_ret
    exact ⟨rfl, h3, ((moved_below _ _ _).trans b1).trans b3⟩

set_option maxHeartbeats 800000 in
set_option maxRecDepth 100000 in
theorem testR (b : Nat) (k : Int) (s : ByteArray) (r : RT) (w : World) (h : RR w b s r) (hs : s.size ≤ 240) (hp : r.pl ≤ 900) (ho : r.op.length ≤ 900) (hm0 : r.st.length ≤ 800) :
    Calls Try.prog 45 #[.pointer (some ⟨b, 0, none⟩), .int .i64 k] w fun e w' => e = .returned (.bool (r.test s.data.toList k).2) ∧ RR w' b s (r.test s.data.toList k).1 ∧ Below b w w' := by
  have c1 := h.c1
  unfold RT.test
  go_enter Try.func45, Try.ntmps45
  go_wp2_with fail
  refine (stepR b _ _ _ _ _ _ s r _ h (by omega) (by omega)).mono ?_
  rintro e w1 ⟨rfl, h1, b1, _⟩
  go_wp2_with fail
  refine (bodyBeginR b k s _ w1 h1 hs (by simpa [RT.step] using hp) (by simpa [RT.step] using ho) (by simp [RT.step]; omega)).mono ?_
  rintro e w2 ⟨rfl, h2, b2⟩
  go_wp2
  go_ret
  exact ⟨rfl, h2, b1.trans b2⟩

set_option maxHeartbeats 800000 in
set_option maxRecDepth 100000 in
theorem printR (b : Nat) (s : ByteArray) (r : RT) (w : World) (h : RR w b s r) (hp : r.pl ≤ 900) (ho : r.op.length ≤ 900) (hm0 : r.st.length ≤ 900) :
    Calls Try.prog 41 #[.pointer (some ⟨b, 0, none⟩)] w fun e w' => e = .returned (.bool true) ∧ RR w' b s r.print ∧ Below b w w' := by
  have c1 := h.c1
  unfold RT.print
  go_enter Try.func41, Try.ntmps41
  go_wp2_with fail
  refine (stepR b _ _ _ _ _ _ s r _ h (by omega) (by omega)).mono ?_
  rintro e w1 ⟨rfl, h1, b1, _⟩
  have d1 := h1.c1
  have f1 := h1.fz 1
  have hm := h1.moved
  have hpl : (r.step 4 r.pl 0 false).pl = r.pl := rfl
  rw [hpl] at d1 hm
  go_wp2
  go_ret
  exact ⟨rfl, hm, b1.trans (moved_below _ _ _)⟩

end Go.Proofs.Ytnpkambjlfkhgaa
