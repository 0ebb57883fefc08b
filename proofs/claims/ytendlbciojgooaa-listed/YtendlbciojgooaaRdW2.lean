import Derived.Test.YtendlbciojgooaaRdW
namespace Go.Proofs.Ytendlbciojgooaa
open Go.RowKit

theorem op_ne_of_top {r : RS} (h : r.top ≠ 0) : r.op ≠ [] := fun e => h (by simp [RS.top, e])

set_option maxHeartbeats 800000 in
set_option maxRecDepth 100000 in
theorem regionEndR (b : Nat) (s : ByteArray) (r : RS) (w : World) (h : RR w b s r) (hp : r.pl ≤ 900) (ho : r.op.length ≤ 900) :
    Calls Try.prog 70 #[.pointer (some ⟨b, 0, none⟩)] w fun e w' => e = .returned (.bool r.regionEnd.2) ∧ RR w' b s r.regionEnd.1 ∧ Below b w w' := by
  by_cases ht : r.top = 1
  · have hr : r.regionEnd = ((r.to 1).pop, true) := by simp [RS.regionEnd, ht]
    rw [hr]
    clear hr
    have h0 : r.op ≠ [] := op_ne_of_top (by omega)
    go_enter Try.func70, Try.ntmps70
    go_wp2_with fail
    refine (topR b s r w h (by omega)).mono ?_
    rintro e w1 ⟨rfl, h1, b1⟩
    have c1 := h1.c1
    have f1 := h1.fz 1
    have hm := h1.moved
    rw [ht]
    clear ht
    go_wp2_with fail
    refine (popR b s (r.to 1) _ hm (by simp [RS.to]; omega) (by simpa [RS.to] using h0)).mono ?_
    rintro e w2 ⟨rfl, h2, b2⟩
    go_wp2
    go_ret
    exact ⟨rfl, h2, (b1.trans (moved_below _ _ _)).trans b2⟩
  · have hr : r.regionEnd = (r, false) := by simp [RS.regionEnd, ht]
    rw [hr]
    clear hr
    have ht' : (r.top != 1) = true := by simpa using ht
    go_enter Try.func70, Try.ntmps70
    go_wp2_with fail
    refine (topR b s r w h (by omega)).mono ?_
    rintro e w1 ⟨rfl, h1, b1⟩
    go_wp2
    go_ret
    exact ⟨rfl, h1, b1⟩

set_option maxHeartbeats 800000 in
set_option maxRecDepth 100000 in
theorem bodyBeginR (b : Nat) (k : Int) (s : ByteArray) (r : RS) (w : World) (h : RR w b s r) (hs : s.size ≤ 240) (hp : r.pl ≤ 900) (ho : r.op.length ≤ 900) :
    Calls Try.prog 72 #[.pointer (some ⟨b, 0, none⟩), .int .i64 k] w fun e w' => e = .returned (.bool (r.bodyBegin s.data.toList k).2) ∧ RR w' b s (r.bodyBegin s.data.toList k).1 ∧ Below b w w' := by
  have c1 := h.c1
  have f1 := h.fz 1
  have hm := h.moved
  cases hx : nxI s.data.toList (r.pl + 1) [123] with
  | none =>
    have hr : r.bodyBegin s.data.toList k = (r.to 1, false) := by simp [RS.bodyBegin, hx]
    rw [hr]
    clear hr
    have hx' : nxI s.data.toList (r.to 1).pl [123] = none := hx
    go_enter Try.func72, Try.ntmps72
    go_wp2_with fail
    refine (nextR_none b [123] s (r.to 1) _ hm hs (by decide) (by simp [RS.to]; omega) hx').mono ?_
    rintro e w1 ⟨rfl, h1, b1⟩
    clear hx hx' h hm
    go_wp2
    go_ret
    exact ⟨rfl, h1, (moved_below _ _ _).trans b1⟩
  | some i =>
    have hr : r.bodyBegin s.data.toList k = (((r.to 1).to 1).push k (-1), true) := by simp [RS.bodyBegin, hx, RS.to]
    rw [hr]
    clear hr
    have hx' : nxI s.data.toList (r.to 1).pl [123] = some i := hx
    go_enter Try.func72, Try.ntmps72
    go_wp2_with fail
    refine (nextR_some b [123] s (r.to 1) i _ hm hs (by decide) (by simp [RS.to]; omega) hx').mono ?_
    rintro e w1 ⟨rfl, h1, b1⟩
    clear hx hx' h hm
    have hi0 : (0 : Int) ≤ (i : Int) := Int.natCast_nonneg _
    go_wp2_with fail
    refine (pushR b _ _ s ((r.to 1).to 1) w1 h1 (by simp [RS.to]; omega)).mono ?_
    rintro e w3 ⟨rfl, h3, b3⟩
    go_wp2
    go_ret
    exact ⟨rfl, h3, ((moved_below _ _ _).trans b1).trans b3⟩

set_option maxHeartbeats 800000 in
set_option maxRecDepth 100000 in
theorem bodyEndR (b : Nat) (s : ByteArray) (r : RS) (w : World) (h : RR w b s r) (hs : s.size ≤ 240) (hp : r.pl ≤ 900) (ho : r.op.length ≤ 900) :
    Calls Try.prog 73 #[.pointer (some ⟨b, 0, none⟩)] w fun e w' => e = .returned (.bool (r.bodyEnd s.data.toList).2) ∧ RR w' b s (r.bodyEnd s.data.toList).1 ∧ Below b w w' := by
  by_cases ht : r.top = 3
  · have hr : r.bodyEnd s.data.toList = r.pop.bodyBegin s.data.toList 4 := by simp [RS.bodyEnd, ht]
    rw [hr]
    clear hr
    have h0 : r.op ≠ [] := op_ne_of_top (by omega)
    go_enter Try.func73, Try.ntmps73
    go_wp2_with fail
    refine (topR b s r w h (by omega)).mono ?_
    rintro e w1 ⟨rfl, h1, b1⟩
    rw [ht]
    clear ht
    go_wp2_with fail
    refine (popR b s r _ h1 (by omega) h0).mono ?_
    rintro e w2 ⟨rfl, h2, b2⟩
    go_wp2_with fail
    refine (bodyBeginR b 4 s r.pop w2 h2 hs (by simpa [RS.pop] using hp) (by simp [RS.pop]; omega)).mono ?_
    rintro e w3 ⟨rfl, h3, b3⟩
    go_wp2
    go_ret
    exact ⟨rfl, h3, (b1.trans b2).trans b3⟩
  · by_cases h4 : r.top = 4
    · have hr : r.bodyEnd s.data.toList = (r.pop.to 1, true) := by simp [RS.bodyEnd, h4]
      rw [hr]
      clear hr ht
      have h0 : r.op ≠ [] := op_ne_of_top (by omega)
      go_enter Try.func73, Try.ntmps73
      go_wp2_with fail
      refine (topR b s r w h (by omega)).mono ?_
      rintro e w1 ⟨rfl, h1, b1⟩
      rw [h4]
      clear h4
      go_wp2_with fail
      refine (popR b s r _ h1 (by omega) h0).mono ?_
      rintro e w2 ⟨rfl, h2, b2⟩
      have c1 := h2.c1
      have f1 := h2.fz 1
      have hm := h2.moved
      have hpl : r.pop.pl ≤ 900 := by simpa [RS.pop] using hp
      go_wp2
      go_ret
      exact ⟨rfl, hm, (b1.trans b2).trans (moved_below _ _ _)⟩
    · have hr : r.bodyEnd s.data.toList = (r, false) := by simp [RS.bodyEnd, ht, h4]
      rw [hr]
      clear hr
      have ht' : (r.top != 3) = true := by simpa using ht
      have h4' : (r.top != 4) = true := by simpa using h4
      go_enter Try.func73, Try.ntmps73
      go_wp2_with fail
      refine (topR b s r w h (by omega)).mono ?_
      rintro e w1 ⟨rfl, h1, b1⟩
      go_wp2
      go_ret
      exact ⟨rfl, h1, b1⟩

end Go.Proofs.Ytendlbciojgooaa
