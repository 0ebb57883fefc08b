import Derived.Test.YtnpkambjlfkhgaaRdR
namespace Go.Proofs.Ytnpkambjlfkhgaa
open Go.RowKit

set_option maxHeartbeats 800000 in
set_option maxRecDepth 100000 in
theorem accessR (b : Nat) (s : ByteArray) (r : RT) (w : World) (h : RR w b s r) (hs : s.size ≤ 240) (hp : r.pl ≤ 900) (ho : r.op.length ≤ 900) (hm : r.st.length ≤ 900) :
    Calls Try.prog 39 #[.pointer (some ⟨b, 0, none⟩)] w fun e w' => e = .returned (.bool (r.access s.data.toList).2) ∧ RR w' b s (r.access s.data.toList).1 ∧ Below b w w' := by
  have c1 := h.c1
  cases hx : nxI s.data.toList r.pl [103, 112] with
  | none =>
    have hr : r.access s.data.toList = (r, false) := by simp [RT.access, hx]
    rw [hr]
    clear hr
    go_enter Try.func39, Try.ntmps39
    go_wp2_with fail
    refine (nextR_none b [103, 112] s r w h hs (by decide) (by omega) hx).mono ?_
    rintro e w1 ⟨rfl, h1, b1⟩
    clear hx h
    go_wp2
    go_ret
    exact ⟨rfl, h1, b1⟩
  | some i =>
    cases hy : nxI s.data.toList (r.pl + 1) [120, 121, 122] with
    | none =>
      have hr : r.access s.data.toList = (r.to 1, false) := by simp [RT.access, hx, hy]
      rw [hr]
      clear hr
      have hy' : nxI s.data.toList (r.to 1).pl [120, 121, 122] = none := hy
      go_enter Try.func39, Try.ntmps39
      go_wp2_with fail
      refine (nextR_some b [103, 112] s r i w h hs (by decide) (by omega) hx).mono ?_
      rintro e w1 ⟨rfl, h1, b1⟩
      clear hx h c1
      go_wp2_with fail
      refine (nextR_none b [120, 121, 122] s (r.to 1) w1 h1 hs (by decide) (by simp [RT.to]; omega) hy').mono ?_
      rintro e w2 ⟨rfl, h2, b2⟩
      clear hy hy' h1
      go_wp2
      go_ret
      exact ⟨rfl, h2, b1.trans b2⟩
    | some g =>
      have hr : r.access s.data.toList = (((r.to 1).to 1).step (if i = 1 then 2 else 1) r.pl g false, true) := by simp [RT.access, hx, hy, RT.to]
      rw [hr]
      clear hr
      have hy' : nxI s.data.toList (r.to 1).pl [120, 121, 122] = some g := hy
      by_cases hi : i = 1
      · subst hi
        go_enter Try.func39, Try.ntmps39
        go_wp2_with fail
        refine (nextR_some b [103, 112] s r 1 w h hs (by decide) (by omega) hx).mono ?_
        rintro e w1 ⟨rfl, h1, b1⟩
        clear hx h c1
        go_wp2_with fail
        refine (nextR_some b [120, 121, 122] s (r.to 1) g w1 h1 hs (by decide) (by simp [RT.to]; omega) hy').mono ?_
        rintro e w2 ⟨rfl, h2, b2⟩
        clear hy hy' h1
        go_wp2_with fail
        refine (stepR b _ _ _ _ _ _ s ((r.to 1).to 1) w2 h2 (by simp [RT.to]; omega) (by simp [RT.to]; omega)).mono ?_
        rintro e w3 ⟨rfl, h3, b3, _⟩
        go_wp2
        go_ret
        exact ⟨rfl, h3, (b1.trans b2).trans b3⟩
      · have hi' : (((i : Nat) : Int) == 1) = false := by rw [beq_eq_false_iff_ne]; omega
        rw [if_neg hi]
        go_enter Try.func39, Try.ntmps39
        go_wp2_with fail
        refine (nextR_some b [103, 112] s r i w h hs (by decide) (by omega) hx).mono ?_
        rintro e w1 ⟨rfl, h1, b1⟩
        clear hx h c1
        go_wp2_with fail
        refine (nextR_some b [120, 121, 122] s (r.to 1) g w1 h1 hs (by decide) (by simp [RT.to]; omega) hy').mono ?_
        rintro e w2 ⟨rfl, h2, b2⟩
        clear hy hy' h1
        go_wp2_with fail
        refine (stepR b _ _ _ _ _ _ s ((r.to 1).to 1) w2 h2 (by simp [RT.to]; omega) (by simp [RT.to]; omega)).mono ?_
        rintro e w3 ⟨rfl, h3, b3, _⟩
        go_wp2
        go_ret
        exact ⟨rfl, h3, (b1.trans b2).trans b3⟩

set_option maxHeartbeats 800000 in
set_option maxRecDepth 100000 in
theorem additionR (b : Nat) (s : ByteArray) (r : RT) (w : World) (h : RR w b s r) (hs : s.size ≤ 240) (hp : r.pl ≤ 900) (ho : r.op.length ≤ 900) (hm0 : r.st.length ≤ 900) :
    Calls Try.prog 40 #[.pointer (some ⟨b, 0, none⟩)] w fun e w' => e = .returned (.bool (r.addition s.data.toList).2) ∧ RR w' b s (r.addition s.data.toList).1 ∧ Below b w w' := by
  have c1 := h.c1
  have f1 := h.fz 1
  have hm := h.moved
  cases hx : nxI s.data.toList (r.pl + 1) [48, 49, 50, 51, 52, 53, 54, 55, 56, 57] with
  | none =>
    have hr : r.addition s.data.toList = (r.to 1, false) := by simp [RT.addition, hx]
    rw [hr]
    clear hr
    have hx' : nxI s.data.toList (r.to 1).pl [48, 49, 50, 51, 52, 53, 54, 55, 56, 57] = none := hx
    go_enter Try.func40, Try.ntmps40
    go_wp2_with fail
    refine (nextR_none b [48, 49, 50, 51, 52, 53, 54, 55, 56, 57] s (r.to 1) _ hm hs (by decide) (by simp [RT.to]; omega) hx').mono ?_
    rintro e w1 ⟨rfl, h1, b1⟩
    clear hx hx' h hm
    go_wp2
    go_ret
    exact ⟨rfl, h1, (moved_below _ _ _).trans b1⟩
  | some i =>
    have hr : r.addition s.data.toList = (((r.to 1).to 1).step 3 r.pl i false, true) := by simp [RT.addition, hx, RT.to]
    rw [hr]
    clear hr
    have hx' : nxI s.data.toList (r.to 1).pl [48, 49, 50, 51, 52, 53, 54, 55, 56, 57] = some i := hx
    go_enter Try.func40, Try.ntmps40
    go_wp2_with fail
    refine (nextR_some b [48, 49, 50, 51, 52, 53, 54, 55, 56, 57] s (r.to 1) i _ hm hs (by decide) (by simp [RT.to]; omega) hx').mono ?_
    rintro e w1 ⟨rfl, h1, b1⟩
    clear hx hx' h hm
    have hi0 : (0 : Int) ≤ (i : Int) := Int.natCast_nonneg _
    go_wp2_with fail
    refine (stepR b _ _ _ _ _ _ s ((r.to 1).to 1) w1 h1 (by simp [RT.to]; omega) (by simp [RT.to]; omega)).mono ?_
    rintro e w2 ⟨rfl, h2, b2, _⟩
    go_wp2
    go_ret
    exact ⟨rfl, h2, ((moved_below _ _ _).trans b1).trans b2⟩

set_option maxHeartbeats 800000 in
set_option maxRecDepth 100000 in
theorem regionBeginR (b : Nat) (s : ByteArray) (r : RT) (w : World) (h : RR w b s r) (hs : s.size ≤ 240) (hp : r.pl ≤ 900) (ho : r.op.length ≤ 900) (hm0 : r.st.length ≤ 900) :
    Calls Try.prog 42 #[.pointer (some ⟨b, 0, none⟩)] w fun e w' => e = .returned (.bool (r.regionBegin s.data.toList).2) ∧ RR w' b s (r.regionBegin s.data.toList).1 ∧ Below b w w' := by
  have c1 := h.c1
  have f1 := h.fz 1
  have hm := h.moved
  cases hx : nxI s.data.toList (r.pl + 1) [65, 66, 67, 68] with
  | none =>
    have hr : r.regionBegin s.data.toList = (r.to 1, false) := by simp [RT.regionBegin, hx]
    rw [hr]
    clear hr
    have hx' : nxI s.data.toList (r.to 1).pl [65, 66, 67, 68] = none := hx
    go_enter Try.func42, Try.ntmps42
    go_wp2_with fail
    refine (nextR_none b [65, 66, 67, 68] s (r.to 1) _ hm hs (by decide) (by simp [RT.to]; omega) hx').mono ?_
    rintro e w1 ⟨rfl, h1, b1⟩
    clear hx hx' h hm
    go_wp2
    go_ret
    exact ⟨rfl, h1, (moved_below _ _ _).trans b1⟩
  | some i =>
    have hr : r.regionBegin s.data.toList = ((((r.to 1).to 1).step 6 r.pl i false).push 1 i 0, true) := by simp [RT.regionBegin, hx, RT.to]
    rw [hr]
    clear hr
    have hx' : nxI s.data.toList (r.to 1).pl [65, 66, 67, 68] = some i := hx
    go_enter Try.func42, Try.ntmps42
    go_wp2_with fail
    refine (nextR_some b [65, 66, 67, 68] s (r.to 1) i _ hm hs (by decide) (by simp [RT.to]; omega) hx').mono ?_
    rintro e w1 ⟨rfl, h1, b1⟩
    clear hx hx' h hm
    have hi0 : (0 : Int) ≤ (i : Int) := Int.natCast_nonneg _
    go_wp2_with fail
    refine (stepR b _ _ _ _ _ _ s ((r.to 1).to 1) w1 h1 (by simp [RT.to]; omega) (by simp [RT.to]; omega)).mono ?_
    rintro e w2 ⟨rfl, h2, b2, _⟩
    go_wp2_with fail
    refine (pushR b _ _ _ s (((r.to 1).to 1).step 6 r.pl i false) w2 h2 (by simp [RT.to, RT.step]; omega)).mono ?_
    rintro e w3 ⟨rfl, h3, b3⟩
    go_wp2
    go_ret
    exact ⟨rfl, h3, (((moved_below _ _ _).trans b1).trans b2).trans b3⟩

end Go.Proofs.Ytnpkambjlfkhgaa
