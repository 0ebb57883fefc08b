import Derived.Test.YtnpkambjlfkhgaaRdW
namespace Go.Proofs.Ytnpkambjlfkhgaa
open Go.RowKit

set_option maxHeartbeats 800000 in
set_option maxRecDepth 100000 in
theorem nextThreadR (b : Nat) (s : ByteArray) (r : RT) (w : World) (h : RR w b s r) (hp : r.pl ≤ 900) (ho : r.op.length ≤ 900) (hm0 : r.st.length ≤ 900) (ht0 : 0 ≤ r.th) :
    Calls Try.prog 47 #[.pointer (some ⟨b, 0, none⟩)] w fun e w' => e = .returned (.bool r.nextThread.2) ∧ RR w' b s r.nextThread.1 ∧ Below b w w' := by
  obtain ⟨ao, co, c3⟩ := h.c3
  have c2 := h.c2
  have c1 := h.c1
  by_cases h0 : r.op = []
  · have hl : r.op.length = 0 := by simp [h0]
    rw [hl] at c3
    by_cases h4 : 4 ≤ r.th
    · have hr : r.nextThread = (r, false) := by simp [RT.nextThread, h4]
      rw [hr]
      clear hr h0 hl
      go_enter Try.func47, Try.ntmps47
      go_wp2
      go_ret
      exact ⟨rfl, h, Below.refl _ _⟩
    · have hr : r.nextThread = (⟨r.pl + 1, r.th + 1, r.op, (r.step 9 r.pl 0 false).st⟩, true) := by simp [RT.nextThread, h4, h0]
      rw [hr]
      clear hr
      go_enter Try.func47, Try.ntmps47
      go_wp2_with fail
      refine (stepR b _ _ _ _ _ _ s r _ h (by omega) (by omega)).mono ?_
      rintro e w1 ⟨rfl, h1, b1, _⟩
      have d1 := h1.c1
      have d2 := h1.c2
      have f1 := h1.fz 1
      have f2 := h1.fz 2
      have hpl : (r.step 9 r.pl 0 false).pl = r.pl := rfl
      have hth : (r.step 9 r.pl 0 false).th = r.th := rfl
      rw [hpl] at d1
      rw [hth] at d2
      have R : Hid (RR ((w1.setCell ⟨b, 1, none⟩ (.int .i64 (r.pl + 1))).setCell ⟨b, 2, none⟩ (.int .i64 (r.th + 1))) b s ⟨r.pl + 1, r.th + 1, r.op, (r.step 9 r.pl 0 false).st⟩) := by
        obtain ⟨_, _, _, _, h1⟩ := h1
        exact ⟨_, _, _, _, (h1.place (r.pl + 1)).thread (r.th + 1)⟩
      clear h0 hl h1 h c1 c2 c3 hpl hth
      go_wp2
      go_ret
      exact ⟨rfl, R.out, ((b1.setCell (by simp) _).setCell (by simp) _)⟩
  · have hr : r.nextThread = (r, false) := by simp [RT.nextThread, h0]
    rw [hr]
    obtain ⟨m, hl⟩ : ∃ m, r.op.length = m + 1 := ⟨r.op.length - 1, by have := List.length_pos_iff.2 h0; omega⟩
    rw [hl] at c3 ho
    clear hr h0 hl
    have hp1 : (0 : Int) < ((m + 1 : Nat) : Int) := by omega
    go_enter Try.func47, Try.ntmps47
    go_wp2
    go_ret
    exact ⟨rfl, h, Below.refl _ _⟩

set_option maxHeartbeats 800000 in
set_option maxRecDepth 100000 in
theorem mendedR (b : Nat) (s : ByteArray) (r : RT) (w : World) (h : RR w b s r) (hs : s.size ≤ 240) (hp : r.pl ≤ 800) (ho : r.op.length ≤ 800) (hm0 : r.st.length ≤ 800) :
    Calls Try.prog 44 #[.pointer (some ⟨b, 0, none⟩)] w fun e w' => e = .returned (.bool (r.mended s.data.toList).2) ∧ RR w' b s (r.mended s.data.toList).1 ∧ Below b w w' := by
  have c1 := h.c1
  have f1 := h.fz 1
  have hm := h.moved
  cases hx : nxI s.data.toList (r.pl + 1) [65, 66, 67, 68, 69] with
  | none =>
    have hr : r.mended s.data.toList = (r.to 1, false) := by simp [RT.mended, hx]
    rw [hr]
    clear hr
    have hx' : nxI s.data.toList (r.to 1).pl [65, 66, 67, 68, 69] = none := hx
    go_enter Try.func44, Try.ntmps44
    go_wp2_with fail
    refine (nextR_none b [65, 66, 67, 68, 69] s (r.to 1) _ hm hs (by decide) (by simp [RT.to]; omega) hx').mono ?_
    rintro e w1 ⟨rfl, h1, b1⟩
    clear hx hx' h hm
    go_wp2
    go_ret
    exact ⟨rfl, h1, (moved_below _ _ _).trans b1⟩
  | some i =>
    have hx' : nxI s.data.toList (r.to 1).pl [65, 66, 67, 68, 69] = some i := hx
    have hi0 : (0 : Int) ≤ (i : Int) := Int.natCast_nonneg _
    cases ha : ((((r.to 1).to 1).step 6 r.pl i true).push 2 i 0).access s.data.toList with
    | mk r3 ok =>
      cases ok with
      | false =>
        have hr : r.mended s.data.toList = (r3, false) := by
          have e1 : (r.to 2) = ((r.to 1).to 1) := by simp [RT.to]
          simp [RT.mended, hx, e1, ha]
        rw [hr]
        clear hr
        go_enter Try.func44, Try.ntmps44
        go_wp2_with fail
        refine (nextR_some b [65, 66, 67, 68, 69] s (r.to 1) i _ hm hs (by decide) (by simp [RT.to]; omega) hx').mono ?_
        rintro e w1 ⟨rfl, h1, b1⟩
        go_wp2_with fail
        refine (stepR b _ _ _ _ _ _ s ((r.to 1).to 1) w1 h1 (by simp [RT.to]; omega) (by simp [RT.to]; omega)).mono ?_
        rintro e w2 ⟨rfl, h2, b2, _⟩
        go_wp2_with fail
        refine (pushR b _ _ _ s (((r.to 1).to 1).step 6 r.pl i true) w2 h2 (by simp [RT.to, RT.step]; omega)).mono ?_
        rintro e w3 ⟨rfl, h3, b3⟩
        go_wp2_with fail
        refine (accessR b s ((((r.to 1).to 1).step 6 r.pl i true).push 2 i 0) w3 h3 hs (by simp [RT.to, RT.step, RT.push]; omega) (by simp [RT.to, RT.step, RT.push]; omega) (by simp [RT.to, RT.step, RT.push]; omega)).mono ?_
        rintro e w4 ⟨rfl, h4, b4⟩
        rw [ha] at h4 ⊢
        clear ha hx hx' h hm
        go_wp2
        go_ret
        exact ⟨rfl, h4, ((((moved_below _ _ _).trans b1).trans b2).trans b3).trans b4⟩
      | true =>
        have hb3 : r3.pl ≤ 1000 ∧ r3.op.length ≤ 1000 ∧ r3.op ≠ [] ∧ r3.st.length ≤ 1000 := by
          have : r3 = (((((r.to 1).to 1).step 6 r.pl i true).push 2 i 0).access s.data.toList).1 := by rw [ha]
          rw [RT.access] at ha
          split at ha
          · cases ha
          · split at ha
            · cases ha
            · cases ha; simp [RT.to, RT.step, RT.push]; omega
        obtain ⟨hb3, ho3, hn3, hs3⟩ := hb3
        cases hz : nxI s.data.toList r3.pl [62] with
        | none =>
          have hr : r.mended s.data.toList = (r3.pop, false) := by
            have e1 : (r.to 2) = ((r.to 1).to 1) := by simp [RT.to]
            simp [RT.mended, hx, e1, ha, hz]
          rw [hr]
          clear hr
          go_enter Try.func44, Try.ntmps44
          go_wp2_with fail
          refine (nextR_some b [65, 66, 67, 68, 69] s (r.to 1) i _ hm hs (by decide) (by simp [RT.to]; omega) hx').mono ?_
          rintro e w1 ⟨rfl, h1, b1⟩
          go_wp2_with fail
          refine (stepR b _ _ _ _ _ _ s ((r.to 1).to 1) w1 h1 (by simp [RT.to]; omega) (by simp [RT.to]; omega)).mono ?_
          rintro e w2 ⟨rfl, h2, b2, _⟩
          go_wp2_with fail
          refine (pushR b _ _ _ s (((r.to 1).to 1).step 6 r.pl i true) w2 h2 (by simp [RT.to, RT.step]; omega)).mono ?_
          rintro e w3 ⟨rfl, h3, b3⟩
          go_wp2_with fail
          refine (accessR b s ((((r.to 1).to 1).step 6 r.pl i true).push 2 i 0) w3 h3 hs (by simp [RT.to, RT.step, RT.push]; omega) (by simp [RT.to, RT.step, RT.push]; omega) (by simp [RT.to, RT.step, RT.push]; omega)).mono ?_
          rintro e w4 ⟨rfl, h4, b4⟩
          rw [ha] at h4 ⊢
          clear ha hx hx' h hm
          go_wp2_with fail
          refine (popR b s r3 w4 h4 (by omega) hn3).mono ?_
          rintro e wp ⟨rfl, hp5, bp, _⟩
          have cp := hp5.c1
          have hz' : nxI s.data.toList r3.pop.pl [62] = none := hz
          go_wp2_with fail
          refine (nextR_none b [62] s r3.pop wp hp5 hs (by decide) (by simp [RT.pop]; omega) hz').mono ?_
          rintro e w5 ⟨rfl, h5, b5⟩
          clear hz hz'
          go_wp2
          go_ret
          exact ⟨rfl, h5, ((((((moved_below _ _ _).trans b1).trans b2).trans b3).trans b4).trans bp).trans b5⟩
        | some j =>
          have hr : r.mended s.data.toList = ((r3.pop.to 1).step 7 r3.pl i true, true) := by
            have e1 : (r.to 2) = ((r.to 1).to 1) := by simp [RT.to]
            simp [RT.mended, hx, e1, ha, hz]
          rw [hr]
          clear hr
          have hj0 : (0 : Int) ≤ (j : Int) := Int.natCast_nonneg _
          go_enter Try.func44, Try.ntmps44
          go_wp2_with fail
          refine (nextR_some b [65, 66, 67, 68, 69] s (r.to 1) i _ hm hs (by decide) (by simp [RT.to]; omega) hx').mono ?_
          rintro e w1 ⟨rfl, h1, b1⟩
          go_wp2_with fail
          refine (stepR b _ _ _ _ _ _ s ((r.to 1).to 1) w1 h1 (by simp [RT.to]; omega) (by simp [RT.to]; omega)).mono ?_
          rintro e w2 ⟨rfl, h2, b2, _⟩
          go_wp2_with fail
          refine (pushR b _ _ _ s (((r.to 1).to 1).step 6 r.pl i true) w2 h2 (by simp [RT.to, RT.step]; omega)).mono ?_
          rintro e w3 ⟨rfl, h3, b3⟩
          go_wp2_with fail
          refine (accessR b s ((((r.to 1).to 1).step 6 r.pl i true).push 2 i 0) w3 h3 hs (by simp [RT.to, RT.step, RT.push]; omega) (by simp [RT.to, RT.step, RT.push]; omega) (by simp [RT.to, RT.step, RT.push]; omega)).mono ?_
          rintro e w4 ⟨rfl, h4, b4⟩
          rw [ha] at h4 ⊢
          clear ha hx hx' h hm
          go_wp2_with fail
          refine (popR b s r3 w4 h4 (by omega) hn3).mono ?_
          rintro e wp ⟨rfl, hp5, bp, _⟩
          have cp := hp5.c1
          have hpp : r3.pop.pl = r3.pl := rfl
          rw [hpp] at cp
          have hz' : nxI s.data.toList r3.pop.pl [62] = some j := hz
          go_wp2_with fail
          refine (nextR_some b [62] s r3.pop j wp hp5 hs (by decide) (by simp [RT.pop]; omega) hz').mono ?_
          rintro e w5 ⟨rfl, h5, b5⟩
          clear hz hz'
          go_wp2_with fail
          refine (stepR b _ _ _ _ _ _ s (r3.pop.to 1) w5 h5 (by simp [RT.to, RT.pop]; omega) (by simp [RT.to, RT.pop]; omega)).mono ?_
          rintro e w6 ⟨rfl, h6, b6, _⟩
          go_wp2
          go_ret
          exact ⟨rfl, h6, (((((((moved_below _ _ _).trans b1).trans b2).trans b3).trans b4).trans bp).trans b5).trans b6⟩

end Go.Proofs.Ytnpkambjlfkhgaa
