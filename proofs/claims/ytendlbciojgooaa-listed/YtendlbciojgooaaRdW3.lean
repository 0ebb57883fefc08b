import Derived.Test.YtendlbciojgooaaRdW
namespace Go.Proofs.Ytendlbciojgooaa
open Go.RowKit

set_option maxHeartbeats 800000 in
set_option maxRecDepth 100000 in
theorem nextThreadR (b : Nat) (s : ByteArray) (r : RS) (w : World) (h : RR w b s r) (hp : r.pl ≤ 900) (ho : r.op.length ≤ 900) (ht0 : 0 ≤ r.th) :
    Calls Try.prog 74 #[.pointer (some ⟨b, 0, none⟩)] w fun e w' => e = .returned (.bool r.nextThread.2) ∧ RR w' b s r.nextThread.1 ∧ Below b w w' := by
  obtain ⟨ao, co, c3⟩ := h.c3
  have c2 := h.c2
  have c1 := h.c1
  have f1 := h.fz 1
  have f2 := h.fz 2
  by_cases h0 : r.op = []
  · have hl : r.op.length = 0 := by simp [h0]
    rw [hl] at c3
    by_cases h4 : 4 ≤ r.th
    · have hr : r.nextThread = (r, false) := by simp [RS.nextThread, h4]
      rw [hr]
      clear hr h0 hl
      go_enter Try.func74, Try.ntmps74
      go_wp2
      go_ret
      exact ⟨rfl, h, Below.refl _ _⟩
    · have hr : r.nextThread = (⟨r.pl + 1, r.th + 1, r.op, r.mks⟩, true) := by simp [RS.nextThread, h4, h0]
      rw [hr]
      have R : Hid (RR ((w.setCell ⟨b, 1, none⟩ (.int .i64 (r.pl + 1))).setCell ⟨b, 2, none⟩ (.int .i64 (r.th + 1))) b s ⟨r.pl + 1, r.th + 1, r.op, r.mks⟩) := by
        obtain ⟨_, _, _, _, h⟩ := h
        exact ⟨_, _, _, _, (h.place (r.pl + 1)).thread (r.th + 1)⟩
      clear hr h0 hl
      go_enter Try.func74, Try.ntmps74
      go_wp2
      go_ret
      exact ⟨rfl, R.out, (((Below.refl _ _).setCell (by simp) _).setCell (by simp) _)⟩
  · have hr : r.nextThread = (r, false) := by simp [RS.nextThread, h0]
    rw [hr]
    obtain ⟨m, hl⟩ : ∃ m, r.op.length = m + 1 := ⟨r.op.length - 1, by have := List.length_pos_iff.2 h0; omega⟩
    rw [hl] at c3 ho
    clear hr h0 hl
    have hp1 : (0 : Int) < ((m + 1 : Nat) : Int) := by omega
    go_enter Try.func74, Try.ntmps74
    go_wp2
    go_ret
    exact ⟨rfl, h, Below.refl _ _⟩

set_option maxHeartbeats 800000 in
set_option maxRecDepth 100000 in
theorem mendedR (b : Nat) (s : ByteArray) (r : RS) (w : World) (h : RR w b s r) (hs : s.size ≤ 240) (hp : r.pl ≤ 800) (ho : r.op.length ≤ 800) (hm0 : r.mks.length ≤ 800) :
    Calls Try.prog 71 #[.pointer (some ⟨b, 0, none⟩)] w fun e w' => e = .returned (.bool (r.mended s.data.toList).2) ∧ RR w' b s (r.mended s.data.toList).1 ∧ Below b w w' := by
  have c1 := h.c1
  have f1 := h.fz 1
  have hm := h.moved
  cases hx : nxI s.data.toList (r.pl + 1) [65, 66, 67, 68, 69] with
  | none =>
    have hr : r.mended s.data.toList = (r.to 1, false) := by simp [RS.mended, hx]
    rw [hr]
    clear hr
    have hx' : nxI s.data.toList (r.to 1).pl [65, 66, 67, 68, 69] = none := hx
    go_enter Try.func71, Try.ntmps71
    go_wp2_with fail
    refine (nextR_none b [65, 66, 67, 68, 69] s (r.to 1) _ hm hs (by decide) (by simp [RS.to]; omega) hx').mono ?_
    rintro e w1 ⟨rfl, h1, b1⟩
    clear hx hx' h hm
    go_wp2
    go_ret
    exact ⟨rfl, h1, (moved_below _ _ _).trans b1⟩
  | some i =>
    have hx' : nxI s.data.toList (r.to 1).pl [65, 66, 67, 68, 69] = some i := hx
    have hi0 : (0 : Int) ≤ (i : Int) := Int.natCast_nonneg _
    cases ha : ((((r.to 1).to 1).mark 3 r.pl i).push 2 i).access s.data.toList with
    | mk r3 ok =>
      cases ok with
      | false =>
        have hr : r.mended s.data.toList = (r3, false) := by
          have e1 : (r.to 2) = ((r.to 1).to 1) := by simp [RS.to]
          simp [RS.mended, hx, e1, ha]
        rw [hr]
        clear hr
        go_enter Try.func71, Try.ntmps71
        go_wp2_with fail
        refine (nextR_some b [65, 66, 67, 68, 69] s (r.to 1) i _ hm hs (by decide) (by simp [RS.to]; omega) hx').mono ?_
        rintro e w1 ⟨rfl, h1, b1⟩
        go_wp2_with fail
        refine (markR b _ _ _ s ((r.to 1).to 1) w1 h1 (by simp [RS.to]; omega) (by simp [RS.to]; omega)).mono ?_
        rintro e w2 ⟨rfl, h2, b2⟩
        go_wp2_with fail
        refine (pushR b _ _ s (((r.to 1).to 1).mark 3 r.pl i) w2 h2 (by simp [RS.to, RS.mark]; omega)).mono ?_
        rintro e w3 ⟨rfl, h3, b3⟩
        go_wp2_with fail
        refine (accessR b s ((((r.to 1).to 1).mark 3 r.pl i).push 2 i) w3 h3 hs (by simp [RS.to, RS.mark, RS.push]; omega) (by simp [RS.to, RS.mark, RS.push]; omega) (by simp [RS.to, RS.mark, RS.push]; omega)).mono ?_
        rintro e w4 ⟨rfl, h4, b4⟩
        rw [ha] at h4 ⊢
        clear ha hx hx' h hm
        go_wp2
        go_ret
        exact ⟨rfl, h4, ((((moved_below _ _ _).trans b1).trans b2).trans b3).trans b4⟩
      | true =>
        have hb3 : r3.pl ≤ 1000 ∧ r3.op.length ≤ 1000 ∧ r3.op ≠ [] := by
          have : r3 = (((((r.to 1).to 1).mark 3 r.pl i).push 2 i).access s.data.toList).1 := by rw [ha]
          rw [RS.access] at ha
          split at ha
          · cases ha
          · split at ha
            · cases ha
            · cases ha; simp [RS.to, RS.mark, RS.push]; omega
        obtain ⟨hb3, ho3, hn3⟩ := hb3
        cases hz : nxI s.data.toList r3.pl [62] with
        | none =>
          have hr : r.mended s.data.toList = (r3, false) := by
            have e1 : (r.to 2) = ((r.to 1).to 1) := by simp [RS.to]
            simp [RS.mended, hx, e1, ha, hz]
          rw [hr]
          clear hr
          go_enter Try.func71, Try.ntmps71
          go_wp2_with fail
          refine (nextR_some b [65, 66, 67, 68, 69] s (r.to 1) i _ hm hs (by decide) (by simp [RS.to]; omega) hx').mono ?_
          rintro e w1 ⟨rfl, h1, b1⟩
          go_wp2_with fail
          refine (markR b _ _ _ s ((r.to 1).to 1) w1 h1 (by simp [RS.to]; omega) (by simp [RS.to]; omega)).mono ?_
          rintro e w2 ⟨rfl, h2, b2⟩
          go_wp2_with fail
          refine (pushR b _ _ s (((r.to 1).to 1).mark 3 r.pl i) w2 h2 (by simp [RS.to, RS.mark]; omega)).mono ?_
          rintro e w3 ⟨rfl, h3, b3⟩
          go_wp2_with fail
          refine (accessR b s ((((r.to 1).to 1).mark 3 r.pl i).push 2 i) w3 h3 hs (by simp [RS.to, RS.mark, RS.push]; omega) (by simp [RS.to, RS.mark, RS.push]; omega) (by simp [RS.to, RS.mark, RS.push]; omega)).mono ?_
          rintro e w4 ⟨rfl, h4, b4⟩
          rw [ha] at h4 ⊢
          clear ha hx hx' h hm
          go_wp2_with fail
          refine (nextR_none b [62] s r3 w4 h4 hs (by decide) (by omega) hz).mono ?_
          rintro e w5 ⟨rfl, h5, b5⟩
          clear hz
          go_wp2
          go_ret
          exact ⟨rfl, h5, (((((moved_below _ _ _).trans b1).trans b2).trans b3).trans b4).trans b5⟩
        | some j =>
          have hr : r.mended s.data.toList = ((r3.to 1).pop, true) := by
            have e1 : (r.to 2) = ((r.to 1).to 1) := by simp [RS.to]
            simp [RS.mended, hx, e1, ha, hz]
          rw [hr]
          clear hr
          have hj0 : (0 : Int) ≤ (j : Int) := Int.natCast_nonneg _
          go_enter Try.func71, Try.ntmps71
          go_wp2_with fail
          refine (nextR_some b [65, 66, 67, 68, 69] s (r.to 1) i _ hm hs (by decide) (by simp [RS.to]; omega) hx').mono ?_
          rintro e w1 ⟨rfl, h1, b1⟩
          go_wp2_with fail
          refine (markR b _ _ _ s ((r.to 1).to 1) w1 h1 (by simp [RS.to]; omega) (by simp [RS.to]; omega)).mono ?_
          rintro e w2 ⟨rfl, h2, b2⟩
          go_wp2_with fail
          refine (pushR b _ _ s (((r.to 1).to 1).mark 3 r.pl i) w2 h2 (by simp [RS.to, RS.mark]; omega)).mono ?_
          rintro e w3 ⟨rfl, h3, b3⟩
          go_wp2_with fail
          refine (accessR b s ((((r.to 1).to 1).mark 3 r.pl i).push 2 i) w3 h3 hs (by simp [RS.to, RS.mark, RS.push]; omega) (by simp [RS.to, RS.mark, RS.push]; omega) (by simp [RS.to, RS.mark, RS.push]; omega)).mono ?_
          rintro e w4 ⟨rfl, h4, b4⟩
          rw [ha] at h4 ⊢
          clear ha hx hx' h hm
          go_wp2_with fail
          refine (nextR_some b [62] s r3 j w4 h4 hs (by decide) (by omega) hz).mono ?_
          rintro e w5 ⟨rfl, h5, b5⟩
          clear hz
          go_wp2_with fail
          refine (popR b s (r3.to 1) w5 h5 (by simpa [RS.to] using ho3) (by simpa [RS.to] using hn3)).mono ?_
          rintro e w6 ⟨rfl, h6, b6⟩
          go_wp2
          go_ret
          exact ⟨rfl, h6, ((((((moved_below _ _ _).trans b1).trans b2).trans b3).trans b4).trans b5).trans b6⟩

end Go.Proofs.Ytendlbciojgooaa
