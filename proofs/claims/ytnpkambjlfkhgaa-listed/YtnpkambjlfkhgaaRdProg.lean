import Derived.Test.YtnpkambjlfkhgaaRdPiece
import Derived.Test.YtnpkambjlfkhgaaPure2
import Derived.Deep.LoopGhost
namespace Go.Proofs.Ytnpkambjlfkhgaa
open Go.RowKit

def Ended (w : World) (b : Nat) (s : ByteArray) (e : Ending) (w' : World) : Prop :=
  ∃ r, ReachT s.data.toList r ∧ ((r.pl = s.size ∧ e = .returned (.bool ((r.op.length : Int) == 0)) ∧ RR w' b s (r.step 9 r.pl 0 false)) ∨
    (r.pl < s.size ∧ (r.piece s.data.toList).2 = false ∧ e = .returned (.bool false) ∧ RR w' b s (r.piece s.data.toList).1)) ∧ Below b w w'

set_option maxHeartbeats 800000 in
set_option maxRecDepth 100000 in
theorem programR (b : Nat) (s : ByteArray) (w : World) (h : RR w b s RT.start) (hs : s.size ≤ 240) :
    Calls Try.prog 26 #[.pointer (some ⟨b, 0, none⟩)] w fun e w' => Ended w b s e w' := by
  go_enter Try.func26, Try.ntmps26
  go_wp2
  go_loopg [3] s.size (fun k _ wr => ∃ r, ReachT s.data.toList r ∧ RR wr b s r ∧ Below b w wr ∧ s.size ≤ k + r.pl)
  case atStart => exact ⟨RT.start, .start, h, Below.refl _ _, by simp⟩
  case round =>
    obtain ⟨r, hre, hr, hbe, hk⟩ := hrel
    obtain ⟨b1, b2, b3, b4⟩ := hre.bd
    have hl : s.data.toList.length = s.size := by simp
    rw [hl] at b1
    have c0 := hr.c0
    have c1 := hr.c1
    obtain ⟨ao, co, c3⟩ := hr.c3
    by_cases hlt : r.pl < s.size
    · have hpr := pieceT_gt hre (by rw [hl]; exact hlt)
      cases hq : r.piece s.data.toList with
      | mk r1 ok =>
        have HQ : Hid (r.piece s.data.toList = (r1, ok)) := hq
        clear hq
        cases ok with
        | true =>
          have hgt : r.pl < r1.pl := by have := hpr (by rw [HQ.out]); rw [HQ.out] at this; exact this
          have hre1 : ReachT s.data.toList r1 := .step hre (by rw [hl]; exact hlt) HQ.out
          clear hpr hl
          go_wp2_with fail
          go_quiet (fail)
          go_wp2_with fail
          refine (pieceR b s r _ (hr.drewN _) hs hlt (by omega) (by omega) (by omega)).mono ?_
          rintro e w1 ⟨rfl, h1, be1⟩
          rw [HQ.out] at h1 ⊢
          clear HQ
          go_wp2
          go_roundg (s.size - r1.pl)
          case measure => omega
          case rel => exact ⟨r1, hre1, h1, (hbe.trans (below_drewN' _ _ _)).trans be1, by omega⟩
        | false =>
          clear hpr hl
          go_wp2_with fail
          go_quiet (fail)
          go_wp2_with fail
          refine (pieceR b s r _ (hr.drewN _) hs hlt (by omega) (by omega) (by omega)).mono ?_
          rintro e w1 ⟨rfl, h1, be1⟩
          have HH : Hid (RR w1 b s (r.piece s.data.toList).1) := h1
          clear h1
          rw [HQ.out]
          go_wp2
          go_ret
          exact ⟨r, hre, .inr ⟨hlt, by rw [HQ.out], rfl, HH.out⟩, (hbe.trans (below_drewN' _ _ _)).trans be1⟩
    · clear hl
      go_wp2_with fail
      go_quiet (fail)
      go_wp2_with fail
      refine (stepR b _ _ _ _ _ _ s r _ (hr.drewN _) (by omega) (by omega)).mono ?_
      rintro e w1 ⟨rfl, h1, b1', _⟩
      obtain ⟨ao', co', d3⟩ := h1.c3
      have hop : (r.step 9 r.pl 0 false).op.length = r.op.length := rfl
      rw [hop] at d3
      go_wp2
      go_ret
      exact ⟨r, hre, .inl ⟨by omega, rfl, h1⟩, (hbe.trans (below_drewN' _ _ _)).trans b1'⟩

end Go.Proofs.Ytnpkambjlfkhgaa
