import Derived.Test.YtnpkambjlfkhgaaAccD
import Derived.Test.YtnpkambjlfkhgaaMade
namespace Go.Proofs.Ytnpkambjlfkhgaa
open Go.RowKit

def pickI (c n : Int) : Int := (if c < 0 then -(c + 1) else c) % n

theorem pickI_bd (c n : Int) (hn : 0 < n) : 0 ≤ pickI c n ∧ pickI c n < n := by
  unfold pickI
  exact ⟨Int.emod_nonneg _ (by omega), Int.emod_lt_of_pos _ hn⟩

set_option maxHeartbeats 400000 in
theorem pick_any (c n : Int) (w : World) (h0 : -9223372036854775807 ≤ c + 1) (h1 : c ≤ 9223372036854775806 + 1) (hn : 0 < n) (hn1 : n ≤ 1000) :
    Calls Try.prog 13 #[.int .i64 c, .int .i64 n] w fun e w' => e = .returned (.int .i64 (pickI c n)) ∧ w' = w := by
  by_cases hc : c < 0
  · have HP : Hid (pickI c n = (-(c + 1)) % n) := by show pickI c n = _; rw [pickI, if_pos hc]
    go_enter Try.func13, Try.ntmps13
    go_wp2
    go_ret
    refine ⟨?_, rfl⟩
    rw [HP.out]
    have e1 : -((c + 1).tmod n) = (-(c + 1)) % n := by rw [← Int.neg_tmod, Int.tmod_eq_emod_of_nonneg (by omega)]
    rw [← e1]; rfl
  · have HP : Hid (pickI c n = c % n) := by show pickI c n = _; rw [pickI, if_neg hc]
    go_enter Try.func13, Try.ntmps13
    go_wp2
    go_ret
    refine ⟨?_, rfl⟩
    rw [HP.out]; rfl

/-- A slice of numbers that came in. -/
def IsInts (w : World) (mb : Nat) (la : Option Addr) (ln : Nat) : Prop :=
  ln = 0 ∨ ∃ b off, la = some ⟨b, off, none⟩ ∧ b < mb ∧ ∀ j, j < ln → ∃ z : Int, w.cell? ⟨b, off + j, none⟩ = some (.int .i64 z) ∧ -9223372036854775808 ≤ z ∧ z ≤ 9223372036854775807

/-- The maker in block mb. -/
structure MM (w : World) (mb : Nat) (la : Option Addr) (ln lc at_ : Nat) (text opn : ByteArray) (ac : Nat) : Prop where
  lt : mb < w.heap.size
  c0 : w.cell? ⟨mb, 0, none⟩ = some (.slice la ln lc)
  c1 : w.cell? ⟨mb, 1, none⟩ = some (.int .i64 at_)
  c2 : w.cell? ⟨mb, 2, none⟩ = some (.string text)
  c3 : w.cell? ⟨mb, 3, none⟩ = some (.string opn)
  c4 : w.cell? ⟨mb, 4, none⟩ = some (.string ⟨#[65, 66, 67, 68]⟩)
  c5 : w.cell? ⟨mb, 5, none⟩ = some (.int .i64 ac)
  fz : ∀ i, w.frozen? ⟨mb, i, none⟩ = false
  il : IsInts w mb la ln
  len : ln ≤ maxLen
  le : at_ ≤ ln
  ts : text.size ≤ 240
  os : opn.size ≤ 240
  ac10 : ac ≤ 10

theorem IsInts.below {w w' : World} {mb : Nat} {la ln} (h : IsInts w mb la ln) (hb : Below mb w w') : IsInts w' mb la ln := by
  rcases h with h | ⟨b, off, e, hl, hc⟩
  · exact .inl h
  · refine .inr ⟨b, off, e, hl, fun j hj => ?_⟩
    obtain ⟨z, hz, r⟩ := hc j hj
    exact ⟨z, (hb.cell (p := ⟨b, off + j, none⟩) hl).trans hz, r⟩

theorem MM.below {w w' : World} {mb la ln lc at_ text opn ac} (h : MM w mb la ln lc at_ text opn ac) (hb : Below w.heap.size w w') : MM w' mb la ln lc at_ text opn ac := by
  obtain ⟨lt, c0, c1, c2, c3, c4, c5, fz, il, len, le, ts, os, ac10⟩ := h
  have k := fun i => hb.cell (p := ⟨mb, i, none⟩) lt
  exact ⟨by have := hb.size; omega, (k 0).trans c0, (k 1).trans c1, (k 2).trans c2, (k 3).trans c3, (k 4).trans c4, (k 5).trans c5, fun i => (hb.frozen (p := ⟨mb, i, none⟩) lt).trans (fz i), il.below (hb.mono (by omega)), len, le, ts, os, ac10⟩

theorem MM.drewN {w : World} {mb la ln lc at_ text opn ac} (h : MM w mb la ln lc at_ text opn ac) (n : Nat) : MM (w.drewN n) mb la ln lc at_ text opn ac := h.below (below_drewN' _ _ _)
theorem MM.drew {w : World} {mb la ln lc at_ text opn ac} (h : MM w mb la ln lc at_ text opn ac) : MM w.drew mb la ln lc at_ text opn ac := h.below (Below.refl _ _).drew

theorem MM.setAt {w : World} {mb la ln lc at_ text opn ac} (h : MM w mb la ln lc at_ text opn ac) (q : Nat) (hq : q ≤ ln) : MM (w.setCell ⟨mb, 1, none⟩ (.int .i64 q)) mb la ln lc q text opn ac := by
  have il' := h.il.below ((Below.refl mb w).setCell (p := ⟨mb, 1, none⟩) (Nat.le_refl _) (.int .i64 q))
  obtain ⟨lt, c0, c1, c2, c3, c4, c5, fz, il, len, le, ts, os, ac10⟩ := h
  refine ⟨by simpa [World.setCell] using lt, by go_simp, cell_same c1, by go_simp, by go_simp, by go_simp, by go_simp, fun i => by have := fz i; go_simp, il', len, hq, ts, os, ac10⟩

theorem MM.setText {w : World} {mb la ln lc at_ text opn ac} (h : MM w mb la ln lc at_ text opn ac) (q : ByteArray) (hq : q.size ≤ 240) : MM (w.setCell ⟨mb, 2, none⟩ (.string q)) mb la ln lc at_ q opn ac := by
  have il' := h.il.below ((Below.refl mb w).setCell (p := ⟨mb, 2, none⟩) (Nat.le_refl _) (.string q))
  obtain ⟨lt, c0, c1, c2, c3, c4, c5, fz, il, len, le, ts, os, ac10⟩ := h
  refine ⟨by simpa [World.setCell] using lt, by go_simp, by go_simp, cell_same c2, by go_simp, by go_simp, by go_simp, fun i => by have := fz i; go_simp, il', len, le, hq, os, ac10⟩

theorem MM.setOpen {w : World} {mb la ln lc at_ text opn ac} (h : MM w mb la ln lc at_ text opn ac) (q : ByteArray) (hq : q.size ≤ 240) : MM (w.setCell ⟨mb, 3, none⟩ (.string q)) mb la ln lc at_ text q ac := by
  have il' := h.il.below ((Below.refl mb w).setCell (p := ⟨mb, 3, none⟩) (Nat.le_refl _) (.string q))
  obtain ⟨lt, c0, c1, c2, c3, c4, c5, fz, il, len, le, ts, os, ac10⟩ := h
  refine ⟨by simpa [World.setCell] using lt, by go_simp, by go_simp, by go_simp, cell_same c3, by go_simp, by go_simp, fun i => by have := fz i; go_simp, il', len, le, ts, hq, ac10⟩

theorem MM.setAcc {w : World} {mb la ln lc at_ text opn ac} (h : MM w mb la ln lc at_ text opn ac) (q : Nat) (hq : q ≤ 10) : MM (w.setCell ⟨mb, 5, none⟩ (.int .i64 q)) mb la ln lc at_ text opn q := by
  have il' := h.il.below ((Below.refl mb w).setCell (p := ⟨mb, 5, none⟩) (Nat.le_refl _) (.int .i64 q))
  obtain ⟨lt, c0, c1, c2, c3, c4, c5, fz, il, len, le, ts, os, ac10⟩ := h
  refine ⟨by simpa [World.setCell] using lt, by go_simp, by go_simp, by go_simp, by go_simp, by go_simp, cell_same c5, fun i => by have := fz i; go_simp, il', len, le, ts, os, hq⟩

/-- What the maker's pick gives. -/
def Picked (w w' : World) (mb : Nat) (la : Option Addr) (ln lc : Nat) (text opn : ByteArray) (ac n : Nat) (e : Ending) : Prop :=
  ∃ (r at_ : Nat), r < n ∧ (r ≠ 0 → text.size ≤ 70) ∧ e = .returned (.int .i64 r) ∧ MM w' mb la ln lc at_ text opn ac ∧ Below mb w w'

set_option maxHeartbeats 1600000 in
set_option maxRecDepth 100000 in
theorem mpick_any (mb n : Nat) (la : Option Addr) (ln lc at_ : Nat) (text opn : ByteArray) (ac : Nat) (w : World) (h : MM w mb la ln lc at_ text opn ac) (hn : 0 < n) (hn1 : n ≤ 100) :
    Calls Try.prog 24 #[.pointer (some ⟨mb, 0, none⟩), .int .i64 n] w fun e w' => Picked w w' mb la ln lc text opn ac n e := by
  have c0 := h.c0
  have c1 := h.c1
  have c2 := h.c2
  have f1 := h.fz 1
  have hle := h.le
  have hlen := h.len
  have hts := h.ts
  unfold maxLen at hlen
  have HM : Hid (MM w mb la ln lc at_ text opn ac) := h
  clear h
  by_cases h1 : at_ < ln
  · have g1 : decide ((ln : Int) ≤ (at_ : Int)) = false := by simpa using h1
    by_cases h2 : text.size ≤ 70
    · obtain ⟨b, off, rfl, hbm, hcs⟩ : ∃ b off, la = some ⟨b, off, none⟩ ∧ b < mb ∧ ∀ j, j < ln → ∃ z : Int, w.cell? ⟨b, off + j, none⟩ = some (.int .i64 z) ∧ -9223372036854775808 ≤ z ∧ z ≤ 9223372036854775807 := by
        rcases HM.out.il with h0 | h0
        · omega
        · exact h0
      obtain ⟨z, hz, z0, z1⟩ := hcs at_ h1
      have hpb := pickI_bd z n (by omega)
      obtain ⟨r, hr⟩ := Int.eq_ofNat_of_zero_le hpb.1
      have HR : Hid (pickI z n = (r : Int)) := hr
      have hrn : r < n := by omega
      have hpk : ∀ wx, Calls Try.prog 13 #[.int .i64 z, .int .i64 n] wx fun e w' => e = .returned (.int .i64 r) ∧ w' = wx := by
        intro wx
        rw [← hr]
        exact pick_any z n wx (by omega) (by omega) (by omega) (by omega)
      have HPK : Hid (∀ wx, Calls Try.prog 13 #[.int .i64 z, .int .i64 n] wx fun e w' => e = .returned (.int .i64 r) ∧ w' = wx) := hpk
      clear hcs hpb hr hpk
      go_enter Try.func24, Try.ntmps24
      go_wp2
      go_quiet (fail)
      go_wp2_with fail
      obtain ⟨w1, hw1⟩ : ∃ w1, w1 = w.drewN nq := ⟨_, rfl⟩
      have HM1 : Hid (MM w1 mb (some ⟨b, off, none⟩) ln lc at_ text opn ac) := by rw [hw1]; exact HM.out.drewN _
      have HB1 : Hid (Below mb w w1) := by rw [hw1]; exact below_drewN' _ _ _
      have d0 := HM1.out.c0
      have d1 := HM1.out.c1
      have d2 := HM1.out.fz 1
      have hz1 : w1.cell? ⟨b, off + at_, none⟩ = some (.int .i64 z) := by rw [hw1]; exact hz
      rw [← hw1]
      clear hw1 c0 c1 c2 f1 hz
      go_quiet ((go_at_call 13; exact Calls.quiet_of_same (HPK.out _)))
      go_wp2
      go_ret
      exact ⟨r, at_ + 1, hrn, fun _ => h2, rfl, (HM1.out.drewN _).setAt (at_ + 1) (by omega), (HB1.out.trans (below_drewN' _ _ _)).setCell (by simp) _⟩
    · have g2 : decide ((70 : Int) < (text.size : Int)) = true := by simp; omega
      go_enter Try.func24, Try.ntmps24
      go_wp2
      go_quiet (fail)
      go_wp2
      go_ret
      exact ⟨0, at_, hn, fun h' => absurd rfl h', rfl, HM.out.drewN _, below_drewN' _ _ _⟩
  · have g1 : decide ((ln : Int) ≤ (at_ : Int)) = true := by simp; omega
    go_enter Try.func24, Try.ntmps24
    go_wp2
    go_quiet (fail)
    go_wp2
    go_ret
    exact ⟨0, at_, hn, fun h' => absurd rfl h', rfl, HM.out.drewN _, below_drewN' _ _ _⟩

end Go.Proofs.Ytnpkambjlfkhgaa
