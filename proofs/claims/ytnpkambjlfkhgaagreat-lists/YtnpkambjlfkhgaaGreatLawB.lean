import Derived.Test.YtnpkambjlfkhgaaGreatLawA
namespace Go.Proofs.YtnpkambjlfkhgaaGreat
open Go.RowKit

/-- The book without a list. -/
structure NoBook (w : World) (bk : Nat) : Prop where
  lt : bk < w.heap.size
  c0 : w.cell? ⟨bk, 0, none⟩ = some (.slice none 0 0)
  c1 : w.cell? ⟨bk, 1, none⟩ = some (.slice none 0 0)

theorem NoBook.below {w w' : World} {bk : Nat} (h : NoBook w bk) (hb : Below w.heap.size w w') : NoBook w' bk :=
  ⟨by have := hb.size; have := h.lt; omega, (hb.cell (p := ⟨bk, 0, none⟩) h.lt).trans h.c0, (hb.cell (p := ⟨bk, 1, none⟩) h.lt).trans h.c1⟩

set_option maxHeartbeats 800000 in
set_option maxRecDepth 100000 in
theorem holds_none (bk : Nat) (w : World) (h : NoBook w bk) :
    Calls Tryz.prog 9 #[.pointer (some ⟨bk, 0, none⟩)] w fun e w' => e = .returned (.bool true) ∧ w' = w := by
  obtain ⟨_, c0, c1⟩ := h
  go_enter Tryz.func9, Tryz.ntmps9
  go_wp2
  refine wp_loop_rounds 1 ?_
  rw [rounds_succ]
  go_wp2
  refine wp_loop_rounds 1 ?_
  rw [rounds_succ]
  go_wp2
  go_ret
  exact ⟨rfl, rfl⟩

/-- A script in memory. -/
structure Script (W : World) (b off len : Nat) (K : Nat → Int) (S P : Nat → ByteArray) (L : Nat → Value) : Prop where
  lt : 0 < len → b < W.heap.size
  c0 : ∀ j, j < len → W.cell? ⟨b, off + j * 4, none⟩ = some (.int .i64 (K j))
  c1 : ∀ j, j < len → W.cell? ⟨b, off + j * 4 + 1, none⟩ = some (.string (S j))
  c2 : ∀ j, j < len → W.cell? ⟨b, off + j * 4 + 2, none⟩ = some (.string (P j))
  c3 : ∀ j, j < len → W.cell? ⟨b, off + j * 4 + 3, none⟩ = some (L j)
  s0 : ∀ j, j < len → (S j).size ≤ maxLen
  s1 : ∀ j, j < len → (P j).size ≤ maxLen
  s2 : ∀ j, j < len → ∃ a n c, L j = .slice a n c

set_option maxHeartbeats 1600000 in
set_option maxRecDepth 100000 in
/-- UpTo, whatever is known of the book from step to step. -/
theorem upto_any (I : World → Prop) (b off len cap : Nat) (lo hi : Int) (K : Nat → Int) (S P : Nat → ByteArray) (L : Nat → Value) (w : World) (hlen : len ≤ maxLen) (hsc : Script w b off len K S P L)
    (h0 : I (w.alloc (.cells #[.slice none 0 0, .slice none 0 0] 29)))
    (hal : ∀ W o, I W → I (W.alloc o)) (hbel : ∀ W, I W → Below w.heap.size w W)
    (hpl : ∀ j W, j < len → lo ≤ K j → K j ≤ hi → I W → Calls Tryz.prog 8 #[.pointer (some ⟨w.heap.size, 0, none⟩), .agg #[.int .i64 (K j), .string (S j), .string (P j), L j]] W fun e w' => e = .returned (.bool true) ∧ I w')
    (hho : ∀ W, I W → Calls Tryz.prog 9 #[.pointer (some ⟨w.heap.size, 0, none⟩)] W fun e w' => e = .returned (.bool true) ∧ I w') :
    Calls Tryz.prog 7 #[.slice (some ⟨b, off, none⟩) len cap, .int .i64 lo, .int .i64 hi] w fun e w' => e = .returned (.int .i64 (-1)) ∧ I w' := by
  have SC : Hid (Script w b off len K S P L) := hsc
  have AL : Hid (∀ W o, I W → I (W.alloc o)) := hal
  have BL : Hid (∀ W, I W → Below w.heap.size w W) := hbel
  have HP : Hid (∀ j W, j < len → lo ≤ K j → K j ≤ hi → I W → Calls Tryz.prog 8 #[.pointer (some ⟨w.heap.size, 0, none⟩), .agg #[.int .i64 (K j), .string (S j), .string (P j), L j]] W fun e w' => e = .returned (.bool true) ∧ I w') := hpl
  have HH : Hid (∀ W, I W → Calls Tryz.prog 9 #[.pointer (some ⟨w.heap.size, 0, none⟩)] W fun e w' => e = .returned (.bool true) ∧ I w') := hho
  clear hsc hal hbel hpl hho
  unfold maxLen at hlen
  go_enter Tryz.func7, Tryz.ntmps7
  go_wp2
  go_loopw [8] (fun i wr => ∃ k : Nat, k ≤ len ∧ i = .int .i64 k ∧ I wr) (fun i _ => len - (intOf i).toNat)
  case atStart => exact ⟨0, Nat.zero_le _, rfl, h0⟩
  case round =>
    obtain ⟨k, hk, rfl, hI⟩ := hrel
    by_cases hlt : k < len
    · have hb := SC.out.lt (by omega)
      have hbw := BL.out _ hI
      have q0 := (hbw.cell (p := ⟨b, off + k * 4, none⟩) hb).trans (SC.out.c0 k hlt)
      have q1 := (hbw.cell (p := ⟨b, off + k * 4 + 1, none⟩) hb).trans (SC.out.c1 k hlt)
      have q2 := (hbw.cell (p := ⟨b, off + k * 4 + 2, none⟩) hb).trans (SC.out.c2 k hlt)
      have q3 := (hbw.cell (p := ⟨b, off + k * 4 + 3, none⟩) hb).trans (SC.out.c3 k hlt)
      obtain ⟨la, ln, lc, hL⟩ := SC.out.s2 k hlt
      have HI : Hid (I wr) := hI
      have HL : Hid (L k = .slice la ln lc) := hL
      rw [hL] at q3
      clear hI hbw hL
      have hI1 : Hid (I (wr.alloc (.cells #[.int .i64 (K k), .string (S k), .string (P k), .slice la ln lc] 32))) := AL.out _ _ HI.out
      by_cases h1 : lo ≤ K k
      · by_cases h2 : K k ≤ hi
        · go_wp2_with fail
          have hp := HP.out k _ hlt h1 h2 hI1.out
          rw [HL.out] at hp
          refine hp.mono ?_
          rintro e w1 ⟨rfl, hI2⟩
          clear hp
          have HI2 : Hid (I w1) := hI2
          clear hI2
          go_wp2_with fail
          refine (HH.out _ HI2.out).mono ?_
          rintro e w2 ⟨rfl, hI3⟩
          go_wp2
          go_roundw
          case rel => exact ⟨k + 1, by omega, by go_num, hI3⟩
          case measure => simp [intOf]; omega
        · have h2' : decide (K k ≤ hi) = false := by simpa using h2
          go_wp2
          go_roundw
          case rel => exact ⟨k + 1, by omega, by go_num, hI1.out⟩
          case measure => simp [intOf]; omega
      · have h1' : decide (lo ≤ K k) = false := by simpa using h1
        go_wp2
        go_roundw
        case rel => exact ⟨k + 1, by omega, by go_num, hI1.out⟩
        case measure => simp [intOf]; omega
    · go_wp2
      go_ret
      exact ⟨rfl, hI⟩

end Go.Proofs.YtnpkambjlfkhgaaGreat
