import Derived.Test.YtdgkpkdinfklaaaGreatGC
import Derived.Test.YtdgkpkdinfklaaaGreatGD
namespace Go.Proofs.YtdgkpkdinfklaaaGreat
open Go.RowKit
def ChkIs (s : ByteArray) (a b : Int) : Prop :=
 (240 < s.size ∧ a = 1 ∧ b = 0) ∨ (s.size ≤ 240 ∧ ((∃ q : Nat, Fail s.data.toList q ∧ a = 2 ∧ b = q) ∨ (∃ mks, Acc s.data.toList mks ∧ a = (nestOf mks).1 ∧ b = (nestOf mks).2)))
theorem ChkIs.unique {s : ByteArray} {a b a' b' : Int} (h : ChkIs s a b) (h' : ChkIs s a' b') : a = a' ∧ b = b' := by
 rcases h with ⟨h1, rfl, rfl⟩ | ⟨h1, h⟩
 ·rcases h' with ⟨_, rfl, rfl⟩ | ⟨h2, _⟩
  ·exact ⟨rfl, rfl⟩
  ·omega
 ·rcases h' with ⟨h2, _⟩ | ⟨_, h'⟩
  ·omega
  ·rcases h with ⟨q, hq, rfl, rfl⟩ | ⟨m, hm, rfl, rfl⟩
   ·rcases h' with ⟨q', hq', rfl, rfl⟩ | ⟨m', hm', _⟩
    ·rw [fail_unique hq hq']; exact ⟨rfl, rfl⟩
    ·exact (fail_not_acc hq hm').elim
   ·rcases h' with ⟨q', hq', _⟩ | ⟨m', hm', rfl, rfl⟩
    ·exact (fail_not_acc hq' hm).elim
    ·rw [acc_unique hm hm']; exact ⟨rfl, rfl⟩
theorem reach_end (p : List UInt8) : ∃ r, Reach p r ∧ (r.pl = p.length ∨ (r.pl < p.length ∧ (r.piece p).2 = false)) := by
 have key : ∀ n r, Reach p r → p.length - r.pl ≤ n → ∃ r, Reach p r ∧ (r.pl = p.length ∨ (r.pl < p.length ∧ (r.piece p).2 = false)) := by
  intro n
  induction n with
  | zero =>
   intro r hr hn
   have := hr.bd.pl
   exact ⟨r, hr, .inl (by omega)⟩
  | succ n ih =>
   intro r hr hn
   have hb := hr.bd.pl
   by_cases he : r.pl = p.length
   ·exact ⟨r, hr, .inl he⟩
   ·have hlt : r.pl < p.length := by omega
    cases hq : (r.piece p).2 with
    | false => exact ⟨r, hr, .inr ⟨hlt, hq⟩⟩
    | true =>
     have hpr := (piece_bd hr.bd hlt).2 hq
     exact ih (r.piece p).1 (.step hr hlt (by rw [← hq])) (by omega)
 exact key _ _ .start (Nat.le_refl _)
theorem chk_total (s : ByteArray) : ∃ a b, ChkIs s a b := by
 by_cases h : 240 < s.size
 ·exact ⟨1, 0, .inl ⟨h, rfl, rfl⟩⟩
 ·obtain ⟨r, hr, he | ⟨hl, hf⟩⟩ := reach_end s.data.toList
  ·by_cases ho : r.op = []
   ·exact ⟨_, _, .inr ⟨by omega, .inr ⟨_, acc_of hr he ho, rfl, rfl⟩⟩⟩
   ·exact ⟨_, _, .inr ⟨by omega, .inl ⟨_, fail_end hr he ho, rfl, rfl⟩⟩⟩
  ·exact ⟨_, _, .inr ⟨by omega, .inl ⟨_, fail_piece hr hl hf, rfl, rfl⟩⟩⟩
theorem read_any (s : ByteArray) (w : World) (hs : s.size ≤ maxLen) : Calls Tryz.prog 23 #[.string s] w fun e w' => ReadOut w s e w' := by
 by_cases h : 240 < s.size
 ·exact read_long s w h hs
 ·exact read_short s w (by omega)
def StepsOf (p : List UInt8) (F : List ST) : Prop := ∃ r, ReachT p r ∧ r.pl = p.length ∧ r.op = [] ∧ F = (r.step 9 r.pl 0 false).st
theorem end_mks (r : RT) : mksS (r.step 9 r.pl 0 false).st = r.proj.mks := by
 have := proj_step_no r 9 r.pl 0 false (by decide) (by decide) (by decide)
 exact congrArg RS.mks this
theorem StepsOf.acc {p : List UInt8} {F : List ST} (h : StepsOf p F) : Acc p (mksS F) := by
 obtain ⟨r, hr, he, ho, rfl⟩ := h
 rw [end_mks]
 exact acc_of hr.proj he (by simp [RT.proj, ho])
theorem StepsOf.len {p : List UInt8} {F : List ST} (h : StepsOf p F) : F.length ≤ p.length + 1 := by
 obtain ⟨r, hr, he, ho, rfl⟩ := h
 have := hr.bd.st
 simp [RT.step]; omega
theorem ReadOut.says {w : World} {s : ByteArray} {e : Ending} {w' : World} (h : ReadOut w s e w') : Below w.heap.size w w' ∧ ∃ v a b, e = .returned (.tuple #[v, .int .i64 a, .int .i64 b]) ∧ ChkIs s a b ∧
  ((a ≠ 0 ∧ v = .slice none 0 0) ∨ (a = 0 ∧ s.size ≤ 240 ∧ ∃ am cm F, v = .slice am F.length cm ∧ StepsOf s.data.toList F ∧ F.find? nestS = none ∧ w'.ownsRow w.heap.size 88 12 (.slice am F.length cm) F.length (stsV F))) := by
 obtain ⟨hb, h⟩ := h
 refine ⟨hb, ?_⟩
 rcases h with ⟨h1, rfl⟩ | ⟨h1, r, hr, h⟩
 ·exact ⟨_, 1, 0, rfl, .inl ⟨h1, rfl, rfl⟩, .inl ⟨by decide, rfl⟩⟩
 ·rcases h with ⟨he, ho, rfl⟩ | ⟨hl, hf, rfl⟩ | ⟨he, ho, m, hm, rfl⟩ | ⟨he, ho, hm, am, cm, rfl, hown⟩
  ·exact ⟨_, 2, _, rfl, .inr ⟨h1, .inl ⟨_, fail_end hr.proj (by rw [len_eq]; exact he) (by simpa [RT.proj] using ho), rfl, rfl⟩⟩, .inl ⟨by decide, rfl⟩⟩
  ·have hs := piece_same s.data.toList r
   have := fail_piece hr.proj (by rw [len_eq]; exact hl) (by rw [← hs.1]; exact hf)
   rw [← hs.2.1] at this
   exact ⟨_, 2, _, rfl, .inr ⟨h1, .inl ⟨_, this, rfl, rfl⟩⟩, .inl ⟨by decide, rfl⟩⟩
  ·have hst : StepsOf s.data.toList (r.step 9 r.pl 0 false).st := ⟨r, hr, by rw [len_eq]; exact he, ho, rfl⟩
   obtain ⟨k, hk, hpl⟩ := (nest_find (r.step 9 r.pl 0 false).st).2 m hm
   have hf := (nest_find (r.step 9 r.pl 0 false).st).1
   rw [hm, Option.bind_some, hk] at hf
   refine ⟨_, 3, _, rfl, .inr ⟨h1, .inr ⟨_, hst.acc, ?_, ?_⟩⟩, .inl ⟨by decide, rfl⟩⟩ <;> simp [nestOf, hf, hpl]
  ·have hst : StepsOf s.data.toList (r.step 9 r.pl 0 false).st := ⟨r, hr, by rw [len_eq]; exact he, ho, rfl⟩
   have hf := (nest_find (r.step 9 r.pl 0 false).st).1
   rw [hm, Option.bind_none] at hf
   refine ⟨_, 0, 0, rfl, .inr ⟨h1, .inr ⟨_, hst.acc, ?_, ?_⟩⟩, .inr ⟨rfl, h1, am, cm, _, rfl, hst, hm, hown⟩⟩ <;> simp [nestOf, hf]
end Go.Proofs.YtdgkpkdinfklaaaGreat

namespace Go.Proofs.YtdgkpkdinfklaaaGreat
open Go.RowKit
theorem refCheck_any (s : ByteArray) (w : World) (hs : s.size ≤ maxLen) :
  Calls Tryz.prog 14 #[.string s] w fun e w' => ∃ a b, e = .returned (.tuple #[.int .i64 a, .int .i64 b]) ∧ ChkIs s a b ∧ w' = w := by
 obtain ⟨a, b, hc⟩ := chk_total s
 have H := hc
 rcases hc with ⟨h1, rfl, rfl⟩ | ⟨h1, ⟨q, hq, rfl, rfl⟩ | ⟨m, hm, rfl, rfl⟩⟩
 ·exact (refCheck_long s w h1 hs).mono fun e w' ⟨he, hw⟩ => ⟨_, _, he, H, hw⟩
 ·exact (refCheck_fail s q w h1 hq).mono fun e w' ⟨he, hw⟩ => ⟨_, _, he, H, hw⟩
 ·exact (refCheck_acc s m w h1 hm).mono fun e w' ⟨he, hw⟩ => ⟨_, _, he, H, hw⟩
set_option maxHeartbeats 400000 in
theorem num_any (a : Int) (w : World) : Calls Tryz.prog 15 #[.int .i64 a] w fun e w' => e = .returned (.int .i64 a) ∧ w' = w := by
 go_enter Tryz.func15, Tryz.ntmps15
 go_wp2
 go_ret
 exact ⟨rfl, rfl⟩
end Go.Proofs.YtdgkpkdinfklaaaGreat

namespace Go.Proofs.YtdgkpkdinfklaaaGreat
open Go.RowKit
structure NoBook (w : World) (bk : Nat) : Prop where
 lt : bk < w.heap.size
 c0 : w.cell? ⟨bk, 0, none⟩ = some (.slice none 0 0)
 c1 : w.cell? ⟨bk, 1, none⟩ = some (.slice none 0 0)
theorem NoBook.below {w w' : World} {bk : Nat} (h : NoBook w bk) (hb : Below w.heap.size w w') : NoBook w' bk :=
 ⟨by have := hb.size; have := h.lt; omega, (hb.cell (p := ⟨bk, 0, none⟩) h.lt).trans h.c0, (hb.cell (p := ⟨bk, 1, none⟩) h.lt).trans h.c1⟩
set_option maxHeartbeats 800000 in
set_option maxRecDepth 100000 in
theorem holds_none (bk : Nat) (w : World) (h : NoBook w bk) :
  Calls Tryz.prog 12 #[.pointer (some ⟨bk, 0, none⟩)] w fun e w' => e = .returned (.bool true) ∧ w' = w := by
 obtain ⟨_, c0, c1⟩ := h
 go_enter Tryz.func12, Tryz.ntmps12
 go_wp2
 refine wp_loop_rounds 1 ?_
 rw [rounds_succ]
 go_wp2
 refine wp_loop_rounds 1 ?_
 rw [rounds_succ]
 go_wp2
 go_ret
 exact ⟨rfl, rfl⟩
structure Script (W : World) (b off len : Nat) (K : Nat → Int) (S P : Nat → ByteArray) (L : Nat → Value) : Prop where
 lt : 0 < len → b < W.heap.size
 c0 : ∀ j, j < len → W.cell? ⟨b, off + j * 4, none⟩ = some (.int .i64 (K j))
 c1 : ∀ j, j < len → W.cell? ⟨b, off + j * 4 + 1, none⟩ = some (.string (S j))
 c2 : ∀ j, j < len → W.cell? ⟨b, off + j * 4 + 2, none⟩ = some (.string (P j))
 c3 : ∀ j, j < len → W.cell? ⟨b, off + j * 4 + 3, none⟩ = some (L j)
 s0 : ∀ j, j < len → (S j).size ≤ maxLen
 s1 : ∀ j, j < len → (P j).size ≤ maxLen
 s2 : ∀ j, j < len → ∃ a n c, L j = .slice a n c
set_option maxHeartbeats 1600000 in
set_option maxRecDepth 100000 in
theorem upto_any (I : World → Prop) (b off len cap : Nat) (lo hi : Int) (K : Nat → Int) (S P : Nat → ByteArray) (L : Nat → Value) (w : World) (hlen : len ≤ maxLen) (hsc : Script w b off len K S P L)
  (h0 : I (w.alloc (.cells #[.slice none 0 0, .slice none 0 0] 29)))
  (hal : ∀ W o, I W → I (W.alloc o)) (hbel : ∀ W, I W → Below w.heap.size w W)
  (hpl : ∀ j W, j < len → lo ≤ K j → K j ≤ hi → I W → Calls Tryz.prog 11 #[.pointer (some ⟨w.heap.size, 0, none⟩), .agg #[.int .i64 (K j), .string (S j), .string (P j), L j]] W fun e w' => e = .returned (.bool true) ∧ I w')
  (hho : ∀ W, I W → Calls Tryz.prog 12 #[.pointer (some ⟨w.heap.size, 0, none⟩)] W fun e w' => e = .returned (.bool true) ∧ I w') :
  Calls Tryz.prog 10 #[.slice (some ⟨b, off, none⟩) len cap, .int .i64 lo, .int .i64 hi] w fun e w' => e = .returned (.int .i64 (-1)) ∧ I w' := by
 have SC : Hid (Script w b off len K S P L) := hsc
 have AL : Hid (∀ W o, I W → I (W.alloc o)) := hal
 have BL : Hid (∀ W, I W → Below w.heap.size w W) := hbel
 have HP : Hid (∀ j W, j < len → lo ≤ K j → K j ≤ hi → I W → Calls Tryz.prog 11 #[.pointer (some ⟨w.heap.size, 0, none⟩), .agg #[.int .i64 (K j), .string (S j), .string (P j), L j]] W fun e w' => e = .returned (.bool true) ∧ I w') := hpl
 have HH : Hid (∀ W, I W → Calls Tryz.prog 12 #[.pointer (some ⟨w.heap.size, 0, none⟩)] W fun e w' => e = .returned (.bool true) ∧ I w') := hho
 clear hsc hal hbel hpl hho
 unfold maxLen at hlen
 go_enter Tryz.func10, Tryz.ntmps10
 go_wp2
 go_loopw [8] (fun i wr => ∃ k : Nat, k ≤ len ∧ i = .int .i64 k ∧ I wr) (fun i _ => len - (intOf i).toNat)
 case atStart => exact ⟨0, Nat.zero_le _, rfl, h0⟩
 case round =>
  obtain ⟨k, hk, rfl, hI⟩ := hrel
  by_cases hlt : k < len
  ·have hb := SC.out.lt (by omega)
   have hbw := BL.out _ hI
   have q0 := (hbw.cell (p := ⟨b, off + k * 4, none⟩) hb).trans (SC.out.c0 k hlt)
   have q1 := (hbw.cell (p := ⟨b, off + k * 4 + 1, none⟩) hb).trans (SC.out.c1 k hlt)
   have q2 := (hbw.cell (p := ⟨b, off + k * 4 + 2, none⟩) hb).trans (SC.out.c2 k hlt)
   have q3 := (hbw.cell (p := ⟨b, off + k * 4 + 3, none⟩) hb).trans (SC.out.c3 k hlt)
   obtain ⟨la, ln, lc, hL⟩ := SC.out.s2 k hlt
   have HI : Hid (I wr) := hI
   have HL : Hid (L k = .slice la ln lc) := hL
   rw [hL] at q3
   clear hI hbw hL
   have hI1 : Hid (I (wr.alloc (.cells #[.int .i64 (K k), .string (S k), .string (P k), .slice la ln lc] 32))) := AL.out _ _ HI.out
   by_cases h1 : lo ≤ K k
   ·by_cases h2 : K k ≤ hi
    ·go_wp2_with fail
     have hp := HP.out k _ hlt h1 h2 hI1.out
     rw [HL.out] at hp
     refine hp.mono ?_
     rintro e w1 ⟨rfl, hI2⟩
     clear hp
     have HI2 : Hid (I w1) := hI2
     clear hI2
     go_wp2_with fail
     refine (HH.out _ HI2.out).mono ?_
     rintro e w2 ⟨rfl, hI3⟩
     go_wp2
     go_roundw
     case rel => exact ⟨k + 1, by omega, by go_num, hI3⟩
     case measure => simp [intOf]; omega
    ·have h2' : decide (K k ≤ hi) = false := by simpa using h2
     go_wp2
     go_roundw
     case rel => exact ⟨k + 1, by omega, by go_num, hI1.out⟩
     case measure => simp [intOf]; omega
   ·have h1' : decide (lo ≤ K k) = false := by simpa using h1
    go_wp2
    go_roundw
    case rel => exact ⟨k + 1, by omega, by go_num, hI1.out⟩
    case measure => simp [intOf]; omega
  ·go_wp2
   go_ret
   exact ⟨rfl, hI⟩
end Go.Proofs.YtdgkpkdinfklaaaGreat
