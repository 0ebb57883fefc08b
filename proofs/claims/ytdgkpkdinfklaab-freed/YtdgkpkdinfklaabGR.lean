import Derived.Test.YtdgkpkdinfklaabXKpB
namespace Go.Proofs.Ytdgkpkdinfklaab
open Go.RowKit
set_option maxHeartbeats 1600000 in
set_option maxRecDepth 100000 in
theorem kpicks_any (la : Option Addr) (ln lc : Nat) (w : World) (hi : IsInts w w.heap.size la ln) (_hl : ln ≤ maxLen) :
  Calls Try.prog 11 #[.slice la ln lc] w fun e w' => (∃ q : ByteArray, e = .returned (.string q) ∧ q.size ≤ 400) ∧ Below w.heap.size w w' := by
 obtain ⟨i0, hi0, hz0, hz1, hz2⟩ := info_parts Try.infoByteM
 unfold maxLen at _hl
 have HI : Hid (IsInts w w.heap.size la ln) := hi
 clear hi
 go_enter Try.func11, Try.ntmps11
 go_wp2
 go_loopw [3, 4] (fun v i wr => ∃ (k : Nat) (l : List UInt8), k ≤ ln ∧ k ≤ 400 ∧ i = .int .i64 k ∧ l.length = k ∧ wr.ownsRow w.heap.size 5 1 v l.length (bysV l) ∧ Below w.heap.size w wr) (fun _ i _ => 400 - (intOf i).toNat)
 case atStart => exact ⟨0, [], Nat.zero_le _, Nat.zero_le _, rfl, rfl, World.ownsRow_nil _ _ _ _, Below.refl _ _⟩
 case round =>
  obtain ⟨k, l, hk, hk4, rfl, hlk, hown, hbe⟩ := hrel
  have HO : Hid (wr.ownsRow w.heap.size 5 1 u3 l.length (bysV l)) := hown
  have HB : Hid (Below w.heap.size w wr) := hbe
  have hsz := hbe.size
  by_cases hlt : k < ln
  ·by_cases h4 : k < 400
   ·obtain ⟨b, off, rfl, hbl, hcell⟩ : ∃ b off, la = some ⟨b, off, none⟩ ∧ b < w.heap.size ∧ ∀ j, j < ln → ∃ z : Int, wr.cell? ⟨b, off + j, none⟩ = some (.int .i64 z) ∧ -9223372036854775808 ≤ z ∧ z ≤ 9223372036854775807 := by
     rcases HI.out.below hbe with h | h
     ·omega
     ·exact h
    obtain ⟨z, hz, z0, z1⟩ := hcell k hlt
    have hpk := pickI_bd z 9 (by decide)
    obtain ⟨r, hr⟩ : ∃ r : Nat, pickI z 9 = r := Int.eq_ofNat_of_zero_le hpk.1
    have hr9 : r < 9 := by omega
    have PK : Hid (∀ wx, Calls Try.prog 30 #[.int .i64 z, .int .i64 9] wx fun e w' => e = .returned (.int .i64 r) ∧ w' = wx) := fun wx => by
     have := pick_any z 9 wx (by omega) (by omega) (by decide) (by decide)
     rw [hr] at this; exact this
    obtain ⟨x, hx⟩ : ∃ x : UInt8, x = (ByteArray.mk #[49, 50, 51, 52, 49, 50, 51, 52, 48])[r]'(by show r < 9; exact hr9) := ⟨_, rfl⟩
    have hxv : (((ByteArray.mk #[49, 50, 51, 52, 49, 50, 51, 52, 48])[r]'(by show r < 9; exact hr9)).toNat : Int) = (x.toNat : Int) := by rw [hx]
    have hlen : l.length ≤ 400 := by omega
    clear hown hbe hcell hpk hr hx
    go_wp2_with fail
    refine (PK.out _).mono ?_
    rintro e w1 ⟨rfl, rfl⟩
    clear PK
    go_wp2_with (at_builtin; refine wpList_append_own _ rfl (.tmp 21) (.tmp 24) 56 rfl w.heap.size 5 i0 _ 1 1 Try.underlying56 hi0 hz0 hz1 hz2 rfl (by decide) u3 l.length (bysV l) rfl (HO.out.alloc _) ⟨w1.heap.size, 0, none⟩ 1 1 [.int .u8 x.toNat] rfl rfl ?hnews ?h1 ?h63 ?hby ?hbase ?next)
    case hnews => exact World.news_of_block (cs := #[.int .u8 x.toNat]) (t := 5) (fr := (0, 0)) (heap_alloc_new _ _)
    case h1 => intro u hu; simp at hu; subst hu; rfl
    case h63 => unfold maxLen; omega
    case hby => omega
    case hbase => simp; omega
    case next =>
     intro v' w2 hown2 hgrow _
     have B2 : Hid (Below w.heap.size w w2) := (HB.out.alloc hsz _).grown hgrow (by simp; omega) (fun q hq => (HO.out.lt q hq).1)
     have O2 : Hid (w2.ownsRow w.heap.size 5 1 v' (l ++ [x]).length (bysV (l ++ [x]))) := by
      show World.ownsRow _ _ _ _ _ _ _
      rw [bysV_append, List.length_append, hlk]; exact hown2
     clear hown2 hgrow
     go_wp2
     go_roundw
     case rel => exact ⟨k + 1, l ++ [x], by omega, by omega, by go_num, by simp [hlk], O2.out, B2.out⟩
     case measure => simp [intOf]; omega
   ·have hcv := conv_row hown
    have hle : l.length ≤ 400 := by omega
    obtain ⟨sq, hsq⟩ : ∃ s : ByteArray, s = ⟨l.toArray⟩ := ⟨_, rfl⟩
    have hsz2 : sq.size ≤ 400 := by rw [hsq]; show l.toArray.size ≤ 400; simpa using hle
    rw [← hsq] at hcv
    have e4 : decide ((k : Int) < 400) = false := decide_eq_false (by omega)
    clear hown hsq hlk hle
    go_wp2
    go_ret
    exact ⟨⟨sq, rfl, hsz2⟩, HB.out⟩
  ·have hcv := conv_row hown
   have hle : l.length ≤ 400 := by omega
   obtain ⟨sq, hsq⟩ : ∃ s : ByteArray, s = ⟨l.toArray⟩ := ⟨_, rfl⟩
   have hsz2 : sq.size ≤ 400 := by rw [hsq]; show l.toArray.size ≤ 400; simpa using hle
   rw [← hsq] at hcv
   have e4 : decide ((k : Int) < (ln : Int)) = false := decide_eq_false (by omega)
   clear hown hsq hlk hle
   go_wp2
   go_ret
   exact ⟨⟨sq, rfl, hsz2⟩, HB.out⟩
end Go.Proofs.Ytdgkpkdinfklaab

namespace Go.Proofs.Ytdgkpkdinfklaab
open Go.RowKit
structure Two (n : Nat) (d1 p1 d2 p2 : ByteArray) (r1 r2 : Int) : Prop where
 done : ∃ d, d1.data.toList = d2.data.toList ++ d
 pr : ∃ d, p1.data.toList = p2.data.toList ++ d
 race : r1 = r2 ∨ (r2 = 0 ∧ (n : Int) < r1)
 s1 : d1.size ≤ 1000
 s2 : p1.size ≤ 1000
end Go.Proofs.Ytdgkpkdinfklaab
