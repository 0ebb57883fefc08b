import Derived.Test.YtdgkpkdinfklaaaXShB
import Derived.Test.YtdgkpkdinfklaaaXTuC
import Derived.Test.YtdgkpkdinfklaaaGV
namespace Go.Proofs.Ytdgkpkdinfklaaa
open Go.RowKit
theorem pick_letter (c n : Int) (h : -9223372036854775808 ≤ c ∧ c ≤ 9223372036854775807) (hn : 0 < n) (hn1 : n ≤ 1000) :
  ∃ r : Nat, (r : Int) < n ∧ ∀ wx, Calls Try.prog 14 #[.int .i64 c, .int .i64 n] wx fun e w' => e = .returned (.int .i64 r) ∧ w' = wx := by
 have hpk := pickI_bd c n hn
 obtain ⟨r, hr⟩ : ∃ r : Nat, pickI c n = r := Int.eq_ofNat_of_zero_le hpk.1
 refine ⟨r, by omega, fun wx => ?_⟩
 have := pick_any c n wx (by omega) (by omega) hn hn1
 rw [hr] at this; exact this
def gpC (a : Nat) : UInt8 := if a = 0 then 103 else 112
def xyzC (b : Nat) : UInt8 := if b = 0 then 120 else if b = 1 then 121 else 122
def lkC (k : Nat) : UInt8 := if k = 0 then 65 else if k = 1 then 66 else if k = 2 then 67 else 68
theorem gp_piece {a : Nat} (h : a < 2) : ((⟨#[103, 112]⟩ : ByteArray).extract a (a + 1)).data.toList = [gpC a] := by
 have : a = 0 ∨ a = 1 := by omega
 rcases this with rfl | rfl <;> rfl
theorem xyz_piece {b : Nat} (h : b < 3) : ((⟨#[120, 121, 122]⟩ : ByteArray).extract b (b + 1)).data.toList = [xyzC b] := by
 have : b = 0 ∨ b = 1 ∨ b = 2 := by omega
 rcases this with rfl | rfl | rfl <;> rfl
theorem lk_piece {k : Nat} (h : k < 4) : ((⟨#[65, 66, 67, 68]⟩ : ByteArray).extract k (k + 1)).data.toList = [lkC k] := by
 have : k = 0 ∨ k = 1 ∨ k = 2 ∨ k = 3 := by omega
 rcases this with rfl | rfl | rfl | rfl <;> rfl
theorem two_a (a1 b1 a2 b2 : Nat) : TwoA (gpC a1) (xyzC b1) (gpC a2) (xyzC b2) := by
 have hg : ∀ a, gpC a = 103 ∨ gpC a = 112 := fun a => by unfold gpC; split <;> simp
 have hx : ∀ b, inU [120, 121, 122] (xyzC b) = true := fun b => by
  unfold xyzC
  split
  ·rfl
  ·split <;> rfl
 exact ⟨hg _, hg _, hx _, hx _⟩
theorem meet_iff {a1 b1 a2 b2 : Nat} (h1 : a1 < 2) (h2 : b1 < 3) (h3 : a2 < 2) (h4 : b2 < 3) : Meet (gpC a1) (xyzC b1) (gpC a2) (xyzC b2) ↔ (b1 = b2 ∧ 0 < a1 + a2) := by
 have ha : a1 = 0 ∨ a1 = 1 := by omega
 have hb : a2 = 0 ∨ a2 = 1 := by omega
 have hc : b1 = 0 ∨ b1 = 1 ∨ b1 = 2 := by omega
 have hd : b2 = 0 ∨ b2 = 1 ∨ b2 = 2 := by omega
 unfold Meet
 rcases ha with rfl | rfl <;> rcases hb with rfl | rfl <;> rcases hc with rfl | rfl | rfl <;> rcases hd with rfl | rfl | rfl <;> decide
structure ShOk (p q s : ByteArray) (b : Bool) : Prop where
 gp : ∃ mp, GoodP p mp ∧ (b = true → prL (accL mp) (accL mp).length = [0, 1]) ∧ (b = false → prL (accL mp) (accL mp).length = [])
 gq : ∃ mq, GoodP q mq ∧ prL (accL mq) (accL mq).length = []
 cnt : b = true → ∀ t ch, MendOf p t ch → cntC 60 t.data.toList = 2
 race : ∀ F ts, Prog p.data.toList F ts → (runU F s.data.toList s.data.toList.length).race = if b then 2 else 0
 ps : p.size = 5
 qs : q.size = 11
 ss : s.size = 2
theorem sh_ok {a1 b1 a2 b2 k : Nat} {p q s : ByteArray} {b : Bool} (h1 : a1 < 2) (h2 : b1 < 3) (h3 : a2 < 2) (h4 : b2 < 3) (hp : p.data.toList = [gpC a1, xyzC b1, 124, gpC a2, xyzC b2])
  (hq : q.data.toList = [91, lkC k, gpC a1, xyzC b1, 93, 124, 91, lkC k, gpC a2, xyzC b2, 93]) (hs : s = ⟨#[49, 50]⟩ ∨ s = ⟨#[50, 49]⟩) (hb : b = true ↔ (b1 = b2 ∧ 0 < a1 + a2)) : ShOk p q s b := by
 have hm := meet_iff h1 h2 h3 h4
 have hT := two_a a1 b1 a2 b2
 have hbm : b = true ↔ Meet (gpC a1) (xyzC b1) (gpC a2) (xyzC b2) := hb.trans hm.symm
 have hl : inU [65, 66, 67, 68] (lkC k) = true := by
  unfold lkC
  split
  ·rfl
  ·split
   ·rfl
   ·split <;> rfl
 obtain ⟨mp, hg, hy, hn⟩ := two_good hT hp
 refine ⟨⟨mp, hg, fun h => hy (hbm.1 h), fun h => hn fun h' => by rw [hbm.2 h'] at h; cases h⟩, held_good hT hl hq, fun h t ch ho => two_mended hT hp (hbm.1 h) ho hg.no, fun F ts hpr => ?_, ?_, ?_, ?_⟩
 ·cases hbb : b with
  | true => exact two_race hT hp hs (hbm.1 hbb) hpr
  | false => exact two_norace hg (hn fun h' => by rw [hbm.2 h'] at hbb; cases hbb) hpr _ _
 ·rw [← len_eq, hp]; rfl
 ·rw [← len_eq, hq]; rfl
 ·rcases hs with rfl | rfl <;> rfl
theorem pairs_row {q : ByteArray} {mks : List MK} (hc : ChkIs q 0 0) (ha : Acc q.data.toList mks) {w w' : World} {v : Value} {a : Int} (hp : PairsIs w w' q v a) :
  a = 0 ∧ ∃ x c, v = .slice x (prL (accL mks) (accL mks).length).length c ∧ w'.ownsRow w.heap.size 3 1 (.slice x (prL (accL mks) (accL mks).length).length c) (prL (accL mks) (accL mks).length).length (idV (prL (accL mks) (accL mks).length)) := by
 obtain ⟨b, hb, hp⟩ := hp
 have ha' := (hb.unique hc).1
 subst ha'
 refine ⟨rfl, ?_⟩
 rcases hp with ⟨h0, _⟩ | ⟨_, _, mks', x, c, hacc, _, hv, hr⟩
 ·exact absurd rfl h0
 ·have e := acc_unique hacc ha
  subst e
  exact ⟨x, c, hv, hr⟩
theorem ran_shown {w w' : World} {p q : ByteArray} {e : Ending} (h : RanOut w p q e w') : ∃ F ts sd sp a3 c3 a4 n4 c4 xr ss, e = .returned (.tuple #[.agg #[.string sd, .string sp, .slice a3 3 c3, .slice a4 n4 c4, .int .i64 xr, .string ss], .bool true]) ∧ Prog p.data.toList F ts ∧
  xr = (runU F q.data.toList q.data.toList.length).race := by
 obtain ⟨F, ts, v, he, _, hp, a3, c3, a4, c4, hv, h1, h2, _⟩ := h
 subst hv
 exact ⟨F, ts, _, _, a3, c3, a4, _, c4, _, _, he, hp, rfl⟩
end Go.Proofs.Ytdgkpkdinfklaaa
