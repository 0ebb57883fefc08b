import Derived.Test.YtdgkpkdinfklaaaXShC
import Derived.Deep.DeepCutAuto
namespace Go.Proofs.Ytdgkpkdinfklaaa
open Go.RowKit Go.BigFrame
theorem one_cat {A B : ByteArray} {a b : UInt8} (ha : A.data.toList = [a]) (hb : B.data.toList = [b]) : (A ++ B).data.toList = [a, b] := by
 rw [cat_data, ha, hb]; rfl
set_option maxHeartbeats 12800000 in
set_option maxRecDepth 100000 in
theorem kshown_any (z0 z1 z2 z3 z4 z5 : Int) (w : World) (h0 : -9223372036854775808 ≤ z0 ∧ z0 ≤ 9223372036854775807) (h1 : -9223372036854775808 ≤ z1 ∧ z1 ≤ 9223372036854775807) (h2 : -9223372036854775808 ≤ z2 ∧ z2 ≤ 9223372036854775807)
  (h3 : -9223372036854775808 ≤ z3 ∧ z3 ≤ 9223372036854775807) (h4 : -9223372036854775808 ≤ z4 ∧ z4 ≤ 9223372036854775807) (h5 : -9223372036854775808 ≤ z5 ∧ z5 ≤ 9223372036854775807) :
  Calls Try.prog 7 #[.int .i64 z0, .int .i64 z1, .int .i64 z2, .int .i64 z3, .int .i64 z4, .int .i64 z5] w fun e w' => e = .returned (.bool true) ∧ Below w.heap.size w w' := by
 obtain ⟨a1, ha1, pa1⟩ := pick_letter z0 2 h0 (by decide) (by decide)
 obtain ⟨a2, ha2, pa2⟩ := pick_letter z1 2 h1 (by decide) (by decide)
 obtain ⟨b1, hb1, pb1⟩ := pick_letter z2 3 h2 (by decide) (by decide)
 obtain ⟨b2, hb2, pb2⟩ := pick_letter z3 3 h3 (by decide) (by decide)
 obtain ⟨tn, htn, pt⟩ := pick_letter z4 2 h4 (by decide) (by decide)
 obtain ⟨k, hk, pk⟩ := pick_letter z5 4 h5 (by decide) (by decide)
 have PA1 : Hid (∀ wx, Calls Try.prog 14 #[.int .i64 z0, .int .i64 2] wx fun e w' => e = .returned (.int .i64 a1) ∧ w' = wx) := pa1
 have PA2 : Hid (∀ wx, Calls Try.prog 14 #[.int .i64 z1, .int .i64 2] wx fun e w' => e = .returned (.int .i64 a2) ∧ w' = wx) := pa2
 have PB1 : Hid (∀ wx, Calls Try.prog 14 #[.int .i64 z2, .int .i64 3] wx fun e w' => e = .returned (.int .i64 b1) ∧ w' = wx) := pb1
 have PB2 : Hid (∀ wx, Calls Try.prog 14 #[.int .i64 z3, .int .i64 3] wx fun e w' => e = .returned (.int .i64 b2) ∧ w' = wx) := pb2
 have PT : Hid (∀ wx, Calls Try.prog 14 #[.int .i64 z4, .int .i64 2] wx fun e w' => e = .returned (.int .i64 tn) ∧ w' = wx) := pt
 have PK : Hid (∀ wx, Calls Try.prog 14 #[.int .i64 z5, .int .i64 4] wx fun e w' => e = .returned (.int .i64 k) ∧ w' = wx) := pk
 clear h0 h1 h2 h3 h4 h5 pa1 pa2 pb1 pb2 pt pk
 have HA1 : Hid (a1 < 2) := by show a1 < 2; omega
 have HA2 : Hid (a2 < 2) := by show a2 < 2; omega
 have HB1 : Hid (b1 < 3) := by show b1 < 3; omega
 have HB2 : Hid (b2 < 3) := by show b2 < 3; omega
 have ha1n : (a1 : Int) + 1 ≤ 2 := by omega
 have hb1n : (b1 : Int) + 1 ≤ 3 := by omega
 have ha2n : (a2 : Int) + 1 ≤ 2 := by omega
 have hb2n : (b2 : Int) + 1 ≤ 3 := by omega
 have hkn : (k : Int) + 1 ≤ 4 := by omega
 go_enter Try.func7, Try.ntmps7
 go_wp2_with fail
 refine (PK.out _).mono ?_
 rintro e w1 ⟨rfl, rfl⟩
 go_wp2_with fail
 refine wp_region_quiet_lit (by kernel_rfl) (by kernel_rfl) ?_
 iterate 6 (go_big_quiet_step ((go_at_call 14; exact Calls.quiet_of_same (PA1.out _))))
 iterate 8 (go_big_quiet_step ((go_at_call 14; exact Calls.quiet_of_same (PB1.out _))))
 refine wpQuiet_nil ?_
 intro _ hw'
 obtain ⟨nq, hw''⟩ := hw'
 subst hw''
 obtain ⟨A, hA⟩ : ∃ A : ByteArray, A = (⟨#[103, 112]⟩ : ByteArray).extract a1 (a1 + 1) ++ (⟨#[120, 121, 122]⟩ : ByteArray).extract b1 (b1 + 1) := ⟨_, rfl⟩
 rw [← hA]
 have HA : Hid (A.data.toList = [gpC a1, xyzC b1]) := by
  show _ = _
  rw [hA]; exact one_cat (gp_piece HA1.out) (xyz_piece HB1.out)
 obtain ⟨w2, hw2⟩ : ∃ w2, w2 = w1.drewN nq := ⟨_, rfl⟩
 have B2 : Hid (Below w1.heap.size w1 w2) := by show Below _ _ _; rw [hw2]; exact below_drewN' _ _ _
 rw [← hw2]
 clear hw2 hA
 go_wp2_with fail
 refine wp_region_quiet_lit (by kernel_rfl) (by kernel_rfl) ?_
 iterate 6 (go_big_quiet_step ((go_at_call 14; exact Calls.quiet_of_same (PA2.out _))))
 iterate 8 (go_big_quiet_step ((go_at_call 14; exact Calls.quiet_of_same (PB2.out _))))
 refine wpQuiet_nil ?_
 intro _ hw'
 obtain ⟨nr, hw''⟩ := hw'
 subst hw''
 obtain ⟨B, hB⟩ : ∃ B : ByteArray, B = (⟨#[103, 112]⟩ : ByteArray).extract a2 (a2 + 1) ++ (⟨#[120, 121, 122]⟩ : ByteArray).extract b2 (b2 + 1) := ⟨_, rfl⟩
 rw [← hB]
 have HB : Hid (B.data.toList = [gpC a2, xyzC b2]) := by
  show _ = _
  rw [hB]; exact one_cat (gp_piece HA2.out) (xyz_piece HB2.out)
 obtain ⟨w3, hw3⟩ : ∃ w3, w3 = w2.drewN nr := ⟨_, rfl⟩
 have B3 : Hid (Below w1.heap.size w1 w3) := by show Below _ _ _; rw [hw3]; exact B2.out.trans (below_drewN' _ _ _)
 rw [← hw3]
 clear hw3 hB B2
 have hAs : A.size = 2 := by rw [← len_eq, HA.out]; rfl
 have hBs : B.size = 2 := by rw [← len_eq, HB.out]; rfl
 have HLK : Hid (((⟨#[65, 66, 67, 68]⟩ : ByteArray).extract k (k + 1)).data.toList = [lkC k]) := lk_piece (by omega)
 have hls : ((⟨#[65, 66, 67, 68]⟩ : ByteArray).extract k (k + 1)).size = 1 := by rw [← len_eq, HLK.out]; rfl
 -- the picks
 obtain ⟨s, hs, hcell⟩ : ∃ s : ByteArray, (s = ⟨#[49, 50]⟩ ∨ s = ⟨#[50, 49]⟩) ∧ ∀ ty, (w3.alloc (.cells #[.string ⟨#[49, 50]⟩, .string ⟨#[50, 49]⟩] ty)).cell? ⟨w3.heap.size, tn, none⟩ = some (.string s) := by
  have e : tn = 0 ∨ tn = 1 := by omega
  rcases e with rfl | rfl
  ·exact ⟨_, .inl rfl, fun ty => by rw [World.cell?_alloc_at _ _ _ _ rfl]; rfl⟩
  ·exact ⟨_, .inr rfl, fun ty => by rw [World.cell?_alloc_at _ _ _ _ rfl]; rfl⟩
 have HS : Hid (s = ⟨#[49, 50]⟩ ∨ s = ⟨#[50, 49]⟩) := hs
 have hc9 := hcell 9
 have B4 : Hid (∀ o, Below w1.heap.size w1 (w3.alloc o)) := fun o => B3.out.alloc B3.out.size o
 clear hs hcell
 go_wp2_with fail
 refine (PT.out _).mono ?_
 rintro e w4 ⟨rfl, rfl⟩
 go_upto_region 8 with fail
 obtain ⟨p, hp⟩ : ∃ p : ByteArray, p = A ++ ⟨#[124]⟩ ++ B := ⟨_, rfl⟩
 obtain ⟨q, hq⟩ : ∃ q : ByteArray, q = ⟨#[91]⟩ ++ (⟨#[65, 66, 67, 68]⟩ : ByteArray).extract k (k + 1) ++ A ++ ⟨#[93, 124]⟩ ++ (⟨#[91]⟩ ++ (⟨#[65, 66, 67, 68]⟩ : ByteArray).extract k (k + 1)) ++ B ++ ⟨#[93]⟩ := ⟨_, rfl⟩
 rw [← hp, ← hq]
 obtain ⟨b, hb⟩ : ∃ b : Bool, b = true ↔ (b1 = b2 ∧ 0 < a1 + a2) := ⟨decide (b1 = b2 ∧ 0 < a1 + a2), by simp⟩
 have HOK : Hid (ShOk p q s b) := by
  refine sh_ok (k := k) HA1.out HB1.out HA2.out HB2.out ?_ ?_ HS.out hb
  ·rw [hp, cat_data, cat_data, HA.out, HB.out]; rfl
  ·rw [hq]
   simp only [cat_data, HA.out, HB.out, HLK.out]; rfl
 have HBB : Hid (b = true ↔ (b1 = b2 ∧ 0 < a1 + a2)) := hb
 obtain ⟨w4, hw4⟩ : ∃ w4, w4 = w3.alloc (.cells #[.string ⟨#[49, 50]⟩, .string ⟨#[50, 49]⟩] 9) := ⟨_, rfl⟩
 have B5 : Hid (Below w1.heap.size w1 w4) := by show Below _ _ _; rw [hw4]; exact B4.out _
 rw [← hw4]
 clear hw4 hp hq hb hc9 B4 B3 HS HLK hls HA HB hAs hBs
 go_cut [20] (fun v wx => v = .bool b ∧ wx = w4)
 case first =>
  go_wp2_with fail
  refine (PB1.out _).mono ?_
  rintro e wx ⟨rfl, rfl⟩
  go_wp2_with fail
  refine (PB2.out _).mono ?_
  rintro e wx ⟨rfl, rfl⟩
  by_cases e1 : b1 = b2
  ·have e2 : ((b1 : Int) == (b2 : Int)) = true := by simp; omega
   go_wp2_with fail
   refine (PA1.out _).mono ?_
   rintro e wx ⟨rfl, rfl⟩
   go_wp2_with fail
   refine (PA2.out _).mono ?_
   rintro e wx ⟨rfl, rfl⟩
   have hbd : decide (0 < (a1 : Int) + (a2 : Int)) = b := by
    rw [Bool.eq_iff_iff, HBB.out]
    simp [e1]; omega
   go_wp2
   go_meet
   exact ⟨rfl, rfl⟩
  ·have e2 : ((b1 : Int) == (b2 : Int)) = false := by simp; omega
   have hbf : b = false := by
    cases hb : b with
    | false => rfl
    | true => exact absurd (HBB.out.1 hb).1 e1
   go_wp2
   go_meet
   exact ⟨by rw [hbf], rfl⟩
 case rest =>
  obtain ⟨rfl, rfl⟩ := hcut
  have hps := HOK.out.ps
  have hqs := HOK.out.qs
  have hss := HOK.out.ss
  obtain ⟨mp, hgp, hyes, hno⟩ := HOK.out.gp
  obtain ⟨mq, hgq, hnone⟩ := HOK.out.gq
  have HGP : Hid (GoodP p mp) := hgp
  have HGQ : Hid (GoodP q mq) := hgq
  have HY : Hid (b = true → prL (accL mp) (accL mp).length = [0, 1]) := hyes
  have HNO : Hid (b = false → prL (accL mp) (accL mp).length = []) := hno
  have HNQ : Hid (prL (accL mq) (accL mq).length = []) := hnone
  clear hgp hgq hyes hno hnone
  go_wp2_with fail
  refine (ran_any p s 0 _ HGP.out.chk (by omega) (by omega)).mono ?_
  rintro e w5 ⟨hro, b5⟩
  obtain ⟨F, ts, sd, sp, a3, c3, a4, n4, c4, r, ss, rfl, hprog, hr⟩ := ran_shown hro
  have HR : Hid (r = if b then 2 else 0) := by show _ = _; rw [hr, HOK.out.race F ts hprog]
  have C5 : Hid (Below w1.heap.size w1 w5) := B5.out.trans (b5.mono B5.out.size)
  have hw5 := C5.out.size
  have C5A : Hid (∀ o, Below w1.heap.size w1 (w5.alloc o)) := fun o => C5.out.alloc hw5 o
  have L5 : Hid (Blk (w5.alloc (.cells #[.string sd, .string sp, .slice a3 3 c3, .slice a4 n4 c4, .int .i64 r, .string ss] 36)) w5.heap.size [.string sd, .string sp, .slice a3 3 c3, .slice a4 n4 c4, .int .i64 r, .string ss] 36) := Blk.new
  clear hro hprog hr b5
  go_wp2_with fail
  refine (Repair_any p _ (by unfold maxLen; omega)).mono ?_
  rintro e w6 ⟨c, t, x, rfl, ⟨hre, _⟩, b6⟩
  obtain ⟨rfl, ch, hmo, hcase⟩ := HGP.out.rep hre
  have HMO : Hid (MendOf p t ch) := hmo
  have HCA : Hid ((prL (accL mp) (accL mp).length = [] ∧ c = 1 ∧ t = p) ∨ (prL (accL mp) (accL mp).length ≠ [] ∧ c = 2 ∧ t ≠ p)) := hcase
  have hts := hmo.size
  have C6 : Hid (Below w1.heap.size w1 w6) := (C5A.out _).trans (b6.mono (C5A.out _).size)
  have L6 : Hid (Blk w6 w5.heap.size [.string sd, .string sp, .slice a3 3 c3, .slice a4 n4 c4, .int .i64 r, .string ss] 36) := L5.out.chg (chg_of_below b6 []) (by simp)
  clear hre hmo hcase b6 L5 C5 C5A hw5
  go_wp2_with fail
  refine (Pairs_any p _ (by unfold maxLen; omega)).mono ?_
  rintro e w7 ⟨v, a, rfl, hpi, b7⟩
  obtain ⟨rfl, xl, cl, rfl, hrow⟩ := pairs_row HGP.out.chk HGP.out.acc hpi
  obtain ⟨l, hl⟩ : ∃ l, l = prL (accL mp) (accL mp).length := ⟨_, rfl⟩
  obtain ⟨n, hn⟩ : ∃ n, n = l.length := ⟨_, rfl⟩
  have HL : Hid (l = prL (accL mp) (accL mp).length) := hl
  have HN : Hid (n = l.length) := hn
  have ROW7 : Hid (w7.ownsRow w6.heap.size 3 1 (.slice xl n cl) n (idV l)) := by rw [hn, hl]; exact hrow
  rw [← hl, ← hn]
  have C7 : Hid (Below w1.heap.size w1 w7) := C6.out.trans (b7.mono C6.out.size)
  have L7 : Hid (Blk w7 w5.heap.size [.string sd, .string sp, .slice a3 3 c3, .slice a4 n4 c4, .int .i64 r, .string ss] 36) := L6.out.chg (chg_of_below b7 []) (by simp)
  clear hpi hrow hl hn b7 L6 C6
  go_wp2_with fail
  refine (ran_any q ⟨#[49, 49, 49, 50, 50, 50]⟩ 0 _ HGQ.out.chk (by omega) (by decide)).mono ?_
  rintro e w8 ⟨hro, b8⟩
  obtain ⟨F, ts, sd2, sp2, a32, c32, a42, n42, c42, r2, ss2, rfl, hprog, hr⟩ := ran_shown hro
  have e2 : r2 = 0 := by rw [hr]; exact two_norace HGQ.out HNQ.out hprog _ _
  subst e2
  have C8 : Hid (Below w1.heap.size w1 w8) := C7.out.trans (b8.mono C7.out.size)
  have hw8 := C8.out.size
  have C8A : Hid (∀ o, Below w1.heap.size w1 (w8.alloc o)) := fun o => C8.out.alloc hw8 o
  have L8 : Hid (∀ o, Blk (w8.alloc o) w5.heap.size [.string sd, .string sp, .slice a3 3 c3, .slice a4 n4 c4, .int .i64 r, .string ss] 36) := fun o =>
   (L7.out.chg (chg_of_below b8 []) (by simp)).chg (chg_of_below ((Below.refl w8.heap.size w8).alloc (Nat.le_refl _) o) []) (by simp)
  have M8 : Hid (Blk (w8.alloc (.cells #[.string sd2, .string sp2, .slice a32 3 c32, .slice a42 n42 c42, .int .i64 0, .string ss2] 36)) w8.heap.size [.string sd2, .string sp2, .slice a32 3 c32, .slice a42 n42 c42, .int .i64 0, .string ss2] 36) := Blk.new
  have ROW8 : Hid (∀ o, (w8.alloc o).ownsRow w6.heap.size 3 1 (.slice xl n cl) n (idV l)) := fun o => (ownsRow_later ROW7.out b8).alloc o
  clear hro hprog hr b8 ROW7 L7 C7
  go_wp2_with fail
  refine (Repair_any q _ (by unfold maxLen; omega)).mono ?_
  rintro e w9 ⟨d, u, x, rfl, ⟨hre, _⟩, b9⟩
  obtain ⟨rfl, rfl, rfl⟩ : x = 0 ∧ d = 1 ∧ u = q := by
   obtain ⟨e0, ch', _, hcase⟩ := HGQ.out.rep hre
   rcases hcase with ⟨_, h1, h2⟩ | ⟨h1, _⟩
   ·exact ⟨e0, h1, h2⟩
   ·exact absurd HNQ.out h1
  have C9 : Hid (Below w1.heap.size w1 w9) := (C8A.out _).trans (b9.mono (C8A.out _).size)
  have L9 : Hid (Blk w9 w5.heap.size [.string sd, .string sp, .slice a3 3 c3, .slice a4 n4 c4, .int .i64 r, .string ss] 36) := (L8.out _).chg (chg_of_below b9 []) (by simp)
  have M9 : Hid (Blk w9 w8.heap.size [.string sd2, .string sp2, .slice a32 3 c32, .slice a42 n42 c42, .int .i64 0, .string ss2] 36) := M8.out.chg (chg_of_below b9 []) (by simp)
  have ROW9 : Hid (w9.ownsRow w6.heap.size 3 1 (.slice xl n cl) n (idV l)) := ownsRow_later (ROW8.out _) b9
  clear hre b9 L8 M8 ROW8 C8 C8A hw8
  go_wp2_with fail
  refine (Pairs_any u _ (by unfold maxLen; omega)).mono ?_
  rintro e w10 ⟨v, a, rfl, hpi, b10⟩
  obtain ⟨rfl, xm, cm, rfl, _⟩ := pairs_row HGQ.out.chk HGQ.out.acc hpi
  rw [HNQ.out]
  have C10 : Hid (Below w1.heap.size w1 w10) := C9.out.trans (b10.mono C9.out.size)
  have hw10 := C10.out.size
  have L10 : Hid (Blk w10 w5.heap.size [.string sd, .string sp, .slice a3 3 c3, .slice a4 n4 c4, .int .i64 r, .string ss] 36) := L9.out.chg (chg_of_below b10 []) (by simp)
  have M10 : Hid (Blk w10 w8.heap.size [.string sd2, .string sp2, .slice a32 3 c32, .slice a42 n42 c42, .int .i64 0, .string ss2] 36) := M9.out.chg (chg_of_below b10 []) (by simp)
  have ROW10 : Hid (w10.ownsRow w6.heap.size 3 1 (.slice xl n cl) n (idV l)) := ownsRow_later ROW9.out b10
  clear hpi b10 L9 M9 ROW9 C9
  have m4 := M10.out.cell 4 _ rfl
  have l4 := L10.out.cell 4 _ rfl
  cases hb : b with
  | false =>
   have hl0 : prL (accL mp) (accL mp).length = [] := HNO.out hb
   obtain ⟨rfl, rfl⟩ : c = 1 ∧ t = p := by
    rcases HCA.out with ⟨_, h1, h2⟩ | ⟨h1, _⟩
    ·exact ⟨h1, h2⟩
    ·exact absurd hl0 h1
   have hr0 : r = 0 := by rw [HR.out, hb]; rfl
   have hn0 : n = 0 := by rw [HN.out, HL.out, hl0]; rfl
   subst hr0 hn0
   clear hl0 hb HY HNO HNQ HCA HR HN HL HOK HBB
   go_wp2
   go_ret
   exact ⟨rfl, C10.out⟩
  | true =>
   have hl1 : prL (accL mp) (accL mp).length = [0, 1] := HY.out hb
   have hc2 : c = 2 := by
    rcases HCA.out with ⟨h1, _⟩ | ⟨_, h1, _⟩
    ·rw [hl1] at h1; cases h1
    ·exact h1
   have hr2 : r = 2 := by rw [HR.out, hb]; rfl
   have hl2 : l = [0, 1] := by rw [HL.out, hl1]
   have hn2 : n = 2 := by rw [HN.out, hl2]; rfl
   have hcnt : cntC 60 t.data.toList = 2 := HOK.out.cnt hb t ch HMO.out
   subst hc2 hr2 hl2 hn2
   have KC : Hid (∀ W, Calls Try.prog 23 #[.string t, .int .u8 60] W fun e w' => e = .returned (.int .i64 2) ∧ w' = W) := fun W => by
    have := kcount_any t 60 W (by omega)
    rw [hcnt] at this; exact this
   have KS : Hid (∀ cs : Array Value, cs = #[.int .i64 0, .int .i64 1] → Calls Try.prog 22 #[.slice xl 2 cl, .slice (some ⟨w10.heap.size, 0, none⟩) 2 2] (w10.alloc (.cells cs 3)) fun e w' => e = .returned (.bool true) ∧ ∃ k, w' = (w10.alloc (.cells cs 3)).drewN k) := fun cs hcs => by
    refine ksame_any w6.heap.size 0 xl (some ⟨w10.heap.size, 0, none⟩) cl 2 2 [0, 1] _ rfl (ROW10.out.alloc _) ?_ (by decide)
    rw [hcs]
    exact World.ownsRow_lit w10 #[.int .i64 0, .int .i64 1] 2 (Nat.zero_le _) (by unfold maxLen; omega) rfl
   have CA : Hid (∀ o k, Below w1.heap.size w1 ((w10.alloc o).drewN k)) := fun o k => (C10.out.alloc hw10 o).trans (below_drewN' _ _ _)
   have LA : Hid (∀ o, Blk (w10.alloc o) w5.heap.size [.string sd, .string sp, .slice a3 3 c3, .slice a4 n4 c4, .int .i64 2, .string ss] 36) := fun o =>
    L10.out.chg (chg_of_below ((Below.refl w10.heap.size w10).alloc (Nat.le_refl _) o) []) (by simp)
   clear hl1 hb HY HNO HNQ HCA HR HN HL HOK HBB hcnt
   go_wp2_with fail
   refine (KS.out _ rfl).mono ?_
   rintro e w11 ⟨rfl, k11, rfl⟩
   have l5 := (LA.out (.cells #[.int .i64 0, .int .i64 1] 3)).cell 4 _ rfl
   go_wp2_with (go_at_call 23; refine (KC.out _).mono ?_; rintro e w' ⟨rfl, rfl⟩)
   go_ret
   exact ⟨rfl, CA.out _ _⟩
end Go.Proofs.Ytdgkpkdinfklaaa
