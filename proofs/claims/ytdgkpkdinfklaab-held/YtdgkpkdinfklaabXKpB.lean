import Derived.Test.YtdgkpkdinfklaabXKpA
import Derived.Test.YtdgkpkdinfklaabGQ
import Derived.BigRegion
namespace Go.Proofs.Ytdgkpkdinfklaab
open Go.RowKit
def RanOut (w : World) (p q : ByteArray) (e : Ending) (w' : World) : Prop :=
 ∃ F ts v, e = .returned (.tuple #[v, .bool true]) ∧ StepsOf p.data.toList F ∧ Prog p.data.toList F ts ∧ RunOut w F q.data.toList v w'
set_option maxHeartbeats 12800000 in
set_option maxRecDepth 100000 in
theorem ran_any (p q : ByteArray) (b : Int) (w : World) (hc : ChkIs p 0 b) (hp : p.size ≤ 240) (hq : q.size ≤ 400) :
  Calls Try.prog 10 #[.string p, .string q] w fun e w' => RanOut w p q e w' ∧ Below w.heap.size w w' := by
 have HC : Hid (ChkIs p 0 b) := hc
 have BE : Hid (∀ o, Below w.heap.size w (w.alloc o)) := fun o => (Below.refl _ w).alloc (Nat.le_refl _) _
 clear hc
 go_enter Try.func10, Try.ntmps10
 go_wp2_with fail
 refine (Run_any p q _ (by unfold maxLen; omega) (by unfold maxLen; omega)).mono ?_
 rintro e w1 ⟨v, a, rfl, hri, hb⟩
 obtain ⟨c, b', hc', hcase⟩ := hri
 obtain ⟨rfl, rfl⟩ := HC.out.unique hc'
 rcases hcase with ⟨h, _⟩ | ⟨_, _, h, _⟩ | ⟨_, _, _, rfl, F, ts, hst, _, hprog, hro⟩
 ·exact absurd rfl h
 ·omega
 clear hc'
 obtain ⟨sd, sp, x3, x4, xr, ss, hv2, ⟨a3, c3, rfl⟩, ⟨a4, n4, c4, rfl, hn4⟩, hsd, hr0, hr1⟩ : ∃ (sd sp : ByteArray) (x3 x4 : Value) (xr : Int) (ss : ByteArray), v = .agg #[.string sd, .string sp, x3, x4, .int .i64 xr, .string ss] ∧ (∃ a c, x3 = .slice a 3 c) ∧ (∃ a n c, x4 = .slice a n c ∧ n = (splitBar p.data.toList).length) ∧ sd.size = q.size ∧ 0 ≤ xr ∧ xr ≤ q.size := by
  obtain ⟨a3, c3, a4, c4, e, _⟩ := hro
  refine ⟨_, _, _, _, _, _, e, ⟨_, _, rfl⟩, ⟨_, _, _, rfl, hprog.count _ _⟩, ?_, ?_, ?_⟩
  ·have := runU_len F q.data.toList q.data.toList.length (Nat.le_refl _)
   show (List.toArray _).size = _
   rw [List.size_toArray, this, len_eq]
  ·exact (runU_race F q.data.toList q.data.toList.length).1
  ·have := (runU_race F q.data.toList q.data.toList.length).2
   rw [len_eq] at this
   exact this
 have HV : Hid (v = .agg #[.string sd, .string sp, .slice a3 3 c3, .slice a4 n4 c4, .int .i64 xr, .string ss]) := hv2
 have HRO : Hid (RunOut (w.alloc (.cells #[.string ⟨#[]⟩, .string ⟨#[]⟩, .slice none 0 0, .slice none 0 0, .int .i64 0, .string ⟨#[]⟩] 27)) F q.data.toList v w1) := hro
 have HST : Hid (StepsOf p.data.toList F ∧ Prog p.data.toList F ts) := ⟨hst, hprog⟩
 have TH : Hid (∀ w' : World, Calls Try.prog 29 #[.string p] w' fun e w'' => e = .returned (.int .i64 n4) ∧ w'' = w') := fun w' => by rw [hn4]; exact kthreads_any p w' (by omega)
 have RB := (Blk.new (w := w) (l := [.string ⟨#[]⟩, .string ⟨#[]⟩, .slice none 0 0, .slice none 0 0, .int .i64 0, .string ⟨#[]⟩]) (ty := 27)).chg (chg_of_below hb []) (by simp)
 have hw1 : w.heap.size + 1 ≤ w1.heap.size := by have := hb.size; simp at this; exact this
 have HB1 : Hid (Below w.heap.size w w1) := (BE.out _).trans (hb.mono (by simp))
 rw [hv2]
 clear hb hro hst hprog hv2 hn4
 go_wp2_with fail
 refine (TH.out _).mono ?_
 rintro e w2 ⟨rfl, rfl⟩
 clear TH
 obtain ⟨V, hV⟩ : ∃ V : World, V = w1.alloc (.cells #[.string sd, .string sp, .slice a3 3 c3, .slice a4 n4 c4, .int .i64 xr, .string ss] 27) := ⟨_, rfl⟩
 have VL : Blk V w1.heap.size [.string sd, .string sp, .slice a3 3 c3, .slice a4 n4 c4, .int .i64 xr, .string ss] 27 := by rw [hV]; exact Blk.new
 have VR : Blk V w.heap.size [.string ⟨#[]⟩, .string ⟨#[]⟩, .slice none 0 0, .slice none 0 0, .int .i64 0, .string ⟨#[]⟩] 27 := by rw [hV]; exact RB.alloc _
 have VC : Hid (Chg [] w1 V) := by rw [hV]; exact (Chg.refl _ w1).alloc _
 rw [← hV]
 clear hV RB
 have l0 := VL.cell 0 _ rfl
 have l1 := VL.cell 1 _ rfl
 have l2 := VL.cell 2 _ rfl
 have l3 := VL.cell 3 _ rfl
 have l4 := VL.cell 4 _ rfl
 have l5 := VL.cell 5 _ rfl
 have z0 := VR.cell 0 _ rfl
 have z1 := VR.cell 1 _ rfl
 have z2 := VR.cell 2 _ rfl
 have z3 := VR.cell 3 _ rfl
 have z4 := VR.cell 4 _ rfl
 have z5 := VR.cell 5 _ rfl
 have f0 := VR.fz 0
 have f1 := VR.fz 1
 have f2 := VR.fz 2
 have f3 := VR.fz 3
 have f4 := VR.fz 4
 have f5 := VR.fz 5
 obtain ⟨WS, hWS⟩ : ∃ WS : World, WS = ((((((V.setCell ⟨w.heap.size, 0, none⟩ (.string sd)).setCell ⟨w.heap.size, 1, none⟩ (.string sp)).setCell ⟨w.heap.size, 2, none⟩ (.slice a3 3 c3)).setCell ⟨w.heap.size, 3, none⟩ (.slice a4 n4 c4)).setCell ⟨w.heap.size, 4, none⟩ (.int .i64 xr)).setCell ⟨w.heap.size, 5, none⟩ (.string ss)).drew := ⟨_, rfl⟩
 have WB : Hid (Blk WS w.heap.size [.string sd, .string sp, .slice a3 3 c3, .slice a4 n4 c4, .int .i64 xr, .string ss] 27) := by
  have := (((((VR.set 0 (.string sd)).set 1 (.string sp)).set 2 (.slice a3 3 c3)).set 3 (.slice a4 n4 c4)).set 4 (.int .i64 xr)).set 5 (.string ss)
  show Blk WS _ _ _
  rw [hWS]; exact this.drew
 have WCh : Chg [w.heap.size] V WS := by
  rw [hWS]
  exact ((((((((Chg.refl [w.heap.size] V).set (a := ⟨w.heap.size, 0, none⟩) (.inl (by simp)) _).set (a := ⟨w.heap.size, 1, none⟩) (.inl (by simp)) _).set (a := ⟨w.heap.size, 2, none⟩) (.inl (by simp)) _).set (a := ⟨w.heap.size, 3, none⟩) (.inl (by simp)) _).set (a := ⟨w.heap.size, 4, none⟩) (.inl (by simp)) _).set (a := ⟨w.heap.size, 5, none⟩) (.inl (by simp)) _)).drew
 have OUT : Hid (RanOut w p q (.returned (.tuple #[v, .bool true])) WS) := by
  refine ⟨F, ts, v, rfl, HST.out.1, HST.out.2, ?_⟩
  obtain ⟨b3, d3, b4, d4, e, r1, r2, r3⟩ := HRO.out
  have hws : (w.alloc (.cells #[.string ⟨#[]⟩, .string ⟨#[]⟩, .slice none 0 0, .slice none 0 0, .int .i64 0, .string ⟨#[]⟩] 27)).heap.size = w.heap.size + 1 := by simp
  rw [hws] at r1 r2
  refine ⟨b3, d3, b4, d4, e, row_lower (row_chg (row_chg r1 VC.out (by simp)) WCh (fun g hg => ?_)) (by omega), row_lower (row_chg (row_chg r2 VC.out (by simp)) WCh (fun g hg => ?_)) (by omega), r3⟩
  ·have := (r1.lt g hg).1
   simp; omega
  ·have := (r2.lt g hg).1
   simp; omega
 have BW : Hid (Below w.heap.size w WS) := (HB1.out.trans (VC.out.below (B := w.heap.size) (by simp) (by omega))).trans (WCh.below (B := w.heap.size) (by simp) (by have := VR.lt; omega))
 have HW : Hid (WS = ((((((V.setCell ⟨w.heap.size, 0, none⟩ (.string sd)).setCell ⟨w.heap.size, 1, none⟩ (.string sp)).setCell ⟨w.heap.size, 2, none⟩ (.slice a3 3 c3)).setCell ⟨w.heap.size, 3, none⟩ (.slice a4 n4 c4)).setCell ⟨w.heap.size, 4, none⟩ (.int .i64 xr)).setCell ⟨w.heap.size, 5, none⟩ (.string ss)).drew) := hWS
 have b1 : ((sd.size : Int) == (q.size : Int)) = true := by rw [hsd]; simp
 have hne : w1.heap.size ≠ w.heap.size := by omega
 clear VL VR WCh hWS HRO HST VC HB1 HC BE
 go_wp2
 go_region
 all_goals
  go_wp2
  (try simp only [Exit.inBlock, Exit.then])
  rw [← HW.out]
  refine bodyPost_ret (v := .tuple #[.agg #[.string sd, .string sp, .slice a3 3 c3, .slice a4 n4 c4, .int .i64 xr, .string ss], .bool true]) ?_ rfl ⟨by rw [← HV.out]; exact OUT.out, BW.out⟩
  have y0 := WB.out.cell 0 _ rfl
  have y1 := WB.out.cell 1 _ rfl
  have y2 := WB.out.cell 2 _ rfl
  have y3 := WB.out.cell 3 _ rfl
  have y4 := WB.out.cell 4 _ rfl
  have y5 := WB.out.cell 5 _ rfl
  rw [results_cell_tmp rfl]
  go_simp
end Go.Proofs.Ytdgkpkdinfklaab
