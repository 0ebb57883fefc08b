import Derived.Test.YtdgkpkdinfklaabGKQ
import Derived.Deep.RegionHeld
namespace Go.Proofs.Ytdgkpkdinfklaab
open Go.RowKit

theorem ran_more {w w' : World} {p q : ByteArray} {e : Ending} (h : RanOut w p q e w') : ∃ F ts sd sp a3 c3 a4 n4 c4 xr ss, e = .returned (.tuple #[.agg #[.string sd, .string sp, .slice a3 3 c3, .slice a4 n4 c4, .int .i64 xr, .string ss], .bool true]) ∧ Prog p.data.toList F ts ∧
    (sd = ⟨(runU F q.data.toList q.data.toList.length).done.toArray⟩ ∧ sp = ⟨(runU F q.data.toList q.data.toList.length).c.pr.toArray⟩ ∧ xr = (runU F q.data.toList q.data.toList.length).race ∧ ss = ⟨(stuckM F (runU F q.data.toList q.data.toList.length).c.lk (runU F q.data.toList q.data.toList.length).ths).toArray⟩ ∧ n4 = (runU F q.data.toList q.data.toList.length).ths.length) ∧
    w'.ownsRow w.heap.size 3 1 (.slice a3 3 c3) 3 (intsV ((runU F q.data.toList q.data.toList.length).c.gl.map (·.val))) ∧
    w'.ownsRow w.heap.size 3 1 (.slice a4 n4 c4) n4 (intsV ((runU F q.data.toList q.data.toList.length).ths.map (·.reg))) := by
  obtain ⟨F, ts, v, he, _, hp, a3, c3, a4, c4, hv, h1, h2, _⟩ := h
  subst hv
  exact ⟨F, ts, _, _, a3, c3, a4, _, c4, _, _, he, hp, ⟨rfl, rfl, rfl, rfl, rfl⟩, h1, h2⟩

/-- What the two runs have to do with each other. -/
theorem kept_facts {p q s o : ByteArray} {ch : Nat → Option UInt8} (h : MendOf p q ch) {F F' : List ST} {ts ts' : List (Nat × List UInt8)} (hp : Prog q.data.toList F ts) (hp' : Prog p.data.toList F' ts') (ho : o.data.toList = lf s.data.toList (runU F s.data.toList s.data.toList.length).done) :
    (runU F' o.data.toList o.data.toList.length).done = (runU F s.data.toList s.data.toList.length).done.filter kpB ∧ (runU F' o.data.toList o.data.toList.length).c.pr = (runU F s.data.toList s.data.toList.length).c.pr ∧ (runU F' o.data.toList o.data.toList.length).c.gl.map (·.val) = (runU F s.data.toList s.data.toList.length).c.gl.map (·.val) ∧
    (runU F' o.data.toList o.data.toList.length).ths.map (·.reg) = (runU F s.data.toList s.data.toList.length).ths.map (·.reg) ∧ (stuckM F (runU F s.data.toList s.data.toList.length).c.lk (runU F s.data.toList s.data.toList.length).ths ≠ [] → stuckM F' (runU F' o.data.toList o.data.toList.length).c.lk (runU F' o.data.toList o.data.toList.length).ths ≠ []) := by
  have hg : Prog (stp q.data.toList) F' ts' := by rw [h.fix.str]; exact hp'
  obtain ⟨_, k1, k2, k3, k4⟩ := kept_all hp hg h.fix.md s.data.toList
  have k5 := stuck_core hp hg h.fix.md h.fix.fair s.data.toList
  rw [← ho] at k1 k2 k3 k4 k5
  exact ⟨k1, k2, k3, k4, k5⟩

set_option maxHeartbeats 6400000 in
set_option maxRecDepth 100000 in
theorem kept_any (la : Option Addr) (ln lc : Nat) (pa : Option Addr) (pn pc : Nat) (w : World) (hi : IsInts w w.heap.size la ln) (hl : ln ≤ maxLen) (hj : IsInts w w.heap.size pa pn) (hm : pn ≤ maxLen) :
    Calls Try.prog 4 #[.slice la ln lc, .slice pa pn pc] w fun e w' => e = .returned (.bool true) ∧ Below w.heap.size w w' := by
  go_enter Try.func4, Try.ntmps4
  go_wp2_with fail
  refine (AnyIn_any la ln lc w hi hl).mono ?_
  rintro e w1 ⟨⟨p, t, opn, rfl, hg, htx⟩, b1⟩
  obtain ⟨mks, hgood⟩ := good_of hg htx
  have HG : Hid (GoodP p mks) := hgood
  have HJ1 : Hid (IsInts w1 w1.heap.size pa pn) := ints_later hj b1
  have B1 : Hid (Below w.heap.size w w1) := b1
  have hps := hgood.size
  clear hg htx hgood b1 hi hj
  go_wp2_with fail
  refine (kpicks_any pa pn pc w1 HJ1.out hm).mono ?_
  rintro e w2 ⟨⟨s, rfl, hs⟩, b2⟩
  have B2 : Hid (Below w.heap.size w w2) := B1.out.trans (b2.mono B1.out.size)
  clear b2 HJ1
  go_wp2_with fail
  refine (kmended_any p mks w2 HG.out).mono ?_
  rintro e w3 ⟨⟨q, ch, rfl, hmo⟩, b3⟩
  have HMO : Hid (MendOf p q ch) := hmo
  have B3 : Hid (Below w.heap.size w w3) := B2.out.trans (b3.mono B2.out.size)
  have hqs := hmo.size
  clear hmo b3
  go_wp2_with fail
  refine (ran_any q s 0 w3 HMO.out.chk hqs hs).mono ?_
  rintro e w4 ⟨hro, b4⟩
  obtain ⟨F, ts, d1, p1, a3, c3, a4, n4, c4, x1, s1, rfl, hprog, hf1, row3, row4⟩ := ran_more hro
  have HPR : Hid (Prog q.data.toList F ts) := hprog
  have hdl : d1.size = s.size := by
    rw [hf1.1]
    have := runU_len F s.data.toList s.data.toList.length (Nat.le_refl _)
    show (List.toArray _).size = _
    rw [List.size_toArray, this, len_eq]
  obtain ⟨X, hX⟩ : ∃ X, X = runU F s.data.toList s.data.toList.length := ⟨_, rfl⟩
  have HX : Hid (X = runU F s.data.toList s.data.toList.length) := hX
  rw [← hX] at hf1 row3 row4
  have HF1 : Hid (d1 = ⟨X.done.toArray⟩ ∧ p1 = ⟨X.c.pr.toArray⟩ ∧ x1 = X.race ∧ s1 = ⟨(stuckM F X.c.lk X.ths).toArray⟩ ∧ n4 = X.ths.length) := hf1
  have R3 : Hid (w4.ownsRow w3.heap.size 3 1 (.slice a3 3 c3) 3 (intsV (X.c.gl.map (·.val)))) := row3
  have R4 : Hid (w4.ownsRow w3.heap.size 3 1 (.slice a4 n4 c4) n4 (intsV (X.ths.map (·.reg)))) := row4
  have B4 : Hid (Below w.heap.size w w4) := B3.out.trans (b4.mono B3.out.size)
  have hw4 := B4.out.size
  have hw3 : w3.heap.size ≤ w4.heap.size := b4.size
  obtain ⟨o, ho⟩ : ∃ o : ByteArray, o.data.toList = lf s.data.toList d1.data.toList := ⟨⟨(lf s.data.toList d1.data.toList).toArray⟩, rfl⟩
  have HO : Hid (o.data.toList = lf s.data.toList d1.data.toList) := ho
  have hos : o.size ≤ 400 := by
    have := lf_len s.data.toList d1.data.toList
    rw [← ho, len_eq, len_eq] at this; omega
  have HDL : Hid (d1.size = s.size) := hdl
  have HAL : Hid (∀ o', Below w4.heap.size w4 (w4.alloc o')) := fun o' => (Below.refl _ _).alloc (Nat.le_refl _) o'
  have HBL : Hid (∀ W, Below (w4.alloc (.cells #[.string d1, .string p1, .slice a3 3 c3, .slice a4 n4 c4, .int .i64 x1, .string s1] 27)).heap.size (w4.alloc (.cells #[.string d1, .string p1, .slice a3 3 c3, .slice a4 n4 c4, .int .i64 x1, .string s1] 27)) W → Blk W w4.heap.size [.string d1, .string p1, .slice a3 3 c3, .slice a4 n4 c4, .int .i64 x1, .string s1] 27 ∧ Below w4.heap.size w4 W) := fun W hW =>
    ⟨(Blk.new (w := w4) (l := [.string d1, .string p1, .slice a3 3 c3, .slice a4 n4 c4, .int .i64 x1, .string s1]) (ty := 27)).chg (chg_of_below hW []) (by simp), (HAL.out _).trans (hW.mono (by simp))⟩
  clear hro hprog b4 hf1 row3 row4 hX ho hdl
  go_wp2_with fail
  refine (kleft_any s d1 _ hs HDL.out o HO.out).mono ?_
  rintro e w5 ⟨rfl, b5⟩
  obtain ⟨L5, b45⟩ := HBL.out w5 b5
  have HB45 : Hid (Below w4.heap.size w4 w5) := b45
  have HL5 : Hid (Blk w5 w4.heap.size [.string d1, .string p1, .slice a3 3 c3, .slice a4 n4 c4, .int .i64 x1, .string s1] 27) := L5
  clear b5 L5 b45 HBL HAL
  go_wp2_with fail
  refine (ran_any p o 0 w5 HG.out.chk (by omega) hos).mono ?_
  rintro e w6 ⟨hro, b6⟩
  obtain ⟨F', ts', d2, p2, a5, c5, a6, n6, c6, x2, s2, rfl, hprog2, hf2, row5, row6⟩ := ran_more hro
  have hfac := kept_facts HMO.out HPR.out hprog2 (s := s) (o := o) (by rw [HO.out, HF1.out.1, HX.out])
  rw [← HX.out] at hfac
  obtain ⟨k1, k2, k3, k4, k5⟩ := hfac
  rw [k3] at row5
  rw [k4] at row6
  have en : n6 = n4 := by
    rw [hf2.2.2.2.2, HF1.out.2.2.2.2]
    have := congrArg List.length k4
    simpa using this
  have ep : p2 = p1 := by rw [hf2.2.1, HF1.out.2.1, k2]
  have HD2 : Hid (d2.data.toList = d1.data.toList.filter kpB) := by
    show d2.data.toList = _
    rw [hf2.1, HF1.out.1]; exact k1
  have HST : Hid (s1 ≠ ⟨#[]⟩ → s2 ≠ ⟨#[]⟩) := fun h1 h2 => by
    have e1 : stuckM F X.c.lk X.ths ≠ [] := fun e => h1 (by rw [HF1.out.2.2.2.1, e])
    have := k5 e1
    rw [hf2.2.2.2.1] at h2
    exact this (by have := congrArg (fun b : ByteArray => b.data.toList) h2; simpa using this)
  subst en ep
  have hgl : 3 = (X.c.gl.map (·.val)).length := by
    have := R3.out.1
    simpa [intsV] using this.symm
  have hrl : n6 = (X.ths.map (·.reg)).length := by rw [HF1.out.2.2.2.2, List.length_map]
  have hn4 : n6 ≤ 1000 := by
    rw [HF1.out.2.2.2.2, HX.out, HPR.out.count]
    have := HMO.out.fix.four; omega
  have R5 : Hid (w6.ownsRow w5.heap.size 3 1 (.slice a5 3 c5) 3 (intsV (X.c.gl.map (·.val)))) := row5
  have R6 : Hid (w6.ownsRow w5.heap.size 3 1 (.slice a6 n6 c6) n6 (intsV (X.ths.map (·.reg)))) := row6
  have HB6 : Hid (Below w5.heap.size w5 w6) := b6
  have hw5 : w4.heap.size < w5.heap.size := HL5.out.lt
  have hw6 : w5.heap.size ≤ w6.heap.size := b6.size
  have R36 : Hid (w6.ownsRow w3.heap.size 3 1 (.slice a3 3 c3) 3 (intsV (X.c.gl.map (·.val)))) := ownsRow_later (ownsRow_later R3.out HB45.out) b6
  have R46 : Hid (w6.ownsRow w3.heap.size 3 1 (.slice a4 n6 c4) n6 (intsV (X.ths.map (·.reg)))) := ownsRow_later (ownsRow_later R4.out HB45.out) b6
  have L6 : Blk w6 w4.heap.size [.string d1, .string p2, .slice a3 3 c3, .slice a4 n6 c4, .int .i64 x1, .string s1] 27 := HL5.out.chg (chg_of_below b6 []) (by simp)
  have HL6 : Hid (Blk w6 w4.heap.size [.string d1, .string p2, .slice a3 3 c3, .slice a4 n6 c4, .int .i64 x1, .string s1] 27) := L6
  have B6 : Hid (Below w.heap.size w w6) := (B4.out.trans (HB45.out.mono hw4)).trans (b6.mono (by omega))
  have HGL : Hid (3 = (X.c.gl.map (·.val)).length) := hgl
  have HRL : Hid (n6 = (X.ths.map (·.reg)).length) := hrl
  obtain ⟨l3, hl3⟩ : ∃ l3, l3 = X.c.gl.map (·.val) := ⟨_, rfl⟩
  obtain ⟨l4, hl4⟩ : ∃ l4, l4 = X.ths.map (·.reg) := ⟨_, rfl⟩
  rw [← hl3] at R36 R5 HGL
  rw [← hl4] at R46 R6 HRL
  have SE : Hid (∀ W : World, Below w6.heap.size w6 W → Calls Try.prog 14 #[.agg #[.string d1, .string p2, .slice a3 3 c3, .slice a4 n6 c4, .int .i64 x1, .string s1], .agg #[.string d2, .string p2, .slice a5 3 c5, .slice a6 n6 c6, .int .i64 x2, .string s2]] W fun e w' => e = .returned (.bool true) ∧ Below W.heap.size W w') := fun W hW =>
    ksameEnd_any _ _ d1 d2 p2 s1 s2 a3 a5 c3 c5 _ _ x1 x2 l3 W rfl rfl HGL.out (ownsRow_later R36.out hW) (ownsRow_later R5.out hW)
  have SI2 : Hid (∀ W : World, Below w6.heap.size w6 W → Calls Try.prog 15 #[.slice a4 n6 c4, .slice a6 n6 c6] W fun e w' => e = .returned (.bool true) ∧ ∃ k, w' = W.drewN k) := fun W hW =>
    ksame_any _ _ a4 a6 c4 c6 n6 l4 W HRL.out (ownsRow_later R46.out hW) (ownsRow_later R6.out hW) hn4
  have m0 := L6.cell 0 _ rfl
  have m1 := L6.cell 1 _ rfl
  have m2 := L6.cell 2 _ rfl
  have m3 := L6.cell 3 _ rfl
  have m4 := L6.cell 4 _ rfl
  have m5 := L6.cell 5 _ rfl
  have BA : Hid (∀ o', Below w6.heap.size w6 (w6.alloc o')) := fun o' => (Below.refl _ _).alloc (Nat.le_refl _) o'
  have hd1s : d1.size ≤ 400 := by rw [HDL.out]; exact hs
  clear hro hprog2 hf2 row5 row6 k1 k2 k3 k4 k5 b6 hgl hrl hl3 hl4 L6
  have hlt6 : w4.heap.size < w6.heap.size := by omega
  go_wp2_with fail
  refine (SE.out _ (BA.out _)).mono ?_
  rintro e w7 ⟨rfl, b7⟩
  have L7 : Blk w7 w4.heap.size [.string d1, .string p2, .slice a3 3 c3, .slice a4 n6 c4, .int .i64 x1, .string s1] 27 := (HL6.out.alloc _).chg (chg_of_below b7 []) (by simp)
  have M7 := (Blk.new (w := w6) (l := [.string d2, .string p2, .slice a5 3 c5, .slice a6 n6 c6, .int .i64 x2, .string s2]) (ty := 27)).chg (chg_of_below b7 []) (by simp)
  have b67 : Below w6.heap.size w6 w7 := (BA.out _).trans (b7.mono (by simp))
  have HB67 : Hid (Below w6.heap.size w6 w7) := b67
  have HL7 : Hid (Blk w7 w4.heap.size [.string d1, .string p2, .slice a3 3 c3, .slice a4 n6 c4, .int .i64 x1, .string s1] 27) := L7
  have HM7 : Hid (Blk w7 w6.heap.size [.string d2, .string p2, .slice a5 3 c5, .slice a6 n6 c6, .int .i64 x2, .string s2] 27) := M7
  have k3 := L7.cell 3 _ rfl
  have j3 := M7.cell 3 _ rfl
  clear b7 L7 M7 b67 m0 m1 m2 m3 m4 m5
  go_wp2_with fail
  refine (SI2.out _ HB67.out).mono ?_
  rintro e w8 ⟨rfl, k, rfl⟩
  obtain ⟨W8, hW8⟩ : ∃ W8, W8 = w7.drewN k := ⟨_, rfl⟩
  rw [← hW8]
  have hb78 : Below w7.heap.size w7 W8 := by rw [hW8]; exact below_drewN' _ _ _
  have HL8 : Hid (Blk W8 w4.heap.size [.string d1, .string p2, .slice a3 3 c3, .slice a4 n6 c4, .int .i64 x1, .string s1] 27) := HL7.out.chg (chg_of_below hb78 []) (by simp)
  have HM8 : Hid (Blk W8 w6.heap.size [.string d2, .string p2, .slice a5 3 c5, .slice a6 n6 c6, .int .i64 x2, .string s2] 27) := HM7.out.chg (chg_of_below hb78 []) (by simp)
  have B8 : Hid (Below w.heap.size w W8) := (B6.out.trans (HB67.out.mono B6.out.size)).trans (hb78.mono (by have := HB67.out.size; have := B6.out.size; omega))
  have HKP : Hid (∀ W, Below W8.heap.size W8 W → W.cell? ⟨w4.heap.size, 0, none⟩ = some (.string d1) ∧ W.cell? ⟨w4.heap.size, 5, none⟩ = some (.string s1) ∧ W.cell? ⟨w6.heap.size, 0, none⟩ = some (.string d2) ∧ W.cell? ⟨w6.heap.size, 5, none⟩ = some (.string s2)) := fun W hW => by
    have h1 := HL8.out.chg (chg_of_below hW []) (by simp)
    have h2 := HM8.out.chg (chg_of_below hW []) (by simp)
    exact ⟨h1.cell 0 _ rfl, h1.cell 5 _ rfl, h2.cell 0 _ rfl, h2.cell 5 _ rfl⟩
  have HWO : Hid (∀ W, Calls Try.prog 16 #[.string d1, .string ⟨#[46, 60, 62]⟩] W fun e w' => e = .returned (.string d2) ∧ Below W.heap.size W w') := fun W => kwithout_any d1 W hd1s d2 HD2.out
  clear hb78 hW8 k3 j3
  by_cases hst : s1 = ⟨#[]⟩
  · subst hst
    go_wp2_with fail
    refine wp_region_held_drew (S := fun W : World => Below W8.heap.size W8 W) (by kernel_rfl) (below_drewN' _ _ 1) (fun hH => ?_)
    refine wpAnyH_take (i := 0) (oi := { dst := some 55, op := Go.Op.move (Go.Operand.tmp 13), type := 4, pos := "mends.go:48", after := #[], guard := none }) (v := ?_) rfl (by kernel_rfl) (by kernel_rfl) (by kernel_rfl) (fun _ _ _ h => h) (Or.inl ⟨by rfl, ?_⟩) hH ?_
    rotate_left
    · intro W hW
      go_simp
      (try with_reducible rfl)
    simp only [Act.put, List.setIfInBounds_toArray, List.set_cons_zero, List.set_cons_succ]
    refine wpAnyH_take (i := 1) (oi := { dst := some 56, op := Go.Op.move (Go.Operand.tmp 55), type := 4, pos := "mends.go:48", after := #[{ on := 0, ground := Go.Ground.data }], guard := none }) (v := ?_) rfl (by kernel_rfl) (by kernel_rfl) (by kernel_rfl) (fun _ _ _ h => h) (Or.inl ⟨by rfl, ?_⟩) hH ?_
    rotate_left
    · intro W hW
      go_simp
      (try with_reducible rfl)
    simp only [Act.put, List.setIfInBounds_toArray, List.set_cons_zero, List.set_cons_succ]
    refine wpAnyH_take (i := 2) (oi := { dst := some 57, op := Go.Op.move (Go.Operand.tmp 14), type := 4, pos := "mends.go:48", after := #[{ on := 1, ground := Go.Ground.guard }], guard := some (1, true) }) (v := ?_) rfl (by kernel_rfl) (by kernel_rfl) (by kernel_rfl) (fun _ _ _ h => h) (Or.inl ⟨by rfl, ?_⟩) hH ?_
    rotate_left
    · intro W hW
      go_simp
      (try with_reducible rfl)
    simp only [Act.put, List.setIfInBounds_toArray, List.set_cons_zero, List.set_cons_succ]
    refine wpAnyH_take (i := 3) (oi := { dst := some 58, op := Go.Op.pick (Go.Operand.tmp 56) (Go.Operand.tmp 57) (Go.Operand.const (Go.Value.bool false)), type := 4, pos := "mends.go:48", after := #[{ on := 1, ground := Go.Ground.data }, { on := 2, ground := Go.Ground.data }], guard := none }) (v := ?_) rfl (by kernel_rfl) (by kernel_rfl) (by kernel_rfl) (fun _ _ _ h => h) (Or.inl ⟨by rfl, ?_⟩) hH ?_
    rotate_left
    · intro W hW
      go_simp
      (try with_reducible rfl)
    simp only [Act.put, List.setIfInBounds_toArray, List.set_cons_zero, List.set_cons_succ]
    refine wpAnyH_take (i := 4) (oi := { dst := some 59, op := Go.Op.move (Go.Operand.tmp 58), type := 4, pos := "mends.go:48", after := #[{ on := 3, ground := Go.Ground.data }, { on := 1, ground := Go.Ground.chain }], guard := none }) (v := ?_) rfl (by kernel_rfl) (by kernel_rfl) (by kernel_rfl) (fun _ _ _ h => h) (Or.inl ⟨by rfl, ?_⟩) hH ?_
    rotate_left
    · intro W hW
      go_simp
      (try with_reducible rfl)
    simp only [Act.put, List.setIfInBounds_toArray, List.set_cons_zero, List.set_cons_succ]
    refine wpAnyH_take (i := 5) (oi := { dst := some 60, op := Go.Op.fieldAddr 27 (Go.Operand.tmp 11) 0, type := 0, pos := "mends.go:48", after := #[{ on := 4, ground := Go.Ground.guard }], guard := some (4, true) }) (v := ?_) rfl (by kernel_rfl) (by kernel_rfl) (by kernel_rfl) (fun _ _ _ h => h) (Or.inl ⟨by rfl, ?_⟩) hH ?_
    rotate_left
    · intro W hW
      go_simp
      (try with_reducible rfl)
    simp only [Act.put, List.setIfInBounds_toArray, List.set_cons_zero, List.set_cons_succ]
    refine wpAnyH_take (i := 6) (oi := { dst := some 61, op := Go.Op.load 9 (Go.Operand.tmp 60), type := 9, pos := "mends.go:48", after := #[{ on := 5, ground := Go.Ground.data }, { on := 4, ground := Go.Ground.guard }], guard := some (4, true) }) (v := ?_) rfl (by kernel_rfl) (by kernel_rfl) (by kernel_rfl) (fun _ _ _ h => h) (Or.inl ⟨by rfl, ?_⟩) hH ?_
    rotate_left
    · intro W hW
      obtain ⟨x0, x5, y0, y5⟩ := HKP.out W hW
      go_simp
      (try with_reducible rfl)
    simp only [Act.put, List.setIfInBounds_toArray, List.set_cons_zero, List.set_cons_succ]
    refine wpAnyH_take (i := 7) (oi := { dst := some 62, op := Go.Op.fieldAddr 27 (Go.Operand.tmp 9) 0, type := 0, pos := "mends.go:48", after := #[{ on := 4, ground := Go.Ground.guard }], guard := some (4, true) }) (v := ?_) rfl (by kernel_rfl) (by kernel_rfl) (by kernel_rfl) (fun _ _ _ h => h) (Or.inl ⟨by rfl, ?_⟩) hH ?_
    rotate_left
    · intro W hW
      go_simp
      (try with_reducible rfl)
    simp only [Act.put, List.setIfInBounds_toArray, List.set_cons_zero, List.set_cons_succ]
    refine wpAnyH_take (i := 8) (oi := { dst := some 63, op := Go.Op.load 9 (Go.Operand.tmp 62), type := 9, pos := "mends.go:48", after := #[{ on := 7, ground := Go.Ground.data }, { on := 4, ground := Go.Ground.guard }], guard := some (4, true) }) (v := ?_) rfl (by kernel_rfl) (by kernel_rfl) (by kernel_rfl) (fun _ _ _ h => h) (Or.inl ⟨by rfl, ?_⟩) hH ?_
    rotate_left
    · intro W hW
      obtain ⟨x0, x5, y0, y5⟩ := HKP.out W hW
      go_simp
      (try with_reducible rfl)
    simp only [Act.put, List.setIfInBounds_toArray, List.set_cons_zero, List.set_cons_succ]
    refine wpAnyH_ready (rs := [9]) (by kernel_rfl) (by simp) ?_
    refine AllReadyH.cons rfl (fun K hK => ?_) AllReadyH.nil
    go_simp
    go_wp2_with fail
    refine (HWO.out _).mono ?_
    rintro e w9 ⟨rfl, hb9⟩
    have hbx : Below W8.heap.size W8 w9 := (below_drewN' _ _ 1).trans hb9
    go_wp2_with fail
    refine hK.out _ _ hbx (fun hH2 => ?_)
    clear hK K
    (try simp only [Act.put, List.setIfInBounds_toArray, List.set_cons_zero, List.set_cons_succ])
    refine wpAnyH_take (i := 10) (oi := { dst := some 65, op := Go.Op.binOp Go.BinOp.eql 9 (Go.Operand.tmp 61) (Go.Operand.tmp 64) 9, type := 4, pos := "mends.go:48", after := #[{ on := 6, ground := Go.Ground.data }, { on := 9, ground := Go.Ground.data }, { on := 4, ground := Go.Ground.guard }], guard := some (4, true) }) (v := ?_) rfl (by kernel_rfl) (by kernel_rfl) (by kernel_rfl) (fun _ _ _ h => h) (Or.inl ⟨by rfl, ?_⟩) hH2 ?_
    rotate_left
    · intro W hW
      go_simp
      (try with_reducible rfl)
    simp only [Act.put, List.setIfInBounds_toArray, List.set_cons_zero, List.set_cons_succ]
    refine wpAnyH_take (i := 11) (oi := { dst := some 66, op := Go.Op.pick (Go.Operand.tmp 59) (Go.Operand.tmp 65) (Go.Operand.const (Go.Value.bool false)), type := 4, pos := "mends.go:48", after := #[{ on := 4, ground := Go.Ground.data }, { on := 10, ground := Go.Ground.data }], guard := none }) (v := ?_) rfl (by kernel_rfl) (by kernel_rfl) (by kernel_rfl) (fun _ _ _ h => h) (Or.inl ⟨by rfl, ?_⟩) hH2 ?_
    rotate_left
    · intro W hW
      go_simp
      (try with_reducible rfl)
    simp only [Act.put, List.setIfInBounds_toArray, List.set_cons_zero, List.set_cons_succ]
    refine wpAnyH_take (i := 12) (oi := { dst := some 67, op := Go.Op.move (Go.Operand.tmp 66), type := 4, pos := "mends.go:48", after := #[{ on := 11, ground := Go.Ground.data }, { on := 9, ground := Go.Ground.chain }], guard := none }) (v := ?_) rfl (by kernel_rfl) (by kernel_rfl) (by kernel_rfl) (fun _ _ _ h => h) (Or.inl ⟨by rfl, ?_⟩) hH2 ?_
    rotate_left
    · intro W hW
      go_simp
      (try with_reducible rfl)
    simp only [Act.put, List.setIfInBounds_toArray, List.set_cons_zero, List.set_cons_succ]
    refine wpAnyH_take (i := 13) (oi := { dst := some 68, op := Go.Op.fieldAddr 27 (Go.Operand.tmp 9) 5, type := 0, pos := "mends.go:48", after := #[{ on := 12, ground := Go.Ground.guard }], guard := some (12, true) }) (v := ?_) rfl (by kernel_rfl) (by kernel_rfl) (by kernel_rfl) (fun _ _ _ h => h) (Or.inl ⟨by rfl, ?_⟩) hH2 ?_
    rotate_left
    · intro W hW
      go_simp
      (try with_reducible rfl)
    simp only [Act.put, List.setIfInBounds_toArray, List.set_cons_zero, List.set_cons_succ]
    refine wpAnyH_take (i := 14) (oi := { dst := some 69, op := Go.Op.load 9 (Go.Operand.tmp 68), type := 9, pos := "mends.go:48", after := #[{ on := 13, ground := Go.Ground.data }, { on := 12, ground := Go.Ground.guard }], guard := some (12, true) }) (v := ?_) rfl (by kernel_rfl) (by kernel_rfl) (by kernel_rfl) (fun _ _ _ h => h) (Or.inl ⟨by rfl, ?_⟩) hH2 ?_
    rotate_left
    · intro W hW
      obtain ⟨x0, x5, y0, y5⟩ := HKP.out W hW
      go_simp
      (try with_reducible rfl)
    simp only [Act.put, List.setIfInBounds_toArray, List.set_cons_zero, List.set_cons_succ]
    refine wpAnyH_take (i := 15) (oi := { dst := some 70, op := Go.Op.binOp Go.BinOp.eql 9 (Go.Operand.tmp 69) (Go.Operand.const (Go.Value.string { data := #[] })) 9, type := 4, pos := "mends.go:48", after := #[{ on := 14, ground := Go.Ground.data }, { on := 12, ground := Go.Ground.guard }], guard := some (12, true) }) (v := ?_) rfl (by kernel_rfl) (by kernel_rfl) (by kernel_rfl) (fun _ _ _ h => h) (Or.inl ⟨by rfl, ?_⟩) hH2 ?_
    rotate_left
    · intro W hW
      go_simp
      (try with_reducible rfl)
    simp only [Act.put, List.setIfInBounds_toArray, List.set_cons_zero, List.set_cons_succ]
    refine wpAnyH_take (i := 16) (oi := { dst := some 71, op := Go.Op.move (Go.Operand.tmp 70), type := 4, pos := "mends.go:48", after := #[{ on := 15, ground := Go.Ground.data }, { on := 12, ground := Go.Ground.chain }, { on := 12, ground := Go.Ground.guard }], guard := some (12, true) }) (v := ?_) rfl (by kernel_rfl) (by kernel_rfl) (by kernel_rfl) (fun _ _ _ h => h) (Or.inl ⟨by rfl, ?_⟩) hH2 ?_
    rotate_left
    · intro W hW
      go_simp
      (try with_reducible rfl)
    simp only [Act.put, List.setIfInBounds_toArray, List.set_cons_zero, List.set_cons_succ]
    refine wpAnyH_take (i := 17) (oi := { dst := some 72, op := Go.Op.fieldAddr 27 (Go.Operand.tmp 11) 5, type := 0, pos := "mends.go:48", after := #[{ on := 16, ground := Go.Ground.guard }], guard := some (16, false) }) (v := undef) rfl (by kernel_rfl) (by kernel_rfl) (by kernel_rfl) (fun _ _ _ h => h) (Or.inr ⟨by rfl, rfl⟩) hH2 ?_
    simp only [Act.put, List.setIfInBounds_toArray, List.set_cons_zero, List.set_cons_succ]
    refine wpAnyH_take (i := 18) (oi := { dst := some 73, op := Go.Op.load 9 (Go.Operand.tmp 72), type := 9, pos := "mends.go:48", after := #[{ on := 17, ground := Go.Ground.data }, { on := 16, ground := Go.Ground.guard }], guard := some (16, false) }) (v := undef) rfl (by kernel_rfl) (by kernel_rfl) (by kernel_rfl) (fun _ _ _ h => h) (Or.inr ⟨by rfl, rfl⟩) hH2 ?_
    simp only [Act.put, List.setIfInBounds_toArray, List.set_cons_zero, List.set_cons_succ]
    refine wpAnyH_take (i := 19) (oi := { dst := some 74, op := Go.Op.binOp Go.BinOp.neq 9 (Go.Operand.tmp 73) (Go.Operand.const (Go.Value.string { data := #[] })) 9, type := 4, pos := "mends.go:48", after := #[{ on := 18, ground := Go.Ground.data }, { on := 16, ground := Go.Ground.guard }], guard := some (16, false) }) (v := undef) rfl (by kernel_rfl) (by kernel_rfl) (by kernel_rfl) (fun _ _ _ h => h) (Or.inr ⟨by rfl, rfl⟩) hH2 ?_
    simp only [Act.put, List.setIfInBounds_toArray, List.set_cons_zero, List.set_cons_succ]
    refine wpAnyH_take (i := 20) (oi := { dst := some 75, op := Go.Op.pick (Go.Operand.tmp 71) (Go.Operand.const (Go.Value.bool true)) (Go.Operand.tmp 74), type := 4, pos := "mends.go:48", after := #[{ on := 16, ground := Go.Ground.data }, { on := 19, ground := Go.Ground.data }, { on := 12, ground := Go.Ground.guard }], guard := some (12, true) }) (v := ?_) rfl (by kernel_rfl) (by kernel_rfl) (by kernel_rfl) (fun _ _ _ h => h) (Or.inl ⟨by rfl, ?_⟩) hH2 ?_
    rotate_left
    · intro W hW
      go_simp
      (try with_reducible rfl)
    simp only [Act.put, List.setIfInBounds_toArray, List.set_cons_zero, List.set_cons_succ]
    refine wpAnyH_take (i := 21) (oi := { dst := some 76, op := Go.Op.pick (Go.Operand.tmp 67) (Go.Operand.tmp 75) (Go.Operand.const (Go.Value.bool false)), type := 4, pos := "mends.go:48", after := #[{ on := 12, ground := Go.Ground.data }, { on := 20, ground := Go.Ground.data }], guard := none }) (v := ?_) rfl (by kernel_rfl) (by kernel_rfl) (by kernel_rfl) (fun _ _ _ h => h) (Or.inl ⟨by rfl, ?_⟩) hH2 ?_
    rotate_left
    · intro W hW
      go_simp
      (try with_reducible rfl)
    simp only [Act.put, List.setIfInBounds_toArray, List.set_cons_zero, List.set_cons_succ]
    refine wpAnyH_ready (rs := [22]) (by kernel_rfl) (by simp) ?_
    refine AllReadyH.cons rfl (fun K hK => ?_) AllReadyH.nil
    go_simp
    refine hK.out _ _ hbx (fun hH3 => ?_)
    clear hK K
    refine wpAnyH_done (by kernel_rfl) ?_ _
    have HBF : Hid (Below w.heap.size w w9) := B8.out.trans (hbx.mono B8.out.size)
    clear hb9 hbx
    go_wp2
    go_ret
    exact ⟨rfl, HBF.out⟩
  · have h1 := ne_empty s1 (Nat.pos_of_ne_zero (fun h0 => hst (ByteArray.ext (Array.eq_empty_of_size_eq_zero h0))))
    have h2 := ne_empty s2 (Nat.pos_of_ne_zero (fun h0 => HST.out hst (ByteArray.ext (Array.eq_empty_of_size_eq_zero h0))))
    go_wp2_with fail
    go_region_held (fun W => W.cell? ⟨w4.heap.size, 0, none⟩ = some (.string d1) ∧ W.cell? ⟨w4.heap.size, 5, none⟩ = some (.string s1) ∧ W.cell? ⟨w6.heap.size, 0, none⟩ = some (.string d2) ∧ W.cell? ⟨w6.heap.size, 5, none⟩ = some (.string s2)) (first | exact HKP.out _ (below_drewN' _ _ 1) | exact HKP.out _ hbx) ((
      go_at_call 16
      refine (HWO.out _).mono ?_
      rintro e w9 ⟨rfl, hb9⟩
      have hbx : Below W8.heap.size W8 w9 := (below_drewN' _ _ 1).trans hb9))
    all_goals
      have HBF : Hid (Below w.heap.size w w9) := B8.out.trans (hbx.mono B8.out.size)
      clear hb9 hbx
      go_wp2
      go_ret
      exact ⟨rfl, HBF.out⟩

end Go.Proofs.Ytdgkpkdinfklaab
