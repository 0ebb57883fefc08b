import Derived.Test.YtdgkpkdinfklaabXKwD
namespace Go.Proofs.Ytdgkpkdinfklaab
open Go.RowKit
theorem nums_of_ints {w : World} {mb : Nat} {la : Option Addr} {ln : Nat} (h : IsInts w mb la ln) : ∃ Z, NumsAt w la ln Z := by
 rcases h with rfl | ⟨b, off, e, _, h⟩
 ·exact ⟨fun _ => 0, fun j hj => absurd hj (Nat.not_lt_zero _)⟩
 ·refine ⟨fun j => if hj : j < ln then (h j hj).choose else 0, fun j hj => ?_⟩
  have := (h j hj).choose_spec
  refine ⟨b, off, e, ?_⟩
  simp only [hj, dif_pos]
  exact this
theorem bool_of (P : Prop) : ∃ b : Bool, b = true ↔ P := by
 by_cases h : P
 ·exact ⟨true, by simp [h]⟩
 ·exact ⟨false, by simp [h]⟩
theorem pairs_say {q : ByteArray} {mks : List MK} (hc : ChkIs q 0 0) (ha : Acc q.data.toList mks) {w w' : World} {v : Value} {a : Int} (hp : PairsIs w w' q v a) : a = 0 ∧ ∃ x c, v = .slice x (prL (accL mks) (accL mks).length).length c := by
 obtain ⟨b, hb, hp⟩ := hp
 have ha' := (hb.unique hc).1
 subst ha'
 refine ⟨rfl, ?_⟩
 rcases hp with ⟨h0, _⟩ | ⟨_, _, mks', x, c, hacc, _, hv, _⟩
 ·exact absurd rfl h0
 ·have e := acc_unique hacc ha
  subst e
  exact ⟨x, c, hv⟩
set_option maxHeartbeats 6400000 in
set_option maxRecDepth 100000 in
theorem kfewest_any (la : Option Addr) (ln lc : Nat) (pa : Option Addr) (pn pc : Nat) (w : World) (hi : IsInts w w.heap.size la ln) (hl : ln ≤ maxLen) (hj : IsInts w w.heap.size pa pn) (hm : pn ≤ maxLen) :
  Calls Try.prog 6 #[.slice la ln lc, .slice pa pn pc] w fun e w' => e = .returned (.bool true) ∧ Below w.heap.size w w' := by
 go_enter Try.func6, Try.ntmps6
 go_wp2_with fail
 refine (AnyIn_any la ln lc w hi hl).mono ?_
 rintro e w1 ⟨⟨p, t, opn, rfl, hg, htx⟩, b1⟩
 obtain ⟨mks, hgood⟩ := good_of hg htx
 have HG : Hid (GoodP p mks) := hgood
 have HJ1 : Hid (IsInts w1 w1.heap.size pa pn) := ints_later hj b1
 have B1 : Hid (Below w.heap.size w w1) := b1
 have hps := hgood.size
 clear hg htx hgood b1 hi hj
 go_wp2_with fail
 refine (kmended_any p mks w1 HG.out).mono ?_
 rintro e w2 ⟨⟨q, ch, rfl, hmo⟩, b2⟩
 have HMO : Hid (MendOf p q ch) := hmo
 have HJ2 : Hid (IsInts w2 w2.heap.size pa pn) := ints_later HJ1.out b2
 have B2 : Hid (Below w.heap.size w w2) := B1.out.trans (b2.mono B1.out.size)
 have hqs := hmo.size
 clear hmo b2 HJ1
 go_wp2_with fail
 refine (Pairs_any q _ (by unfold maxLen; omega)).mono ?_
 rintro e w3 ⟨v, a, rfl, hpi, b3⟩
 obtain ⟨rfl, x, c, rfl⟩ := HMO.out.fix.pairs HMO.out.chk hpi
 have HJ3 : Hid (IsInts w3 w3.heap.size pa pn) := ints_later HJ2.out b3
 have B3 : Hid (Below w.heap.size w w3) := B2.out.trans (b3.mono B2.out.size)
 obtain ⟨mq, hmq, _, _⟩ := HMO.out.fix.acc
 clear hpi b3 HJ2
 go_wp2_with fail
 refine (kfair_any q mq w3 hqs HMO.out.chk hmq (fun a h => (HMO.out.fix.md a h).td) true (by simp [HMO.out.fix.fair])).mono ?_
 rintro e w4 ⟨rfl, b4⟩
 have HJ4 : Hid (IsInts w4 w4.heap.size pa pn) := ints_later HJ3.out b4
 have B4 : Hid (Below w.heap.size w w4) := B3.out.trans (b4.mono B3.out.size)
 clear b4 HJ3 hmq
 obtain ⟨Z, hz⟩ := nums_of_ints HJ4.out
 have HZ : Hid (NumsAt w4 pa pn Z) := hz
 obtain ⟨r, hr⟩ : ∃ r : ByteArray, r.data.toList = lay (chF Z pn) 0 p.data.toList := ⟨⟨(lay (chF Z pn) 0 p.data.toList).toArray⟩, rfl⟩
 have HR : Hid (r.data.toList = lay (chF Z pn) 0 p.data.toList) := hr
 have HRV : Hid (RivOf p q r Z pn) := riv_of HG.out HMO.out Z pn hr
 have hrs := HRV.out.size
 obtain ⟨mr, hmr⟩ := HRV.out.acc
 have HMR : Hid (Acc r.data.toList mr) := hmr
 clear hz hr hmr
 go_wp2_with fail
 refine (krival_any p mks w4 pa pn pc Z hm HZ.out (by omega) HG.out.acc r HR.out).mono ?_
 rintro e w5 ⟨rfl, k5, rfl⟩
 have B5 : Hid (Below w.heap.size w (w4.drewN k5)) := B4.out.trans (below_drewN' _ _ k5)
 clear HZ
 generalize w4.drewN k5 = w5 at B5 ⊢
 go_wp2_with fail
 refine (check_any r w5 (by unfold maxLen; omega)).mono ?_
 rintro e w6 ⟨f, g, rfl, hck, b6⟩
 have B6 : Hid (Below w.heap.size w w6) := B5.out.trans (b6.mono B5.out.size)
 have HCK : Hid (ChkIs r f g) := hck
 have hf := HRV.out.chk f g hck
 clear hck b6
 rcases hf with rfl | rfl
 ·obtain ⟨_, mr', hmr', hnn⟩ := chk_ok HCK.out
  have hk0 := chk_of hrs hmr' hnn
  have em := acc_unique hmr' HMR.out
  subst em
  obtain ⟨_, hmd⟩ := chk_md hk0
  have HK0 : Hid (ChkIs r 0 0) := hk0
  have HMD : Hid (∀ a ∈ splitBar r.data.toList, MD [] [] a) := hmd
  obtain ⟨fb, hfb⟩ := bool_of (FairT (TKp r.data.toList))
  have HFB : Hid (fb = true ↔ FairT (TKp r.data.toList)) := hfb
  clear hmr' hnn hk0 hmd hfb
  go_wp2_with fail
  refine (Pairs_any r _ (by unfold maxLen; omega)).mono ?_
  rintro e w7 ⟨v, a, rfl, hpi, b7⟩
  obtain ⟨rfl, x', c', rfl⟩ := pairs_say HK0.out HMR.out hpi
  have B7 : Hid (Below w.heap.size w w7) := B6.out.trans (b7.mono B6.out.size)
  clear hpi b7
  obtain ⟨np, hnp⟩ : ∃ np, np = (prL (accL mr') (accL mr').length).length := ⟨_, rfl⟩
  have HNP : Hid (np = (prL (accL mr') (accL mr').length).length) := hnp
  rw [← hnp]
  clear hnp
  go_wp2_with fail
  refine (kfair_any r mr' w7 hrs HK0.out HMR.out (fun a h => (HMD.out a h).td) fb HFB.out).mono ?_
  rintro e w8 ⟨rfl, b8⟩
  have B8 : Hid (Below w.heap.size w w8) := B7.out.trans (b8.mono B7.out.size)
  clear b8
  cases fb with
  | false =>
   by_cases h0 : np = 0
   ·subst h0
    go_wp2
    go_ret
    exact ⟨rfl, B8.out⟩
   ·go_wp2
    go_ret
    exact ⟨rfl, B8.out⟩
  | true =>
   by_cases h0 : np = 0
   ·subst h0
    have hcnt := HRV.out.cnt 0 mr' HK0.out HMR.out (List.length_eq_zero_iff.1 HNP.out.symm) (HFB.out.1 rfl)
    have l1 := cntC_le 60 q.data.toList
    have l2 := cntC_le 60 r.data.toList
    rw [len_eq] at l1 l2
    have KC : Hid (∀ W, Calls Try.prog 22 #[.string q, .int .u8 60] W fun e w' => e = .returned (.int .i64 (cntC 60 q.data.toList)) ∧ w' = W) := fun W => kcount_any q 60 W (by omega)
    have KR : Hid (∀ W, Calls Try.prog 22 #[.string r, .int .u8 60] W fun e w' => e = .returned (.int .i64 (cntC 60 r.data.toList)) ∧ w' = W) := fun W => kcount_any r 60 W (by omega)
    go_wp2_with fail
    refine (KC.out _).mono ?_
    rintro e w9 ⟨rfl, rfl⟩
    go_wp2_with fail
    refine (KR.out _).mono ?_
    rintro e w10 ⟨rfl, rfl⟩
    go_wp2
    go_ret
    exact ⟨rfl, B8.out⟩
   ·go_wp2
    go_ret
    exact ⟨rfl, B8.out⟩
 ·go_wp2
  go_ret
  exact ⟨rfl, B6.out⟩
end Go.Proofs.Ytdgkpkdinfklaab
