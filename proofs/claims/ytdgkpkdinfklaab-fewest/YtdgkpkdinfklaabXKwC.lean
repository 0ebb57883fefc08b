import Derived.Test.YtdgkpkdinfklaabXKwA
import Derived.Test.YtdgkpkdinfklaabGH
import Derived.Test.YtdgkpkdinfklaabGU
import Derived.Test.YtdgkpkdinfklaabGRPA
namespace Go.Proofs.Ytdgkpkdinfklaab
open Go.RowKit
theorem cut_last (now : ByteArray) (_h : 0 < now.size) : (now.extract 0 (now.size - 1)).data.toList = now.data.toList.dropLast := by
 rw [Lib.extract_data, List.drop_zero, List.dropLast_eq_take]
 simp
theorem cat_one (now s : ByteArray) (k : Nat) (h : k + 1 < s.size) : (now ++ s.extract (k + 1) (k + 2)).data.toList = now.data.toList ++ [s[k + 1]] := by
 rw [cat_data, Lib.extract_data]
 rw [List.drop_eq_getElem_cons (by simpa using h), show k + 2 - (k + 1) = 1 by omega]
 rfl
set_option maxHeartbeats 3200000 in
set_option maxRecDepth 100000 in
theorem kfair_any (s : ByteArray) (mks : List MK) (w : World) (h : s.size ≤ 240) (hck : ChkIs s 0 0) (ha : Acc s.data.toList mks) (htd : ∀ a ∈ splitBar s.data.toList, TD [] [] a) (r : Bool) (hr : r = true ↔ FairT (TKp s.data.toList)) :
  Calls Try.prog 19 #[.string s] w fun e w' => e = .returned (.bool r) ∧ Below w.heap.size w w' := by
 have HA : Hid (Acc s.data.toList mks) := ha
 have HCK : Hid (ChkIs s 0 0) := hck
 have HR0 : Hid (r = true ↔ ∀ x ∈ tks [] s.data.toList, FP (prs (ordL mks 5)) x) := by
  show r = true ↔ _
  rw [hr, fairT_iff ha htd]
 clear ha hr hck htd
 go_enter Try.func19, Try.ntmps19
 go_wp2_with fail
 refine (Order_any s w (by unfold maxLen; omega)).mono ?_
 rintro e w1 ⟨E, a, rfl, ho, hb1⟩
 have HB1 : Hid (Below w.heap.size w w1) := hb1
 obtain ⟨rfl, hE⟩ : a = 0 ∧ E.data.toList = ordL mks 5 := by
  rcases ho with ⟨h0, ⟨b, hb⟩, _⟩ | ⟨h0, _, mk, hacc, _, hE⟩
  ·exact absurd (hb.unique HCK.out).1 h0
  ·have e := acc_unique hacc HA.out
   subst e
   exact ⟨h0, by rw [hE]⟩
 have hEs : E.size ≤ 1000 := by
  have := ordL_len mks 5
  rw [← hE, len_eq] at this; omega
 have HR : Hid (r = true ↔ ∀ x ∈ tks [] s.data.toList, FP (prs E.data.toList) x) := by
  show r = true ↔ _
  rw [hE]; exact HR0.out
 have HW : Hid (∀ (a b : UInt8) (w : World) (r : Bool), (r = true ↔ WayE (prs E.data.toList) a b) → Calls Try.prog 35 #[.string E, .int .u8 a.toNat, .int .u8 b.toNat] w fun e w' => e = .returned (.bool r) ∧ w' = w) := fun a b w r hr => kway_any E a b w hEs r hr
 clear ho hb1 hE hEs HR0
 go_wp2
 go_loopw [5, 6] (fun nw i wr => ∃ (k j : Nat) (now : ByteArray), i = .int .i64 k ∧ nw = .string now ∧ (tw s.data.toList j).i = k ∧ (tw s.data.toList j).now = now.data.toList ∧ now.size ≤ k ∧ k ≤ s.size ∧ FW (prs E.data.toList) s.data.toList j ∧ Below w.heap.size w wr) (fun _ i _ => s.size - (intOf i).toNat)
 case atStart => exact ⟨0, 0, ⟨#[]⟩, rfl, rfl, rfl, rfl, by decide, Nat.zero_le _, FW.start _ _, HB1.out⟩
 case round =>
  obtain ⟨k, j, now, rfl, rfl, hki, hkn, hns, hks, hfw, hwr⟩ := hrel
  have HWR : Hid (Below w.heap.size w wr) := hwr
  have HF : Hid (FW (prs E.data.toList) s.data.toList j) := hfw
  clear hwr hfw
  by_cases hlt : k < s.size
  ·have hlt' : (tw s.data.toList j).i < s.data.toList.length := by rw [hki, len_eq]; exact hlt
   have hc : s.data.toList[(tw s.data.toList j).i]? = some s[k] := by rw [hki]; exact byteAt s k hlt
   obtain ⟨t1, t2, t3, t4⟩ := tw_at hlt' hc
   obtain ⟨room, l, hl⟩ := acc_room HA.out hlt' hc
   rw [hki, len_eq] at room
   rw [hki] at t1 t2
   rw [hkn] at t2
   have hz := sizeU_pos s[k]
   have T1 : Hid ((tw s.data.toList (j + 1)).i = k + sizeU s[k]) := t1
   have hbk : s.data.toList[k]? = some s[k] := byteAt s k hlt
   have FP' : Hid ((s[k] = 60 → ∀ l ∈ now.data.toList, ¬ WayE (prs E.data.toList) ((s.data.toList[k + 1]?).getD 0) l) → FW (prs E.data.toList) s.data.toList (j + 1)) := by
    intro h6
    refine HF.out.pass HA.out hlt' hc ?_
    rw [hki, hkn]; exact h6
   obtain ⟨z, hzz⟩ : ∃ z, z = sizeU s[k] := ⟨_, rfl⟩
   have HSIZE : Hid (∀ wx, Calls Try.prog 33 #[.int .u8 (s[k].toNat : Int)] wx fun e w' => e = .returned (.int .i64 z) ∧ w' = wx) := by
    intro wx; rw [hzz]; exact ksize_any s[k] wx
   rw [← hzz] at T1 room hz
   by_cases ht : s[k] = 91 ∨ s[k] = 60
   ·have hz2 : z = 2 := by rw [hzz]; rcases ht with h' | h' <;> rw [h'] <;> rfl
    subst hz2
    have hk1 : k + 1 < s.size := by omega
    have hd : s.data.toList[k + 1]? = some s[k + 1] := byteAt s (k + 1) hk1
    rw [hd, Option.getD_some] at FP'
    have T2 : Hid ((tw s.data.toList (j + 1)).now = (now ++ s.extract (k + 1) (k + 2)).data.toList) := by
     show _ = _
     rw [t2, cat_one now s k hk1, heldU, hbk]
     simp only
     rw [if_pos ht, hd]; rfl
    have hns2 : (now ++ s.extract (k + 1) (k + 2)).size ≤ k + 2 := by
     have := cat_one now s k hk1
     have e := congrArg List.length this
     rw [len_eq, List.length_append, len_eq] at e
     simp only [List.length_cons, List.length_nil] at e
     omega
    have ST : Hid (s[k] = 60 → ∀ l ∈ now.data.toList, WayE (prs E.data.toList) s[k + 1] l → r = false) := by
     intro h60 l hl hw
     have := HF.out.stop HA.out hlt' (by rw [hc, h60]) (l := l) (by rw [hkn]; exact hl) (by rw [hki, hd]; exact hw)
     cases hr : r with
     | false => rfl
     | true => exact absurd (HR.out.1 hr) this
    clear t1 t2 t3 t4 hl hki hkn hlt' hc hd hzz hbk
    have hk1i : (k : Int) + 1 < (s.size : Int) := by omega
    have hk1n : (0 : Int) ≤ (k : Int) + 1 := by omega
    by_cases h60 : s[k] = 60
    ·have b60 : ((s[k].toNat : Int) == 60) = true := by rw [h60]; rfl
     have b91 : ((s[k].toNat : Int) == 91) = false := by rw [h60]; rfl
     have STT : Hid (∀ l ∈ now.data.toList, WayE (prs E.data.toList) s[k + 1] l → r = false) := ST.out h60
     have FPP : Hid ((∀ l ∈ now.data.toList, ¬ WayE (prs E.data.toList) s[k + 1] l) → FW (prs E.data.toList) s.data.toList (j + 1)) := fun hx => FP'.out (fun _ => hx)
     clear ht ST FP' h60
     obtain ⟨wa, rfl⟩ : ∃ wa, wa = wr := ⟨_, rfl⟩
     go_wp2
     go_loopw [7] (fun mv wr => ∃ m : Nat, m ≤ now.size ∧ mv = .int .i64 m ∧ (∀ l ∈ now.data.toList.take m, ¬ WayE (prs E.data.toList) s[k + 1] l) ∧ Below w.heap.size w wr) (fun mv _ => now.size - (intOf mv).toNat)
     case atStart => exact ⟨0, Nat.zero_le _, rfl, fun l hl => absurd hl (by simp), HWR.out⟩
     case round =>
      obtain ⟨m, hm, rfl, hno, hwr⟩ := hrel
      have HWR2 : Hid (Below w.heap.size w wr) := hwr
      have HNO : Hid (∀ l ∈ now.data.toList.take m, ¬ WayE (prs E.data.toList) s[k + 1] l) := hno
      clear hwr hno
      by_cases hmlt : m < now.size
      ·have hmem : now[m] ∈ now.data.toList := by
        have : m < now.data.toList.length := by rw [len_eq]; exact hmlt
        exact List.getElem_mem this
       by_cases hway : WayE (prs E.data.toList) s[k + 1] now[m]
       ·have HRF : Hid (r = false) := STT.out _ hmem hway
        have HWW : Hid (∀ wx, Calls Try.prog 35 #[.string E, .int .u8 s[k + 1].toNat, .int .u8 now[m].toNat] wx fun e w' => e = .returned (.bool true) ∧ w' = wx) := fun wx => HW.out s[k + 1] now[m] wx true ⟨fun _ => hway, fun _ => rfl⟩
        clear hway hmem
        go_wp2
        go_quiet ((go_at_call 35; exact Calls.quiet_of_same (HWW.out _)))
        go_wp2
        go_ret
        rw [HRF.out]
        exact ⟨rfl, HWR2.out.trans (below_drewN' _ _ _)⟩
       ·have HWW : Hid (∀ wx, Calls Try.prog 35 #[.string E, .int .u8 s[k + 1].toNat, .int .u8 now[m].toNat] wx fun e w' => e = .returned (.bool false) ∧ w' = wx) := fun wx => HW.out s[k + 1] now[m] wx false ⟨fun e => Bool.noConfusion e, fun e => absurd e hway⟩
        have HNO2 : Hid (∀ l ∈ now.data.toList.take (m + 1), ¬ WayE (prs E.data.toList) s[k + 1] l) := by
         intro l hl
         rw [take_snoc now m hmlt, List.mem_append, List.mem_singleton] at hl
         rcases hl with hl | rfl
         ·exact HNO.out l hl
         ·exact hway
        clear hway hmem
        go_wp2
        go_quiet ((go_at_call 35; exact Calls.quiet_of_same (HWW.out _)))
        go_wp2
        exact ⟨⟨m + 1, by omega, by go_num, HNO2.out, HWR2.out.trans (below_drewN' _ _ _)⟩, by simp [intOf]; omega⟩
      ·have HFN : Hid (FW (prs E.data.toList) s.data.toList (j + 1)) := by
        refine FPP.out (fun l hl => HNO.out l ?_)
        rw [List.take_of_length_le (by rw [len_eq]; omega)]; exact hl
       go_wp2_with (go_at_call 33; refine (HSIZE.out _).mono ?_; rintro e w' ⟨rfl, rfl⟩)
       exact ⟨⟨k + 2, j + 1, _, by go_num, rfl, T1.out, T2.out, hns2, by omega, HFN.out, HWR2.out⟩, by simp [intOf]; omega⟩
    ·have h91 : s[k] = 91 := by
      rcases ht with h' | h'
      ·exact h'
      ·exact absurd h' h60
     have b91 : ((s[k].toNat : Int) == 91) = true := by rw [h91]; rfl
     have b60 : ((s[k].toNat : Int) == 60) = false := u8g h60
     have HFN : Hid (FW (prs E.data.toList) s.data.toList (j + 1)) := FP'.out (fun e => absurd e h60)
     clear ht h60 h91 ST FP'
     obtain ⟨wa, rfl⟩ : ∃ wa, wa = wr := ⟨_, rfl⟩
     go_wp2
     go_loopw [7] (fun mv wr => mv = .int .i64 0 ∧ Below w.heap.size w wr) (fun _ _ => 0)
     case atStart => exact ⟨rfl, HWR.out⟩
     case round =>
      obtain ⟨rfl, hwr⟩ := hrel
      have HWR2 : Hid (Below w.heap.size w wr) := hwr
      clear hwr
      by_cases hn0 : 0 < now.size
      ·have d0 : decide (0 < now.size) = true := by simpa using hn0
       have d1 : decide ((0 : Int) < (now.size : Int)) = true := decide_eq_true (by omega)
       go_wp2_with (go_at_call 33; refine (HSIZE.out _).mono ?_; rintro e w' ⟨rfl, rfl⟩)
       exact ⟨⟨k + 2, j + 1, _, by go_num, rfl, T1.out, T2.out, hns2, by omega, HFN.out, HWR2.out⟩, by simp [intOf]; omega⟩
      ·have d0 : decide (0 < now.size) = false := by simpa using hn0
       have d1 : decide ((0 : Int) < (now.size : Int)) = false := decide_eq_false (by omega)
       go_wp2_with (go_at_call 33; refine (HSIZE.out _).mono ?_; rintro e w' ⟨rfl, rfl⟩)
       exact ⟨⟨k + 2, j + 1, _, by go_num, rfl, T1.out, T2.out, hns2, by omega, HFN.out, HWR2.out⟩, by simp [intOf]; omega⟩
   ·have HFN : Hid (FW (prs E.data.toList) s.data.toList (j + 1)) := FP'.out (fun e => absurd (.inr e) ht)
    have m1 : ((s[k].toNat : Int) == 91) = false := u8g (fun e => ht (.inl e))
    have m2 : ((s[k].toNat : Int) == 60) = false := u8g (fun e => ht (.inr e))
    by_cases hg : s[k] = 93 ∨ s[k] = 62
    ·by_cases h0 : now.size = 0
     ·have hf0 : now = ⟨#[]⟩ := by
       apply ByteArray.ext
       exact Array.eq_empty_of_size_eq_zero h0
      subst hf0
      have T2 : Hid ((tw s.data.toList (j + 1)).now = (⟨#[]⟩ : ByteArray).data.toList) := by
       show _ = _
       rw [t2, heldU, hbk]
       simp only
       rw [if_neg ht, if_pos hg]; rfl
      clear t1 t2 t3 t4 hl hki hkn hlt' hc hzz hbk ht FP'
      by_cases h93 : s[k] = 93
      ·have m3 : ((s[k].toNat : Int) == 93) = true := by rw [h93]; rfl
       clear hg h93
       go_wp2_with (go_at_call 33; refine (HSIZE.out _).mono ?_; rintro e w' ⟨rfl, rfl⟩)
       exact ⟨⟨k + z, j + 1, _, by go_num, rfl, T1.out, T2.out, by omega, by omega, HFN.out, HWR.out⟩, by simp [intOf]; omega⟩
      ·have m3 : ((s[k].toNat : Int) == 93) = false := u8g h93
       have m4 : ((s[k].toNat : Int) == 62) = true := by
        rcases hg with h' | h'
        ·exact absurd h' h93
        ·rw [h']; rfl
       clear hg h93
       go_wp2_with (go_at_call 33; refine (HSIZE.out _).mono ?_; rintro e w' ⟨rfl, rfl⟩)
       exact ⟨⟨k + z, j + 1, _, by go_num, rfl, T1.out, T2.out, by omega, by omega, HFN.out, HWR.out⟩, by simp [intOf]; omega⟩
     ·have h0' : 0 < now.size := by omega
      have hne := ne_empty now h0'
      have T2 : Hid ((tw s.data.toList (j + 1)).now = (now.extract 0 (now.size - 1)).data.toList) := by
       show _ = _
       rw [t2, heldU, hbk, cut_last now h0']
       simp only
       rw [if_neg ht, if_pos hg]
      have hxs : (now.extract 0 (now.size - 1)).size ≤ k := by simp; omega
      have HXS : Hid ((now.extract 0 (now.size - 1)).size ≤ k) := hxs
      clear t1 t2 t3 t4 hl hki hkn hlt' hc hzz hbk ht FP' hxs
      by_cases h93 : s[k] = 93
      ·have m3 : ((s[k].toNat : Int) == 93) = true := by rw [h93]; rfl
       clear hg h93
       go_wp2_with (go_at_call 33; refine (HSIZE.out _).mono ?_; rintro e w' ⟨rfl, rfl⟩)
       exact ⟨⟨k + z, j + 1, _, by go_num, rfl, T1.out, T2.out, by have := HXS.out; omega, by omega, HFN.out, HWR.out⟩, by simp [intOf]; omega⟩
      ·have m3 : ((s[k].toNat : Int) == 93) = false := u8g h93
       have m4 : ((s[k].toNat : Int) == 62) = true := by
        rcases hg with h' | h'
        ·exact absurd h' h93
        ·rw [h']; rfl
       clear hg h93
       go_wp2_with (go_at_call 33; refine (HSIZE.out _).mono ?_; rintro e w' ⟨rfl, rfl⟩)
       exact ⟨⟨k + z, j + 1, _, by go_num, rfl, T1.out, T2.out, by have := HXS.out; omega, by omega, HFN.out, HWR.out⟩, by simp [intOf]; omega⟩
    ·have m3 : ((s[k].toNat : Int) == 93) = false := u8g (fun e => hg (.inl e))
     have m4 : ((s[k].toNat : Int) == 62) = false := u8g (fun e => hg (.inr e))
     have T2 : Hid ((tw s.data.toList (j + 1)).now = now.data.toList) := by
      show _ = _
      rw [t2, heldU, hbk]
      simp only
      rw [if_neg ht, if_neg hg]
     clear t1 t2 t3 t4 hl hki hkn hlt' hc hzz hbk ht FP' hg
     go_wp2_with (go_at_call 33; refine (HSIZE.out _).mono ?_; rintro e w' ⟨rfl, rfl⟩)
     exact ⟨⟨k + z, j + 1, _, by go_num, rfl, T1.out, T2.out, by omega, by omega, HFN.out, HWR.out⟩, by simp [intOf]; omega⟩
  ·have HRT : Hid (r = true) := HR.out.2 (HF.out.done (by rw [hki, len_eq]; exact hlt))
   go_wp2
   go_ret
   rw [HRT.out]
   exact ⟨rfl, HWR.out⟩
end Go.Proofs.Ytdgkpkdinfklaab
