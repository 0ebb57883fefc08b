import Derived.Test.YtdgkpkdinfklaabGRPA
import Derived.Test.YtdgkpkdinfklaabGH
namespace Go.Proofs.Ytdgkpkdinfklaab
open Go.RowKit
set_option maxHeartbeats 1600000 in
theorem kway_any (eg : ByteArray) (a b : UInt8) (w : World) (hs : eg.size ≤ 1000) (r : Bool) (hr : r = true ↔ WayE (prs eg.data.toList) a b) :
  Calls Try.prog 35 #[.string eg, .int .u8 a.toNat, .int .u8 b.toNat] w fun e w' => e = .returned (.bool r) ∧ w' = w := by
 have HR : Hid (r = true ↔ WayE (prs eg.data.toList) a b) := hr
 clear hr
 have hpl : (prs eg.data.toList).length ≤ 500 := by have := prs_len eg.data.toList; rw [len_eq] at this; omega
 have HPL : Hid ((prs eg.data.toList).length ≤ 500) := hpl
 clear hpl
 go_enter Try.func35, Try.ntmps35
 go_wp2
 go_loopw [7, 8] (fun tv gv wr => ∃ (to : ByteArray) (ag : Bool), tv = .string to ∧ gv = .bool ag ∧ WI (prs eg.data.toList) a to.data.toList ag ∧ wr = w) (fun tv gv _ => wayM (prs eg.data.toList) (strOf tv) (boolOf gv))
 case atStart => exact ⟨⟨#[]⟩, true, rfl, rfl, WI.start, rfl⟩
 case round =>
  obtain ⟨to, ag, rfl, rfl, hwi, hw0⟩ := hrel
  have HW : Hid (WI (prs eg.data.toList) a to.data.toList ag) := hwi
  have HW0 : Hid (wr = w) := hw0
  clear hwi hw0
  cases hag : ag with
  | true =>
   rw [hag] at HW
   clear hag
   go_wp2
   go_loopw [7, 8, 9] (fun tv gv iv wr => ∃ (to2 : ByteArray) (ag2 : Bool) (i : Nat), tv = .string to2 ∧ gv = .bool ag2 ∧ iv = .int .i64 i ∧ i ≤ eg.size + 1 ∧ WJ eg.data.toList a to.data.toList to2.data.toList ag2 i ∧ wr = w) (fun _ _ iv _ => eg.size + 1 - (intOf iv).toNat)
   case atStart => exact ⟨to, false, 0, rfl, rfl, rfl, by omega, HW.out.pass, HW0.out⟩
   case round =>
    obtain ⟨to2, ag2, i, rfl, rfl, rfl, hi, hwj, hwr⟩ := hrel
    have HWR : Hid (wr = w) := hwr
    have HJ : Hid (WJ eg.data.toList a to.data.toList to2.data.toList ag2 i) := hwj
    clear hwr hwj
    have hts : to2.size ≤ 500 := by
     have := HJ.out.2.2.1
     rw [len_eq] at this
     have := HPL.out
     omega
    by_cases hlt : i + 1 < eg.size
    ·have hl' : i + 1 < eg.data.toList.length := by rw [len_eq]; exact hlt
     obtain ⟨x, hx⟩ : ∃ x, x = eg[i]'(Nat.lt_of_succ_lt hlt) := ⟨_, rfl⟩
     obtain ⟨y, hy⟩ : ∃ y, y = eg[i + 1]'hlt := ⟨_, rfl⟩
     have hx' := hx.symm
     have hy' := hy.symm
     have IX := fun wx => kstands_any to2 x wx (by unfold maxLen; omega)
     have IY := fun wx => kstands_any to2 y wx (by unfold maxLen; omega)
     obtain ⟨c, hc⟩ : ∃ c : ByteArray, c = eg.extract (i + 1) (i + 2) := ⟨_, rfl⟩
     have hc' := hc.symm
     have HC : Hid (c.data.toList = [y]) := by
      show c.data.toList = [y]
      rw [hc, hy]
      exact cut_one eg (i + 1) hlt
     have hcs : c.size = 1 := by rw [← len_eq, HC.out]; rfl
     have HX : Hid (eg.data.toList[i] = x) := by show eg.data.toList[i] = x; rw [hx]; rfl
     have HY : Hid (eg.data.toList[i + 1] = y) := by show eg.data.toList[i + 1] = y; rw [hy]; rfl
     have HL : Hid (i + 1 < eg.data.toList.length) := hl'
     have HN : Hid ((to2 ++ c).data.toList = to2.data.toList ++ [y]) := by
      show (to2 ++ c).data.toList = _
      rw [cat_data, HC.out]
     clear hc hx hy
     cases hiy : inU to2.data.toList y with
     | true =>
      have HMI : Hid (WJ eg.data.toList a to.data.toList to2.data.toList ag2 (i + 2)) := HJ.out.miss hl' HX.out HY.out (.inr hiy)
      have HIY : Hid (∀ wx, Calls Try.prog 26 #[.string to2, .int .u8 (y.toNat : Int)] wx fun e w' => e = .returned (.bool true) ∧ w' = wx) := by
       intro wx; have := IY wx; rw [hiy] at this; exact this
      clear hiy IY
      by_cases he : x = a
      ·have be : ((x.toNat : Int) == (a.toNat : Int)) = true := by rw [he]; simp
       clear he IX
       go_wp2_with fail
       refine (HIY.out _).mono ?_
       rintro e w' ⟨rfl, rfl⟩
       go_wp2
       exact ⟨⟨to2, ag2, i + 2, rfl, rfl, by go_num, by omega, HMI.out, HWR.out⟩, by simp [intOf]; omega⟩
      ·have be : ((x.toNat : Int) == (a.toNat : Int)) = false := by
        rw [u8q]; simpa using he
       cases hix : inU to2.data.toList x with
       | true =>
        have HIX : Hid (∀ wx, Calls Try.prog 26 #[.string to2, .int .u8 (x.toNat : Int)] wx fun e w' => e = .returned (.bool true) ∧ w' = wx) := by
         intro wx; have := IX wx; rw [hix] at this; exact this
        clear he hix IX
        go_wp2_with fail
        refine (HIX.out _).mono ?_
        rintro e w' ⟨rfl, rfl⟩
        go_wp2_with fail
        refine (HIY.out _).mono ?_
        rintro e w' ⟨rfl, rfl⟩
        go_wp2
        exact ⟨⟨to2, ag2, i + 2, rfl, rfl, by go_num, by omega, HMI.out, HWR.out⟩, by simp [intOf]; omega⟩
       | false =>
        have HIX : Hid (∀ wx, Calls Try.prog 26 #[.string to2, .int .u8 (x.toNat : Int)] wx fun e w' => e = .returned (.bool false) ∧ w' = wx) := by
         intro wx; have := IX wx; rw [hix] at this; exact this
        clear he hix IX
        go_wp2_with fail
        refine (HIX.out _).mono ?_
        rintro e w' ⟨rfl, rfl⟩
        go_wp2_with fail
        refine (HIY.out _).mono ?_
        rintro e w' ⟨rfl, rfl⟩
        go_wp2
        exact ⟨⟨to2, ag2, i + 2, rfl, rfl, by go_num, by omega, HMI.out, HWR.out⟩, by simp [intOf]; omega⟩
     | false =>
      have HHF : Hid (x = a ∨ inU to2.data.toList x = true → WJ eg.data.toList a to.data.toList (to2 ++ c).data.toList true (i + 2)) := by
       intro h1
       rw [HN.out]
       exact HJ.out.hit hl' HX.out HY.out h1 hiy
      have HIY : Hid (∀ wx, Calls Try.prog 26 #[.string to2, .int .u8 (y.toNat : Int)] wx fun e w' => e = .returned (.bool false) ∧ w' = wx) := by
       intro wx; have := IY wx; rw [hiy] at this; exact this
      clear hiy IY
      by_cases he : x = a
      ·have be : ((x.toNat : Int) == (a.toNat : Int)) = true := by rw [he]; simp
       have HHI : Hid (WJ eg.data.toList a to.data.toList (to2 ++ c).data.toList true (i + 2)) := HHF.out (.inl he)
       clear he IX HHF
       go_wp2_with fail
       refine (HIY.out _).mono ?_
       rintro e w' ⟨rfl, rfl⟩
       go_wp2
       exact ⟨⟨to2 ++ c, true, i + 2, rfl, rfl, by go_num, by omega, HHI.out, HWR.out⟩, by simp [intOf]; omega⟩
      ·have be : ((x.toNat : Int) == (a.toNat : Int)) = false := by
        rw [u8q]; simpa using he
       cases hix : inU to2.data.toList x with
       | true =>
        have HHI : Hid (WJ eg.data.toList a to.data.toList (to2 ++ c).data.toList true (i + 2)) := HHF.out (.inr hix)
        have HIX : Hid (∀ wx, Calls Try.prog 26 #[.string to2, .int .u8 (x.toNat : Int)] wx fun e w' => e = .returned (.bool true) ∧ w' = wx) := by
         intro wx; have := IX wx; rw [hix] at this; exact this
        clear he hix IX HHF
        go_wp2_with fail
        refine (HIX.out _).mono ?_
        rintro e w' ⟨rfl, rfl⟩
        go_wp2_with fail
        refine (HIY.out _).mono ?_
        rintro e w' ⟨rfl, rfl⟩
        go_wp2
        exact ⟨⟨to2 ++ c, true, i + 2, rfl, rfl, by go_num, by omega, HHI.out, HWR.out⟩, by simp [intOf]; omega⟩
       | false =>
        have HMI : Hid (WJ eg.data.toList a to.data.toList to2.data.toList ag2 (i + 2)) := HJ.out.miss hl' HX.out HY.out (.inl (by rintro (h | h); exact he h; rw [hix] at h; exact Bool.noConfusion h))
        have HIX : Hid (∀ wx, Calls Try.prog 26 #[.string to2, .int .u8 (x.toNat : Int)] wx fun e w' => e = .returned (.bool false) ∧ w' = wx) := by
         intro wx; have := IX wx; rw [hix] at this; exact this
        clear he hix IX HHF
        go_wp2_with fail
        refine (HIX.out _).mono ?_
        rintro e w' ⟨rfl, rfl⟩
        go_wp2_with fail
        refine (HIY.out _).mono ?_
        rintro e w' ⟨rfl, rfl⟩
        go_wp2
        exact ⟨⟨to2, ag2, i + 2, rfl, rfl, by go_num, by omega, HMI.out, HWR.out⟩, by simp [intOf]; omega⟩
    ·have HD := HJ.out.done HW.out (by rw [len_eq]; exact hlt)
     have HDI : Hid (WI (prs eg.data.toList) a to2.data.toList ag2) := HD.1
     have HDM : Hid (wayM (prs eg.data.toList) to2.data.toList ag2 < wayM (prs eg.data.toList) to.data.toList true) := by
      show wayM _ _ _ < wayM _ _ _
      unfold wayM
      rw [if_pos rfl]
      split
      ·have := HD.2.1 (by assumption); omega
      ·have := HD.2.2; omega
     clear HD
     go_wp2
     exact ⟨⟨to2, ag2, rfl, rfl, HDI.out, HWR.out⟩, HDM.out⟩
  | false =>
   rw [hag] at HW
   clear hag
   have HF : Hid (inU to.data.toList b = r) := by
    show inU to.data.toList b = r
    have := way_gathered _ _ _ HW.out.1 (HW.out.2.2 rfl) b
    rw [Bool.eq_iff_iff, inU_mem, this, HR.out]
   have hts : to.size ≤ 500 := by
    have := HW.out.2.1
    rw [len_eq] at this
    have := HPL.out
    omega
   go_wp2_with fail
   refine (kstands_any to b _ (by unfold maxLen; omega)).mono ?_
   rintro e w' ⟨rfl, rfl⟩
   rw [HF.out]
   go_wp2
   go_ret
   exact ⟨rfl, HW0.out⟩
end Go.Proofs.Ytdgkpkdinfklaab
