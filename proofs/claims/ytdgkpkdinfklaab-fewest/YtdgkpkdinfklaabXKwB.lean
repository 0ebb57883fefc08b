import Derived.Test.YtdgkpkdinfklaabGRPB
import Derived.Test.YtdgkpkdinfklaabGH
namespace Go.Proofs.Ytdgkpkdinfklaab
open Go.RowKit
theorem pickI_six (c : Int) : pickI c 6 = (choN c : Int) := by
 unfold pickI choN
 by_cases h : c < 0
 ·simp only [h, if_true]; omega
 ·simp only [h, if_false]; omega
def cntC (c : UInt8) (l : List UInt8) : Nat := (l.filter (· == c)).length
theorem cntC_step {p : ByteArray} {k : Nat} (c : UInt8) (h : k < p.size) : cntC c (p.data.toList.take (k + 1)) = cntC c (p.data.toList.take k) + (if p[k] = c then 1 else 0) := by
 have hk : k < p.data.toList.length := by simpa using h
 have e : p.data.toList[k] = p[k] := rfl
 unfold cntC
 rw [List.take_succ_eq_append_getElem hk, List.filter_append, List.length_append, e]
 by_cases hc : p[k] = c
 ·simp [hc]
 ·simp [hc]
theorem cntC_le (c : UInt8) (l : List UInt8) : cntC c l ≤ l.length := List.length_filter_le _ _
set_option maxHeartbeats 800000 in
set_option maxRecDepth 100000 in
theorem kcount_any (p : ByteArray) (c : UInt8) (w : World) (hp : p.size ≤ 1000) :
  Calls Try.prog 22 #[.string p, .int .u8 (c.toNat : Int)] w fun e w' => e = .returned (.int .i64 (cntC c p.data.toList)) ∧ w' = w := by
 go_enter Try.func22, Try.ntmps22
 go_wp2
 go_loopw [5, 6] (fun v i wr => ∃ k : Nat, k ≤ p.size ∧ i = .int .i64 k ∧ v = .int .i64 (cntC c (p.data.toList.take k) : Int) ∧ wr = w) (fun _ i _ => p.size - (intOf i).toNat)
 case atStart => exact ⟨0, Nat.zero_le _, rfl, rfl, rfl⟩
 case round =>
  obtain ⟨k, hk, rfl, rfl, rfl⟩ := hrel
  have hb : cntC c (p.data.toList.take k) ≤ k := Nat.le_trans (cntC_le _ _) (List.length_take_le _ _)
  obtain ⟨m, hm⟩ : ∃ m, m = cntC c (p.data.toList.take k) := ⟨_, rfl⟩
  by_cases hlt : k < p.size
  ·have hs := cntC_step c hlt
   rw [← hm] at hs hb ⊢
   by_cases hc : p[k] = c
   ·have bc : ((p[k].toNat : Int) == (c.toNat : Int)) = true := by rw [hc]; simp
    rw [if_pos hc] at hs
    have HS : Hid (cntC c (p.data.toList.take (k + 1)) = m + 1) := hs
    clear hs hm hc
    go_wp2
    go_roundw
    case rel => exact ⟨k + 1, by omega, by go_num, by rw [HS.out]; go_num, by first | rfl | trivial⟩
    case measure => simp [intOf]; omega
   ·have bc : ((p[k].toNat : Int) == (c.toNat : Int)) = false := by
     cases hx : ((p[k].toNat : Int) == (c.toNat : Int)) with
     | false => rfl
     | true => exact absurd (UInt8.toNat_inj.1 (by have := beq_iff_eq.1 hx; omega)) hc
    rw [if_neg hc] at hs
    have HS : Hid (cntC c (p.data.toList.take (k + 1)) = m) := hs
    clear hs hm hc
    go_wp2
    go_roundw
    case rel => exact ⟨k + 1, by omega, by go_num, by rw [HS.out], by first | rfl | trivial⟩
    case measure => simp [intOf]; omega
  ·have HE : Hid (m = cntC c p.data.toList) := by
    show _ = _
    rw [hm, List.take_of_length_le (by simp; omega)]
   rw [← hm]
   clear hm hb
   go_wp2
   go_ret
   exact ⟨by rw [← HE.out]; rfl, rfl⟩
set_option maxHeartbeats 1600000 in
set_option maxRecDepth 100000 in
theorem krival_any (s : ByteArray) (mks : List MK) (w : World) (la : Option Addr) (ln lc : Nat) (Z : Nat → Int) (hl : ln ≤ maxLen) (hz : NumsAt w la ln Z) (h : s.size ≤ 240) (ha : Acc s.data.toList mks) (g : ByteArray) (hg : g.data.toList = lay (chF Z ln) 0 s.data.toList) :
  Calls Try.prog 20 #[.string s, .slice la ln lc] w fun e w' => e = .returned (.string g) ∧ ∃ q, w' = w.drewN q := by
 have HA : Hid (Acc s.data.toList mks) := ha
 have HG : Hid (g.data.toList = lay (chF Z ln) 0 s.data.toList) := hg
 have HZ : Hid (NumsAt w la ln Z) := hz
 clear ha hg hz
 unfold maxLen at hl
 go_enter Try.func20, Try.ntmps20
 go_wp2
 go_loopw [5, 6, 7] (fun ov kv iv wr => ∃ (k kk j q : Nat) (o : ByteArray), iv = .int .i64 k ∧ kv = .int .i64 kk ∧ ov = .string o ∧ (tw s.data.toList j).i = k ∧ LW (chF Z ln) s.data.toList o.data.toList kk k ∧ o.size ≤ 3 * k ∧ kk ≤ k ∧ k ≤ s.size ∧ wr = w.drewN q) (fun _ _ i _ => s.size - (intOf i).toNat)
 case atStart => exact ⟨0, 0, 0, 0, ⟨#[]⟩, rfl, rfl, rfl, rfl, by unfold LW; simp, by decide, by decide, Nat.zero_le _, rfl⟩
 case round =>
  obtain ⟨k, kk, j, q, o, rfl, rfl, rfl, hki, hlw, hos, hkk, hks, hwr⟩ := hrel
  have HWR : Hid (wr = w.drewN q) := hwr
  have HLW : Hid (LW (chF Z ln) s.data.toList o.data.toList kk k) := hlw
  clear hwr hlw
  by_cases hlt : k < s.size
  ·have hlt' : (tw s.data.toList j).i < s.data.toList.length := by rw [hki, len_eq]; exact hlt
   have hc : s.data.toList[(tw s.data.toList j).i]? = some s[k] := by rw [hki]; exact byteAt s k hlt
   obtain ⟨t1, _⟩ := tw_at hlt' hc
   obtain ⟨room, _⟩ := acc_room HA.out hlt' hc
   rw [hki] at room t1 hc
   have HC : Hid (s.data.toList[k]? = some s[k]) := hc
   have HRM : Hid (k + sizeU s[k] ≤ s.data.toList.length) := room
   rw [len_eq] at room
   obtain ⟨z, hzz⟩ : ∃ z, z = sizeU s[k] := ⟨_, rfl⟩
   have hz1 := sizeU_pos s[k]
   rw [← hzz] at room hz1 t1
   have T1 : Hid ((tw s.data.toList (j + 1)).i = k + z) := t1
   have hz2 : z ≤ 2 := by rw [hzz]; unfold sizeU; split <;> omega
   obtain ⟨pc, hpc⟩ : ∃ pc : ByteArray, pc = s.extract k (k + z) := ⟨_, rfl⟩
   have HPC : Hid (pc.data.toList = (s.data.toList.drop k).take z) := by show pc.data.toList = _; rw [hpc, mid_data]
   have hpz : pc.size = z := by
    rw [← len_eq, HPC.out, List.length_take, List.length_drop, len_eq]; omega
   have hpos : 0 < pc.size := by rw [hpz]; exact hz1
   have hple : pc.size ≤ z := Nat.le_of_eq hpz
   have hp0 : pc[0]'hpos = s[k] := by
    have h0 : pc.data.toList[0]? = some (pc[0]'hpos) := byteAt pc 0 hpos
    rw [HPC.out, List.getElem?_take_of_lt (by omega), List.getElem?_drop, Nat.add_zero, HC.out] at h0
    exact (Option.some.inj h0).symm
   have HS : Hid (∀ wx, Calls Try.prog 33 #[.int .u8 (s[k].toNat : Int)] wx fun e w' => e = .returned (.int .i64 z) ∧ w' = wx) := by
    intro wx; rw [hzz]; exact ksize_any s[k] wx
   have HZZ : Hid (z = sizeU s[k]) := hzz
   have hpc' := hpc.symm
   clear t1 hzz hki hc hlt' hpc hpz
   by_cases hgp : s[k] = 103 ∨ s[k] = 112
   ·have hz2' : z = 2 := by rw [HZZ.out]; rcases hgp with h' | h' <;> rw [h'] <;> rfl
    subst hz2'
    have hr1 : k + 1 < s.data.toList.length := by rw [len_eq]; omega
    have HNO : Hid (chF Z ln kk = none → LW (chF Z ln) s.data.toList (o ++ pc).data.toList (kk + 1) (k + 2)) := by
     intro hc
     rw [cat_data, HPC.out]
     exact HLW.out.none HC.out hr1 hgp hc
    have HSO : Hid (∀ l, chF Z ln kk = some l → LW (chF Z ln) s.data.toList (o.data.toList ++ ([60] ++ [l] ++ pc.data.toList ++ [62])) (kk + 1) (k + 2)) := by
     intro l hc
     rw [HPC.out]
     exact HLW.out.some HC.out hr1 hgp hc
    have hos2 : (o ++ pc).size ≤ 3 * (k + 2) := by rw [ByteArray.size_append]; omega
    clear hr1
    by_cases hg : s[k] = 103
    ·have b1 : ((s[k].toNat : Int) == 103) = true := by rw [hg]; rfl
     clear hg hgp
     by_cases hkl : kk < ln
     ·obtain ⟨b, off, hla, hcell, r1, r2⟩ := HZ.out kk hkl
      have hcell' : wr.cell? ⟨b, off + kk, none⟩ = some (.int .i64 (Z kk)) := by rw [HWR.out]; exact hcell
      obtain ⟨m, hm⟩ : ∃ m, m = choN (Z kk) := ⟨_, rfl⟩
      have HCH : Hid (∀ wx, Calls Try.prog 30 #[.int .i64 (Z kk), .int .i64 6] wx fun e w' => e = .returned (.int .i64 m) ∧ w' = wx) := by
       intro wx; rw [hm, ← pickI_six]; exact pick_any (Z kk) 6 wx (by omega) (by omega) (by decide) (by decide)
      have hm6 : m < 6 := by rw [hm]; exact choN_lt _
      have HM : Hid (m = choN (Z kk)) := hm
      clear hm hcell
      subst hla
      by_cases hm0 : m = 0
      ·have HN : Hid (LW (chF Z ln) s.data.toList (o ++ pc).data.toList (kk + 1) (k + 2)) := HNO.out (by rw [chF, if_neg (by rw [← HM.out, hm0]; simp)])
       subst hm0
       go_wp2_with fail
       refine (HS.out _).mono ?_
       rintro e w' ⟨rfl, rfl⟩
       go_wp2_with fail
       refine (HCH.out _).mono ?_
       rintro e w' ⟨rfl, rfl⟩
       go_wp2_with fail
       refine (HS.out _).mono ?_
       rintro e w' ⟨rfl, rfl⟩
       go_wp2
       go_round
       case rel => exact ⟨k + 2, kk + 1, j + 1, q, o ++ pc, by go_num, by go_num, rfl, T1.out, HN.out, hos2, by omega, by omega, HWR.out⟩
       case measure => simp [intOf]; omega
      ·have HSO' : Hid (∀ e : ByteArray, e.data.toList = [UInt8.ofNat (64 + m)] → LW (chF Z ln) s.data.toList (o ++ ((ByteArray.mk #[60]) ++ e ++ pc ++ (ByteArray.mk #[62]))).data.toList (kk + 1) (k + 2) ∧ (o ++ ((ByteArray.mk #[60]) ++ e ++ pc ++ (ByteArray.mk #[62]))).size ≤ 3 * (k + 2)) := by
        intro e he
        have es : e.size = 1 := by rw [← len_eq, he]; rfl
        refine ⟨?_, ?_⟩
        ·have := HSO.out (UInt8.ofNat (64 + m)) (by rw [chF, if_pos ⟨hkl, by rw [← HM.out]; omega⟩, ← HM.out])
         rw [cat_data, cat_data, cat_data, cat_data, he]; exact this
        ·rw [ByteArray.size_append, ByteArray.size_append, ByteArray.size_append, ByteArray.size_append, es]
         have e1 : (ByteArray.mk #[60]).size = 1 := rfl
         have e2 : (ByteArray.mk #[62]).size = 1 := rfl
         omega
       clear HNO HSO
       have hmc : m = 1 ∨ m = 2 ∨ m = 3 ∨ m = 4 ∨ m = 5 := by omega
       clear hm6 hm0 HM
       rcases hmc with rfl | rfl | rfl | rfl | rfl
       ·obtain ⟨HN1, hs1⟩ := HSO'.out ⟨#[65]⟩ rfl
        have HN : Hid (LW (chF Z ln) s.data.toList (o ++ ((ByteArray.mk #[60]) ++ (ByteArray.mk #[65]) ++ pc ++ (ByteArray.mk #[62]))).data.toList (kk + 1) (k + 2)) := HN1
        have HS1 : Hid ((o ++ ((ByteArray.mk #[60]) ++ (ByteArray.mk #[65]) ++ pc ++ (ByteArray.mk #[62]))).size ≤ 3 * (k + 2)) := hs1
        clear HN1 hs1 HSO'
        go_wp2_with fail
        refine (HS.out _).mono ?_
        rintro e w' ⟨rfl, rfl⟩
        go_wp2_with fail
        refine (HCH.out _).mono ?_
        rintro e w' ⟨rfl, rfl⟩
        go_wp2_with fail
        refine (HS.out _).mono ?_
        rintro e w' ⟨rfl, rfl⟩
        go_wp2
        go_round
        case rel => exact ⟨k + 2, kk + 1, j + 1, q, _, by go_num, by go_num, rfl, T1.out, HN.out, HS1.out, by omega, by omega, HWR.out⟩
        case measure => simp [intOf]; omega
       ·obtain ⟨HN1, hs1⟩ := HSO'.out ⟨#[66]⟩ rfl
        have HN : Hid (LW (chF Z ln) s.data.toList (o ++ ((ByteArray.mk #[60]) ++ (ByteArray.mk #[66]) ++ pc ++ (ByteArray.mk #[62]))).data.toList (kk + 1) (k + 2)) := HN1
        have HS1 : Hid ((o ++ ((ByteArray.mk #[60]) ++ (ByteArray.mk #[66]) ++ pc ++ (ByteArray.mk #[62]))).size ≤ 3 * (k + 2)) := hs1
        clear HN1 hs1 HSO'
        go_wp2_with fail
        refine (HS.out _).mono ?_
        rintro e w' ⟨rfl, rfl⟩
        go_wp2_with fail
        refine (HCH.out _).mono ?_
        rintro e w' ⟨rfl, rfl⟩
        go_wp2_with fail
        refine (HS.out _).mono ?_
        rintro e w' ⟨rfl, rfl⟩
        go_wp2
        go_round
        case rel => exact ⟨k + 2, kk + 1, j + 1, q, _, by go_num, by go_num, rfl, T1.out, HN.out, HS1.out, by omega, by omega, HWR.out⟩
        case measure => simp [intOf]; omega
       ·obtain ⟨HN1, hs1⟩ := HSO'.out ⟨#[67]⟩ rfl
        have HN : Hid (LW (chF Z ln) s.data.toList (o ++ ((ByteArray.mk #[60]) ++ (ByteArray.mk #[67]) ++ pc ++ (ByteArray.mk #[62]))).data.toList (kk + 1) (k + 2)) := HN1
        have HS1 : Hid ((o ++ ((ByteArray.mk #[60]) ++ (ByteArray.mk #[67]) ++ pc ++ (ByteArray.mk #[62]))).size ≤ 3 * (k + 2)) := hs1
        clear HN1 hs1 HSO'
        go_wp2_with fail
        refine (HS.out _).mono ?_
        rintro e w' ⟨rfl, rfl⟩
        go_wp2_with fail
        refine (HCH.out _).mono ?_
        rintro e w' ⟨rfl, rfl⟩
        go_wp2_with fail
        refine (HS.out _).mono ?_
        rintro e w' ⟨rfl, rfl⟩
        go_wp2
        go_round
        case rel => exact ⟨k + 2, kk + 1, j + 1, q, _, by go_num, by go_num, rfl, T1.out, HN.out, HS1.out, by omega, by omega, HWR.out⟩
        case measure => simp [intOf]; omega
       ·obtain ⟨HN1, hs1⟩ := HSO'.out ⟨#[68]⟩ rfl
        have HN : Hid (LW (chF Z ln) s.data.toList (o ++ ((ByteArray.mk #[60]) ++ (ByteArray.mk #[68]) ++ pc ++ (ByteArray.mk #[62]))).data.toList (kk + 1) (k + 2)) := HN1
        have HS1 : Hid ((o ++ ((ByteArray.mk #[60]) ++ (ByteArray.mk #[68]) ++ pc ++ (ByteArray.mk #[62]))).size ≤ 3 * (k + 2)) := hs1
        clear HN1 hs1 HSO'
        go_wp2_with fail
        refine (HS.out _).mono ?_
        rintro e w' ⟨rfl, rfl⟩
        go_wp2_with fail
        refine (HCH.out _).mono ?_
        rintro e w' ⟨rfl, rfl⟩
        go_wp2_with fail
        refine (HS.out _).mono ?_
        rintro e w' ⟨rfl, rfl⟩
        go_wp2
        go_round
        case rel => exact ⟨k + 2, kk + 1, j + 1, q, _, by go_num, by go_num, rfl, T1.out, HN.out, HS1.out, by omega, by omega, HWR.out⟩
        case measure => simp [intOf]; omega
       ·obtain ⟨HN1, hs1⟩ := HSO'.out ⟨#[69]⟩ rfl
        have HN : Hid (LW (chF Z ln) s.data.toList (o ++ ((ByteArray.mk #[60]) ++ (ByteArray.mk #[69]) ++ pc ++ (ByteArray.mk #[62]))).data.toList (kk + 1) (k + 2)) := HN1
        have HS1 : Hid ((o ++ ((ByteArray.mk #[60]) ++ (ByteArray.mk #[69]) ++ pc ++ (ByteArray.mk #[62]))).size ≤ 3 * (k + 2)) := hs1
        clear HN1 hs1 HSO'
        go_wp2_with fail
        refine (HS.out _).mono ?_
        rintro e w' ⟨rfl, rfl⟩
        go_wp2_with fail
        refine (HCH.out _).mono ?_
        rintro e w' ⟨rfl, rfl⟩
        go_wp2_with fail
        refine (HS.out _).mono ?_
        rintro e w' ⟨rfl, rfl⟩
        go_wp2
        go_round
        case rel => exact ⟨k + 2, kk + 1, j + 1, q, _, by go_num, by go_num, rfl, T1.out, HN.out, HS1.out, by omega, by omega, HWR.out⟩
        case measure => simp [intOf]; omega
     ·have HN : Hid (LW (chF Z ln) s.data.toList (o ++ pc).data.toList (kk + 1) (k + 2)) := HNO.out (by rw [chF, if_neg (fun h => hkl h.1)])
      go_wp2_with fail
      refine (HS.out _).mono ?_
      rintro e w' ⟨rfl, rfl⟩
      go_wp2_with fail
      refine (HS.out _).mono ?_
      rintro e w' ⟨rfl, rfl⟩
      go_wp2
      go_round
      case rel => exact ⟨k + 2, kk + 1, j + 1, q, o ++ pc, by go_num, by go_num, rfl, T1.out, HN.out, hos2, by omega, by omega, HWR.out⟩
      case measure => simp [intOf]; omega
    ·have b1 : ((s[k].toNat : Int) == 103) = false := u8g hg
     have b2 : ((s[k].toNat : Int) == 112) = true := by
      rcases hgp with h' | h'
      ·exact absurd h' hg
      ·rw [h']; rfl
     clear hg hgp
     by_cases hkl : kk < ln
     ·obtain ⟨b, off, hla, hcell, r1, r2⟩ := HZ.out kk hkl
      have hcell' : wr.cell? ⟨b, off + kk, none⟩ = some (.int .i64 (Z kk)) := by rw [HWR.out]; exact hcell
      obtain ⟨m, hm⟩ : ∃ m, m = choN (Z kk) := ⟨_, rfl⟩
      have HCH : Hid (∀ wx, Calls Try.prog 30 #[.int .i64 (Z kk), .int .i64 6] wx fun e w' => e = .returned (.int .i64 m) ∧ w' = wx) := by
       intro wx; rw [hm, ← pickI_six]; exact pick_any (Z kk) 6 wx (by omega) (by omega) (by decide) (by decide)
      have hm6 : m < 6 := by rw [hm]; exact choN_lt _
      have HM : Hid (m = choN (Z kk)) := hm
      clear hm hcell
      subst hla
      by_cases hm0 : m = 0
      ·have HN : Hid (LW (chF Z ln) s.data.toList (o ++ pc).data.toList (kk + 1) (k + 2)) := HNO.out (by rw [chF, if_neg (by rw [← HM.out, hm0]; simp)])
       subst hm0
       go_wp2_with fail
       refine (HS.out _).mono ?_
       rintro e w' ⟨rfl, rfl⟩
       go_wp2_with fail
       refine (HCH.out _).mono ?_
       rintro e w' ⟨rfl, rfl⟩
       go_wp2_with fail
       refine (HS.out _).mono ?_
       rintro e w' ⟨rfl, rfl⟩
       go_wp2
       go_round
       case rel => exact ⟨k + 2, kk + 1, j + 1, q, o ++ pc, by go_num, by go_num, rfl, T1.out, HN.out, hos2, by omega, by omega, HWR.out⟩
       case measure => simp [intOf]; omega
      ·have HSO' : Hid (∀ e : ByteArray, e.data.toList = [UInt8.ofNat (64 + m)] → LW (chF Z ln) s.data.toList (o ++ ((ByteArray.mk #[60]) ++ e ++ pc ++ (ByteArray.mk #[62]))).data.toList (kk + 1) (k + 2) ∧ (o ++ ((ByteArray.mk #[60]) ++ e ++ pc ++ (ByteArray.mk #[62]))).size ≤ 3 * (k + 2)) := by
        intro e he
        have es : e.size = 1 := by rw [← len_eq, he]; rfl
        refine ⟨?_, ?_⟩
        ·have := HSO.out (UInt8.ofNat (64 + m)) (by rw [chF, if_pos ⟨hkl, by rw [← HM.out]; omega⟩, ← HM.out])
         rw [cat_data, cat_data, cat_data, cat_data, he]; exact this
        ·rw [ByteArray.size_append, ByteArray.size_append, ByteArray.size_append, ByteArray.size_append, es]
         have e1 : (ByteArray.mk #[60]).size = 1 := rfl
         have e2 : (ByteArray.mk #[62]).size = 1 := rfl
         omega
       clear HNO HSO
       have hmc : m = 1 ∨ m = 2 ∨ m = 3 ∨ m = 4 ∨ m = 5 := by omega
       clear hm6 hm0 HM
       rcases hmc with rfl | rfl | rfl | rfl | rfl
       ·obtain ⟨HN1, hs1⟩ := HSO'.out ⟨#[65]⟩ rfl
        have HN : Hid (LW (chF Z ln) s.data.toList (o ++ ((ByteArray.mk #[60]) ++ (ByteArray.mk #[65]) ++ pc ++ (ByteArray.mk #[62]))).data.toList (kk + 1) (k + 2)) := HN1
        have HS1 : Hid ((o ++ ((ByteArray.mk #[60]) ++ (ByteArray.mk #[65]) ++ pc ++ (ByteArray.mk #[62]))).size ≤ 3 * (k + 2)) := hs1
        clear HN1 hs1 HSO'
        go_wp2_with fail
        refine (HS.out _).mono ?_
        rintro e w' ⟨rfl, rfl⟩
        go_wp2_with fail
        refine (HCH.out _).mono ?_
        rintro e w' ⟨rfl, rfl⟩
        go_wp2_with fail
        refine (HS.out _).mono ?_
        rintro e w' ⟨rfl, rfl⟩
        go_wp2
        go_round
        case rel => exact ⟨k + 2, kk + 1, j + 1, q, _, by go_num, by go_num, rfl, T1.out, HN.out, HS1.out, by omega, by omega, HWR.out⟩
        case measure => simp [intOf]; omega
       ·obtain ⟨HN1, hs1⟩ := HSO'.out ⟨#[66]⟩ rfl
        have HN : Hid (LW (chF Z ln) s.data.toList (o ++ ((ByteArray.mk #[60]) ++ (ByteArray.mk #[66]) ++ pc ++ (ByteArray.mk #[62]))).data.toList (kk + 1) (k + 2)) := HN1
        have HS1 : Hid ((o ++ ((ByteArray.mk #[60]) ++ (ByteArray.mk #[66]) ++ pc ++ (ByteArray.mk #[62]))).size ≤ 3 * (k + 2)) := hs1
        clear HN1 hs1 HSO'
        go_wp2_with fail
        refine (HS.out _).mono ?_
        rintro e w' ⟨rfl, rfl⟩
        go_wp2_with fail
        refine (HCH.out _).mono ?_
        rintro e w' ⟨rfl, rfl⟩
        go_wp2_with fail
        refine (HS.out _).mono ?_
        rintro e w' ⟨rfl, rfl⟩
        go_wp2
        go_round
        case rel => exact ⟨k + 2, kk + 1, j + 1, q, _, by go_num, by go_num, rfl, T1.out, HN.out, HS1.out, by omega, by omega, HWR.out⟩
        case measure => simp [intOf]; omega
       ·obtain ⟨HN1, hs1⟩ := HSO'.out ⟨#[67]⟩ rfl
        have HN : Hid (LW (chF Z ln) s.data.toList (o ++ ((ByteArray.mk #[60]) ++ (ByteArray.mk #[67]) ++ pc ++ (ByteArray.mk #[62]))).data.toList (kk + 1) (k + 2)) := HN1
        have HS1 : Hid ((o ++ ((ByteArray.mk #[60]) ++ (ByteArray.mk #[67]) ++ pc ++ (ByteArray.mk #[62]))).size ≤ 3 * (k + 2)) := hs1
        clear HN1 hs1 HSO'
        go_wp2_with fail
        refine (HS.out _).mono ?_
        rintro e w' ⟨rfl, rfl⟩
        go_wp2_with fail
        refine (HCH.out _).mono ?_
        rintro e w' ⟨rfl, rfl⟩
        go_wp2_with fail
        refine (HS.out _).mono ?_
        rintro e w' ⟨rfl, rfl⟩
        go_wp2
        go_round
        case rel => exact ⟨k + 2, kk + 1, j + 1, q, _, by go_num, by go_num, rfl, T1.out, HN.out, HS1.out, by omega, by omega, HWR.out⟩
        case measure => simp [intOf]; omega
       ·obtain ⟨HN1, hs1⟩ := HSO'.out ⟨#[68]⟩ rfl
        have HN : Hid (LW (chF Z ln) s.data.toList (o ++ ((ByteArray.mk #[60]) ++ (ByteArray.mk #[68]) ++ pc ++ (ByteArray.mk #[62]))).data.toList (kk + 1) (k + 2)) := HN1
        have HS1 : Hid ((o ++ ((ByteArray.mk #[60]) ++ (ByteArray.mk #[68]) ++ pc ++ (ByteArray.mk #[62]))).size ≤ 3 * (k + 2)) := hs1
        clear HN1 hs1 HSO'
        go_wp2_with fail
        refine (HS.out _).mono ?_
        rintro e w' ⟨rfl, rfl⟩
        go_wp2_with fail
        refine (HCH.out _).mono ?_
        rintro e w' ⟨rfl, rfl⟩
        go_wp2_with fail
        refine (HS.out _).mono ?_
        rintro e w' ⟨rfl, rfl⟩
        go_wp2
        go_round
        case rel => exact ⟨k + 2, kk + 1, j + 1, q, _, by go_num, by go_num, rfl, T1.out, HN.out, HS1.out, by omega, by omega, HWR.out⟩
        case measure => simp [intOf]; omega
       ·obtain ⟨HN1, hs1⟩ := HSO'.out ⟨#[69]⟩ rfl
        have HN : Hid (LW (chF Z ln) s.data.toList (o ++ ((ByteArray.mk #[60]) ++ (ByteArray.mk #[69]) ++ pc ++ (ByteArray.mk #[62]))).data.toList (kk + 1) (k + 2)) := HN1
        have HS1 : Hid ((o ++ ((ByteArray.mk #[60]) ++ (ByteArray.mk #[69]) ++ pc ++ (ByteArray.mk #[62]))).size ≤ 3 * (k + 2)) := hs1
        clear HN1 hs1 HSO'
        go_wp2_with fail
        refine (HS.out _).mono ?_
        rintro e w' ⟨rfl, rfl⟩
        go_wp2_with fail
        refine (HCH.out _).mono ?_
        rintro e w' ⟨rfl, rfl⟩
        go_wp2_with fail
        refine (HS.out _).mono ?_
        rintro e w' ⟨rfl, rfl⟩
        go_wp2
        go_round
        case rel => exact ⟨k + 2, kk + 1, j + 1, q, _, by go_num, by go_num, rfl, T1.out, HN.out, HS1.out, by omega, by omega, HWR.out⟩
        case measure => simp [intOf]; omega
     ·have HN : Hid (LW (chF Z ln) s.data.toList (o ++ pc).data.toList (kk + 1) (k + 2)) := HNO.out (by rw [chF, if_neg (fun h => hkl h.1)])
      go_wp2_with fail
      refine (HS.out _).mono ?_
      rintro e w' ⟨rfl, rfl⟩
      go_wp2_with fail
      refine (HS.out _).mono ?_
      rintro e w' ⟨rfl, rfl⟩
      go_wp2
      go_round
      case rel => exact ⟨k + 2, kk + 1, j + 1, q, o ++ pc, by go_num, by go_num, rfl, T1.out, HN.out, hos2, by omega, by omega, HWR.out⟩
      case measure => simp [intOf]; omega
   ·have b1 : ((s[k].toNat : Int) == 103) = false := u8g (fun e => hgp (.inl e))
    have b2 : ((s[k].toNat : Int) == 112) = false := u8g (fun e => hgp (.inr e))
    have HN : Hid (LW (chF Z ln) s.data.toList (o ++ pc).data.toList kk (k + z)) := by
     show LW _ _ _ _ _
     rw [cat_data, HPC.out, HZZ.out]
     exact HLW.out.one HC.out HRM.out hgp
    have hos2 : (o ++ pc).size ≤ 3 * (k + z) := by rw [ByteArray.size_append]; omega
    clear hgp
    go_wp2_with fail
    refine (HS.out _).mono ?_
    rintro e w' ⟨rfl, rfl⟩
    go_wp2_with fail
    refine (HS.out _).mono ?_
    rintro e w' ⟨rfl, rfl⟩
    go_wp2
    go_round
    case rel => exact ⟨k + z, kk, j + 1, q, o ++ pc, by go_num, rfl, rfl, T1.out, HN.out, hos2, by omega, by omega, HWR.out⟩
    case measure => simp [intOf]; omega
  ·have HF : Hid (o = g) := by
    show o = g
    apply ByteArray.ext
    apply Array.toList_inj.1
    have := HLW.out
    unfold LW at this
    rw [List.drop_eq_nil_of_le (by rw [len_eq]; omega), show lay (chF Z ln) kk [] = [] by simp [lay], List.append_nil] at this
    rw [HG.out, this]
   go_wp2
   go_ret
   rw [HF.out]
   exact ⟨rfl, q, HWR.out⟩
end Go.Proofs.Ytdgkpkdinfklaab
