import Derived.Test.YtdgkpkdinfklaaaXMkF
namespace Go.Proofs.Ytdgkpkdinfklaaa
open Go.RowKit

theorem accL_append (a b : List MK) : accL (a ++ b) = accL a ++ accL b := by simp [accL]

/-- The access at a place of the text, in the list. -/
theorem access_at {p : ByteArray} {mks : List MK} (ha : Acc p.data.toList mks) {j k : Nat} (hk : (tw p.data.toList j).i = k) (hlt : k < p.size) (hg : p[k] = 103 ∨ p[k] = 112) :
    ∃ hk1 : k + 1 < p.size, ∃ m, (accL mks)[(accL (tw p.data.toList j).mks).length]? = some m ∧ (accL (tw p.data.toList (j + 1)).mks).length = (accL (tw p.data.toList j).mks).length + 1 ∧
      m.thread = (tw p.data.toList j).th ∧ m.place = k ∧ m.num = (p[k + 1].toNat : Int) - 120 ∧ (m.kind == 2) = ((p[k].toNat : Int) == 112) ∧ nm (hOf m) 5 = nm (sortF (tw p.data.toList j).now) 5 := by
  have hlt' : (tw p.data.toList j).i < p.data.toList.length := by rw [hk, len_eq]; exact hlt
  have hc : p.data.toList[(tw p.data.toList j).i]? = some p[k] := by rw [hk]; exact byteAt p k hlt
  obtain ⟨_, _, _, t4⟩ := tw_at hlt' hc
  obtain ⟨room, l, hl⟩ := acc_room ha hlt' hc
  have hz : sizeU p[k] = 2 := by rcases hg with h' | h' <;> rw [h'] <;> rfl
  rw [hk, len_eq, hz] at room
  have hk1 : k + 1 < p.size := by omega
  have hd : p.data.toList[k + 1]? = some p[k + 1] := byteAt p (k + 1) hk1
  have hnb : ¬ (p[k] = 91 ∨ p[k] = 60) := by rcases hg with h' | h' <;> rw [h'] <;> decide
  rw [if_neg hnb, if_pos hg, hk, hd] at t4
  simp only [Option.getD_some] at t4
  obtain ⟨m, hm⟩ : ∃ m, m = mkN (if p[k] = 112 then 2 else 1) k (tw p.data.toList j).th ((p[k + 1].toNat : Int) - 120) (tw p.data.toList j).now := ⟨_, rfl⟩
  rw [← hm] at t4
  have hacc : isAcc m = true := by rw [hm]; simp only [isAcc, mkN]; split <;> rfl
  have e1 : accL (tw p.data.toList (j + 1)).mks = accL (tw p.data.toList j).mks ++ [m] := by
    rw [t4, accL_append]
    simp [accL, hacc]
  refine ⟨hk1, m, ?_, by rw [e1]; simp, by rw [hm]; rfl, by rw [hm]; rfl, by rw [hm]; rfl, ?_, by rw [hm]; exact hOf_mkN _ _ _ _ _⟩
  · rw [hl, accL_append, e1, List.append_assoc, List.getElem?_append_right (Nat.le_refl _)]
    simp
  · rw [hm]
    rcases hg with h' | h' <;> rw [h'] <;> rfl

theorem other_at {p : ByteArray} {j k : Nat} (hk : (tw p.data.toList j).i = k) (hlt : k < p.size) (hg : ¬ (p[k] = 103 ∨ p[k] = 112)) : accL (tw p.data.toList (j + 1)).mks = accL (tw p.data.toList j).mks := by
  have hlt' : (tw p.data.toList j).i < p.data.toList.length := by rw [hk, len_eq]; exact hlt
  have hc : p.data.toList[(tw p.data.toList j).i]? = some p[k] := by rw [hk]; exact byteAt p k hlt
  obtain ⟨_, _, _, t4⟩ := tw_at hlt' hc
  rw [t4]
  split
  · rw [accL_append]; simp [accL, isAcc, mkN]
  · first | rfl | rw [if_neg hg]

set_option maxHeartbeats 6400000 in
set_option maxRecDepth 100000 in
theorem listed_any (la : Option Addr) (ln lc : Nat) (w : World) (hi : IsInts w w.heap.size la ln) (hl : ln ≤ maxLen) :
    Calls Try.prog 3 #[.slice la ln lc] w fun e w' => e = .returned (.bool true) ∧ Below w.heap.size w w' := by
  go_enter Try.func3, Try.ntmps3
  go_wp2_with fail
  refine (Any_any la ln lc w hi hl).mono ?_
  rintro e w1 ⟨⟨p, t, opn, rfl, hgen⟩, hb1⟩
  obtain ⟨hps, mks, hacc, hnest⟩ := hgen.acc
  rw [len_eq] at hps
  have hchk : ChkIs p 0 0 := .inr ⟨by omega, .inr ⟨mks, hacc, by rw [nestOf, hnest], by rw [nestOf, hnest]⟩⟩
  have HA : Hid (Acc p.data.toList mks) := hacc
  have HB1 : Hid (Below w.heap.size w w1) := hb1
  clear hgen hnest hi hl
  go_wp2_with fail
  refine (Accesses_any p w1 (by unfold maxLen; omega)).mono ?_
  rintro e w2 ⟨v, a, rfl, ⟨b, hc, hcase⟩, hb2⟩
  obtain ⟨rfl, rfl⟩ := hc.unique hchk
  rcases hcase with ⟨h0, _⟩ | ⟨_, _, mks', x, c, hacc', hm1000, rfl, hown⟩
  · exact absurd rfl h0
  have hmm := acc_unique hacc' hacc
  subst hmm
  have HO : Hid (w2.ownsRow w1.heap.size 30 5 (.slice x (accL mks').length c) (accL mks').length (accsV (accL mks'))) := hown
  have HB2 : Hid (Below w.heap.size w w2) := hb1.trans (hb2.mono hb1.size)
  obtain ⟨N, hN⟩ : ∃ N, N = (accL mks').length := ⟨_, rfl⟩
  have hN1 : N ≤ 1000 := by rw [hN]; exact Nat.le_trans (List.length_filter_le _ _) hm1000
  have HN : Hid (N = (accL mks').length) := hN
  rw [← hN] at HO ⊢
  clear hown hb1 hb2 hc hchk hacc hacc' hm1000 hN
  go_wp2
  go_loopw [6, 7, 8, 9] (fun kv tv fv iv wr => ∃ j k : Nat, iv = .int .i64 k ∧ (tw p.data.toList j).i = k ∧ k ≤ p.size ∧ kv = .int .i64 ((accL (tw p.data.toList j).mks).length : Int) ∧ tv = .int .i64 (tw p.data.toList j).th ∧ fv = .int .i64 (frm p.data.toList j) ∧ Below w2.heap.size w2 wr) (fun _ _ _ iv _ => p.size - (intOf iv).toNat)
  case atStart => exact ⟨0, 0, rfl, rfl, Nat.zero_le _, rfl, rfl, rfl, Below.refl _ _⟩
  case round =>
    obtain ⟨j, k, rfl, hki, hks, rfl, rfl, rfl, hbe⟩ := hrel
    have HBE : Hid (Below w2.heap.size w2 wr) := hbe
    have hsz := hbe.size
    have hth := tw_th p.data.toList j
    have hcn := tw_count p.data.toList j
    have hfr := frm_le p.data.toList j
    rw [hki] at hth hcn hfr
    have hkkle : (accL (tw p.data.toList j).mks).length ≤ k := Nat.le_trans (List.length_filter_le _ _) hcn
    clear hbe hcn
    by_cases hlt : k < p.size
    · have hlt' : (tw p.data.toList j).i < p.data.toList.length := by rw [hki, len_eq]; exact hlt
      have hc : p.data.toList[(tw p.data.toList j).i]? = some p[k] := by rw [hki]; exact byteAt p k hlt
      obtain ⟨t1, _, t3, _⟩ := tw_at hlt' hc
      obtain ⟨room, _⟩ := acc_room HA.out hlt' hc
      rw [hki, len_eq] at room
      rw [hki] at t1
      have tf : frm p.data.toList (j + 1) = if p[k] = 124 then k else frm p.data.toList j := by
        rw [frm, hc]
        by_cases h' : p[k] = 124
        · rw [if_pos h', if_pos ⟨hlt', by rw [h']⟩, hki]
        · rw [if_neg h', if_neg (by intro hh; exact h' (by simpa using hh.2))]
      obtain ⟨z, hzz⟩ : ∃ z, z = sizeU p[k] := ⟨_, rfl⟩
      have hzp := sizeU_pos p[k]
      rw [← hzz] at room hzp t1
      have HZ : Hid (z = sizeU p[k]) := hzz
      have T1 : Hid ((tw p.data.toList (j + 1)).i = k + z) := t1
      have T3 : Hid ((tw p.data.toList (j + 1)).th = if p[k] = 124 then (tw p.data.toList j).th + 1 else (tw p.data.toList j).th) := t3
      have TF : Hid (frm p.data.toList (j + 1) = if p[k] = 124 then k else frm p.data.toList j) := tf
      have HKI : Hid ((tw p.data.toList j).i = k) := hki
      obtain ⟨th, hthe⟩ : ∃ th, th = (tw p.data.toList j).th := ⟨_, rfl⟩
      rw [← hthe] at hth T3 ⊢
      have HTH : Hid (th = (tw p.data.toList j).th) := hthe
      obtain ⟨fr, hfre⟩ : ∃ fr, fr = frm p.data.toList j := ⟨_, rfl⟩
      rw [← hfre] at hfr TF ⊢
      have HFR : Hid (fr = frm p.data.toList j) := hfre
      obtain ⟨kk, hkke⟩ : ∃ kk, kk = (accL (tw p.data.toList j).mks).length := ⟨_, rfl⟩
      rw [← hkke] at hkkle ⊢
      have HKK : Hid (kk = (accL (tw p.data.toList j).mks).length) := hkke
      clear t1 t3 tf hlt' hc hzz hki hthe hfre hkke
      by_cases hgp : p[k] = 103 ∨ p[k] = 112
      · obtain ⟨W0, hW0⟩ : ∃ W0, W0 = wr := ⟨_, rfl⟩
        subst hW0
        obtain ⟨hk1, m, hm, hl1, mth, mpl, mnum, mput, mnm⟩ := access_at HA.out HKI.out hlt hgp
        rw [← HKK.out] at hm hl1
        rw [← HTH.out] at mth
        have hnames := names_of HA.out j
        rw [HKI.out, ← HFR.out, ← mnm] at hnames
        have hrow := ownsRow_later HO.out HBE.out
        have hkN : kk < N := by rw [HN.out]; exact (List.getElem?_eq_some_iff.1 hm).1
        obtain ⟨g, cap', hv, _, _⟩ := HO.out.form (by omega)
        cases hv
        have q0 := accAt hrow HN.out kk m hm 0 (by decide) _ rfl
        have q1 := accAt hrow HN.out kk m hm 1 (by decide) _ rfl
        have q2 := accAt hrow HN.out kk m hm 2 (by decide) _ rfl
        have q3 := accAt hrow HN.out kk m hm 3 (by decide) _ rfl
        have q4 := accAt hrow HN.out kk m hm 4 (by decide) _ rfl
        obtain ⟨st, hst⟩ : ∃ st : ByteArray, st = ⟨(nm (hOf m) 5).toArray⟩ := ⟨_, rfl⟩
        rw [← hst] at q4 hnames
        rw [Nat.add_zero, mth] at q0
        rw [mpl] at q1
        rw [mnum] at q2
        rw [mput] at q3
        have hd256 : (p[k + 1].toNat : Int) < 256 := by have := p[k + 1].toNat_lt; omega
        have hd0 : (0 : Int) ≤ (p[k + 1].toNat : Int) := by omega
        have hk1i : (k : Int) + 1 < (p.size : Int) := by omega
        have hk1n : (0 : Int) ≤ (k : Int) + 1 := by omega
        have hn124 : p[k] ≠ 124 := by rcases hgp with h' | h' <;> rw [h'] <;> decide
        have b124 : ((p[k].toNat : Int) == 124) = false := u8g hn124
        have T3' : Hid ((tw p.data.toList (j + 1)).th = th) := by have := T3.out; rw [if_neg hn124] at this; exact this
        have TF' : Hid (frm p.data.toList (j + 1) = fr) := by have := TF.out; rw [if_neg hn124] at this; exact this
        have HL1 : Hid ((accL (tw p.data.toList (j + 1)).mks).length = kk + 1) := hl1
        have HNM : Hid (Names p fr k st) := hnames
        have hst5 := hnames.small
        have hz2 : z = 2 := by rw [HZ.out]; rcases hgp with h' | h' <;> rw [h'] <;> rfl
        subst hz2
        clear hrow hm hl1 hst hnames mth mpl mnum mput mnm hn124 T3 TF
        rcases hgp with hg | hg
        · have b103 : ((p[k].toNat : Int) != 103) = false := by rw [hg]; rfl
          have pv : ((p[k].toNat : Int) == 112) = false := by rw [hg]; rfl
          rw [pv] at q3
          clear hg
          go_wp2
          go_quiet (fail)
          go_wp2
          have HX4 : Hid ((W0.alloc (.cells #[.int .i64 th, .int .i64 k, .int .i64 ((p[k + 1].toNat : Int) - 120), .bool false, .string st] 30)).cell? ⟨W0.heap.size, 4, none⟩ = some (.string st)) := by
            show (W0.alloc (.cells #[.int .i64 th, .int .i64 k, .int .i64 ((p[k + 1].toNat : Int) - 120), .bool false, .string st] 30)).cell? ⟨W0.heap.size, 4, none⟩ = some (.string st)
            rw [World.cell?_alloc_at _ _ _ _ rfl]; rfl
          have HBX : Hid (Below (W0.heap.size + 1) (W0.alloc (.cells #[.int .i64 th, .int .i64 k, .int .i64 ((p[k + 1].toNat : Int) - 120), .bool false, .string st] 30)) ((W0.alloc (.cells #[.int .i64 th, .int .i64 k, .int .i64 ((p[k + 1].toNat : Int) - 120), .bool false, .string st] 30)).drewN nq)) := below_drewN' _ _ _
          clear q0 q1 q2 q3 q4
          go_loopw [11] (fun nv wr2 => ∃ n : Nat, n ≤ st.size ∧ nv = .int .i64 n ∧ Below (W0.heap.size + 1) (W0.alloc (.cells #[.int .i64 th, .int .i64 k, .int .i64 ((p[k + 1].toNat : Int) - 120), .bool false, .string st] 30)) wr2) (fun nv _ => st.size - (intOf nv).toNat)
          case atStart => exact ⟨0, Nat.zero_le _, rfl, HBX.out⟩
          case round =>
            obtain ⟨n, hns, rfl, hb3⟩ := hrel
            have y4 := (hb3.cell (p := ⟨W0.heap.size, 4, none⟩) (by simp)).trans HX4.out
            have HB3 : Hid (Below (W0.heap.size + 1) (W0.alloc (.cells #[.int .i64 th, .int .i64 k, .int .i64 ((p[k + 1].toNat : Int) - 120), .bool false, .string st] 30)) wr) := hb3
            clear hb3
            by_cases hnlt : n < st.size
            · have HST : Hid (∀ wx, Calls Try.prog 11 #[.string (p.extract fr k), .int .u8 (st[n].toNat : Int)] wx fun e w' => e = .returned (.bool true) ∧ w' = wx) := by
                intro wx
                have := kstands_any (p.extract fr k) st[n] wx (by unfold maxLen; simp; omega)
                rw [HNM.out.ahead n hnlt] at this
                exact this
              have hi0 : (0 : Int) ≤ (fr : Int) := Int.natCast_nonneg _
              have hi1 : (fr : Int) ≤ (k : Int) := by omega
              by_cases hn0 : n = 0
              · subst hn0
                go_wp2
                go_quiet ((go_at_call 11; exact Calls.quiet_of_same (HST.out _)))
                go_wp2
                go_quiet (fail)
                go_wp2
                exact ⟨⟨1, by omega, rfl, HB3.out.trans (below_drewN' _ _ _)⟩, by simp [intOf]; omega⟩
              · obtain ⟨n1, hn1e⟩ : ∃ n1, n = n1 + 1 := ⟨n - 1, by omega⟩
                have hn1 : n1 < st.size := by omega
                have hrise : (st[n1].toNat : Int) < (st[n].toNat : Int) := by
                  subst hn1e
                  exact HNM.out.rise n1 hnlt
                have e1 : (n : Int) - 1 = (n1 : Int) := by omega
                have g0n : decide (0 < n) = true := by simp; omega
                have g1 : decide ((st[n].toNat : Int) ≤ (st[n1].toNat : Int)) = false := by simp; omega
                have HN1 : Hid (n = n1 + 1) := hn1e
                clear hn1e
                go_wp2
                go_quiet ((go_at_call 11; exact Calls.quiet_of_same (HST.out _)))
                go_wp2_with fail
                go_quiet (fail)
                go_wp2
                exact ⟨⟨n + 1, by omega, by go_num, HB3.out.trans (below_drewN' _ _ _)⟩, by simp [intOf]; omega⟩
            · go_wp2_with fail
              refine (ksize_any p[k] _).mono ?_
              rintro e w3 ⟨rfl, hw3⟩
              rw [hw3, ← HZ.out]
              clear hw3
              go_wp2
              exact ⟨⟨j + 1, k + 2, by go_num, T1.out, by omega, by rw [HL1.out]; go_num, by rw [T3'.out], by rw [TF'.out], (HBE.out.alloc hsz _).trans (HB3.out.mono (by omega))⟩, by simp [intOf]; omega⟩
        · have b103 : ((p[k].toNat : Int) != 103) = true := by rw [hg]; rfl
          have b112 : ((p[k].toNat : Int) != 112) = false := by rw [hg]; rfl
          have pv : ((p[k].toNat : Int) == 112) = true := by rw [hg]; rfl
          rw [pv] at q3
          clear hg
          go_wp2
          go_quiet (fail)
          go_wp2
          have HX4 : Hid ((W0.alloc (.cells #[.int .i64 th, .int .i64 k, .int .i64 ((p[k + 1].toNat : Int) - 120), .bool true, .string st] 30)).cell? ⟨W0.heap.size, 4, none⟩ = some (.string st)) := by
            show (W0.alloc (.cells #[.int .i64 th, .int .i64 k, .int .i64 ((p[k + 1].toNat : Int) - 120), .bool true, .string st] 30)).cell? ⟨W0.heap.size, 4, none⟩ = some (.string st)
            rw [World.cell?_alloc_at _ _ _ _ rfl]; rfl
          have HBX : Hid (Below (W0.heap.size + 1) (W0.alloc (.cells #[.int .i64 th, .int .i64 k, .int .i64 ((p[k + 1].toNat : Int) - 120), .bool true, .string st] 30)) ((W0.alloc (.cells #[.int .i64 th, .int .i64 k, .int .i64 ((p[k + 1].toNat : Int) - 120), .bool true, .string st] 30)).drewN nq)) := below_drewN' _ _ _
          clear q0 q1 q2 q3 q4
          go_loopw [11] (fun nv wr2 => ∃ n : Nat, n ≤ st.size ∧ nv = .int .i64 n ∧ Below (W0.heap.size + 1) (W0.alloc (.cells #[.int .i64 th, .int .i64 k, .int .i64 ((p[k + 1].toNat : Int) - 120), .bool true, .string st] 30)) wr2) (fun nv _ => st.size - (intOf nv).toNat)
          case atStart => exact ⟨0, Nat.zero_le _, rfl, HBX.out⟩
          case round =>
            obtain ⟨n, hns, rfl, hb3⟩ := hrel
            have y4 := (hb3.cell (p := ⟨W0.heap.size, 4, none⟩) (by simp)).trans HX4.out
            have HB3 : Hid (Below (W0.heap.size + 1) (W0.alloc (.cells #[.int .i64 th, .int .i64 k, .int .i64 ((p[k + 1].toNat : Int) - 120), .bool true, .string st] 30)) wr) := hb3
            clear hb3
            by_cases hnlt : n < st.size
            · have HST : Hid (∀ wx, Calls Try.prog 11 #[.string (p.extract fr k), .int .u8 (st[n].toNat : Int)] wx fun e w' => e = .returned (.bool true) ∧ w' = wx) := by
                intro wx
                have := kstands_any (p.extract fr k) st[n] wx (by unfold maxLen; simp; omega)
                rw [HNM.out.ahead n hnlt] at this
                exact this
              have hi0 : (0 : Int) ≤ (fr : Int) := Int.natCast_nonneg _
              have hi1 : (fr : Int) ≤ (k : Int) := by omega
              by_cases hn0 : n = 0
              · subst hn0
                go_wp2
                go_quiet ((go_at_call 11; exact Calls.quiet_of_same (HST.out _)))
                go_wp2
                go_quiet (fail)
                go_wp2
                exact ⟨⟨1, by omega, rfl, HB3.out.trans (below_drewN' _ _ _)⟩, by simp [intOf]; omega⟩
              · obtain ⟨n1, hn1e⟩ : ∃ n1, n = n1 + 1 := ⟨n - 1, by omega⟩
                have hn1 : n1 < st.size := by omega
                have hrise : (st[n1].toNat : Int) < (st[n].toNat : Int) := by
                  subst hn1e
                  exact HNM.out.rise n1 hnlt
                have e1 : (n : Int) - 1 = (n1 : Int) := by omega
                have g0n : decide (0 < n) = true := by simp; omega
                have g1 : decide ((st[n].toNat : Int) ≤ (st[n1].toNat : Int)) = false := by simp; omega
                have HN1 : Hid (n = n1 + 1) := hn1e
                clear hn1e
                go_wp2
                go_quiet ((go_at_call 11; exact Calls.quiet_of_same (HST.out _)))
                go_wp2_with fail
                go_quiet (fail)
                go_wp2
                exact ⟨⟨n + 1, by omega, by go_num, HB3.out.trans (below_drewN' _ _ _)⟩, by simp [intOf]; omega⟩
            · go_wp2_with fail
              refine (ksize_any p[k] _).mono ?_
              rintro e w3 ⟨rfl, hw3⟩
              rw [hw3, ← HZ.out]
              clear hw3
              go_wp2
              exact ⟨⟨j + 1, k + 2, by go_num, T1.out, by omega, by rw [HL1.out]; go_num, by rw [T3'.out], by rw [TF'.out], (HBE.out.alloc hsz _).trans (HB3.out.mono (by omega))⟩, by simp [intOf]; omega⟩
      · have T4 : Hid ((accL (tw p.data.toList (j + 1)).mks).length = kk) := by
          show (accL (tw p.data.toList (j + 1)).mks).length = kk
          rw [other_at HKI.out hlt hgp]; exact HKK.out.symm
        simp only [not_or] at hgp
        have b103 : ((p[k].toNat : Int) != 103) = true := by have := u8g hgp.1; simp only [bne]; exact congrArg not this
        have b112 : ((p[k].toNat : Int) != 112) = true := by have := u8g hgp.2; simp only [bne]; exact congrArg not this
        clear hgp
        by_cases h124 : p[k] = 124
        · have b124 : ((p[k].toNat : Int) == 124) = true := by rw [h124]; rfl
          have T3' : Hid ((tw p.data.toList (j + 1)).th = th + 1) := by have := T3.out; rw [if_pos h124] at this; exact this
          have TF' : Hid (frm p.data.toList (j + 1) = k) := by have := TF.out; rw [if_pos h124] at this; exact this
          clear h124 T3 TF
          go_wp2_with fail
          refine (ksize_any p[k] _).mono ?_
          rintro e w3 ⟨rfl, hw3⟩
          rw [hw3, ← HZ.out]
          clear hw3
          go_wp2
          go_roundw
          case rel => exact ⟨j + 1, k + z, by go_num, T1.out, by omega, by rw [T4.out], by rw [T3'.out], by rw [TF'.out], HBE.out⟩
          case measure => simp [intOf]; omega
        · have b124 : ((p[k].toNat : Int) == 124) = false := u8g h124
          have T3' : Hid ((tw p.data.toList (j + 1)).th = th) := by have := T3.out; rw [if_neg h124] at this; exact this
          have TF' : Hid (frm p.data.toList (j + 1) = fr) := by have := TF.out; rw [if_neg h124] at this; exact this
          clear h124 T3 TF
          go_wp2_with fail
          refine (ksize_any p[k] _).mono ?_
          rintro e w3 ⟨rfl, hw3⟩
          rw [hw3, ← HZ.out]
          clear hw3
          go_wp2
          go_roundw
          case rel => exact ⟨j + 1, k + z, by go_num, T1.out, by omega, by rw [T4.out], by rw [T3'.out], by rw [TF'.out], HBE.out⟩
          case measure => simp [intOf]; omega
    · have hend := (acc_end HA.out (k := j) (by rw [hki, len_eq]; omega)).1
      have hlen : (accL (tw p.data.toList j).mks).length = N := by rw [hend]; exact HN.out.symm
      rw [hlen]
      clear hend hlen hki hfr hkkle hth
      by_cases hN0 : N = 0
      · subst hN0
        go_wp2_with fail
        refine (alive_any wr).mono ?_
        rintro e w3 ⟨rfl, hb3⟩
        have HB3 : Hid (Below w.heap.size w w3) := (HB2.out.trans (HBE.out.mono HB2.out.size)).trans (hb3.mono (by have := HB2.out.size; omega))
        clear hb3
        go_wp2
        go_ret
        exact ⟨rfl, HB3.out⟩
      · have hNp : decide ((0 : Int) < (N : Int)) = true := by simp; omega
        go_wp2
        go_ret
        exact ⟨rfl, HB2.out.trans (HBE.out.mono HB2.out.size)⟩

end Go.Proofs.Ytdgkpkdinfklaaa
