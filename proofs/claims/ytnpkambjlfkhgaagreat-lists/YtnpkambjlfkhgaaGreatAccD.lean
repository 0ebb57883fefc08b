import Derived.Test.YtnpkambjlfkhgaaGreatAccC
namespace Go.Proofs.YtnpkambjlfkhgaaGreat
open Go.RowKit

theorem tw_th (p : List UInt8) (k : Nat) : 1 ≤ (tw p k).th ∧ (tw p k).th ≤ (tw p k).i + 1 := by
  induction k with
  | zero => exact ⟨show (1 : Int) ≤ 1 by decide, show (1 : Int) ≤ ((0 : Nat) : Int) + 1 by decide⟩
  | succ k ih =>
    by_cases hlt : (tw p k).i < p.length
    · obtain ⟨t1, _, t3, _⟩ := tw_at hlt (List.getElem?_eq_getElem hlt)
      have := sizeU_pos p[(tw p k).i]
      rw [t1, t3]
      split <;> omega
    · rw [tw, if_neg hlt]; exact ih

theorem hOf_mkN (kind place th num : Int) (now : List UInt8) : nm (hOf (mkN kind place th num now)) 5 = nm (sortF now) 5 := by
  refine nm_congr 5 fun j hj => ?_
  have h6 : j = 0 ∨ j = 1 ∨ j = 2 ∨ j = 3 ∨ j = 4 := by omega
  rcases h6 with rfl | rfl | rfl | rfl | rfl <;> rfl

theorem heldU_same {now p : List UInt8} {i : Nat} {c : UInt8} (hc : p[i]? = some c) (h : ¬ (c = 91 ∨ c = 60) ∧ ¬ (c = 93 ∨ c = 62)) : heldU now p i = now := by
  simp [heldU, hc, h.1, h.2]

/-- The rows of a list while it is made. -/
structure Listing (s : ByteArray) (w wr : World) (v : Value) (k j : Nat) (now : ByteArray) : Prop where
  at_ : (tw s.data.toList j).i = k
  nw : (tw s.data.toList j).now = now.data.toList
  small : now.size ≤ k
  le : k ≤ s.size
  row : wr.ownsRow w.heap.size 47 5 v (accL (tw s.data.toList j).mks).length (accsV (accL (tw s.data.toList j).mks))
  below : Below w.heap.size w wr

set_option maxHeartbeats 3200000 in
set_option maxRecDepth 100000 in
theorem list_any (s : ByteArray) (mks : List MK) (w : World) (h : s.size ≤ 240) (ha : Acc s.data.toList mks) :
    Calls Tryz.prog 45 #[.string s] w fun e w' => AccsOut w w' mks e ∧ Below w.heap.size w w' := by
  obtain ⟨i0, hi0, hz0, hz1, hz2⟩ := info_parts Tryz.infoAccess
  have HA : Hid (Acc s.data.toList mks) := ha
  clear ha
  go_enter Tryz.func45, Tryz.ntmps45
  go_wp2
  go_loopw [3, 4, 5, 6] (fun v nw th i wr => ∃ (k j : Nat) (now : ByteArray), i = .int .i64 k ∧ nw = .string now ∧ th = .int .i64 (tw s.data.toList j).th ∧ Listing s w wr v k j now) (fun _ _ _ i _ => s.size - (intOf i).toNat)
  case atStart => exact ⟨0, 0, ⟨#[]⟩, rfl, rfl, rfl, rfl, rfl, by decide, Nat.zero_le _, World.ownsRow_nil _ _ _ _, Below.refl _ _⟩
  case round =>
    obtain ⟨k, j, now, rfl, rfl, rfl, hL⟩ := hrel
    obtain ⟨hki, hkn, hns, hks, hrow, hbe⟩ := hL
    by_cases hlt : k < s.size
    · have hlt' : (tw s.data.toList j).i < s.data.toList.length := by rw [hki, len_eq]; exact hlt
      have hc : s.data.toList[(tw s.data.toList j).i]? = some s[k] := by rw [hki]; exact byteAt s k hlt
      obtain ⟨t1, t2, t3, t4⟩ := tw_at hlt' hc
      obtain ⟨room, _⟩ := acc_room HA.out hlt' hc
      have hth := tw_th s.data.toList j
      have hcnt := tw_count s.data.toList j
      rw [hki] at hth hcnt
      rw [hki, len_eq] at room
      rw [hki] at t1 t2 t4
      rw [hkn] at t2 t4
      have hcnt2 : (accL (tw s.data.toList j).mks).length ≤ k := Nat.le_trans (List.length_filter_le _ _) hcnt
      have hlen2 := heldU_len now.data.toList s.data.toList k
      rw [len_eq] at hlen2
      obtain ⟨z, hzz⟩ : ∃ z, z = sizeU s[k] := ⟨_, rfl⟩
      have hzp := sizeU_pos s[k]
      rw [← hzz] at room hzp t1
      have hsz2 : s[k] = 91 ∨ s[k] = 60 → k + 1 < s.size := by
        intro h'
        have : z = 2 := by rw [hzz]; rcases h' with h' | h' <;> rw [h'] <;> rfl
        omega
      have HSZ2 : Hid (s[k] = 91 ∨ s[k] = 60 → k + 1 < s.size) := hsz2
      have HZ : Hid (z = sizeU s[k]) := hzz
      have T1 : Hid ((tw s.data.toList (j + 1)).i = k + z) := t1
      have T2 : Hid ((tw s.data.toList (j + 1)).now = heldU now.data.toList s.data.toList k) := t2
      have T3 : Hid ((tw s.data.toList (j + 1)).th = if s[k] = 124 then (tw s.data.toList j).th + 1 else (tw s.data.toList j).th) := t3
      have HROW : Hid (wr.ownsRow w.heap.size 47 5 u3 (accL (tw s.data.toList j).mks).length (accsV (accL (tw s.data.toList j).mks))) := hrow
      have HB : Hid (Below w.heap.size w wr) := hbe
      have hsz := hbe.size
      have HLEN : Hid ((heldU now.data.toList s.data.toList k).length ≤ now.size + 1) := hlen2
      have hbk := byteAt s k hlt
      obtain ⟨th, hthe⟩ : ∃ th, th = (tw s.data.toList j).th := ⟨_, rfl⟩
      rw [← hthe] at hth T3 t4
      have HTHE : Hid (th = (tw s.data.toList j).th) := hthe
      rw [← HTHE.out]
      clear t1 t2 t3 hki hkn hrow hbe hlt' hc hcnt hsz2 hlen2 hthe hzz
      by_cases hgp : s[k] = 103 ∨ s[k] = 112
      · have hzt : z = 2 := by rw [HZ.out]; rcases hgp with h' | h' <;> rw [h'] <;> rfl
        have hk1 : k + 1 < s.size := by omega
        have hd : s.data.toList[k + 1]? = some s[k + 1] := byteAt s (k + 1) hk1
        have hd256 : (s[k + 1].toNat : Int) < 256 := by have := s[k + 1].toNat_lt; omega
        have hd0 : (0 : Int) ≤ (s[k + 1].toNat : Int) := by omega
        have hnb : ¬ (s[k] = 91 ∨ s[k] = 60) ∧ ¬ (s[k] = 93 ∨ s[k] = 62) := by rcases hgp with h' | h' <;> rw [h'] <;> decide
        rw [if_neg hnb.1, if_pos hgp, hd] at t4
        simp only [Option.getD_some] at t4
        obtain ⟨m, hm⟩ : ∃ m, m = mkN (if s[k] = 112 then 2 else 1) k th ((s[k + 1].toNat : Int) - 120) now.data.toList := ⟨_, rfl⟩
        rw [← hm] at t4
        have hacc : isAcc m = true := by rw [hm]; simp only [isAcc, mkN]; split <;> rfl
        have T4 : Hid (accL (tw s.data.toList (j + 1)).mks = accL (tw s.data.toList j).mks ++ [m]) := by
          show accL (tw s.data.toList (j + 1)).mks = _
          rw [t4, accL, List.filter_append]; simp [accL, hacc]
        obtain ⟨pb, p103, p112⟩ : ∃ pb : Bool, ((s[k].toNat : Int) == 103) = !pb ∧ ((s[k].toNat : Int) == 112) = pb := by
          rcases hgp with h' | h'
          · exact ⟨false, by rw [h']; rfl, by rw [h']; rfl⟩
          · exact ⟨true, by rw [h']; rfl, by rw [h']; rfl⟩
        have HV : Hid (accV m = [.int .i64 th, .int .i64 k, .int .i64 ((s[k + 1].toNat : Int) - 120), .bool pb, .string ⟨(nm (sortF now.data.toList) 5).toArray⟩]) := by
          show accV m = _
          rw [accV, hm, hOf_mkN, ← p112]
          rcases hgp with h' | h' <;> rw [h'] <;> rfl
        have HSAME : Hid (heldU now.data.toList s.data.toList k = now.data.toList) := heldU_same hbk hnb
        have b124 : ((s[k].toNat : Int) == 124) = false := by rcases hgp with h' | h' <;> rw [h'] <;> rfl
        have hn124 : s[k] ≠ 124 := by rcases hgp with h' | h' <;> rw [h'] <;> decide
        have T3' : Hid ((tw s.data.toList (j + 1)).th = th) := by have := T3.out; rw [if_neg hn124] at this; exact this
        obtain ⟨L, hLL⟩ : ∃ L, L = accL (tw s.data.toList j).mks := ⟨_, rfl⟩
        rw [← hLL] at HROW T4 hcnt2
        have HLL : Hid (L = accL (tw s.data.toList j).mks) := hLL
        have HZ2 : Hid (z = 2) := hzt
        clear t4 hm hacc hn124 T3 hd hnb hbk hLL hzt hgp
        cases pb with
        | false =>
          rw [Bool.not_false] at p103
          go_wp2_with fail
          refine (held_any now s k _ (by omega) (by omega) hlt HSZ2.out).mono ?_
          rintro e w' ⟨g, rfl, hg, hw'⟩
          have HG : Hid (g.data.toList = now.data.toList) := hg.trans HSAME.out
          have hgs : g.size ≤ k := by
            have e1 : g.data.toList.length = g.size := len_eq g
            rw [HG.out, len_eq] at e1; omega
          rw [hw']
          clear hg hw'
          go_wp2_with fail
          refine (sorted_any g _ (by omega)).mono ?_
          rintro e w' ⟨rfl, hw'⟩
          rw [hw']
          clear hw'
          obtain ⟨str, hstr⟩ : ∃ str : ByteArray, str = ⟨(nm (sortF g.data.toList) 5).toArray⟩ := ⟨_, rfl⟩
          rw [← hstr]
          have HSTR : Hid (str = ⟨(nm (sortF now.data.toList) 5).toArray⟩) := by
            show str = _
            rw [hstr, HG.out]
          clear hstr
          go_wp2_with (at_builtin; refine wpList_append_own _ rfl (.tmp 38) (.tmp 51) 45 rfl w.heap.size 47 i0 _ 5 48 Tryz.underlying45 hi0 hz0 hz1 hz2 rfl (by decide) u3 L.length (accsV L) rfl (HROW.out.alloc _) ⟨wr.heap.size, 0, none⟩ 1 1 [.int .i64 th, .int .i64 k, .int .i64 ((s[k + 1].toNat : Int) - 120), .bool false, .string str] rfl rfl ?hnews ?h1 ?h63 ?hby ?hbase ?next)
          case hnews => exact World.news_of_block (cs := #[.int .i64 th, .int .i64 k, .int .i64 ((s[k + 1].toNat : Int) - 120), .bool false, .string str]) (t := 47) (fr := (0, 0)) (heap_alloc_new _ _)
          case h1 => intro u hu; simp at hu; rcases hu with rfl | rfl | rfl | rfl | rfl <;> rfl
          case h63 => unfold maxLen; omega
          case hby => omega
          case hbase => simp; omega
          case next =>
            intro v' w2 hown2 hgrow _
            have B3 : Hid (Below w.heap.size w w2) := (HB.out.alloc (by omega) _).grown hgrow (by simp; omega) (fun q hq => (HROW.out.lt q hq).1)
            have HO2 : Hid (w2.ownsRow w.heap.size 47 5 v' (accL (tw s.data.toList (j + 1)).mks).length (accsV (accL (tw s.data.toList (j + 1)).mks))) := by
              show w2.ownsRow w.heap.size 47 5 v' (accL (tw s.data.toList (j + 1)).mks).length (accsV (accL (tw s.data.toList (j + 1)).mks))
              rw [T4.out, accsV_append, List.length_append]
              have e1 : accsV [m] = [.int .i64 th, .int .i64 k, .int .i64 ((s[k + 1].toNat : Int) - 120), .bool false, .string str] := by
                rw [accsV, List.flatMap_cons, List.flatMap_nil, List.append_nil, HV.out, HSTR.out]
              rw [e1]
              exact hown2
            clear hown2 hgrow
            go_wp2_with fail
            refine (size_any s[k] _).mono ?_
            rintro e w' ⟨rfl, hw'⟩
            rw [hw', ← HZ.out, HZ2.out]
            clear hw'
            go_wp2
            go_roundw
            case rel =>
              refine ⟨k + 2, j + 1, g, by go_num, rfl, by rw [T3'.out], by rw [T1.out, HZ2.out], ?_, by omega, by omega, HO2.out, B3.out⟩
              rw [T2.out, HSAME.out, HG.out]
            case measure => simp [intOf]; omega
        | true =>
          rw [Bool.not_true] at p103
          go_wp2_with fail
          refine (held_any now s k _ (by omega) (by omega) hlt HSZ2.out).mono ?_
          rintro e w' ⟨g, rfl, hg, hw'⟩
          have HG : Hid (g.data.toList = now.data.toList) := hg.trans HSAME.out
          have hgs : g.size ≤ k := by
            have e1 : g.data.toList.length = g.size := len_eq g
            rw [HG.out, len_eq] at e1; omega
          rw [hw']
          clear hg hw'
          go_wp2_with fail
          refine (sorted_any g _ (by omega)).mono ?_
          rintro e w' ⟨rfl, hw'⟩
          rw [hw']
          clear hw'
          obtain ⟨str, hstr⟩ : ∃ str : ByteArray, str = ⟨(nm (sortF g.data.toList) 5).toArray⟩ := ⟨_, rfl⟩
          rw [← hstr]
          have HSTR : Hid (str = ⟨(nm (sortF now.data.toList) 5).toArray⟩) := by
            show str = _
            rw [hstr, HG.out]
          clear hstr
          go_wp2_with (at_builtin; refine wpList_append_own _ rfl (.tmp 38) (.tmp 51) 45 rfl w.heap.size 47 i0 _ 5 48 Tryz.underlying45 hi0 hz0 hz1 hz2 rfl (by decide) u3 L.length (accsV L) rfl (HROW.out.alloc _) ⟨wr.heap.size, 0, none⟩ 1 1 [.int .i64 th, .int .i64 k, .int .i64 ((s[k + 1].toNat : Int) - 120), .bool true, .string str] rfl rfl ?hnews ?h1 ?h63 ?hby ?hbase ?next)
          case hnews => exact World.news_of_block (cs := #[.int .i64 th, .int .i64 k, .int .i64 ((s[k + 1].toNat : Int) - 120), .bool true, .string str]) (t := 47) (fr := (0, 0)) (heap_alloc_new _ _)
          case h1 => intro u hu; simp at hu; rcases hu with rfl | rfl | rfl | rfl | rfl <;> rfl
          case h63 => unfold maxLen; omega
          case hby => omega
          case hbase => simp; omega
          case next =>
            intro v' w2 hown2 hgrow _
            have B3 : Hid (Below w.heap.size w w2) := (HB.out.alloc (by omega) _).grown hgrow (by simp; omega) (fun q hq => (HROW.out.lt q hq).1)
            have HO2 : Hid (w2.ownsRow w.heap.size 47 5 v' (accL (tw s.data.toList (j + 1)).mks).length (accsV (accL (tw s.data.toList (j + 1)).mks))) := by
              show w2.ownsRow w.heap.size 47 5 v' (accL (tw s.data.toList (j + 1)).mks).length (accsV (accL (tw s.data.toList (j + 1)).mks))
              rw [T4.out, accsV_append, List.length_append]
              have e1 : accsV [m] = [.int .i64 th, .int .i64 k, .int .i64 ((s[k + 1].toNat : Int) - 120), .bool true, .string str] := by
                rw [accsV, List.flatMap_cons, List.flatMap_nil, List.append_nil, HV.out, HSTR.out]
              rw [e1]
              exact hown2
            clear hown2 hgrow
            go_wp2_with fail
            refine (size_any s[k] _).mono ?_
            rintro e w' ⟨rfl, hw'⟩
            rw [hw', ← HZ.out, HZ2.out]
            clear hw'
            go_wp2
            go_roundw
            case rel =>
              refine ⟨k + 2, j + 1, g, by go_num, rfl, by rw [T3'.out], by rw [T1.out, HZ2.out], ?_, by omega, by omega, HO2.out, B3.out⟩
              rw [T2.out, HSAME.out, HG.out]
            case measure => simp [intOf]; omega
      · have T4 : Hid (accL (tw s.data.toList (j + 1)).mks = accL (tw s.data.toList j).mks) := by
          show accL (tw s.data.toList (j + 1)).mks = accL (tw s.data.toList j).mks
          rw [t4]
          split
          · rw [accL, List.filter_append]; simp [accL, isAcc, mkN]
          · first | rfl | rw [if_neg hgp]
        simp only [not_or] at hgp
        have b103 : ((s[k].toNat : Int) == 103) = false := u8g hgp.1
        have b112 : ((s[k].toNat : Int) == 112) = false := u8g hgp.2
        clear t4 hgp hbk
        by_cases h124 : s[k] = 124
        · have b124 : ((s[k].toNat : Int) == 124) = true := by rw [h124]; rfl
          have T3' : Hid ((tw s.data.toList (j + 1)).th = th + 1) := by have := T3.out; rw [if_pos h124] at this; exact this
          clear h124 T3
          go_wp2_with fail
          refine (held_any now s k _ (by omega) (by omega) hlt HSZ2.out).mono ?_
          rintro e w' ⟨g, rfl, hg, hw'⟩
          have HG : Hid (g.data.toList = heldU now.data.toList s.data.toList k) := hg
          rw [hw']
          clear hg hw'
          go_wp2_with fail
          refine (size_any s[k] _).mono ?_
          rintro e w' ⟨rfl, hw'⟩
          rw [hw', ← HZ.out]
          clear hw'
          go_wp2
          go_roundw
          case rel =>
            refine ⟨k + z, j + 1, g, by go_num, rfl, by rw [T3'.out], T1.out, by rw [T2.out, HG.out], ?_, by omega, by rw [T4.out]; exact HROW.out, HB.out⟩
            have := HLEN.out
            rw [← HG.out, len_eq] at this
            omega
          case measure => simp [intOf]; omega
        · have b124 : ((s[k].toNat : Int) == 124) = false := u8g h124
          have T3' : Hid ((tw s.data.toList (j + 1)).th = th) := by have := T3.out; rw [if_neg h124] at this; exact this
          clear h124 T3
          go_wp2_with fail
          refine (held_any now s k _ (by omega) (by omega) hlt HSZ2.out).mono ?_
          rintro e w' ⟨g, rfl, hg, hw'⟩
          have HG : Hid (g.data.toList = heldU now.data.toList s.data.toList k) := hg
          rw [hw']
          clear hg hw'
          go_wp2_with fail
          refine (size_any s[k] _).mono ?_
          rintro e w' ⟨rfl, hw'⟩
          rw [hw', ← HZ.out]
          clear hw'
          go_wp2
          go_roundw
          case rel =>
            refine ⟨k + z, j + 1, g, by go_num, rfl, by rw [T3'.out], T1.out, by rw [T2.out, HG.out], ?_, by omega, by rw [T4.out]; exact HROW.out, HB.out⟩
            have := HLEN.out
            rw [← HG.out, len_eq] at this
            omega
          case measure => simp [intOf]; omega
    · have hend := (acc_end HA.out (k := j) (by rw [hki, len_eq]; omega)).1
      rw [hend] at hrow
      have HO' : Hid (wr.ownsRow w.heap.size 47 5 u3 (accL mks).length (accsV (accL mks))) := hrow
      have HB : Hid (Below w.heap.size w wr) := hbe
      clear hrow hend hki hkn hbe
      have hform : ∃ a c, u3 = .slice a (accL mks).length c := by
        rcases HO'.out.2 with ⟨hv, h0⟩ | ⟨g, cap, cur, hv, _⟩
        · exact ⟨none, 0, by rw [hv, h0]⟩
        · exact ⟨_, _, hv⟩
      obtain ⟨a, c, rfl⟩ := hform
      go_wp2
      go_ret
      exact ⟨⟨a, c, rfl, HO'.out⟩, HB.out⟩

set_option maxHeartbeats 800000 in
theorem refAccesses_any (s : ByteArray) (w : World) (hs : s.size ≤ maxLen) :
    Calls Tryz.prog 28 #[.string s] w fun e w' => ∃ v a, e = .returned (.tuple #[v, .int .i64 a]) ∧ ListIs w w' s v a ∧ Below w.heap.size w w' := by
  go_enter Tryz.func28, Tryz.ntmps28
  go_wp2_with fail
  refine (refCheck_any s w hs).mono ?_
  rintro e w1 ⟨a, b, rfl, hc, hw1⟩
  rw [hw1]
  clear hw1
  by_cases ha : a = 0
  · subst ha
    have hcc := hc
    rcases hc with ⟨_, h1, _⟩ | ⟨hz, ⟨q, _, h1, _⟩ | ⟨mks, hacc, h1, h2⟩⟩
    · cases h1
    · cases h1
    · have hcnt := acc_count hacc
      rw [len_eq] at hcnt
      have HC : Hid (ChkIs s 0 b) := hcc
      have HA : Hid (Acc s.data.toList mks) := hacc
      clear hcc hacc h1 h2
      go_wp2_with fail
      refine (list_any s mks w hz HA.out).mono ?_
      rintro e w2 ⟨⟨x, c, rfl, hown2⟩, hb2⟩
      have HH : Hid (ListIs w w2 s (.slice x (accL mks).length c) 0) := ⟨b, HC.out, .inr ⟨rfl, hz, mks, x, c, HA.out, by omega, rfl, hown2⟩⟩
      have HB : Hid (Below w.heap.size w w2) := hb2
      clear hown2 hb2
      go_wp2
      go_ret2
      exact ⟨_, 0, rfl, HH.out, HB.out⟩
  · have ha' : (a != 0) = true := by simpa using ha
    have HH : Hid (ListIs w w s (.slice none 0 0) a) := ⟨b, hc, .inl ⟨ha, rfl⟩⟩
    clear hc ha
    go_wp2
    go_ret2
    exact ⟨_, a, rfl, HH.out, Below.refl _ _⟩

end Go.Proofs.YtnpkambjlfkhgaaGreat
