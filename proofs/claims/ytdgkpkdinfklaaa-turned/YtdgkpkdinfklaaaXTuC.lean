import Derived.Test.YtdgkpkdinfklaaaXKpE
import Derived.Test.YtdgkpkdinfklaaaGTB
import Derived.Test.YtdgkpkdinfklaaaGTC
namespace Go.Proofs.Ytdgkpkdinfklaaa
open Go.RowKit

theorem split_last {v a : List UInt8} (h : 124 ∉ a) : splitBar (v ++ 124 :: a) = splitBar v ++ [a] := by
  have ha : splitBar a = [a] := by
    induction a with
    | nil => rfl
    | cons c s ih =>
      have h1 : c ≠ 124 := fun e => h (by rw [e]; exact List.mem_cons_self)
      rw [splitBar, if_neg h1, ih (fun h' => h (List.mem_cons_of_mem _ h'))]
  induction v with
  | nil => simp [splitBar, ha]
  | cons c s ih =>
    show splitBar (c :: (s ++ 124 :: a)) = _
    rw [splitBar, splitBar]
    split
    · rw [ih]; rfl
    · rw [ih]
      cases hs : splitBar s with
      | nil =>
        have := splitBar_count s
        rw [hs] at this
        simp at this
      | cons x y => rfl

/-- What turned makes of a program and picks. -/
def TurnedTo (p q r t : ByteArray) : Prop :=
  r.size = p.size ∧ splitBar r.data.toList = rotL (splitBar p.data.toList) ∧ t.data.toList = q.data.toList.map (turnB (splitBar p.data.toList).length) ∧ ChkIs r 0 0

theorem turnB_one (c : UInt8) : turnB 1 c = c := by
  unfold turnB
  split
  · rename_i h
    have : c.toNat = 49 := by omega
    have e : UInt8.ofNat (49 + turnI 1 (c.toNat - 49)) = UInt8.ofNat c.toNat := by
      congr 1
      rw [this]; rfl
    rw [e]; simp
  · rfl

theorem chk_of_acc {s : ByteArray} {mks : List MK} (hz : s.size ≤ 240) (ha : Acc s.data.toList mks) (hn : mks.find? nestB = none) : ChkIs s 0 0 :=
  .inr ⟨hz, .inr ⟨mks, ha, by simp [nestOf, hn], by simp [nestOf, hn]⟩⟩

theorem turn_cases {n : Nat} {x : UInt8} (hn2 : 2 ≤ n) (h4 : n ≤ 4) (h : 49 ≤ x.toNat ∧ x.toNat < 49 + n) : ((n : Int) = 2 ∧ (x.toNat : Int) = 49 ∧ ((turnB n x).toNat : Int) = 50) ∨ ((n : Int) = 2 ∧ (x.toNat : Int) = 50 ∧ ((turnB n x).toNat : Int) = 49) ∨
    ((n : Int) = 3 ∧ (x.toNat : Int) = 49 ∧ ((turnB n x).toNat : Int) = 51) ∨ ((n : Int) = 3 ∧ (x.toNat : Int) = 50 ∧ ((turnB n x).toNat : Int) = 49) ∨ ((n : Int) = 3 ∧ (x.toNat : Int) = 51 ∧ ((turnB n x).toNat : Int) = 50) ∨
    ((n : Int) = 4 ∧ (x.toNat : Int) = 49 ∧ ((turnB n x).toNat : Int) = 52) ∨ ((n : Int) = 4 ∧ (x.toNat : Int) = 50 ∧ ((turnB n x).toNat : Int) = 49) ∨ ((n : Int) = 4 ∧ (x.toNat : Int) = 51 ∧ ((turnB n x).toNat : Int) = 50) ∨ ((n : Int) = 4 ∧ (x.toNat : Int) = 52 ∧ ((turnB n x).toNat : Int) = 51) := by
  have hn : n = 2 ∨ n = 3 ∨ n = 4 := by omega
  have hx : x.toNat = 49 ∨ x.toNat = 50 ∨ x.toNat = 51 ∨ x.toNat = 52 := by omega
  rcases hn with rfl | rfl | rfl <;> rcases hx with hx | hx | hx | hx <;> (have hx' : x = UInt8.ofNat x.toNat := by simp) <;> rw [hx] at hx' <;> subst hx' <;> first | omega | decide

theorem turn_mod {n : Nat} {x : UInt8} (hn2 : 2 ≤ n) (h4 : n ≤ 4) (h : 49 ≤ x.toNat ∧ x.toNat < 49 + n) : ∃ m : Nat, m < 4 ∧ ((x.toNat : Int) - 49 + (n : Int) - 1).tmod (n : Int) = (m : Int) ∧ ((turnB n x).toNat : Int) = 49 + (m : Int) := by
  rcases turn_cases hn2 h4 h with ⟨ka, kb, kc⟩ | ⟨ka, kb, kc⟩ | ⟨ka, kb, kc⟩ | ⟨ka, kb, kc⟩ | ⟨ka, kb, kc⟩ | ⟨ka, kb, kc⟩ | ⟨ka, kb, kc⟩ | ⟨ka, kb, kc⟩ | ⟨ka, kb, kc⟩
  all_goals rw [ka, kb, kc]
  · exact ⟨1, by decide, by decide, by decide⟩
  · exact ⟨0, by decide, by decide, by decide⟩
  · exact ⟨2, by decide, by decide, by decide⟩
  · exact ⟨0, by decide, by decide, by decide⟩
  · exact ⟨1, by decide, by decide, by decide⟩
  · exact ⟨3, by decide, by decide, by decide⟩
  · exact ⟨0, by decide, by decide, by decide⟩
  · exact ⟨1, by decide, by decide, by decide⟩
  · exact ⟨2, by decide, by decide, by decide⟩

set_option maxHeartbeats 3200000 in
set_option maxRecDepth 100000 in
theorem kturned_any (p q : ByteArray) (mks : List MK) (w : World) (hp : p.size ≤ 240) (hq : q.size ≤ 400) (ha : Acc p.data.toList mks) (hn : mks.find? nestB = none) (h4 : (splitBar p.data.toList).length ≤ 4) :
    Calls Try.prog 18 #[.string p, .string q] w fun e w' => (∃ r t, e = .returned (.tuple #[.string r, .string t]) ∧ TurnedTo p q r t) ∧ Below w.heap.size w w' := by
  obtain ⟨i0, hi0, hz0, hz1, hz2⟩ := info_parts Try.infoByteM
  have HA : Hid (Acc p.data.toList mks) := ha
  have HNS : Hid (mks.find? nestB = none) := hn
  have hcnt := splitBar_count p.data.toList
  obtain ⟨n, hnn⟩ : ∃ n, n = (splitBar p.data.toList).length := ⟨_, rfl⟩
  have HN : Hid (n = (splitBar p.data.toList).length) := hnn
  rw [← hnn] at hcnt h4
  have TH : Hid (∀ w' : World, Calls Try.prog 17 #[.string p] w' fun e w'' => e = .returned (.int .i64 n) ∧ w'' = w') := fun w' => by rw [hnn]; exact kthreads_any p w' (by omega)
  clear ha hn hnn
  go_enter Try.func18, Try.ntmps18
  go_wp2_with fail
  refine (TH.out _).mono ?_
  rintro e w1 ⟨rfl, rfl⟩
  clear TH
  by_cases h1 : n = 1
  · have b1 : ((n : Int) == 1) = true := by rw [h1]; rfl
    have HT : Hid (TurnedTo p q p q) := by
      refine ⟨rfl, ?_, ?_, chk_of_acc hp HA.out HNS.out⟩
      · have hl : (splitBar p.data.toList).length = 1 := by rw [← HN.out]; exact h1
        match hs : splitBar p.data.toList with
        | [] => rw [hs] at hl; cases hl
        | [x] => rfl
        | x :: y :: r => rw [hs] at hl; simp at hl
      · rw [← HN.out, h1]
        have : (turnB 1) = id := by funext c; exact turnB_one c
        rw [this, List.map_id]
    clear h1 hcnt
    go_wp2
    go_ret2
    exact ⟨⟨p, q, rfl, HT.out⟩, Below.refl _ _⟩
  · have b1 : ((n : Int) == 1) = false := by simp; omega
    have hmem : (124 : UInt8) ∈ p.data.toList := by
      have h0 : 0 < (p.data.toList.filter (· == 124)).length := by omega
      obtain ⟨x, hx⟩ := List.length_pos_iff_exists_mem.1 h0
      rw [List.mem_filter] at hx
      have : x = 124 := by simpa using hx.2
      rw [← this]; exact hx.1
    obtain ⟨a, v, hav, hna⟩ := List.eq_append_cons_of_mem hmem
    have HAV : Hid (p.data.toList = a ++ 124 :: v) := hav
    have HNA : Hid ((124 : UInt8) ∉ a) := hna
    have hal : a.length < p.size := by
      have := congrArg List.length hav
      rw [len_eq, List.length_append, List.length_cons] at this
      omega
    have hbyte : ∀ k (h : k < p.size), k < a.length → p[k] ≠ 124 := fun k h hk e => by
      have h1 : p.data.toList[k]? = some p[k] := byteAt p k h
      rw [hav, List.getElem?_append_left hk, List.getElem?_eq_getElem hk, e] at h1
      exact hna (Option.some.inj h1 ▸ List.getElem_mem hk)
    have hbar : p.data.toList[a.length]? = some 124 := by
      rw [hav, List.getElem?_append_right (Nat.le_refl _), Nat.sub_self]; rfl
    have HBY : Hid (∀ k (h : k < p.size), k < a.length → p[k] ≠ 124) := hbyte
    have HBR : Hid (p.data.toList[a.length]? = some 124) := hbar
    have hn2 : 2 ≤ n := by omega
    clear hav hna hbyte hbar hmem h1 hcnt
    obtain ⟨A, hA⟩ : ∃ A, A = a.length := ⟨_, rfl⟩
    have HAL : Hid (A = a.length) := hA
    have hAp : A < p.size := by omega
    clear hal hA
    go_wp2
    go_loopw [7] (fun kv wr => ∃ k : Nat, k ≤ A ∧ kv = .int .i64 k ∧ wr = w1) (fun kv _ => A - (intOf kv).toNat)
    case atStart => exact ⟨0, Nat.zero_le _, rfl, rfl⟩
    case round =>
      obtain ⟨k, hk, rfl, rfl⟩ := hrel
      by_cases hka : k < A
      · have hkp : k < p.size := by omega
        have bk : ((p[k].toNat : Int) != 124) = true := by
          have := u8_ne (HBY.out k hkp (by have := HAL.out; omega))
          simpa using this
        have hki : (k : Int) < (p.size : Int) := by omega
        go_wp2
        go_roundw
        case rel => exact ⟨k + 1, by omega, by go_num, by first | rfl | trivial⟩
        case measure => simp [intOf]; omega
      · have hkA : k = A := by omega
        subst hkA
        have bk : ((p[k].toNat : Int) != 124) = false := by
          have h0 : p[k] = 124 := by
            have h1 : p.data.toList[k]? = some p[k] := byteAt p k hAp
            have h2 : p.data.toList[k]? = some 124 := by rw [HAL.out]; exact HBR.out
            rw [h2] at h1
            exact (Option.some.inj h1).symm
          rw [h0]; rfl
        have hki : (k : Int) < (p.size : Int) := by omega
        clear hk hka
        obtain ⟨wa, rfl⟩ : ∃ wa, wa = wr := ⟨_, rfl⟩
        go_wp2
        go_loopw [8, 9] (fun v iv wr => ∃ j : Nat, j ≤ q.size ∧ iv = .int .i64 j ∧ wr.ownsRow wa.heap.size 5 1 v ((q.data.toList.take j).map (turnB n)).length (bysV ((q.data.toList.take j).map (turnB n))) ∧ Below wa.heap.size wa wr) (fun _ iv _ => q.size - (intOf iv).toNat)
        case atStart => exact ⟨0, Nat.zero_le _, rfl, World.ownsRow_nil _ _ _ _, Below.refl _ _⟩
        case round =>
          obtain ⟨j, hj, rfl, hown, hbe⟩ := hrel
          have HO : Hid (wr.ownsRow wa.heap.size 5 1 u8 ((q.data.toList.take j).map (turnB n)).length (bysV ((q.data.toList.take j).map (turnB n)))) := hown
          have HB : Hid (Below wa.heap.size wa wr) := hbe
          have hsz := hbe.size
          have hml : ((q.data.toList.take j).map (turnB n)).length ≤ 400 := by
            rw [List.length_map]
            have := List.length_take_le j q.data.toList
            omega
          clear hown hbe
          by_cases hjq : j < q.size
          · have HS : Hid ((q.data.toList.take (j + 1)).map (turnB n) = (q.data.toList.take j).map (turnB n) ++ [turnB n q[j]]) := by
              show _ = _
              have hjl : j < q.data.toList.length := by rw [len_eq]; exact hjq
              rw [List.take_succ_eq_append_getElem hjl, List.map_append]; rfl
            obtain ⟨D, hD⟩ : ∃ D, D = (q.data.toList.take j).map (turnB n) := ⟨_, rfl⟩
            rw [← hD] at HO HS hml
            clear hD
            have hjq' : (j : Int) < (q.size : Int) := by omega
            have hx0 : 0 ≤ (q[j].toNat : Int) := by omega
            have hx1 : (q[j].toNat : Int) ≤ 255 := by have := UInt8.toNat_lt q[j]; omega
            by_cases hin : 49 ≤ q[j].toNat ∧ q[j].toNat < 49 + n
            · obtain ⟨m, hm4, hmod, hval⟩ := turn_mod hn2 h4 hin
              have KCC : Hid (((turnB n q[j]).toNat : Int) = 49 + (m : Int)) := hval
              have t1 : decide (0 ≤ (q[j].toNat : Int) - 49) = true := decide_eq_true (by omega)
              have t2 : decide ((q[j].toNat : Int) - 49 < (n : Int)) = true := decide_eq_true (by omega)
              have t3 : decide ((49 : Int) ≤ (q[j].toNat : Int)) = true := decide_eq_true (by omega)
              have t4 : 0 ≤ (q[j].toNat : Int) - 49 := by omega
              have t5 : (q[j].toNat : Int) - 49 < (n : Int) := by omega
              have hmod2 : ((q[j].toNat : Int) - 49 + (n : Int) - 1) % (n : Int) = (m : Int) := by
                rw [← hmod, Int.tmod_eq_emod_of_nonneg (by omega)]
              have hn0 : (n : Int) ≠ 0 := by omega
              clear hin hval
              go_wp2_with (at_builtin; refine wpList_append_own _ rfl _ _ 59 rfl wa.heap.size 5 i0 _ 1 1 Try.underlying59 hi0 hz0 hz1 hz2 rfl (by decide) u8 D.length (bysV D) rfl (HO.out.alloc _) ⟨wr.heap.size, 0, none⟩ 1 1 [.int .u8 ((turnB n q[j]).toNat : Int)] rfl rfl (by rw [KCC.out]; exact World.news_of_block (heap_alloc_new _ _)) (by intro u hu; simp at hu; subst hu; rfl) (by unfold maxLen; omega) (by omega) (by simp; omega) ?_)
              intro v' w2 hown2 hgrow _
              have B2 : Hid (Below wa.heap.size wa w2) := (HB.out.alloc hsz _).grown hgrow (by simp; omega) (fun q hq => (HO.out.lt q hq).1)
              have O2 : Hid (w2.ownsRow wa.heap.size 5 1 v' ((q.data.toList.take (j + 1)).map (turnB n)).length (bysV ((q.data.toList.take (j + 1)).map (turnB n)))) := by
                show World.ownsRow _ _ _ _ _ _ _
                rw [HS.out, bysV_append, List.length_append]; exact hown2
              clear hown2 hgrow
              go_wp2
              exact ⟨⟨j + 1, by omega, by go_num, O2.out, B2.out⟩, by simp [intOf]; omega⟩
            · have hno : turnB n q[j] = q[j] := by unfold turnB; rw [if_neg hin]
              rw [hno] at HS
              have KC : decide (0 ≤ (q[j].toNat : Int) - 49) = false ∨ (decide (0 ≤ (q[j].toNat : Int) - 49) = true ∧ decide ((q[j].toNat : Int) - 49 < (n : Int)) = false) := by
                by_cases h0 : 49 ≤ q[j].toNat
                · right; exact ⟨decide_eq_true (by omega), decide_eq_false (by omega)⟩
                · left; exact decide_eq_false (by omega)
              clear hin hno
              rcases KC with kc | ⟨kc, kd⟩
              · have kc2 : ¬ (0 ≤ (q[j].toNat : Int) - 49) := of_decide_eq_false kc
                have kc3 : decide ((49 : Int) ≤ (q[j].toNat : Int)) = false := decide_eq_false (by omega)
                go_wp2_with (at_builtin; refine wpList_append_own _ rfl _ _ 59 rfl wa.heap.size 5 i0 _ 1 1 Try.underlying59 hi0 hz0 hz1 hz2 rfl (by decide) u8 D.length (bysV D) rfl (HO.out.alloc _) ⟨wr.heap.size, 0, none⟩ 1 1 [.int .u8 (q[j].toNat : Int)] rfl rfl (by exact World.news_of_block (heap_alloc_new _ _)) (by intro u hu; simp at hu; subst hu; rfl) (by unfold maxLen; omega) (by omega) (by simp; omega) ?_)
                intro v' w2 hown2 hgrow _
                have B2 : Hid (Below wa.heap.size wa w2) := (HB.out.alloc hsz _).grown hgrow (by simp; omega) (fun q hq => (HO.out.lt q hq).1)
                have O2 : Hid (w2.ownsRow wa.heap.size 5 1 v' ((q.data.toList.take (j + 1)).map (turnB n)).length (bysV ((q.data.toList.take (j + 1)).map (turnB n)))) := by
                  show World.ownsRow _ _ _ _ _ _ _
                  rw [HS.out, bysV_append, List.length_append]; exact hown2
                clear hown2 hgrow
                go_wp2
                exact ⟨⟨j + 1, by omega, by go_num, O2.out, B2.out⟩, by simp [intOf]; omega⟩
              · have kd2 : ¬ ((q[j].toNat : Int) - 49 < (n : Int)) := of_decide_eq_false kd
                have kc2 : 0 ≤ (q[j].toNat : Int) - 49 := of_decide_eq_true kc
                go_wp2_with (at_builtin; refine wpList_append_own _ rfl _ _ 59 rfl wa.heap.size 5 i0 _ 1 1 Try.underlying59 hi0 hz0 hz1 hz2 rfl (by decide) u8 D.length (bysV D) rfl (HO.out.alloc _) ⟨wr.heap.size, 0, none⟩ 1 1 [.int .u8 (q[j].toNat : Int)] rfl rfl (by exact World.news_of_block (heap_alloc_new _ _)) (by intro u hu; simp at hu; subst hu; rfl) (by unfold maxLen; omega) (by omega) (by simp; omega) ?_)
                intro v' w2 hown2 hgrow _
                have B2 : Hid (Below wa.heap.size wa w2) := (HB.out.alloc hsz _).grown hgrow (by simp; omega) (fun q hq => (HO.out.lt q hq).1)
                have O2 : Hid (w2.ownsRow wa.heap.size 5 1 v' ((q.data.toList.take (j + 1)).map (turnB n)).length (bysV ((q.data.toList.take (j + 1)).map (turnB n)))) := by
                  show World.ownsRow _ _ _ _ _ _ _
                  rw [HS.out, bysV_append, List.length_append]; exact hown2
                clear hown2 hgrow
                go_wp2
                exact ⟨⟨j + 1, by omega, by go_num, O2.out, B2.out⟩, by simp [intOf]; omega⟩
          · have hjq' : j = q.size := by omega
            have hall : q.data.toList.take j = q.data.toList := List.take_of_length_le (by rw [len_eq]; omega)
            rw [hall] at HO hml
            have hcv := conv_row HO.out
            have hcv2 := conv_row (w := wr.drew) (ownsRow_later HO.out (below_drewN' _ _ 1))
            obtain ⟨T, hT⟩ : ∃ T : ByteArray, T = ⟨(q.data.toList.map (turnB n)).toArray⟩ := ⟨_, rfl⟩
            rw [← hT] at hcv hcv2
            have HTT : Hid (T.data.toList = q.data.toList.map (turnB n)) := by show _ = _; rw [hT]
            have e4 : decide ((j : Int) < (q.size : Int)) = false := decide_eq_false (by omega)
            have hx1 : (p.extract (k + 1) p.size).data.toList = v := by
              rw [ByteArray.data_extract, Array.toList_extract, HAV.out, HAL.out]
              have hps : p.size = (a ++ 124 :: v).length := by rw [← HAV.out, len_eq]
              rw [hps]
              simp [List.extract]
              exact List.take_of_length_le (by omega)
            have hx2 : (p.extract 0 k).data.toList = a := by
              rw [(take_data p k (by omega)).1, HAV.out, HAL.out]; simp
            have HRD : Hid ((p.extract (k + 1) p.size ++ ⟨#[124]⟩ ++ p.extract 0 k).data.toList = v ++ 124 :: a) := by
              show _ = _
              rw [cat_bytes, cat_bytes, hx1, hx2]; simp
            have HTO : Hid (TurnedTo p q (p.extract (k + 1) p.size ++ ⟨#[124]⟩ ++ p.extract 0 k) T) := by
              have hsize : (p.extract (k + 1) p.size ++ ⟨#[124]⟩ ++ p.extract 0 k).size = p.size := by
                rw [← len_eq, HRD.out, ← len_eq p, HAV.out]; simp; omega
              refine ⟨hsize, ?_, by rw [HTT.out, HN.out], ?_⟩
              · rw [HRD.out, split_last HNA.out, HAV.out, split_bar HNA.out]; rfl
              · obtain ⟨mks', h1, h2⟩ := turned_acc HNA.out (HAV.out ▸ HA.out) HNS.out
                exact chk_of_acc (by omega) (by rw [HRD.out]; exact h1) h2
            have hk1 : ((k : Int) + 1) ≤ (p.size : Int) := by omega
            have hk2 : (k : Int) ≤ (p.size : Int) := by omega
            clear hT hall hml hjq hx1 hx2
            go_wp2
            go_region
            all_goals
              go_wp2
              go_ret2
              exact ⟨⟨_, T, rfl, HTO.out⟩, HB.out.drew⟩

/-! ### The comparison -/
set_option maxHeartbeats 800000 in
theorem ksame_any (Ba Bb : Nat) (xa xb : Option Addr) (ca cb n : Nat) (l : List Int) (w : World) (hn : n = l.length) (ha : w.ownsRow Ba 3 1 (.slice xa n ca) n (intsV l)) (hb : w.ownsRow Bb 3 1 (.slice xb n cb) n (intsV l)) (hc : n ≤ 1000) :
    Calls Try.prog 22 #[.slice xa n ca, .slice xb n cb] w fun e w' => e = .returned (.bool true) ∧ ∃ k, w' = w.drewN k := by
  have HA : Hid (w.ownsRow Ba 3 1 (.slice xa n ca) n (intsV l)) := ha
  have HB : Hid (w.ownsRow Bb 3 1 (.slice xb n cb) n (intsV l)) := hb
  have HN : Hid (n = l.length) := hn
  clear ha hb hn
  go_enter Try.func22, Try.ntmps22
  go_wp2
  go_loopw [5] (fun i wr => ∃ k q : Nat, k ≤ n ∧ i = .int .i64 k ∧ wr = w.drewN q) (fun i _ => n - (intOf i).toNat)
  case atStart => exact ⟨0, 0, Nat.zero_le _, rfl, rfl⟩
  case round =>
    obtain ⟨k, q, hk, rfl, rfl⟩ := hrel
    by_cases hlt : k < n
    · obtain ⟨m, hm⟩ : ∃ m, l[k]? = some m := ⟨l[k]'(by rw [← HN.out]; exact hlt), List.getElem?_eq_getElem _⟩
      obtain ⟨ga, cap', hva, _, _⟩ := HA.out.form (by omega)
      obtain ⟨gb, cap'', hvb, _, _⟩ := HB.out.form (by omega)
      cases hva
      cases hvb
      have p0 : w.cell? ⟨ga, k, none⟩ = some (.int .i64 m) := (HA.out.cellAt k (by omega)).trans (by rw [intsV, List.getElem?_map, hm]; rfl)
      have q0 : w.cell? ⟨gb, k, none⟩ = some (.int .i64 m) := (HB.out.cellAt k (by omega)).trans (by rw [intsV, List.getElem?_map, hm]; rfl)
      clear hm
      have hkn : (k : Int) < (n : Int) := by omega
      go_wp2
      go_quiet (fail)
      go_wp2
      exact ⟨⟨k + 1, _, by omega, by go_num, rfl⟩, by simp [intOf]; omega⟩
    · go_wp2
      go_ret
      exact ⟨rfl, _, rfl⟩

set_option maxHeartbeats 1600000 in
set_option maxRecDepth 100000 in
theorem ksameEnd_any (Ba Bb : Nat) (sd sd' sp ss ss' : ByteArray) (xa xb : Option Addr) (ca cb : Nat) (v4 v4' : Value) (r r' : Int) (l : List Int) (w : World) (_h4 : v4.oneCell' = true) (_h4' : v4'.oneCell' = true) (hn : 3 = l.length) (ha : w.ownsRow Ba 3 1 (.slice xa 3 ca) 3 (intsV l)) (hb : w.ownsRow Bb 3 1 (.slice xb 3 cb) 3 (intsV l)) :
    Calls Try.prog 19 #[.agg #[.string sd, .string sp, .slice xa 3 ca, v4, .int .i64 r, .string ss], .agg #[.string sd', .string sp, .slice xb 3 cb, v4', .int .i64 r', .string ss']] w fun e w' => e = .returned (.bool true) ∧ Below w.heap.size w w' := by
  have HA : Hid (w.ownsRow Ba 3 1 (.slice xa 3 ca) 3 (intsV l)) := ha
  have HB : Hid (w.ownsRow Bb 3 1 (.slice xb 3 cb) 3 (intsV l)) := hb
  have HN : Hid (3 = l.length) := hn
  have BE : Hid (∀ o o', Below w.heap.size w ((w.alloc o).alloc o')) := fun o o' => ((Below.refl _ _).alloc (Nat.le_refl _) o).alloc (by simp) o'
  clear ha hb hn
  go_enter Try.func19, Try.ntmps19
  go_wp2_with fail
  refine (ksame_any Ba Bb xa xb ca cb 3 l _ HN.out ((HA.out.alloc _).alloc _) ((HB.out.alloc _).alloc _) (by decide)).mono ?_
  rintro e w1 ⟨rfl, k, rfl⟩
  go_wp2
  go_ret
  exact ⟨rfl, (BE.out _ _).trans (below_drewN' _ _ _)⟩

theorem ran_full {w w' : World} {p q : ByteArray} {e : Ending} (h : RanOut w p q e w') : ∃ F ts sd sp a3 c3 a4 n4 c4 xr ss, e = .returned (.tuple #[.agg #[.string sd, .string sp, .slice a3 3 c3, .slice a4 n4 c4, .int .i64 xr, .string ss], .bool true]) ∧ Prog p.data.toList F ts ∧
    sd = ⟨(runU F q.data.toList q.data.toList.length).done.toArray⟩ ∧ sp = ⟨(runU F q.data.toList q.data.toList.length).c.pr.toArray⟩ ∧ xr = (runU F q.data.toList q.data.toList.length).race ∧ ss = ⟨(stuckM F (runU F q.data.toList q.data.toList.length).c.lk (runU F q.data.toList q.data.toList.length).ths).toArray⟩ ∧
    w'.ownsRow w.heap.size 3 1 (.slice a3 3 c3) 3 (intsV ((runU F q.data.toList q.data.toList.length).c.gl.map (·.val))) := by
  obtain ⟨F, ts, v, he, _, hp, a3, c3, a4, c4, hv, h1, _⟩ := h
  subst hv
  exact ⟨F, ts, _, _, a3, c3, a4, _, c4, _, _, he, hp, rfl, rfl, rfl, rfl, h1⟩

set_option maxHeartbeats 12800000 in
set_option maxRecDepth 100000 in
theorem turned_any (la : Option Addr) (ln lc : Nat) (pa : Option Addr) (pn pc : Nat) (w : World) (hi : IsInts w w.heap.size la ln) (hl : ln ≤ maxLen) (hj : IsInts w w.heap.size pa pn) (hm : pn ≤ maxLen) :
    Calls Try.prog 6 #[.slice la ln lc, .slice pa pn pc] w fun e w' => e = .returned (.bool true) ∧ Below w.heap.size w w' := by
  go_enter Try.func6, Try.ntmps6
  go_wp2_with fail
  refine (Any_any la ln lc w hi hl).mono ?_
  rintro e w1 ⟨⟨p, t, opn, rfl, hg⟩, b1⟩
  obtain ⟨hchk, hp240⟩ := gen_chk hg
  obtain ⟨h4, htd⟩ := gen_td hg
  obtain ⟨_, mks, hacc, hnest⟩ := hg.acc
  have hj1 := hj.below b1
  have HCK : Hid (ChkIs p 0 0) := hchk
  have HTD : Hid (∀ a ∈ splitBar p.data.toList, TD [] [] a) := htd
  have H4 : Hid ((splitBar p.data.toList).length ≤ 4) := h4
  have HACC : Hid (Acc p.data.toList mks) := hacc
  have HNE : Hid (mks.find? nestB = none) := hnest
  have hw1 := b1.size
  have hj1' : IsInts w1 w1.heap.size pa pn := by
    rcases hj1 with h | ⟨b, off, e, hb, hc⟩
    · exact .inl h
    · exact .inr ⟨b, off, e, by omega, hc⟩
  have B1 : Hid (Below w.heap.size w w1) := b1
  clear hi hj hj1 hg hchk b1 htd h4 hacc hnest
  go_wp2_with fail
  refine (kpicks_any pa pn pc w1 hj1' hm).mono ?_
  rintro e w2 ⟨⟨q, rfl, hq⟩, b2⟩
  have hw2 := b2.size
  have B2 : Hid (Below w.heap.size w w2) := B1.out.trans (b2.mono hw1)
  clear b2 hj1' B1
  go_wp2_with fail
  refine (kturned_any p q mks w2 hp240 hq HACC.out HNE.out H4.out).mono ?_
  rintro e w3 ⟨⟨r, t', rfl, hto⟩, b3⟩
  obtain ⟨hrs, hsp, htt, hrc⟩ := hto
  have hw3 := b3.size
  have B3 : Hid (Below w.heap.size w w3) := B2.out.trans (b3.mono (by omega))
  have HRC : Hid (ChkIs r 0 0) := hrc
  have HSP : Hid (splitBar r.data.toList = rotL (splitBar p.data.toList)) := hsp
  have HTT : Hid (t'.data.toList = q.data.toList.map (turnB (splitBar p.data.toList).length)) := htt
  have htl : t'.data.toList.length = q.data.toList.length := by rw [htt, List.length_map]
  have hts : t'.size ≤ 400 := by rw [← len_eq, htl, len_eq]; exact hq
  have HTL : Hid (t'.data.toList.length = q.data.toList.length) := htl
  clear b3 hrc hsp htt htl B2
  go_wp2_with fail
  refine (ran_any p q 0 w3 HCK.out hp240 hq).mono ?_
  rintro e w4 ⟨hro, b4⟩
  obtain ⟨F, ts, d1, p1, a3, c3, a4, n4, c4, r1, s1, rfl, hprog, hd1, hp1, hr1, hs1, row1⟩ := ran_full hro
  have hw4 := b4.size
  have B4 : Hid (Below w.heap.size w w4) := B3.out.trans (b4.mono (by omega))
  have E1 : Hid (d1 = ⟨(runU F q.data.toList q.data.toList.length).done.toArray⟩ ∧ p1 = ⟨(runU F q.data.toList q.data.toList.length).c.pr.toArray⟩ ∧ r1 = (runU F q.data.toList q.data.toList.length).race ∧ s1 = ⟨(stuckM F (runU F q.data.toList q.data.toList.length).c.lk (runU F q.data.toList q.data.toList.length).ths).toArray⟩) := ⟨hd1, hp1, hr1, hs1⟩
  have HPR : Hid (Prog p.data.toList F ts) := hprog
  have R1 : Hid (w4.ownsRow w3.heap.size 3 1 (.slice a3 3 c3) 3 (intsV ((runU F q.data.toList q.data.toList.length).c.gl.map (·.val)))) := row1
  have RN : Hid (∀ w' : World, Calls Try.prog 15 #[.string r, .string t'] w' fun e w'' => RanOut w' r t' e w'' ∧ Below w'.heap.size w' w'') := fun w' => ran_any r t' 0 w' HRC.out (by omega) hts
  clear hro b4 B3 hd1 hp1 hr1 hs1 hprog row1
  go_wp2_with fail
  refine (RN.out _).mono ?_
  rintro e w5 ⟨hro, b5⟩
  obtain ⟨F', ts', d2, p2, a5, c5, a6, n6, c6, r2, s2, rfl, hprog2, hd2, hp2, hr2, hs2, row2⟩ := ran_full hro
  have ALL := turned_all HPR.out hprog2 H4.out HSP.out HTD.out q.data.toList q.data.toList.length
  rw [← HTT.out] at ALL
  rw [HTL.out] at hd2 hp2 hr2 hs2 row2
  obtain ⟨g1, g2, g3, g4⟩ := E1.out
  have ed : d2 = d1 := by rw [hd2, g1, ALL.1]
  have ep : p2 = p1 := by rw [hp2, g2, ALL.2.1]
  have er : r2 = r1 := by rw [hr2, g3, ALL.2.2.2.1]
  have es : s2.size = s1.size := by rw [hs2, g4]; show (List.toArray _).size = (List.toArray _).size; rw [List.size_toArray, List.size_toArray]; exact ALL.2.2.2.2
  rw [ALL.2.2.1] at row2
  have hgl : 3 = ((runU F q.data.toList q.data.toList.length).c.gl.map (·.val)).length := by
    have := R1.out.1
    simpa [intsV] using this.symm
  subst ed ep er
  obtain ⟨L, hL⟩ : ∃ L, L = (runU F q.data.toList q.data.toList.length).c.gl.map (·.val) := ⟨_, rfl⟩
  rw [← hL] at R1 row2 hgl
  have hw5 : w4.heap.size + 1 ≤ w5.heap.size := by have := b5.size; simp at this; exact this
  have L4 := (Blk.new (w := w4) (l := [.string d2, .string p2, .slice a3 3 c3, .slice a4 n4 c4, .int .i64 r2, .string s1]) (ty := 36)).chg (chg_of_below b5 []) (by simp)
  have R15 : Hid (w5.ownsRow w3.heap.size 3 1 (.slice a3 3 c3) 3 (intsV L)) := ownsRow_later (R1.out.alloc _) b5
  have R25 : Hid (w5.ownsRow w4.heap.size 3 1 (.slice a5 3 c5) 3 (intsV L)) := ownsRow_lower row2 (by simp)
  have B5 : Hid (Below w.heap.size w w5) := (B4.out.alloc (by omega) _).trans (b5.mono (by simp; omega))
  have HGL : Hid (3 = L.length) := hgl
  have hlt5 : w4.heap.size < w5.heap.size := by omega
  have LB : Hid (Blk w5 w4.heap.size [.string d2, .string p2, .slice a3 3 c3, .slice a4 n4 c4, .int .i64 r2, .string s1] 36) := L4
  have m0 := L4.cell 0 _ rfl
  have m1 := L4.cell 1 _ rfl
  have m2 := L4.cell 2 _ rfl
  have m3 := L4.cell 3 _ rfl
  have m4 := L4.cell 4 _ rfl
  have m5 := L4.cell 5 _ rfl
  have SE : Hid (∀ o : Obj, Calls Try.prog 19 #[.agg #[.string d2, .string p2, .slice a3 3 c3, .slice a4 n4 c4, .int .i64 r2, .string s1], .agg #[.string d2, .string p2, .slice a5 3 c5, .slice a6 n6 c6, .int .i64 r2, .string s2]] (w5.alloc o) fun e w' => e = .returned (.bool true) ∧ Below (w5.alloc o).heap.size (w5.alloc o) w') := fun o => ksameEnd_any _ _ d2 d2 p2 s1 s2 a3 a5 c3 c5 _ _ r2 r2 L (w5.alloc o) rfl rfl HGL.out (R15.out.alloc o) (R25.out.alloc o)
  have BV : Hid (∀ o, Below w.heap.size w (w5.alloc o)) := fun o => B5.out.alloc (by omega) o
  clear hro b5 hprog2 hd2 hp2 hr2 hs2 row2 ALL g1 g2 g3 g4 hL hgl L4 RN R1 E1
  go_wp2_with fail
  refine (SE.out _).mono ?_
  rintro e w6 ⟨rfl, b6⟩
  have z6 := b6.size
  rw [show (w5.alloc (.cells #[.string d2, .string p2, .slice a5 3 c5, .slice a6 n6 c6, .int .i64 r2, .string s2] 36)).heap.size = w5.heap.size + 1 by simp] at z6
  have L6 : Blk w6 w4.heap.size [.string d2, .string p2, .slice a3 3 c3, .slice a4 n4 c4, .int .i64 r2, .string s1] 36 := (LB.out.alloc _).chg (chg_of_below b6 []) (by simp)
  have M6 := (Blk.new (w := w5) (l := [.string d2, .string p2, .slice a5 3 c5, .slice a6 n6 c6, .int .i64 r2, .string s2]) (ty := 36)).chg (chg_of_below b6 []) (by simp)
  have BF : Hid (Below w.heap.size w w6) := (BV.out _).trans (b6.mono (by simp; omega))
  have x0 := L6.cell 0 _ rfl
  have x4 := L6.cell 4 _ rfl
  have x5 := L6.cell 5 _ rfl
  have y0 := M6.cell 0 _ rfl
  have y4 := M6.cell 4 _ rfl
  have y5 := M6.cell 5 _ rfl
  have esz : ((s1.size : Int) == (s2.size : Int)) = true := by rw [es]; simp
  clear b6 L6 M6 m0 m1 m2 m3 m4 m5 SE es
  go_wp2
  go_ret
  exact ⟨rfl, BF.out⟩

end Go.Proofs.Ytdgkpkdinfklaaa
