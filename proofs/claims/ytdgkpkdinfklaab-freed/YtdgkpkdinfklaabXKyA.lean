import Derived.Test.YtdgkpkdinfklaabXKwC
import Derived.Test.YtdgkpkdinfklaabGKQ
import Derived.Test.YtdgkpkdinfklaabXMade2
import Derived.Test.YtdgkpkdinfklaabGMD
import Derived.Lib.AppendStr
namespace Go.Proofs.Ytdgkpkdinfklaab
open Go.RowKit
theorem give_now {p : List UInt8} {mks : List MK} (h : Acc p mks) {k : Nat} (hlt : (tw p k).i < p.length) (hc : p[(tw p k).i]? = some 93) : 0 < (tw p k).now.length := by
 obtain ⟨g, hg, _⟩ := h.form
 obtain ⟨f, hf, hbf, htm, hcn⟩ := acc_cnt h k
 obtain ⟨f1, hf1⟩ := fw_prefix hg (show (tw p k).i + 1 ≤ p.length by omega)
 rcases cnt_next hbf (nxt_of hf hc hf1) with ⟨_, h1⟩ | ⟨h2, _⟩
 ·rw [if_pos (.inl rfl)] at h1; omega
 ·exact absurd h2 (by decide)
def SW (S o : List UInt8) (d k : Nat) : Prop := strt 0 S = o ++ strt d (S.drop k)
theorem SW.take {S o : List UInt8} {d k : Nat} (h : SW S o d k) (hc : S[k]? = some 91) (hr : k + 2 ≤ S.length) : SW S (o ++ [91, UInt8.ofNat (65 + d % 4)]) (d + 1) (k + 2) := by
 unfold SW at h ⊢
 have h0 : k < S.length := by omega
 have h1 : k + 1 < S.length := by omega
 rw [List.getElem?_eq_getElem h0] at hc
 rw [h, List.drop_eq_getElem_cons h0, List.drop_eq_getElem_cons h1, Option.some.inj hc, strt_take]
 simp
theorem SW.give {S o : List UInt8} {d k : Nat} (h : SW S o d k) (hc : S[k]? = some 93) : SW S (o ++ (S.drop k).take 1) (d - 1) (k + 1) := by
 unfold SW at h ⊢
 have h0 : k < S.length := by
  rcases Nat.lt_or_ge k S.length with h | h
  ·exact h
  ·rw [List.getElem?_eq_none h] at hc; cases hc
 rw [List.getElem?_eq_getElem h0] at hc
 rw [h, List.drop_eq_getElem_cons h0, Option.some.inj hc, strt_give]
 simp
theorem SW.other {S o : List UInt8} {d k : Nat} {c : UInt8} (h : SW S o d k) (hc : S[k]? = some c) (h1 : c ≠ 91) (h2 : c ≠ 93) (hr : k + sizeU c ≤ S.length) : SW S (o ++ (S.drop k).take (sizeU c)) d (k + sizeU c) := by
 unfold SW at h ⊢
 have hp := sizeU_pos c
 have h0 : k < S.length := by omega
 rw [List.getElem?_eq_getElem h0] at hc
 rw [h, List.drop_eq_getElem_cons h0, Option.some.inj hc]
 by_cases h3 : c = 103 ∨ c = 112 ∨ c = 105 ∨ c = 60
 ·have hz : sizeU c = 2 := by rcases h3 with rfl | rfl | rfl | rfl <;> rfl
  rw [hz] at hr ⊢
  have h4 : k + 1 < S.length := by omega
  rw [List.drop_eq_getElem_cons h4, strt, if_neg h1, if_neg h2, if_pos h3, List.append_assoc]
  rfl
 ·have hz : sizeU c = 1 := by
   rw [sizeU, if_neg]
   intro e
   simp [inU] at e
   rcases e with e | e | e | e | e
   ·exact h3 (.inl e.symm)
   ·exact h3 (.inr (.inl e.symm))
   ·exact h3 (.inr (.inr (.inl e.symm)))
   ·exact h1 e.symm
   ·exact h3 (.inr (.inr (.inr e.symm)))
  rw [hz]
  cases hs : S.drop (k + 1) with
  | nil => simp [strt]
  | cons v s => rw [strt, if_neg h1, if_neg h2, if_neg h3]; simp
theorem strCells_by (s : ByteArray) : Lib.strCells s = byV s.data.toList := rfl
theorem let_deep (d : Nat) : ∃ m, m = d % 4 ∧ m < 4 ∧ (UInt8.ofNat (65 + m)).toNat = 65 + m := ⟨d % 4, rfl, Nat.mod_lt _ (by decide), UInt8.toNat_ofNat_of_lt' (by have := Nat.mod_lt d (show 0 < 4 by decide); show 65 + d % 4 < 256; omega)⟩
theorem piece_data (s : ByteArray) (k z : Nat) : (s.extract k (k + z)).data.toList = (s.data.toList.drop k).take z := by
 rw [Lib.extract_data, show k + z - k = z by omega]
set_option maxHeartbeats 3200000 in
set_option maxRecDepth 100000 in
theorem kstraight_any (s : ByteArray) (mks : List MK) (w : World) (h : s.size ≤ 240) (ha : Acc s.data.toList mks) (h60 : (60 : UInt8) ∉ s.data.toList) (h62 : (62 : UInt8) ∉ s.data.toList) (g : ByteArray) (hg : g.data.toList = strt 0 s.data.toList) :
  Calls Try.prog 17 #[.string s] w fun e w' => e = .returned (.string g) ∧ Below w.heap.size w w' := by
 obtain ⟨i0, hi0, hz0, hz1, hz2⟩ := info_parts Try.infoByte
 have HA : Hid (Acc s.data.toList mks) := ha
 have HG : Hid (g.data.toList = strt 0 s.data.toList) := hg
 have H6 : Hid (∀ k, (hk : k < s.size) → s[k] ≠ 60 ∧ s[k] ≠ 62) := fun k hk =>
  ⟨fun e => h60 (e ▸ List.mem_of_getElem? (byteAt s k hk)), fun e => h62 (e ▸ List.mem_of_getElem? (byteAt s k hk))⟩
 clear ha hg h60 h62
 go_enter Try.func17, Try.ntmps17
 go_wp2
 go_loopw [3, 4, 5] (fun bv dv iv wr => ∃ (k j d : Nat) (o : List UInt8), iv = .int .i64 k ∧ dv = .int .i64 d ∧ (tw s.data.toList j).i = k ∧ (tw s.data.toList j).now.length = d ∧ SW s.data.toList o d k ∧ o.length ≤ k ∧ d ≤ k ∧ k ≤ s.size ∧ wr.ownsRow w.heap.size 5 1 bv o.length (byV o) ∧ Below w.heap.size w wr) (fun _ _ iv _ => s.size - (intOf iv).toNat)
 case atStart => exact ⟨0, 0, 0, [], rfl, rfl, rfl, rfl, rfl, Nat.le_refl _, Nat.le_refl _, Nat.zero_le _, by simpa [byV] using World.ownsRow_nil w w.heap.size 5 1, Below.refl _ _⟩
 case round =>
  obtain ⟨k, j, d, o, rfl, rfl, hki, hkn, hsw, hol, hdk, hks, hown, hbe⟩ := hrel
  have HB : Hid (Below w.heap.size w wr) := hbe
  have HO : Hid (wr.ownsRow w.heap.size 5 1 u3 o.length (byV o)) := hown
  have HS : Hid (SW s.data.toList o d k) := hsw
  have hsz := hbe.size
  clear hown hbe hsw
  by_cases hlt : k < s.size
  ·have hlt' : (tw s.data.toList j).i < s.data.toList.length := by rw [hki, len_eq]; exact hlt
   have hc : s.data.toList[(tw s.data.toList j).i]? = some s[k] := by rw [hki]; exact byteAt s k hlt
   obtain ⟨t1, t2, t3, t4⟩ := tw_at hlt' hc
   obtain ⟨room, l, hl⟩ := acc_room HA.out hlt' hc
   rw [hki, len_eq] at room
   rw [hki] at t1 t2
   have hz := sizeU_pos s[k]
   have T1 : Hid ((tw s.data.toList (j + 1)).i = k + sizeU s[k]) := t1
   have hbk : s.data.toList[k]? = some s[k] := byteAt s k hlt
   obtain ⟨z, hzz⟩ : ∃ z, z = sizeU s[k] := ⟨_, rfl⟩
   have HSIZE : Hid (∀ wx, Calls Try.prog 33 #[.int .u8 (s[k].toNat : Int)] wx fun e w' => e = .returned (.int .i64 z) ∧ w' = wx) := by
    intro wx; rw [hzz]; exact ksize_any s[k] wx
   have hlti : (k : Int) < (s.size : Int) := by omega
   by_cases h91 : s[k] = 91
   ·have b91 : ((s[k].toNat : Int) == 91) = true := by rw [h91]; rfl
    have hz2' : z = 2 := by rw [hzz, h91]; rfl
    have T2 : Hid ((tw s.data.toList (j + 1)).now.length = d + 1) := by
     show _ = _
     rw [t2, heldU, hbk]
     simp only
     rw [if_pos (.inl h91), List.length_append, hkn]; rfl
    rw [← hzz, hz2'] at T1 room
    subst hz2'
    obtain ⟨m, hm, hm4, hmn⟩ := let_deep d
    have HN : Hid (SW s.data.toList (o ++ [91, UInt8.ofNat (65 + m)]) (d + 1) (k + 2)) := by
     rw [hm]; exact HS.out.take (by rw [hbk, h91]) (by rw [len_eq]; omega)
    have hrem : (d : Int) % 4 = (m : Int) := by omega
    clear t1 t2 t3 t4 hl hki hkn hlt' hc hzz hbk h91 hm
    clear hmn
    have hmc : m = 0 ∨ m = 1 ∨ m = 2 ∨ m = 3 := by omega
    rcases hmc with rfl | rfl | rfl | rfl
    ·have hr : Int.tmod (d : Int) 4 = 0 := by rw [Int.tmod_eq_emod_of_nonneg (by omega)]; exact hrem
     go_wp2_with (first
      | (at_builtin; refine wpList_append_own _ rfl (.tmp 20) (.tmp 24) 56 rfl w.heap.size 5 i0 _ 1 1 Try.underlying56 hi0 hz0 hz1 hz2 rfl (by decide) u3 o.length (byV o) rfl (HO.out.alloc _) ⟨wr.heap.size, 0, none⟩ 2 2 [.int .u8 91, .int .u8 65] rfl rfl ?hnews ?h1 ?h63 ?hby ?hbase ?next))
     case hnews => exact World.news_of_block (heap_alloc_new _ _)
     case h1 => intro u hu; simp at hu; rcases hu with rfl | rfl <;> rfl
     case h63 => unfold maxLen; omega
     case hby => omega
     case hbase => simp; omega
     case next =>
      intro v' w1 hown1 hgrow _
      have B3 : Hid (Below w.heap.size w w1) := (HB.out.alloc (by omega) _).grown hgrow (by simp; omega) (fun q hq => (HO.out.lt q hq).1)
      have HO3 : Hid (w1.ownsRow w.heap.size 5 1 v' (o ++ [91, UInt8.ofNat (65 + 0)]).length (byV (o ++ [91, UInt8.ofNat (65 + 0)]))) := by
       show World.ownsRow _ _ _ _ _ _ _
       rw [show byV (o ++ [91, UInt8.ofNat (65 + 0)]) = byV o ++ [.int .u8 91, .int .u8 65] by simp [byV], List.length_append]
       exact hown1
      clear hown1 hgrow
      go_wp2_with (go_at_call 33; refine (HSIZE.out _).mono ?_; rintro e w' ⟨rfl, rfl⟩)
      exact ⟨⟨k + 2, j + 1, d + 1, _, by go_num, by go_num, T1.out, T2.out, HN.out, by simp; omega, by omega, by omega, HO3.out, B3.out⟩, by simp [intOf]; omega⟩
    ·have hr : Int.tmod (d : Int) 4 = 1 := by rw [Int.tmod_eq_emod_of_nonneg (by omega)]; exact hrem
     go_wp2_with (first
      | (at_builtin; refine wpList_append_own _ rfl (.tmp 20) (.tmp 24) 56 rfl w.heap.size 5 i0 _ 1 1 Try.underlying56 hi0 hz0 hz1 hz2 rfl (by decide) u3 o.length (byV o) rfl (HO.out.alloc _) ⟨wr.heap.size, 0, none⟩ 2 2 [.int .u8 91, .int .u8 66] rfl rfl ?hnews ?h1 ?h63 ?hby ?hbase ?next))
     case hnews => exact World.news_of_block (heap_alloc_new _ _)
     case h1 => intro u hu; simp at hu; rcases hu with rfl | rfl <;> rfl
     case h63 => unfold maxLen; omega
     case hby => omega
     case hbase => simp; omega
     case next =>
      intro v' w1 hown1 hgrow _
      have B3 : Hid (Below w.heap.size w w1) := (HB.out.alloc (by omega) _).grown hgrow (by simp; omega) (fun q hq => (HO.out.lt q hq).1)
      have HO3 : Hid (w1.ownsRow w.heap.size 5 1 v' (o ++ [91, UInt8.ofNat (65 + 1)]).length (byV (o ++ [91, UInt8.ofNat (65 + 1)]))) := by
       show World.ownsRow _ _ _ _ _ _ _
       rw [show byV (o ++ [91, UInt8.ofNat (65 + 1)]) = byV o ++ [.int .u8 91, .int .u8 66] by simp [byV], List.length_append]
       exact hown1
      clear hown1 hgrow
      go_wp2_with (go_at_call 33; refine (HSIZE.out _).mono ?_; rintro e w' ⟨rfl, rfl⟩)
      exact ⟨⟨k + 2, j + 1, d + 1, _, by go_num, by go_num, T1.out, T2.out, HN.out, by simp; omega, by omega, by omega, HO3.out, B3.out⟩, by simp [intOf]; omega⟩
    ·have hr : Int.tmod (d : Int) 4 = 2 := by rw [Int.tmod_eq_emod_of_nonneg (by omega)]; exact hrem
     go_wp2_with (first
      | (at_builtin; refine wpList_append_own _ rfl (.tmp 20) (.tmp 24) 56 rfl w.heap.size 5 i0 _ 1 1 Try.underlying56 hi0 hz0 hz1 hz2 rfl (by decide) u3 o.length (byV o) rfl (HO.out.alloc _) ⟨wr.heap.size, 0, none⟩ 2 2 [.int .u8 91, .int .u8 67] rfl rfl ?hnews ?h1 ?h63 ?hby ?hbase ?next))
     case hnews => exact World.news_of_block (heap_alloc_new _ _)
     case h1 => intro u hu; simp at hu; rcases hu with rfl | rfl <;> rfl
     case h63 => unfold maxLen; omega
     case hby => omega
     case hbase => simp; omega
     case next =>
      intro v' w1 hown1 hgrow _
      have B3 : Hid (Below w.heap.size w w1) := (HB.out.alloc (by omega) _).grown hgrow (by simp; omega) (fun q hq => (HO.out.lt q hq).1)
      have HO3 : Hid (w1.ownsRow w.heap.size 5 1 v' (o ++ [91, UInt8.ofNat (65 + 2)]).length (byV (o ++ [91, UInt8.ofNat (65 + 2)]))) := by
       show World.ownsRow _ _ _ _ _ _ _
       rw [show byV (o ++ [91, UInt8.ofNat (65 + 2)]) = byV o ++ [.int .u8 91, .int .u8 67] by simp [byV], List.length_append]
       exact hown1
      clear hown1 hgrow
      go_wp2_with (go_at_call 33; refine (HSIZE.out _).mono ?_; rintro e w' ⟨rfl, rfl⟩)
      exact ⟨⟨k + 2, j + 1, d + 1, _, by go_num, by go_num, T1.out, T2.out, HN.out, by simp; omega, by omega, by omega, HO3.out, B3.out⟩, by simp [intOf]; omega⟩
    ·have hr : Int.tmod (d : Int) 4 = 3 := by rw [Int.tmod_eq_emod_of_nonneg (by omega)]; exact hrem
     go_wp2_with (first
      | (at_builtin; refine wpList_append_own _ rfl (.tmp 20) (.tmp 24) 56 rfl w.heap.size 5 i0 _ 1 1 Try.underlying56 hi0 hz0 hz1 hz2 rfl (by decide) u3 o.length (byV o) rfl (HO.out.alloc _) ⟨wr.heap.size, 0, none⟩ 2 2 [.int .u8 91, .int .u8 68] rfl rfl ?hnews ?h1 ?h63 ?hby ?hbase ?next))
     case hnews => exact World.news_of_block (heap_alloc_new _ _)
     case h1 => intro u hu; simp at hu; rcases hu with rfl | rfl <;> rfl
     case h63 => unfold maxLen; omega
     case hby => omega
     case hbase => simp; omega
     case next =>
      intro v' w1 hown1 hgrow _
      have B3 : Hid (Below w.heap.size w w1) := (HB.out.alloc (by omega) _).grown hgrow (by simp; omega) (fun q hq => (HO.out.lt q hq).1)
      have HO3 : Hid (w1.ownsRow w.heap.size 5 1 v' (o ++ [91, UInt8.ofNat (65 + 3)]).length (byV (o ++ [91, UInt8.ofNat (65 + 3)]))) := by
       show World.ownsRow _ _ _ _ _ _ _
       rw [show byV (o ++ [91, UInt8.ofNat (65 + 3)]) = byV o ++ [.int .u8 91, .int .u8 68] by simp [byV], List.length_append]
       exact hown1
      clear hown1 hgrow
      go_wp2_with (go_at_call 33; refine (HSIZE.out _).mono ?_; rintro e w' ⟨rfl, rfl⟩)
      exact ⟨⟨k + 2, j + 1, d + 1, _, by go_num, by go_num, T1.out, T2.out, HN.out, by simp; omega, by omega, by omega, HO3.out, B3.out⟩, by simp [intOf]; omega⟩
   ·have b91 : ((s[k].toNat : Int) == 91) = false := u8g h91
    rw [← hzz] at T1 room hz
    have hxs : (s.extract k (k + z)).size = z := by simp; omega
    have hkz : (k : Int) + (z : Int) ≤ (s.size : Int) := by omega
    have hzm : z ≤ 2 := by rw [hzz, sizeU]; split <;> omega
    by_cases h93 : s[k] = 93
    ·have b93 : ((s[k].toNat : Int) == 93) = true := by rw [h93]; rfl
     have hz1' : z = 1 := by rw [hzz, h93]; rfl
     have hd0 : 0 < d := by rw [← hkn]; exact give_now HA.out hlt' (by rw [hc, h93])
     have T2 : Hid ((tw s.data.toList (j + 1)).now.length = d - 1) := by
      show _ = _
      rw [t2, heldU, hbk]
      simp only
      rw [if_neg (by rw [h93]; decide), if_pos (.inl h93), List.length_dropLast, hkn]
     have HN : Hid (SW s.data.toList (o ++ (s.extract k (k + z)).data.toList) (d - 1) (k + z)) := by
      rw [piece_data, hz1']; exact HS.out.give (by rw [hbk, h93])
     clear t1 t2 t3 t4 hl hki hkn hlt' hc hzz hbk h91 h93 hz1'
     go_wp2_with (first
      | (go_at_call 33; refine (HSIZE.out _).mono ?_; rintro e w' ⟨rfl, rfl⟩)
      | (at_builtin; refine Lib.wpList_append_own_string _ rfl (.tmp 34) (.tmp 43) 56 9 rfl w.heap.size 5 i0 Try.underlying56 Try.underlying9 hi0 hz0 hz1 hz2 u3 o.length (byV o) rfl HO.out (s.extract k (k + z)) rfl ?h63 ?hby ?hbase ?next))
     case h63 => unfold maxLen; omega
     case hby => omega
     case hbase => omega
     case next =>
      intro v' w1 hown1 hgrow _
      have B3 : Hid (Below w.heap.size w w1) := HB.out.grown hgrow (by omega) (fun q hq => (HO.out.lt q hq).1)
      have HO3 : Hid (w1.ownsRow w.heap.size 5 1 v' (o ++ (s.extract k (k + z)).data.toList).length (byV (o ++ (s.extract k (k + z)).data.toList))) := by
       show World.ownsRow _ _ _ _ _ _ _
       rw [show byV (o ++ (s.extract k (k + z)).data.toList) = byV o ++ Lib.strCells (s.extract k (k + z)) by rw [strCells_by]; simp only [byV, List.map_append], List.length_append, len_eq, hxs]
       exact hown1
      clear hown1 hgrow
      go_wp2_with (go_at_call 33; refine (HSIZE.out _).mono ?_; rintro e w' ⟨rfl, rfl⟩)
      exact ⟨⟨k + z, j + 1, d - 1, _, by go_num, by go_num, T1.out, T2.out, HN.out, by rw [List.length_append, len_eq]; omega, by omega, by omega, HO3.out, B3.out⟩, by simp [intOf]; omega⟩
    ·have b93 : ((s[k].toNat : Int) == 93) = false := u8g h93
     have T2 : Hid ((tw s.data.toList (j + 1)).now.length = d) := by
      show _ = _
      rw [t2, heldU, hbk]
      simp only
      rw [if_neg (fun e => e.elim h91 (H6.out k hlt).1), if_neg (fun e => e.elim h93 (H6.out k hlt).2), hkn]
     have HN : Hid (SW s.data.toList (o ++ (s.extract k (k + z)).data.toList) d (k + z)) := by
      rw [piece_data, hzz]; exact HS.out.other hbk h91 h93 (by rw [len_eq, ← hzz]; exact room)
     clear t1 t2 t3 t4 hl hki hkn hlt' hc hzz hbk h91 h93
     go_wp2_with (first
      | (go_at_call 33; refine (HSIZE.out _).mono ?_; rintro e w' ⟨rfl, rfl⟩)
      | (at_builtin; refine Lib.wpList_append_own_string _ rfl (.tmp 34) (.tmp 43) 56 9 rfl w.heap.size 5 i0 Try.underlying56 Try.underlying9 hi0 hz0 hz1 hz2 u3 o.length (byV o) rfl HO.out (s.extract k (k + z)) rfl ?h63 ?hby ?hbase ?next))
     case h63 => unfold maxLen; omega
     case hby => omega
     case hbase => omega
     case next =>
      intro v' w1 hown1 hgrow _
      have B3 : Hid (Below w.heap.size w w1) := HB.out.grown hgrow (by omega) (fun q hq => (HO.out.lt q hq).1)
      have HO3 : Hid (w1.ownsRow w.heap.size 5 1 v' (o ++ (s.extract k (k + z)).data.toList).length (byV (o ++ (s.extract k (k + z)).data.toList))) := by
       show World.ownsRow _ _ _ _ _ _ _
       rw [show byV (o ++ (s.extract k (k + z)).data.toList) = byV o ++ Lib.strCells (s.extract k (k + z)) by rw [strCells_by]; simp only [byV, List.map_append], List.length_append, len_eq, hxs]
       exact hown1
      clear hown1 hgrow
      go_wp2_with (go_at_call 33; refine (HSIZE.out _).mono ?_; rintro e w' ⟨rfl, rfl⟩)
      exact ⟨⟨k + z, j + 1, d, _, by go_num, rfl, T1.out, T2.out, HN.out, by rw [List.length_append, len_eq]; omega, by omega, by omega, HO3.out, B3.out⟩, by simp [intOf]; omega⟩
  ·have HD : Hid (strt 0 s.data.toList = o) := by
    have := HS.out
    unfold SW at this
    rw [List.drop_eq_nil_of_le (by rw [len_eq]; omega), show strt d [] = [] by simp [strt], List.append_nil] at this
    exact this
   have HLo : Hid (g = ⟨o.toArray⟩) := by
    show _ = _
    rw [← HD.out, ← HG.out]
   clear HS HD
   rcases HO.out.2 with ⟨hv, hn0⟩ | ⟨gb, cap, cur, hv, _⟩
   ·have ho : o = [] := List.eq_nil_of_length_eq_zero hn0
    subst hv
    subst ho
    have hcv := fun (wx : World) => run_convert_bytes_nil (P := Try.prog) wx 56 5 Try.underlying56 Try.underlying5 0 0 9 Try.underlying9
    go_wp2
    go_ret
    exact ⟨by rw [HLo.out]; rfl, HB.out⟩
   ·subst hv
    have hcv := run_convert_bytes_back (P := Try.prog) wr 56 9 5 ⟨gb, 0, none⟩ cap o Try.underlying56 Try.underlying5 Try.underlying9 (fun j hj => by
     rw [addr_at]
     have := HO.out.cellAt j (by omega)
     rw [this]
     simp [byV, List.getElem?_eq_getElem hj])
    go_wp2
    go_ret
    exact ⟨by rw [HLo.out]; rfl, HB.out⟩
end Go.Proofs.Ytdgkpkdinfklaab
