import Derived.Test.YtdgkpkdinfklaabGH
import Derived.Test.YtdgkpkdinfklaabGSU
import Derived.Test.YtdgkpkdinfklaabXSpI
import Derived.Test.YtdgkpkdinfklaabGR
import Derived.Test.YtdgkpkdinfklaabXTuC
import Derived.Test.YtdgkpkdinfklaabGV
import Derived.Deep.RegionWith
import Derived.Test.YtdgkpkdinfklaabGSF
import Derived.Test.YtdgkpkdinfklaabGLY
import Derived.Test.YtdgkpkdinfklaabGMD
namespace Go.Proofs.Ytdgkpkdinfklaab
open Go.RowKit

/-! ### Programs that Repair takes -/

theorem na_le : ∀ (n : Nat) (s : List UInt8), s.length ≤ n → na s ≤ cntGP s := by
  intro n
  induction n with
  | zero => intro s hn; have : s = [] := List.length_eq_zero_iff.1 (by omega); subst this; exact Nat.le_refl _
  | succ n ih =>
    intro s hn
    have cons : ∀ (c : UInt8) (r : List UInt8), cntGP r ≤ cntGP (c :: r) := fun c r => by
      rw [cntGP, cntGP, List.filter_cons]; split <;> simp
    match s, hn with
    | [], _ => exact Nat.le_refl _
    | [c], _ => exact Nat.zero_le _
    | c :: v :: s, hn =>
      simp only [List.length_cons] at hn
      have h1 := ih s (by omega)
      have h2 := cons v s
      by_cases hc : c = 103 ∨ c = 112
      · rw [na_acc hc]
        have : cntGP (c :: v :: s) = cntGP (v :: s) + 1 := by
          rw [cntGP, List.filter_cons, if_pos (by simpa using hc), List.length_cons]; rfl
        omega
      · have h3 := cons c (v :: s)
        by_cases h2' : c = 105 ∨ c = 91 ∨ c = 60
        · rw [na, if_neg hc, if_pos h2']; omega
        · rw [na, if_neg hc, if_neg h2']
          have := ih (v :: s) (by simp; omega)
          omega

structure GoodP (p : ByteArray) (mks : List MK) : Prop where
  chk : ChkIs p 0 0
  acc : Acc p.data.toList mks
  no : (60 : UInt8) ∉ p.data.toList
  ten : (accL mks).length ≤ 10
  size : p.size ≤ 200

theorem good_of {p : ByteArray} {t : Nat} {opn : List UInt8} {lk : ByteArray} (hg : Gen t p.data.toList [] opn) (htx : TX lk p 10) : ∃ mks, GoodP p mks := by
  obtain ⟨hl, mks, ha, hn⟩ := hg.acc
  rw [len_eq] at hl
  refine ⟨mks, chk_of (by omega) ha hn, ha, htx.2.1, ?_, by omega⟩
  rw [acc_na ha]
  exact Nat.le_trans (na_le _ _ (Nat.le_refl _)) htx.1

/-- What Repair makes of it. -/
structure MendOf (p q : ByteArray) (ch : Nat → Option UInt8) : Prop where
  least : LeastC p.data.toList ch
  text : q.data.toList = lay ch 0 p.data.toList
  fix : FixOk p.data.toList q.data.toList
  chk : ChkIs q 0 0
  size : q.size ≤ 240

theorem GoodP.mends {p q : ByteArray} {mks : List MK} {ch : Nat → Option UInt8} (h : GoodP p mks) (hl : LeastC p.data.toList ch) (ht : q.data.toList = lay ch 0 p.data.toList) : MendOf p q ch := by
  have hfix := least_fix h.chk h.acc h.no h.ten h.size hl
  rw [← ht] at hfix
  obtain ⟨mt, m1, m2, m3⟩ := hfix.acc
  have hs : q.size ≤ 240 := by have := hfix.len; rw [len_eq] at this; omega
  exact ⟨hl, ht, hfix, chk_of hs m1 m2, hs⟩

theorem GoodP.rep {p t : ByteArray} {mks : List MK} {a e : Int} (h : GoodP p mks) (hr : RepIs p t a e) : e = 0 ∧ ∃ ch, MendOf p t ch ∧ ((prL (accL mks) (accL mks).length = [] ∧ a = 1 ∧ t = p) ∨ (prL (accL mks) (accL mks).length ≠ [] ∧ a = 2 ∧ t ≠ p)) := by
  rcases hr with ⟨b, h1, h2, h3, h4⟩ | ⟨b, h1, h2, h3, h4, h5⟩ | ⟨b, mk, h1, h2, h3, h4, h5, h6, h7⟩ | ⟨b, mk, ch, hc, ha, h60, h10, h200, hl, ht, he, hcase⟩
  · exact absurd (h1.unique h.chk).1 h2
  · exact absurd h2 h.no
  · have e1 := acc_unique h2 h.acc
    subst e1
    have := h.ten
    have := h.size
    omega
  · have e1 := acc_unique ha h.acc
    subst e1
    refine ⟨he, ch, h.mends hl ht, ?_⟩
    rcases hcase with ⟨c1, c2, c3⟩ | ⟨c1, c2⟩
    · exact .inl ⟨c1, c2, c3⟩
    · refine .inr ⟨c1, c2, fun e2 => c1 ((hl.zero ha h60).1 ?_)⟩
      have hcost := lay_cost ch (ch_lt hl.rng) _ _ 0 (Nat.le_refl _) h60
      rw [← ht, e2] at hcost
      rw [← hcost, ltC, List.length_eq_zero_iff, List.filter_eq_nil_iff]
      intro x hx hxe
      have : x = 60 := by simpa using hxe
      rw [this] at hx; exact h60 hx

theorem MendOf.strip {p q o : ByteArray} {ch : Nat → Option UInt8} {a : Int} (h : MendOf p q ch) (hs : StripIs q o a) : a = 0 ∧ o = p := by
  have ha : a = 0 := by
    obtain ⟨b, hb, _⟩ := hs
    exact (hb.unique h.chk).1
  subst ha
  exact ⟨rfl, bytes_ext (by rw [hs.stp, h.fix.str])⟩

theorem bytes_ne {a b : ByteArray} (h : a ≠ b) : (a.toList == b.toList) = false := by
  cases he : (a.toList == b.toList) with
  | false => rfl
  | true =>
    rw [ByteArray.toList_eq, ByteArray.toList_eq, beq_iff_eq] at he
    exact absurd (bytes_ext he) h

set_option maxHeartbeats 1600000 in
set_option maxRecDepth 100000 in
theorem kmended_any (p : ByteArray) (mks : List MK) (w : World) (h : GoodP p mks) :
    Calls Try.prog 9 #[.string p] w fun e w' => (∃ q ch, e = .returned (.tuple #[.string q, .bool true]) ∧ MendOf p q ch) ∧ Below w.heap.size w w' := by
  have HG : Hid (GoodP p mks) := h
  have hp : p.size ≤ maxLen := by have := h.size; unfold maxLen; omega
  clear h
  go_enter Try.func9, Try.ntmps9
  go_wp2_with fail
  refine (Repair_any p w hp).mono ?_
  rintro e w1 ⟨a, t, x, rfl, ⟨hr, _⟩, hb1⟩
  obtain ⟨rfl, ch, hm, hcase⟩ := HG.out.rep hr
  have HM : Hid (MendOf p t ch) := hm
  have hts : t.size ≤ maxLen := by have := hm.size; unfold maxLen; omega
  have HB1 : Hid (Below w.heap.size w w1) := hb1
  clear hr hm hb1
  go_wp2_with fail
  refine (strip_any t w1 hts).mono ?_
  rintro e w2 ⟨o, f, rfl, hst, hb2⟩
  obtain ⟨rfl, rfl⟩ := HM.out.strip hst
  have HB2 : Hid (Below w.heap.size w w2) := HB1.out.trans (hb2.mono HB1.out.size)
  clear hst hb2
  rcases hcase with ⟨_, rfl, rfl⟩ | ⟨_, rfl, hne⟩
  · go_wp2
    go_ret2
    exact ⟨⟨t, ch, rfl, HM.out⟩, HB2.out⟩
  · have hne' := bytes_ne hne
    go_wp2
    go_ret2
    exact ⟨⟨t, ch, rfl, HM.out⟩, HB2.out⟩

end Go.Proofs.Ytdgkpkdinfklaab

namespace Go.Proofs.Ytdgkpkdinfklaab
open Go.RowKit

theorem ints_later {w w' : World} {a : Option Addr} {n : Nat} (h : IsInts w w.heap.size a n) (hb : Below w.heap.size w w') : IsInts w' w'.heap.size a n := by
  have hs := hb.size
  rcases h.below hb with h | ⟨b, off, e, hl, hc⟩
  · exact .inl h
  · exact .inr ⟨b, off, e, by omega, hc⟩

end Go.Proofs.Ytdgkpkdinfklaab

namespace Go.Proofs.Ytdgkpkdinfklaab
open Go.RowKit

/-! ### The picks that are left; a text without some bytes -/

theorem kpB_in (c : UInt8) : kpB c = !inU [46, 60, 62] c := by
  rw [kpB]
  congr 1
  rw [Bool.eq_iff_iff]
  simp only [Bool.or_eq_true, beq_iff_eq, inU, List.any_cons, List.any_nil, Bool.or_false]
  constructor
  · rintro ((h | h) | h)
    · exact .inl h.symm
    · exact .inr (.inl h.symm)
    · exact .inr (.inr h.symm)
  · rintro (h | h | h)
    · exact .inl (.inl h.symm)
    · exact .inl (.inr h.symm)
    · exact .inr h.symm
theorem lf_len : ∀ (xs ds : List UInt8), (lf xs ds).length ≤ xs.length := by
  intro xs
  induction xs with
  | nil => intro ds; cases ds <;> simp [lf]
  | cons x xs ih =>
    intro ds
    cases ds with
    | nil => simp [lf]
    | cons d ds =>
      rw [lf]
      have := ih ds
      split <;> simp <;> omega

set_option maxHeartbeats 1600000 in
set_option maxRecDepth 100000 in
theorem kleft_any (p d : ByteArray) (w : World) (hp : p.size ≤ 400) (hd : d.size = p.size) (o : ByteArray) (ho : o.data.toList = lf p.data.toList d.data.toList) :
    Calls Try.prog 13 #[.string p, .string d] w fun e w' => e = .returned (.string o) ∧ Below w.heap.size w w' := by
  obtain ⟨i0, hi0, hz0, hz1, hz2⟩ := info_parts Try.infoByte
  have HOO : Hid (o.data.toList = lf p.data.toList d.data.toList) := ho
  have HDP : Hid (d.size = p.size) := hd
  obtain ⟨n, hn⟩ : ∃ n, n = d.size := ⟨_, rfl⟩
  have hnp : n = p.size := by omega
  clear ho
  have HNP : Hid (n = p.size) := hnp
  have hn4 : n ≤ 400 := by omega
  go_enter Try.func13, Try.ntmps13
  go_wp2
  go_loopw [5, 6] (fun v iv wr => ∃ k : Nat, k ≤ p.size ∧ iv = .int .i64 k ∧ wr.ownsRow w.heap.size 5 1 v (lf (p.data.toList.take k) (d.data.toList.take k)).length (byV (lf (p.data.toList.take k) (d.data.toList.take k))) ∧ Below w.heap.size w wr) (fun _ iv _ => p.size - (intOf iv).toNat)
  case atStart => exact ⟨0, Nat.zero_le _, rfl, by simpa [lf, byV] using World.ownsRow_nil w w.heap.size 5 1, Below.refl _ _⟩
  case round =>
    obtain ⟨k, hk, rfl, hown, hbe⟩ := hrel
    have HO : Hid (wr.ownsRow w.heap.size 5 1 u5 (lf (p.data.toList.take k) (d.data.toList.take k)).length (byV (lf (p.data.toList.take k) (d.data.toList.take k)))) := hown
    have HB : Hid (Below w.heap.size w wr) := hbe
    have hsz := hbe.size
    have hll := lf_len (p.data.toList.take k) (d.data.toList.take k)
    have htl : (p.data.toList.take k).length ≤ k := List.length_take_le _ _
    clear hown hbe
    by_cases hlt : k < p.size
    · have hlt2 : k < d.size := by omega
      have HSN : Hid (lf (p.data.toList.take (k + 1)) (d.data.toList.take (k + 1)) = lf (p.data.toList.take k) (d.data.toList.take k) ++ (if kpB d[k] then [p[k]] else [])) := by
        show _ = _
        rw [take_snoc p k hlt, take_snoc d k hlt2, lf_snoc _ _ _ _ (by rw [List.length_take, List.length_take, len_eq, len_eq]; omega)]
      have HST : Hid (∀ wx, Calls Try.prog 26 #[.string ⟨#[46, 60, 62]⟩, .int .u8 (d[k].toNat : Int)] wx fun e w' => e = .returned (.bool (!kpB d[k])) ∧ w' = wx) := fun wx => by
        rw [kpB_in, Bool.not_not]; exact kstands_any ⟨#[46, 60, 62]⟩ d[k] wx (by decide)
      obtain ⟨b, hb⟩ : ∃ b, b = kpB d[k] := ⟨_, rfl⟩
      rw [← hb] at HSN HST
      obtain ⟨L, hL⟩ : ∃ L, L = lf (p.data.toList.take k) (d.data.toList.take k) := ⟨_, rfl⟩
      rw [← hL] at HO HSN hll
      clear hb hL hd hn hnp
      have h1 : (k : Int) < (p.size : Int) := by omega
      have h2 : (k : Int) < (d.size : Int) := by omega
      cases b with
      | false =>
        have HX : Hid (lf (p.data.toList.take (k + 1)) (d.data.toList.take (k + 1)) = L) := by show _ = _; rw [HSN.out]; simp
        go_wp2_with (go_at_call 26; refine (HST.out _).mono ?_; rintro e w1 ⟨rfl, rfl⟩)
        exact ⟨⟨k + 1, by omega, by go_num, by rw [HX.out]; exact HO.out, HB.out⟩, by simp [intOf]; omega⟩
      | true =>
        have HX : Hid (lf (p.data.toList.take (k + 1)) (d.data.toList.take (k + 1)) = L ++ [p[k]]) := by show _ = _; rw [HSN.out]; simp
        go_wp2_with (first
          | (go_at_call 26; refine (HST.out _).mono ?_; rintro e w1 ⟨rfl, rfl⟩)
          | (at_builtin; refine wpList_append_own _ rfl (.tmp 26) (.tmp 30) 56 rfl w.heap.size 5 i0 _ 1 1 Try.underlying56 hi0 hz0 hz1 hz2 rfl (by decide) u5 L.length (byV L) rfl (HO.out.alloc _) ⟨_, 0, none⟩ 1 1 [.int .u8 (p[k].toNat : Int)] rfl rfl (cell_one_new _ _ _) ?h1 ?h63 ?hby ?hbase ?next))
        case h1 => intro u hu; simp at hu; subst hu; rfl
        case h63 => unfold maxLen; omega
        case hby => omega
        case hbase => simp; omega
        case next =>
          intro v' w2 hown2 hgrow _
          have B3 : Hid (Below w.heap.size w w2) := (HB.out.alloc (by omega) _).grown hgrow (by simp; omega) (fun q hq => (HO.out.lt q hq).1)
          have HO3 : Hid (w2.ownsRow w.heap.size 5 1 v' (lf (p.data.toList.take (k + 1)) (d.data.toList.take (k + 1))).length (byV (lf (p.data.toList.take (k + 1)) (d.data.toList.take (k + 1))))) := by
            show World.ownsRow _ _ _ _ _ _ _
            rw [HX.out, show byV (L ++ [p[k]]) = byV L ++ [.int .u8 (p[k].toNat : Int)] by simp [byV], List.length_append]; exact hown2
          clear hown2 hgrow
          go_wp2
          exact ⟨⟨k + 1, by omega, by go_num, HO3.out, B3.out⟩, by simp [intOf]; omega⟩
    · have hpk : p.data.toList.take k = p.data.toList := List.take_of_length_le (by rw [len_eq]; omega)
      have hdk : d.data.toList.take k = d.data.toList := List.take_of_length_le (by rw [len_eq]; omega)
      obtain ⟨L, hL⟩ : ∃ L, L = lf (p.data.toList.take k) (d.data.toList.take k) := ⟨_, rfl⟩
      have HLo : Hid (o = ⟨L.toArray⟩) := by
        show _ = _
        rw [hL, hpk, hdk, ← HOO.out]
      rw [← hL] at HO hll
      clear hL hpk hdk hd hn hnp
      rcases HO.out.2 with ⟨hv, hn0⟩ | ⟨gb, cap, cur, hv, _⟩
      · have ho : L = [] := List.eq_nil_of_length_eq_zero hn0
        subst hv
        subst ho
        have hcv := fun (wx : World) => run_convert_bytes_nil (P := Try.prog) wx 56 5 Try.underlying56 Try.underlying5 0 0 9 Try.underlying9
        go_wp2
        go_ret
        exact ⟨by rw [HLo.out]; rfl, HB.out⟩
      · subst hv
        have hcv := run_convert_bytes_back (P := Try.prog) wr 56 9 5 ⟨gb, 0, none⟩ cap L Try.underlying56 Try.underlying5 Try.underlying9 (fun j hj => by
          rw [addr_at]
          have := HO.out.cellAt j (by omega)
          rw [this]
          simp [byV, List.getElem?_eq_getElem hj])
        go_wp2
        go_ret
        exact ⟨by rw [HLo.out]; rfl, HB.out⟩

theorem filt_snoc (f : UInt8 → Bool) (p : ByteArray) (k : Nat) (h : k < p.size) : (p.data.toList.take (k + 1)).filter f = (p.data.toList.take k).filter f ++ (if f p[k] then [p[k]] else []) := by
  rw [take_snoc p k h, List.filter_append, List.filter_cons, List.filter_nil]

set_option maxHeartbeats 1600000 in
set_option maxRecDepth 100000 in
theorem kwithout_any (d : ByteArray) (w : World) (hd : d.size ≤ 400) (o : ByteArray) (ho : o.data.toList = d.data.toList.filter kpB) :
    Calls Try.prog 16 #[.string d, .string ⟨#[46, 60, 62]⟩] w fun e w' => e = .returned (.string o) ∧ Below w.heap.size w w' := by
  obtain ⟨i0, hi0, hz0, hz1, hz2⟩ := info_parts Try.infoByte
  have HOO : Hid (o.data.toList = d.data.toList.filter kpB) := ho
  clear ho
  go_enter Try.func16, Try.ntmps16
  go_wp2
  go_loopw [5, 6] (fun v iv wr => ∃ k : Nat, k ≤ d.size ∧ iv = .int .i64 k ∧ wr.ownsRow w.heap.size 5 1 v ((d.data.toList.take k).filter kpB).length (byV ((d.data.toList.take k).filter kpB)) ∧ Below w.heap.size w wr) (fun _ iv _ => d.size - (intOf iv).toNat)
  case atStart => exact ⟨0, Nat.zero_le _, rfl, by simpa [byV] using World.ownsRow_nil w w.heap.size 5 1, Below.refl _ _⟩
  case round =>
    obtain ⟨k, hk, rfl, hown, hbe⟩ := hrel
    have HO : Hid (wr.ownsRow w.heap.size 5 1 u5 ((d.data.toList.take k).filter kpB).length (byV ((d.data.toList.take k).filter kpB))) := hown
    have HB : Hid (Below w.heap.size w wr) := hbe
    have hsz := hbe.size
    have hll : ((d.data.toList.take k).filter kpB).length ≤ k := Nat.le_trans (List.length_filter_le _ _) (List.length_take_le _ _)
    clear hown hbe
    by_cases hlt : k < d.size
    · have HSN : Hid ((d.data.toList.take (k + 1)).filter kpB = (d.data.toList.take k).filter kpB ++ (if kpB d[k] then [d[k]] else [])) := filt_snoc kpB d k hlt
      have HST : Hid (∀ wx, Calls Try.prog 26 #[.string ⟨#[46, 60, 62]⟩, .int .u8 (d[k].toNat : Int)] wx fun e w' => e = .returned (.bool (!kpB d[k])) ∧ w' = wx) := fun wx => by
        rw [kpB_in, Bool.not_not]; exact kstands_any ⟨#[46, 60, 62]⟩ d[k] wx (by decide)
      obtain ⟨b, hb⟩ : ∃ b, b = kpB d[k] := ⟨_, rfl⟩
      rw [← hb] at HSN HST
      obtain ⟨L, hL⟩ : ∃ L, L = (d.data.toList.take k).filter kpB := ⟨_, rfl⟩
      rw [← hL] at HO HSN hll
      clear hb hL
      have h2 : (k : Int) < (d.size : Int) := by omega
      cases b with
      | false =>
        have HX : Hid ((d.data.toList.take (k + 1)).filter kpB = L) := by show _ = _; rw [HSN.out]; simp
        go_wp2_with (go_at_call 26; refine (HST.out _).mono ?_; rintro e w1 ⟨rfl, rfl⟩)
        exact ⟨⟨k + 1, by omega, by go_num, by rw [HX.out]; exact HO.out, HB.out⟩, by simp [intOf]; omega⟩
      | true =>
        have HX : Hid ((d.data.toList.take (k + 1)).filter kpB = L ++ [d[k]]) := by show _ = _; rw [HSN.out]; simp
        go_wp2_with (first
          | (go_at_call 26; refine (HST.out _).mono ?_; rintro e w1 ⟨rfl, rfl⟩)
          | (at_builtin; refine wpList_append_own _ rfl (.tmp 21) (.tmp 25) 56 rfl w.heap.size 5 i0 _ 1 1 Try.underlying56 hi0 hz0 hz1 hz2 rfl (by decide) u5 L.length (byV L) rfl (HO.out.alloc _) ⟨_, 0, none⟩ 1 1 [.int .u8 (d[k].toNat : Int)] rfl rfl (cell_one_new _ _ _) ?h1 ?h63 ?hby ?hbase ?next))
        case h1 => intro u hu; simp at hu; subst hu; rfl
        case h63 => unfold maxLen; omega
        case hby => omega
        case hbase => simp; omega
        case next =>
          intro v' w2 hown2 hgrow _
          have B3 : Hid (Below w.heap.size w w2) := (HB.out.alloc (by omega) _).grown hgrow (by simp; omega) (fun q hq => (HO.out.lt q hq).1)
          have HO3 : Hid (w2.ownsRow w.heap.size 5 1 v' ((d.data.toList.take (k + 1)).filter kpB).length (byV ((d.data.toList.take (k + 1)).filter kpB))) := by
            show World.ownsRow _ _ _ _ _ _ _
            rw [HX.out, show byV (L ++ [d[k]]) = byV L ++ [.int .u8 (d[k].toNat : Int)] by simp [byV], List.length_append]; exact hown2
          clear hown2 hgrow
          go_wp2
          exact ⟨⟨k + 1, by omega, by go_num, HO3.out, B3.out⟩, by simp [intOf]; omega⟩
    · have hdk : d.data.toList.take k = d.data.toList := List.take_of_length_le (by rw [len_eq]; omega)
      obtain ⟨L, hL⟩ : ∃ L, L = (d.data.toList.take k).filter kpB := ⟨_, rfl⟩
      have HLo : Hid (o = ⟨L.toArray⟩) := by
        show _ = _
        rw [hL, hdk, ← HOO.out]
      rw [← hL] at HO hll
      clear hL hdk
      rcases HO.out.2 with ⟨hv, hn0⟩ | ⟨gb, cap, cur, hv, _⟩
      · have ho : L = [] := List.eq_nil_of_length_eq_zero hn0
        subst hv
        subst ho
        have hcv := fun (wx : World) => run_convert_bytes_nil (P := Try.prog) wx 56 5 Try.underlying56 Try.underlying5 0 0 9 Try.underlying9
        go_wp2
        go_ret
        exact ⟨by rw [HLo.out]; rfl, HB.out⟩
      · subst hv
        have hcv := run_convert_bytes_back (P := Try.prog) wr 56 9 5 ⟨gb, 0, none⟩ cap L Try.underlying56 Try.underlying5 Try.underlying9 (fun j hj => by
          rw [addr_at]
          have := HO.out.cellAt j (by omega)
          rw [this]
          simp [byV, List.getElem?_eq_getElem hj])
        go_wp2
        go_ret
        exact ⟨by rw [HLo.out]; rfl, HB.out⟩

end Go.Proofs.Ytdgkpkdinfklaab
