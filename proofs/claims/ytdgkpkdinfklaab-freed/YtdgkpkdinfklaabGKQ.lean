import Derived.Test.YtdgkpkdinfklaabGH
import Derived.Test.YtdgkpkdinfklaabGSU
import Derived.Test.YtdgkpkdinfklaabXSpI
import Derived.Test.YtdgkpkdinfklaabGR
import Derived.Test.YtdgkpkdinfklaabGS
import Derived.Test.YtdgkpkdinfklaabGTA
import Derived.Test.YtdgkpkdinfklaabGI
import Derived.Test.YtdgkpkdinfklaabGE
import Derived.Test.YtdgkpkdinfklaabGV
import Derived.Test.YtdgkpkdinfklaabGSF
import Derived.Test.YtdgkpkdinfklaabGLY
namespace Go.Proofs.Ytdgkpkdinfklaab
open Go.RowKit
theorem na_le : ∀ (n : Nat) (s : List UInt8), s.length ≤ n → na s ≤ cntGP s := by
 intro n
 induction n with
 | zero => intro s hn; have : s = [] := List.length_eq_zero_iff.1 (by omega); subst this; exact Nat.le_refl _
 | succ n ih =>
  intro s hn
  have cons : ∀ (c : UInt8) (r : List UInt8), cntGP r ≤ cntGP (c :: r) := fun c r => by
   rw [cntGP, cntGP, List.filter_cons]; split <;> simp
  match s, hn with
  | [], _ => exact Nat.le_refl _
  | [c], _ => exact Nat.zero_le _
  | c :: v :: s, hn =>
   simp only [List.length_cons] at hn
   have h1 := ih s (by omega)
   have h2 := cons v s
   by_cases hc : c = 103 ∨ c = 112
   ·rw [na_acc hc]
    have : cntGP (c :: v :: s) = cntGP (v :: s) + 1 := by
     rw [cntGP, List.filter_cons, if_pos (by simpa using hc), List.length_cons]; rfl
    omega
   ·have h3 := cons c (v :: s)
    by_cases h2' : c = 105 ∨ c = 91 ∨ c = 60
    ·rw [na, if_neg hc, if_pos h2']; omega
    ·rw [na, if_neg hc, if_neg h2']
     have := ih (v :: s) (by simp; omega)
     omega
structure GoodP (p : ByteArray) (mks : List MK) : Prop where
 chk : ChkIs p 0 0
 acc : Acc p.data.toList mks
 no : (60 : UInt8) ∉ p.data.toList
 ten : (accL mks).length ≤ 10
 size : p.size ≤ 200
theorem good_of {p : ByteArray} {t : Nat} {opn : List UInt8} {lk : ByteArray} (hg : Gen t p.data.toList [] opn) (htx : TX lk p 10) : ∃ mks, GoodP p mks := by
 obtain ⟨hl, mks, ha, hn⟩ := hg.acc
 rw [len_eq] at hl
 refine ⟨mks, chk_of (by omega) ha hn, ha, htx.2.1, ?_, by omega⟩
 rw [acc_na ha]
 exact Nat.le_trans (na_le _ _ (Nat.le_refl _)) htx.1
structure MendOf (p q : ByteArray) (ch : Nat → Option UInt8) : Prop where
 least : LeastC p.data.toList ch
 text : q.data.toList = lay ch 0 p.data.toList
 fix : FixOk p.data.toList q.data.toList
 chk : ChkIs q 0 0
 size : q.size ≤ 240
theorem GoodP.mends {p q : ByteArray} {mks : List MK} {ch : Nat → Option UInt8} (h : GoodP p mks) (hl : LeastC p.data.toList ch) (ht : q.data.toList = lay ch 0 p.data.toList) : MendOf p q ch := by
 have hfix := least_fix h.chk h.acc h.no h.ten h.size hl
 rw [← ht] at hfix
 obtain ⟨mt, m1, m2, m3⟩ := hfix.acc
 have hs : q.size ≤ 240 := by have := hfix.len; rw [len_eq] at this; omega
 exact ⟨hl, ht, hfix, chk_of hs m1 m2, hs⟩
theorem GoodP.rep {p t : ByteArray} {mks : List MK} {a e : Int} (h : GoodP p mks) (hr : RepIs p t a e) : e = 0 ∧ ∃ ch, MendOf p t ch ∧ ((prL (accL mks) (accL mks).length = [] ∧ a = 1 ∧ t = p) ∨ (prL (accL mks) (accL mks).length ≠ [] ∧ a = 2 ∧ t ≠ p)) := by
 rcases hr with ⟨b, h1, h2, h3, h4⟩ | ⟨b, h1, h2, h3, h4, h5⟩ | ⟨b, mk, h1, h2, h3, h4, h5, h6, h7⟩ | ⟨b, mk, ch, hc, ha, h60, h10, h200, hl, ht, he, hcase⟩
 ·exact absurd (h1.unique h.chk).1 h2
 ·exact absurd h2 h.no
 ·have e1 := acc_unique h2 h.acc
  subst e1
  have := h.ten
  have := h.size
  omega
 ·have e1 := acc_unique ha h.acc
  subst e1
  refine ⟨he, ch, h.mends hl ht, ?_⟩
  rcases hcase with ⟨c1, c2, c3⟩ | ⟨c1, c2⟩
  ·exact .inl ⟨c1, c2, c3⟩
  ·refine .inr ⟨c1, c2, fun e2 => c1 ((hl.zero ha h60).1 ?_)⟩
   have hcost := lay_cost ch (ch_lt hl.rng) _ _ 0 (Nat.le_refl _) h60
   rw [← ht, e2] at hcost
   rw [← hcost, ltC, List.length_eq_zero_iff, List.filter_eq_nil_iff]
   intro x hx hxe
   have : x = 60 := by simpa using hxe
   rw [this] at hx; exact h60 hx
theorem MendOf.strip {p q o : ByteArray} {ch : Nat → Option UInt8} {a : Int} (h : MendOf p q ch) (hs : StripIs q o a) : a = 0 ∧ o = p := by
 have ha : a = 0 := by
  obtain ⟨b, hb, _⟩ := hs
  exact (hb.unique h.chk).1
 subst ha
 exact ⟨rfl, bytes_ext (by rw [hs.stp, h.fix.str])⟩
theorem bytes_ne {a b : ByteArray} (h : a ≠ b) : (a.toList == b.toList) = false := by
 cases he : (a.toList == b.toList) with
 | false => rfl
 | true =>
  rw [ByteArray.toList_eq, ByteArray.toList_eq, beq_iff_eq] at he
  exact absurd (bytes_ext he) h
set_option maxHeartbeats 1600000 in
set_option maxRecDepth 100000 in
theorem kmended_any (p : ByteArray) (mks : List MK) (w : World) (h : GoodP p mks) :
  Calls Try.prog 9 #[.string p] w fun e w' => (∃ q ch, e = .returned (.tuple #[.string q, .bool true]) ∧ MendOf p q ch) ∧ Below w.heap.size w w' := by
 have HG : Hid (GoodP p mks) := h
 have hp : p.size ≤ maxLen := by have := h.size; unfold maxLen; omega
 clear h
 go_enter Try.func9, Try.ntmps9
 go_wp2_with fail
 refine (Repair_any p w hp).mono ?_
 rintro e w1 ⟨a, t, x, rfl, ⟨hr, _⟩, hb1⟩
 obtain ⟨rfl, ch, hm, hcase⟩ := HG.out.rep hr
 have HM : Hid (MendOf p t ch) := hm
 have hts : t.size ≤ maxLen := by have := hm.size; unfold maxLen; omega
 have HB1 : Hid (Below w.heap.size w w1) := hb1
 clear hr hm hb1
 go_wp2_with fail
 refine (strip_any t w1 hts).mono ?_
 rintro e w2 ⟨o, f, rfl, hst, hb2⟩
 obtain ⟨rfl, rfl⟩ := HM.out.strip hst
 have HB2 : Hid (Below w.heap.size w w2) := HB1.out.trans (hb2.mono HB1.out.size)
 clear hst hb2
 rcases hcase with ⟨_, rfl, rfl⟩ | ⟨_, rfl, hne⟩
 ·go_wp2
  go_ret2
  exact ⟨⟨t, ch, rfl, HM.out⟩, HB2.out⟩
 ·have hne' := bytes_ne hne
  go_wp2
  go_ret2
  exact ⟨⟨t, ch, rfl, HM.out⟩, HB2.out⟩
end Go.Proofs.Ytdgkpkdinfklaab

namespace Go.Proofs.Ytdgkpkdinfklaab
open Go.RowKit
theorem ints_later {w w' : World} {a : Option Addr} {n : Nat} (h : IsInts w w.heap.size a n) (hb : Below w.heap.size w w') : IsInts w' w'.heap.size a n := by
 have hs := hb.size
 rcases h.below hb with h | ⟨b, off, e, hl, hc⟩
 ·exact .inl h
 ·exact .inr ⟨b, off, e, by omega, hc⟩
end Go.Proofs.Ytdgkpkdinfklaab
