import Derived.Test.YtdgkpkdinfklaaaGH
import Derived.Test.YtdgkpkdinfklaaaGSU
import Derived.Test.YtdgkpkdinfklaaaGF
import Derived.Test.YtdgkpkdinfklaaaGMD
import Derived.Test.YtdgkpkdinfklaaaGR
namespace Go.Proofs.Ytdgkpkdinfklaaa
open Go.RowKit
structure GoodP (p : ByteArray) (mks : List MK) : Prop where
 chk : ChkIs p 0 0
 acc : Acc p.data.toList mks
 no : (60 : UInt8) ∉ p.data.toList
 ten : (accL mks).length ≤ 10
 size : p.size ≤ 200
structure MendOf (p q : ByteArray) (ch : Nat → Option UInt8) : Prop where
 least : LeastC p.data.toList ch
 text : q.data.toList = lay ch 0 p.data.toList
 fix : FixOk p.data.toList q.data.toList
 chk : ChkIs q 0 0
 size : q.size ≤ 240
theorem GoodP.mends {p q : ByteArray} {mks : List MK} {ch : Nat → Option UInt8} (h : GoodP p mks) (hl : LeastC p.data.toList ch) (ht : q.data.toList = lay ch 0 p.data.toList) : MendOf p q ch := by
 have hfix := least_fix h.chk h.acc h.no h.ten h.size hl
 rw [← ht] at hfix
 obtain ⟨mt, m1, m2, m3⟩ := hfix.acc
 have hs : q.size ≤ 240 := by have := hfix.len; rw [len_eq] at this; omega
 exact ⟨hl, ht, hfix, chk_of hs m1 m2, hs⟩
theorem GoodP.rep {p t : ByteArray} {mks : List MK} {a e : Int} (h : GoodP p mks) (hr : RepIs p t a e) : e = 0 ∧ ∃ ch, MendOf p t ch ∧ ((prL (accL mks) (accL mks).length = [] ∧ a = 1 ∧ t = p) ∨ (prL (accL mks) (accL mks).length ≠ [] ∧ a = 2 ∧ t ≠ p)) := by
 rcases hr with ⟨b, h1, h2, h3, h4⟩ | ⟨b, h1, h2, h3, h4, h5⟩ | ⟨b, mk, h1, h2, h3, h4, h5, h6, h7⟩ | ⟨b, mk, ch, hc, ha, h60, h10, h200, hl, ht, he, hcase⟩
 ·exact absurd (h1.unique h.chk).1 h2
 ·exact absurd h2 h.no
 ·have e1 := acc_unique h2 h.acc
  subst e1
  have := h.ten
  have := h.size
  omega
 ·have e1 := acc_unique ha h.acc
  subst e1
  refine ⟨he, ch, h.mends hl ht, ?_⟩
  rcases hcase with ⟨c1, c2, c3⟩ | ⟨c1, c2⟩
  ·exact .inl ⟨c1, c2, c3⟩
  ·refine .inr ⟨c1, c2, fun e2 => c1 ((hl.zero ha h60).1 ?_)⟩
   have hcost := lay_cost ch (ch_lt hl.rng) _ _ 0 (Nat.le_refl _) h60
   rw [← ht, e2] at hcost
   rw [← hcost, ltC, List.length_eq_zero_iff, List.filter_eq_nil_iff]
   intro x hx hxe
   have : x = 60 := by simpa using hxe
   rw [this] at hx; exact h60 hx
end Go.Proofs.Ytdgkpkdinfklaaa
