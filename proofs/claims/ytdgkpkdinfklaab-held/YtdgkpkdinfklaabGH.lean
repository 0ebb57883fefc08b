import Derived.Test.YtdgkpkdinfklaabGF
import Derived.Test.YtdgkpkdinfklaabGG
import Derived.Deep.LoopGhost
namespace Go.Proofs.Ytdgkpkdinfklaab
theorem fw_more (p q : List UInt8) : ∀ k, k ≤ p.length → fw (p ++ q) k = fw p k := by
 intro k
 induction k with
 | zero => intro _; rfl
 | succ k ih =>
  intro hk
  rw [fw, fw, ih (by omega), List.getElem?_append_left (by omega)]
inductive TR (p : List UInt8) : TS → Prop
 | start : TR p ⟨0, [], 1, []⟩
 | step {t : TS} : TR p t → t.i < p.length → TR p (tstep p t)
theorem tr_tw (p : List UInt8) (k : Nat) : TR p (tw p k) := by
 induction k with
 | zero => exact .start
 | succ k ih =>
  rw [tw]
  split
  ·exact .step ih (by assumption)
  ·exact ih
theorem TR.tw {p : List UInt8} {t : TS} (h : TR p t) : ∃ k, tw p k = t := by
 induction h with
 | start => exact ⟨0, rfl⟩
 | step _ hl ih =>
  obtain ⟨k, rfl⟩ := ih
  exact ⟨k + 1, by rw [Go.Proofs.Ytdgkpkdinfklaab.tw, if_pos hl]⟩
theorem tstep_i {p : List UInt8} {t : TS} (h : t.i < p.length) : (tstep p t).i = t.i + sizeU p[t.i] := by
 rw [tstep, List.getElem?_eq_getElem h]
theorem tstep_more {p q : List UInt8} {t : TS} (h : t.i < p.length) (hr : (tstep p t).i ≤ p.length) : tstep (p ++ q) t = tstep p t := by
 rw [tstep_i h] at hr
 have e0 : (p ++ q)[t.i]? = p[t.i]? := List.getElem?_append_left h
 unfold tstep
 rw [e0, List.getElem?_eq_getElem h]
 simp only
 have hh : heldU t.now (p ++ q) t.i = heldU t.now p t.i := by
  unfold heldU
  rw [e0, List.getElem?_eq_getElem h]
  simp only
  split
  ·rename_i hc
   have hz : sizeU p[t.i] = 2 := by rcases hc with hc | hc <;> rw [hc] <;> rfl
   rw [List.getElem?_append_left (by omega)]
  ·rfl
 rw [hh]
 congr 1
 split
 ·rename_i hc
  have hz : sizeU p[t.i] = 2 := by rcases hc with hc | hc <;> rw [hc] <;> rfl
  rw [List.getElem?_append_left (by omega)]
 ·split
  ·rename_i hc
   have hz : sizeU p[t.i] = 2 := by rcases hc with hc | hc <;> rw [hc] <;> rfl
   rw [List.getElem?_append_left (by omega)]
  ·rfl
theorem TR.more {p : List UInt8} {t : TS} (h : TR p t) (q : List UInt8) (hi : t.i ≤ p.length) : TR (p ++ q) t := by
 induction h with
 | start => exact .start
 | step hr hl ih =>
  rename_i t0
  rw [← tstep_more (q := q) hl hi]
  refine .step (ih (by omega)) (by rw [List.length_append]; omega)
inductive TodoOk : List UInt8 → Prop
 | nil : TodoOk []
 | lit {e : UInt8} {r : List UInt8} : e = 93 ∨ e = 125 ∨ e = 123 → TodoOk r → TodoOk (e :: r)
 | b {r : List UInt8} : TodoOk r → r.head? ≠ some 66 → TodoOk (66 :: r)
def lits (l : List UInt8) : Nat := (l.filter (· != 66)).length
def shuts (l : List UInt8) : Nat := (l.filter (· == 93)).length
inductive Cmd (opn : List UInt8) : List UInt8 → List UInt8 → List UInt8 → Prop
 | acc {c d : UInt8} : (c = 103 ∨ c = 112) → inU [120, 121, 122] d = true → Cmd opn [c, d] [] opn
 | out : Cmd opn [111] [] opn
 | add {d : UInt8} : inU [48, 49, 50, 51, 52, 53, 54, 55, 56, 57] d = true → Cmd opn [105, d] [] opn
 | reg {l : UInt8} : inU [65, 66, 67, 68] l = true → inU opn l = false → Cmd opn [91, l] [66, 93] (opn ++ [l])
 | ask : Cmd opn [63] [123, 66, 125, 123, 66, 125] opn
 | rep : Cmd opn [33] [123, 66, 125] opn
structure Gen (t : Nat) (text todo opn : List UInt8) : Prop where
 t1 : 1 ≤ t
 t4 : t ≤ 4
 ok : TodoOk todo
 form : ∃ F, fw text text.length = some (F ++ List.replicate (4 - t) 109) ∧ ((F = todo ∧ todo ≠ []) ∨ (F = 66 :: todo ∧ todo.head? ≠ some 66))
 last : todo = [] ∨ todo.getLast? = some 66
 toks : ∃ th mks, TR text ⟨text.length, opn, th, mks⟩ ∧ MksOk mks ∧ mks.find? nestB = none
 shut : opn.length = shuts todo
 small : 2 * (text.length + lits todo) ≤ 5 * text.length + (if todo.head? = some 123 then 5 else 0)
 bound : text.length + lits todo ≤ 180 + t
theorem Gen.start : Gen 1 [] [66] [] :=
 ⟨by decide, by decide, .b .nil (by decide), ⟨[66], rfl, .inl ⟨rfl, by decide⟩⟩, .inr rfl, ⟨1, [], .start, fun m hm => by simp at hm, rfl⟩, rfl, by decide, by decide⟩
theorem MksOk.snoc {l : List MK} {m : MK} (h : MksOk l) (hm : MkOk m) : MksOk (l ++ [m]) := by
 intro x hx
 rcases List.mem_append.1 hx with hx | hx
 ·exact h x hx
 ·rw [List.mem_singleton] at hx; subst hx; exact hm
theorem Gen.endB {t : Nat} {text r opn : List UInt8} (h : Gen t text (66 :: r) opn) : Gen t text r opn := by
 obtain ⟨t1, t4, ok, ⟨F, hF, hFF⟩, hlast, toks, shut, small, bound⟩ := h
 cases ok with
 | lit he _ => rcases he with he | he | he <;> exact absurd he (by decide)
 | b hr hh =>
  refine ⟨t1, t4, hr, ⟨F, hF, .inr ⟨?_, hh⟩⟩, ?_, toks, by rw [shut]; simp [shuts], ?_, by simpa [lits] using bound⟩
  ·rcases hFF with ⟨e, _⟩ | ⟨_, e⟩
   ·exact e
   ·exact absurd rfl e
  ·cases r with
   | nil => exact .inl rfl
   | cons y r' => right; rcases hlast with e | e; exact absurd e (by simp); simpa using e
  ·have : lits (66 :: r) = lits r := by simp [lits]
   rw [this] at small
   simp at small
   split <;> omega
theorem lit_none {e : UInt8} (he : e = 93 ∨ e = 125 ∨ e = 123) : opnL e = none ∧ e ≠ 66 ∧ e ≠ 109 ∧ stB e e = true := by
 rcases he with rfl | rfl | rfl <;> decide
theorem Gen.lit {t : Nat} {text r opn : List UInt8} {e : UInt8} (h : Gen t text (e :: r) opn) (he : e ≠ 66) : Gen t (text ++ [e]) r (if e = 93 then opn.dropLast else opn) := by
 obtain ⟨t1, t4, ok, ⟨F, hF, hFF⟩, hlast, ⟨th, mks, htr, hmk, hnest⟩, shut, small, bound⟩ := h
 cases ok with
 | b _ _ => exact absurd rfl he
 | lit hl hr =>
  obtain ⟨l1, l2, l3, l4⟩ := lit_none hl
  have hlen : (text ++ [e]).length = text.length + 1 := by simp
  have hc : (text ++ [e])[text.length]? = some e := by simp
  have hf0 : fw (text ++ [e]) text.length = some (F ++ List.replicate (4 - t) 109) := by rw [fw_more _ _ _ (Nat.le_refl _)]; exact hF
  have hlits : lits (e :: r) = lits r + 1 := by simp [lits, l2]
  have hrne : r ≠ [] := by
   intro e0
   subst e0
   rcases hlast with e0 | e0
   ·cases e0
   ·simp at e0; exact he e0
  refine ⟨t1, t4, hr, ⟨r, ?_, .inl ⟨rfl, hrne⟩⟩, ?_, ?_, ?_, ?_, ?_⟩
  ·rw [hlen]
   refine fw_step hf0 hc ?_
   rcases hFF with ⟨e1, _⟩ | ⟨e1, _⟩
   ·rw [e1]
    show nxt (e :: (r ++ _)) e = _
    rw [nxt_e l2 l3, l4]
   ·rw [e1]
    show nxt (66 :: e :: (r ++ _)) e = _
    rw [nxt_skip l1, nxt_e l2 l3, l4]
  ·right
   rcases hlast with e0 | e0
   ·cases e0
   ·rw [List.getLast?_cons_of_ne_nil hrne] at e0; exact e0
  ·obtain ⟨k, hk⟩ := (htr.more [e] (Nat.le_refl _)).tw
   rcases hl with rfl | rfl | rfl
   ·have hs := step_give hk hc (.inl rfl)
    exact ⟨th, mks, by rw [hlen, if_pos rfl, ← hs]; exact tr_tw _ _, hmk, hnest⟩
   ·have hs := step_one hk hc (by simp)
    exact ⟨th, mks, by rw [hlen, if_neg (by decide), ← hs]; exact tr_tw _ _, hmk, hnest⟩
   ·have hs := step_one hk hc (by simp)
    exact ⟨th, mks, by rw [hlen, if_neg (by decide), ← hs]; exact tr_tw _ _, hmk, hnest⟩
  ·rcases hl with rfl | rfl | rfl
   ·rw [if_pos rfl, List.length_dropLast, shut]; simp [shuts]
   ·rw [if_neg (by decide), shut]; simp [shuts]
   ·rw [if_neg (by decide), shut]; simp [shuts]
  ·rw [hlen]
   rw [hlits] at small
   have h5 : (if (e :: r).head? = some 123 then 5 else 0) ≤ 5 := by split <;> omega
   split <;> omega
  ·rw [hlen]; rw [hlits] at bound; omega
theorem nxB (X : List UInt8) (c : UInt8) (more : List UInt8) (h : opnL c = some more) : nxt (66 :: X) c = (more ++ 66 :: X, true) := nxt_B h
theorem Gen.cmd {t : Nat} {text r opn s more opn' : List UInt8} (h : Gen t text (66 :: r) opn) (hc : Cmd opn s more opn') (hl : text.length ≤ 70) : Gen t (text ++ s) (more ++ 66 :: r) opn' := by
 obtain ⟨t1, t4, ok, ⟨F, hF, hFF⟩, hlast, ⟨th, mks, htr, hmk, hnest⟩, shut, small, bound⟩ := h
 have hla : ∀ m : List UInt8, m ++ 66 :: r = [] ∨ (m ++ 66 :: r).getLast? = some 66 := by
  intro m
  right
  rcases hlast with e0 | e0
  ·cases e0
  ·rw [List.getLast?_append, e0]; rfl
 have hFe : F = 66 :: r := by
  rcases hFF with ⟨e, _⟩ | ⟨_, e⟩
  ·exact e
  ·exact absurd rfl e
 subst hFe
 have hrr : TodoOk (66 :: r) := ok
 have hl66 : lits (66 :: r) = lits r := by simp [lits]
 rw [hl66] at small bound
 simp at small
 have hshut : shuts (66 :: r) = shuts r := by simp [shuts]
 rw [hshut] at shut
 have hf0 : ∀ s, fw (text ++ s) text.length = some (66 :: (r ++ List.replicate (4 - t) 109)) := fun s => by rw [fw_more _ _ _ (Nat.le_refl _)]; exact hF
 cases hc with
 | @acc c d hc hd =>
  have hlen : (text ++ [c, d]).length = text.length + 1 + 1 := by simp
  have e0 : (text ++ [c, d])[text.length]? = some c := by simp
  have e1 : (text ++ [c, d])[text.length + 1]? = some d := by simp
  have f1 : fw (text ++ [c, d]) (text.length + 1) = some (118 :: 66 :: (r ++ List.replicate (4 - t) 109)) := fw_step (hf0 _) e0 (by rcases hc with rfl | rfl; exact nxB _ 103 [118] rfl; exact nxB _ 112 [118] rfl)
  obtain ⟨k, hk⟩ := (htr.more [c, d] (Nat.le_refl _)).tw
  have hs := step_access hk e0 e1 hc
  have hd3 : 0 ≤ (d.toNat : Int) - 120 ∧ (d.toNat : Int) - 120 < 3 := by
   simp [inU] at hd
   rcases hd with rfl | rfl | rfl <;> decide
  refine ⟨t1, t4, hrr, ⟨66 :: r, ?_, .inl ⟨rfl, by simp⟩⟩, hla [], ⟨th, _, by rw [hlen, ← hs]; exact tr_tw _ _, hmk.snoc ?_, ?_⟩, by rw [shut]; simp [shuts], ?_, ?_⟩
  ·rw [hlen]; exact fw_step f1 e1 (by rw [nxt_e (by decide) (by decide)]; exact congrArg _ hd)
  ·right; refine ⟨?_, hd3⟩; split
   ·exact .inr rfl
   ·exact .inl rfl
  ·rw [List.find?_append, hnest, List.find?_cons]
   have : nestB (mkN (if c = 112 then 2 else 1) text.length th ((d.toNat : Int) - 120) opn) = false := by
    split <;> simp [nestB, mkN]
   rw [this]; rfl
  ·rw [hlen]; simp [lits]; simp [lits] at small; omega
  ·rw [hlen]; simp [lits]; simp [lits] at small bound; omega
 | out =>
  have hlen : (text ++ [111]).length = text.length + 1 := by simp
  have e0 : (text ++ [111])[text.length]? = some 111 := by simp
  obtain ⟨k, hk⟩ := (htr.more [111] (Nat.le_refl _)).tw
  have hs := step_one hk e0 (by simp)
  refine ⟨t1, t4, hrr, ⟨66 :: r, ?_, .inl ⟨rfl, by simp⟩⟩, hla [], ⟨th, mks, by rw [hlen, ← hs]; exact tr_tw _ _, hmk, hnest⟩, by rw [shut]; simp [shuts], ?_, ?_⟩
  ·rw [hlen]; exact fw_step (hf0 _) e0 (nxB _ 111 [] rfl)
  ·rw [hlen]; simp [lits]; simp [lits] at small; omega
  ·rw [hlen]; simp [lits]; simp [lits] at small bound; omega
 | @add d hd =>
  have hlen : (text ++ [105, d]).length = text.length + 1 + 1 := by simp
  have e0 : (text ++ [105, d])[text.length]? = some 105 := by simp
  have e1 : (text ++ [105, d])[text.length + 1]? = some d := by simp
  have f1 : fw (text ++ [105, d]) (text.length + 1) = some (110 :: 66 :: (r ++ List.replicate (4 - t) 109)) := fw_step (hf0 _) e0 (nxB _ 105 [110] rfl)
  obtain ⟨k, hk⟩ := (htr.more [105, d] (Nat.le_refl _)).tw
  have hs := step_two hk e0
  refine ⟨t1, t4, hrr, ⟨66 :: r, ?_, .inl ⟨rfl, by simp⟩⟩, hla [], ⟨th, mks, by rw [hlen, ← hs]; exact tr_tw _ _, hmk, hnest⟩, by rw [shut]; simp [shuts], ?_, ?_⟩
  ·rw [hlen]; exact fw_step f1 e1 (by rw [nxt_e (by decide) (by decide)]; exact congrArg _ hd)
  ·rw [hlen]; simp [lits]; simp [lits] at small; omega
  ·rw [hlen]; simp [lits]; simp [lits] at small bound; omega
 | @reg l hlk hno =>
  have hlen : (text ++ [91, l]).length = text.length + 1 + 1 := by simp
  have e0 : (text ++ [91, l])[text.length]? = some 91 := by simp
  have e1 : (text ++ [91, l])[text.length + 1]? = some l := by simp
  have f1 : fw (text ++ [91, l]) (text.length + 1) = some (108 :: 66 :: 93 :: 66 :: (r ++ List.replicate (4 - t) 109)) := fw_step (hf0 _) e0 (nxB _ 91 [108, 66, 93] rfl)
  obtain ⟨k, hk⟩ := (htr.more [91, l] (Nat.le_refl _)).tw
  have hs := step_take hk e0 e1 (.inl rfl)
  have hl5 : l = 65 ∨ l = 66 ∨ l = 67 ∨ l = 68 := by simp [inU] at hlk; rcases hlk with rfl | rfl | rfl | rfl <;> simp
  have hl6 : 0 ≤ (l.toNat : Int) - 65 ∧ (l.toNat : Int) - 65 < 5 := by rcases hl5 with rfl | rfl | rfl | rfl <;> decide
  refine ⟨t1, t4, .b (.lit (.inl rfl) hrr) (by simp), ⟨66 :: 93 :: 66 :: r, ?_, .inl ⟨rfl, by simp⟩⟩, hla [66, 93], ⟨th, _, by rw [hlen, ← hs]; exact tr_tw _ _, hmk.snoc ?_, ?_⟩, by rw [List.length_append, shut]; simp [shuts], ?_, ?_⟩
  ·rw [hlen]; exact fw_step f1 e1 (by rw [nxt_e (by decide) (by decide)]; exact congrArg _ hlk)
  ·exact .inl ⟨rfl, hl6⟩
  ·rw [List.find?_append, hnest, List.find?_cons]
   have : nestB (mkN 3 text.length th ((l.toNat : Int) - 65) opn) = false := by
    rcases hl5 with rfl | rfl | rfl | rfl <;> simp [nestB, mkN, hno]
   rw [this]; rfl
  ·rw [hlen]; simp [lits]; simp [lits] at small; omega
  ·rw [hlen]; simp [lits]; simp [lits] at small bound; omega
 | ask =>
  have hlen : (text ++ [63]).length = text.length + 1 := by simp
  have e0 : (text ++ [63])[text.length]? = some 63 := by simp
  obtain ⟨k, hk⟩ := (htr.more [63] (Nat.le_refl _)).tw
  have hs := step_one hk e0 (by simp)
  refine ⟨t1, t4, ?_, ⟨[123, 66, 125, 123, 66, 125] ++ 66 :: r, ?_, .inl ⟨rfl, by simp⟩⟩, hla [123, 66, 125, 123, 66, 125], ⟨th, mks, by rw [hlen, ← hs]; exact tr_tw _ _, hmk, hnest⟩, by rw [shut]; simp [shuts], ?_, ?_⟩
  ·exact .lit (by simp) (.b (.lit (by simp) (.lit (by simp) (.b (.lit (by simp) hrr) (by simp)))) (by simp))
  ·rw [hlen]; exact fw_step (hf0 _) e0 (by rw [nxB _ 63 [123, 66, 125, 123, 66, 125] rfl]; rfl)
  ·rw [hlen]; simp [lits]; simp [lits] at small; omega
  ·rw [hlen]; simp [lits]; simp [lits] at small bound; omega
 | rep =>
  have hlen : (text ++ [33]).length = text.length + 1 := by simp
  have e0 : (text ++ [33])[text.length]? = some 33 := by simp
  obtain ⟨k, hk⟩ := (htr.more [33] (Nat.le_refl _)).tw
  have hs := step_one hk e0 (by simp)
  refine ⟨t1, t4, ?_, ⟨[123, 66, 125] ++ 66 :: r, ?_, .inl ⟨rfl, by simp⟩⟩, hla [123, 66, 125], ⟨th, mks, by rw [hlen, ← hs]; exact tr_tw _ _, hmk, hnest⟩, by rw [shut]; simp [shuts], ?_, ?_⟩
  ·exact .lit (by simp) (.b (.lit (by simp) hrr) (by simp))
  ·rw [hlen]; exact fw_step (hf0 _) e0 (by rw [nxB _ 33 [123, 66, 125] rfl]; rfl)
  ·rw [hlen]; simp [lits]; simp [lits] at small; omega
  ·rw [hlen]; simp [lits]; simp [lits] at small bound; omega
theorem Gen.done {t : Nat} {text opn : List UInt8} (h : Gen t text [] opn) : fw text text.length = some (66 :: List.replicate (4 - t) 109) ∧ opn = [] := by
 obtain ⟨F, hF, hFF⟩ := h.form
 refine ⟨?_, List.eq_nil_of_length_eq_zero h.shut⟩
 rcases hFF with ⟨_, e⟩ | ⟨e, _⟩
 ·exact absurd rfl e
 ·subst e; exact hF
theorem Gen.bar {t : Nat} {text opn : List UInt8} (h : Gen t text [] opn) (ht : t < 4) : Gen (t + 1) (text ++ [124]) [66] opn := by
 obtain ⟨hF, ho⟩ := h.done
 obtain ⟨t1, t4, _, _, _, ⟨th, mks, htr, hmk, hnest⟩, shut, small, bound⟩ := h
 have hlen : (text ++ [124]).length = text.length + 1 := by simp
 have e0 : (text ++ [124])[text.length]? = some 124 := by simp
 obtain ⟨k, hk⟩ := (htr.more [124] (Nat.le_refl _)).tw
 have hs := step_bar hk e0
 have hf0 : fw (text ++ [124]) text.length = some (66 :: List.replicate (4 - t) 109) := by rw [fw_more _ _ _ (Nat.le_refl _)]; exact hF
 refine ⟨by omega, by omega, .b .nil (by simp), ⟨[66], ?_, .inl ⟨rfl, by simp⟩⟩, .inr rfl, ⟨th + 1, mks, by rw [hlen, ← hs]; exact tr_tw _ _, hmk, hnest⟩, by rw [ho]; rfl, ?_, ?_⟩
 ·rw [hlen]
  refine fw_step hf0 e0 ?_
  rw [nxt_skip rfl, show 4 - t = (4 - (t + 1)) + 1 by omega, List.replicate_succ, nxt_m]
  rfl
 ·rw [hlen]; simp [lits]; simp [lits] at small; omega
 ·rw [hlen]; simp [lits]; simp [lits] at bound; omega
theorem Gen.acc {t : Nat} {text opn : List UInt8} (h : Gen t text [] opn) : text.length ≤ 184 ∧ ∃ mks, Acc text mks ∧ mks.find? nestB = none := by
 obtain ⟨hF, _⟩ := h.done
 obtain ⟨th, mks, htr, hmk, hnest⟩ := h.toks
 obtain ⟨k, hk⟩ := htr.tw
 refine ⟨by have := h.bound; have := h.t4; simp [lits] at *; omega, mks, ⟨⟨_, hF, ?_⟩, ⟨k, _, _, hk⟩, hmk⟩, hnest⟩
 simp [wholeF]
end Go.Proofs.Ytdgkpkdinfklaab

namespace Go.Proofs.Ytdgkpkdinfklaab
open Go.RowKit
def pickI (c n : Int) : Int := (if c < 0 then -(c + 1) else c) % n
theorem pickI_bd (c n : Int) (hn : 0 < n) : 0 ≤ pickI c n ∧ pickI c n < n := by
 unfold pickI
 exact ⟨Int.emod_nonneg _ (by omega), Int.emod_lt_of_pos _ hn⟩
set_option maxHeartbeats 400000 in
theorem pick_any (c n : Int) (w : World) (h0 : -9223372036854775807 ≤ c + 1) (h1 : c ≤ 9223372036854775806 + 1) (hn : 0 < n) (hn1 : n ≤ 1000) :
  Calls Try.prog 30 #[.int .i64 c, .int .i64 n] w fun e w' => e = .returned (.int .i64 (pickI c n)) ∧ w' = w := by
 by_cases hc : c < 0
 ·have HP : Hid (pickI c n = (-(c + 1)) % n) := by show pickI c n = _; rw [pickI, if_pos hc]
  go_enter Try.func30, Try.ntmps30
  go_wp2
  go_ret
  refine ⟨?_, rfl⟩
  rw [HP.out]
  have e1 : -((c + 1).tmod n) = (-(c + 1)) % n := by rw [← Int.neg_tmod, Int.tmod_eq_emod_of_nonneg (by omega)]
  rw [← e1]; rfl
 ·have HP : Hid (pickI c n = c % n) := by show pickI c n = _; rw [pickI, if_neg hc]
  go_enter Try.func30, Try.ntmps30
  go_wp2
  go_ret
  refine ⟨?_, rfl⟩
  rw [HP.out]; rfl
def IsInts (w : World) (mb : Nat) (la : Option Addr) (ln : Nat) : Prop :=
 ln = 0 ∨ ∃ b off, la = some ⟨b, off, none⟩ ∧ b < mb ∧ ∀ j, j < ln → ∃ z : Int, w.cell? ⟨b, off + j, none⟩ = some (.int .i64 z) ∧ -9223372036854775808 ≤ z ∧ z ≤ 9223372036854775807
def cntGP (l : List UInt8) : Nat := (l.filter fun c => c == 103 || c == 112).length
theorem cntGP_app (a b : List UInt8) : cntGP (a ++ b) = cntGP a + cntGP b := by simp [cntGP]
def TX (lk text : ByteArray) (ac : Nat) : Prop := cntGP text.data.toList ≤ ac ∧ (60 : UInt8) ∉ text.data.toList ∧ (lk = ⟨#[65, 66, 67]⟩ → (68 : UInt8) ∉ text.data.toList)
theorem TX.mono {lk text : ByteArray} {ac q : Nat} (h : TX lk text ac) (hq : ac ≤ q) : TX lk text q := ⟨Nat.le_trans h.1 hq, h.2⟩
theorem TX.app {lk text s : ByteArray} {ac k : Nat} (h : TX lk text ac) (hc : cntGP s.data.toList = k) (h60 : (60 : UInt8) ∉ s.data.toList) (h68 : lk = ⟨#[65, 66, 67]⟩ → (68 : UInt8) ∉ s.data.toList) : TX lk (text ++ s) (ac + k) := by
 have e : (text ++ s).data.toList = text.data.toList ++ s.data.toList := by simp
 refine ⟨?_, ?_, fun hl => ?_⟩
 ·rw [e, cntGP_app, hc]; exact Nat.add_le_add_right h.1 _
 ·rw [e, List.mem_append]; exact fun hm => hm.elim h.2.1 h60
 ·rw [e, List.mem_append]; exact fun hm => hm.elim (h.2.2 hl) (h68 hl)
theorem TX.app0 {lk text s : ByteArray} {ac : Nat} (h : TX lk text ac) (hc : cntGP s.data.toList = 0) (h60 : (60 : UInt8) ∉ s.data.toList) (h68 : (68 : UInt8) ∉ s.data.toList) : TX lk (text ++ s) ac := h.app hc h60 (fun _ => h68)
theorem TX.app1 {lk text s : ByteArray} {ac : Nat} (h : TX lk text ac) (hc : cntGP s.data.toList = 1) (h60 : (60 : UInt8) ∉ s.data.toList) (h68 : (68 : UInt8) ∉ s.data.toList) : TX lk (text ++ s) (ac + 1) := h.app hc h60 (fun _ => h68)
structure MM (w : World) (mb : Nat) (la : Option Addr) (ln lc : Nat) (lk : ByteArray) (at_ : Nat) (text opn : ByteArray) (ac : Nat) : Prop where
 lt : mb < w.heap.size
 c0 : w.cell? ⟨mb, 0, none⟩ = some (.slice la ln lc)
 c1 : w.cell? ⟨mb, 1, none⟩ = some (.int .i64 at_)
 c2 : w.cell? ⟨mb, 2, none⟩ = some (.string text)
 c3 : w.cell? ⟨mb, 3, none⟩ = some (.string opn)
 c4 : w.cell? ⟨mb, 4, none⟩ = some (.string lk)
 c5 : w.cell? ⟨mb, 5, none⟩ = some (.int .i64 ac)
 fz : ∀ i, w.frozen? ⟨mb, i, none⟩ = false
 il : IsInts w mb la ln
 len : ln ≤ maxLen
 le : at_ ≤ ln
 ts : text.size ≤ 240
 os : opn.size ≤ 240
 ac10 : ac ≤ 10
 lo : lk = ⟨#[65, 66, 67, 68]⟩ ∨ lk = ⟨#[65, 66, 67]⟩
 tx : TX lk text ac
theorem IsInts.below {w w' : World} {mb : Nat} {la ln} (h : IsInts w mb la ln) (hb : Below mb w w') : IsInts w' mb la ln := by
 rcases h with h | ⟨b, off, e, hl, hc⟩
 ·exact .inl h
 ·refine .inr ⟨b, off, e, hl, fun j hj => ?_⟩
  obtain ⟨z, hz, r⟩ := hc j hj
  exact ⟨z, (hb.cell (p := ⟨b, off + j, none⟩) hl).trans hz, r⟩
theorem MM.below {w w' : World} {mb la ln lc lk at_ text opn ac} (h : MM w mb la ln lc lk at_ text opn ac) (hb : Below w.heap.size w w') : MM w' mb la ln lc lk at_ text opn ac := by
 obtain ⟨lt, c0, c1, c2, c3, c4, c5, fz, il, len, le, ts, os, ac10, lo, tx⟩ := h
 have k := fun i => hb.cell (p := ⟨mb, i, none⟩) lt
 exact ⟨by have := hb.size; omega, (k 0).trans c0, (k 1).trans c1, (k 2).trans c2, (k 3).trans c3, (k 4).trans c4, (k 5).trans c5, fun i => (hb.frozen (p := ⟨mb, i, none⟩) lt).trans (fz i), il.below (hb.mono (by omega)), len, le, ts, os, ac10, lo, tx⟩
theorem MM.drewN {w : World} {mb la ln lc lk at_ text opn ac} (h : MM w mb la ln lc lk at_ text opn ac) (n : Nat) : MM (w.drewN n) mb la ln lc lk at_ text opn ac := h.below (below_drewN' _ _ _)
theorem MM.drew {w : World} {mb la ln lc lk at_ text opn ac} (h : MM w mb la ln lc lk at_ text opn ac) : MM w.drew mb la ln lc lk at_ text opn ac := h.below (Below.refl _ _).drew
theorem MM.setAt {w : World} {mb la ln lc lk at_ text opn ac} (h : MM w mb la ln lc lk at_ text opn ac) (q : Nat) (hq : q ≤ ln) : MM (w.setCell ⟨mb, 1, none⟩ (.int .i64 q)) mb la ln lc lk q text opn ac := by
 have il' := h.il.below ((Below.refl mb w).setCell (p := ⟨mb, 1, none⟩) (Nat.le_refl _) (.int .i64 q))
 obtain ⟨lt, c0, c1, c2, c3, c4, c5, fz, il, len, le, ts, os, ac10, lo, tx⟩ := h
 refine ⟨by simpa [World.setCell] using lt, by go_simp, cell_same c1, by go_simp, by go_simp, by go_simp, by go_simp, fun i => by have := fz i; go_simp, il', len, hq, ts, os, ac10, lo, tx⟩
theorem MM.setText {w : World} {mb la ln lc lk at_ text opn ac} (h : MM w mb la ln lc lk at_ text opn ac) (q : ByteArray) (hq : q.size ≤ 240) (hx : TX lk q ac) : MM (w.setCell ⟨mb, 2, none⟩ (.string q)) mb la ln lc lk at_ q opn ac := by
 have il' := h.il.below ((Below.refl mb w).setCell (p := ⟨mb, 2, none⟩) (Nat.le_refl _) (.string q))
 obtain ⟨lt, c0, c1, c2, c3, c4, c5, fz, il, len, le, ts, os, ac10, lo, tx⟩ := h
 refine ⟨by simpa [World.setCell] using lt, by go_simp, by go_simp, cell_same c2, by go_simp, by go_simp, by go_simp, fun i => by have := fz i; go_simp, il', len, le, hq, os, ac10, lo, hx⟩
theorem MM.setOpen {w : World} {mb la ln lc lk at_ text opn ac} (h : MM w mb la ln lc lk at_ text opn ac) (q : ByteArray) (hq : q.size ≤ 240) : MM (w.setCell ⟨mb, 3, none⟩ (.string q)) mb la ln lc lk at_ text q ac := by
 have il' := h.il.below ((Below.refl mb w).setCell (p := ⟨mb, 3, none⟩) (Nat.le_refl _) (.string q))
 obtain ⟨lt, c0, c1, c2, c3, c4, c5, fz, il, len, le, ts, os, ac10, lo, tx⟩ := h
 refine ⟨by simpa [World.setCell] using lt, by go_simp, by go_simp, by go_simp, cell_same c3, by go_simp, by go_simp, fun i => by have := fz i; go_simp, il', len, le, ts, hq, ac10, lo, tx⟩
theorem MM.setAcc {w : World} {mb la ln lc lk at_ text opn ac} (h : MM w mb la ln lc lk at_ text opn ac) (q : Nat) (hq : q ≤ 10) (hx : ac ≤ q) : MM (w.setCell ⟨mb, 5, none⟩ (.int .i64 q)) mb la ln lc lk at_ text opn q := by
 have il' := h.il.below ((Below.refl mb w).setCell (p := ⟨mb, 5, none⟩) (Nat.le_refl _) (.int .i64 q))
 obtain ⟨lt, c0, c1, c2, c3, c4, c5, fz, il, len, le, ts, os, ac10, lo, tx⟩ := h
 refine ⟨by simpa [World.setCell] using lt, by go_simp, by go_simp, by go_simp, by go_simp, by go_simp, cell_same c5, fun i => by have := fz i; go_simp, il', len, le, ts, os, hq, lo, tx.mono hx⟩
def Picked (w w' : World) (mb : Nat) (la : Option Addr) (ln lc : Nat) (lk : ByteArray) (text opn : ByteArray) (ac n : Nat) (e : Ending) : Prop :=
 ∃ (r at_ : Nat), r < n ∧ (r ≠ 0 → text.size ≤ 70) ∧ e = .returned (.int .i64 r) ∧ MM w' mb la ln lc lk at_ text opn ac ∧ Below mb w w'
set_option maxHeartbeats 1600000 in
set_option maxRecDepth 100000 in
theorem mpick_any (mb n : Nat) (la : Option Addr) (ln lc : Nat) (lk : ByteArray) (at_ : Nat) (text opn : ByteArray) (ac : Nat) (w : World) (h : MM w mb la ln lc lk at_ text opn ac) (hn : 0 < n) (hn1 : n ≤ 100) :
  Calls Try.prog 36 #[.pointer (some ⟨mb, 0, none⟩), .int .i64 n] w fun e w' => Picked w w' mb la ln lc lk text opn ac n e := by
 have c0 := h.c0
 have c1 := h.c1
 have c2 := h.c2
 have f1 := h.fz 1
 have hle := h.le
 have hlen := h.len
 have hts := h.ts
 unfold maxLen at hlen
 have HM : Hid (MM w mb la ln lc lk at_ text opn ac) := h
 clear h
 by_cases h1 : at_ < ln
 ·have g1 : decide ((ln : Int) ≤ (at_ : Int)) = false := by simpa using h1
  by_cases h2 : text.size ≤ 70
  ·obtain ⟨b, off, rfl, hbm, hcs⟩ : ∃ b off, la = some ⟨b, off, none⟩ ∧ b < mb ∧ ∀ j, j < ln → ∃ z : Int, w.cell? ⟨b, off + j, none⟩ = some (.int .i64 z) ∧ -9223372036854775808 ≤ z ∧ z ≤ 9223372036854775807 := by
    rcases HM.out.il with h0 | h0
    ·omega
    ·exact h0
   obtain ⟨z, hz, z0, z1⟩ := hcs at_ h1
   have hpb := pickI_bd z n (by omega)
   obtain ⟨r, hr⟩ := Int.eq_ofNat_of_zero_le hpb.1
   have HR : Hid (pickI z n = (r : Int)) := hr
   have hrn : r < n := by omega
   have hpk : ∀ wx, Calls Try.prog 30 #[.int .i64 z, .int .i64 n] wx fun e w' => e = .returned (.int .i64 r) ∧ w' = wx := by
    intro wx
    rw [← hr]
    exact pick_any z n wx (by omega) (by omega) (by omega) (by omega)
   have HPK : Hid (∀ wx, Calls Try.prog 30 #[.int .i64 z, .int .i64 n] wx fun e w' => e = .returned (.int .i64 r) ∧ w' = wx) := hpk
   clear hcs hpb hr hpk
   go_enter Try.func36, Try.ntmps36
   go_wp2
   go_quiet (fail)
   go_wp2_with fail
   obtain ⟨w1, hw1⟩ : ∃ w1, w1 = w.drewN nq := ⟨_, rfl⟩
   have HM1 : Hid (MM w1 mb (some ⟨b, off, none⟩) ln lc lk at_ text opn ac) := by rw [hw1]; exact HM.out.drewN _
   have HB1 : Hid (Below mb w w1) := by rw [hw1]; exact below_drewN' _ _ _
   have d0 := HM1.out.c0
   have d1 := HM1.out.c1
   have d2 := HM1.out.fz 1
   have hz1 : w1.cell? ⟨b, off + at_, none⟩ = some (.int .i64 z) := by rw [hw1]; exact hz
   rw [← hw1]
   clear hw1 c0 c1 c2 f1 hz
   go_quiet ((go_at_call 30; exact Calls.quiet_of_same (HPK.out _)))
   go_wp2
   go_ret
   exact ⟨r, at_ + 1, hrn, fun _ => h2, rfl, (HM1.out.drewN _).setAt (at_ + 1) (by omega), (HB1.out.trans (below_drewN' _ _ _)).setCell (by simp) _⟩
  ·have g2 : decide ((70 : Int) < (text.size : Int)) = true := by simp; omega
   go_enter Try.func36, Try.ntmps36
   go_wp2
   go_quiet (fail)
   go_wp2
   go_ret
   exact ⟨0, at_, hn, fun h' => absurd rfl h', rfl, HM.out.drewN _, below_drewN' _ _ _⟩
 ·have g1 : decide ((ln : Int) ≤ (at_ : Int)) = true := by simp; omega
  go_enter Try.func36, Try.ntmps36
  go_wp2
  go_quiet (fail)
  go_wp2
  go_ret
  exact ⟨0, at_, hn, fun h' => absurd rfl h', rfl, HM.out.drewN _, below_drewN' _ _ _⟩
end Go.Proofs.Ytdgkpkdinfklaab

namespace Go.Proofs.Ytdgkpkdinfklaab
open Go.RowKit
set_option maxHeartbeats 400000 in
theorem kstands_any (s : ByteArray) (c : UInt8) (w : World) (hs : s.size ≤ maxLen) :
  Calls Try.prog 26 #[.string s, .int .u8 (c.toNat : Int)] w fun e w' => e = .returned (.bool (inU s.data.toList c)) ∧ w' = w := by
 unfold maxLen at hs
 go_enter Try.func26, Try.ntmps26
 go_wp2
 go_loop [5] (fun i => ∃ k : Nat, k ≤ s.size ∧ i = .int .i64 k ∧ inU (s.data.toList.take k) c = false) (fun i => s.size - (intOf i).toNat)
 case atStart => exact ⟨0, Nat.zero_le _, rfl, rfl⟩
 case round =>
  obtain ⟨k, hk, rfl, hr⟩ := hrel
  have HR : Hid (inU (s.data.toList.take k) c = false) := hr
  clear hr
  by_cases hlt : k < s.size
  ·by_cases he : ((s[k].toNat : Int) == (c.toNat : Int)) = true
   ·have HF : Hid (inU s.data.toList c = true) := inU_hit s k hlt c he
    go_wp2
    go_ret
    rw [HF.out]; exact ⟨rfl, rfl⟩
   ·have he' : ((s[k].toNat : Int) == (c.toNat : Int)) = false := by simpa using he
    clear he
    go_wp2
    go_round
    case rel => exact ⟨k + 1, by omega, by go_num, by rw [take_snoc s k hlt, inU_snoc, HR.out]; simpa using u8f he'⟩
    case measure => simp [intOf]; omega
  ·go_wp2
   go_ret
   have : s.data.toList.take k = s.data.toList := List.take_of_length_le (by simp; omega)
   rw [← this, HR.out]; exact ⟨rfl, rfl⟩
def frL (opn : List UInt8) : Nat → List UInt8
 | 0 => []
 | k + 1 => frL opn k ++ (if inU opn (UInt8.ofNat (65 + k)) then [] else [UInt8.ofNat (65 + k)])
theorem fr_yes {opn : List UInt8} {k : Nat} (e : inU opn (UInt8.ofNat (65 + k)) = true) : frL opn (k + 1) = frL opn k := by rw [frL, e]; simp
theorem fr_no {opn : List UInt8} {k : Nat} (e : inU opn (UInt8.ofNat (65 + k)) = false) : frL opn (k + 1) = frL opn k ++ [UInt8.ofNat (65 + k)] := by rw [frL, e]; rfl
theorem fr_mem (opn : List UInt8) (k : Nat) (hk : k ≤ 4) : ∀ c ∈ frL opn k, inU [65, 66, 67, 68] c = true ∧ inU opn c = false := by
 induction k with
 | zero => intro c hc; simp [frL] at hc
 | succ k ih =>
  intro c hc
  cases e : inU opn (UInt8.ofNat (65 + k)) with
  | true => rw [fr_yes e] at hc; exact ih (by omega) c hc
  | false =>
   rw [fr_no e] at hc
   rcases List.mem_append.1 hc with hc | hc
   ·exact ih (by omega) c hc
   ·rw [List.mem_singleton] at hc
    subst hc
    refine ⟨?_, e⟩
    have h6 : k = 0 ∨ k = 1 ∨ k = 2 ∨ k = 3 := by omega
    rcases h6 with rfl | rfl | rfl | rfl <;> decide
theorem fr_three (opn : List UInt8) : ∀ c ∈ frL opn 3, c ≠ 68 := by
 intro c hc e
 subst e
 simp only [frL, List.nil_append, List.mem_append] at hc
 rcases hc with (hc | hc) | hc
 all_goals
  split at hc
  ·cases hc
  ·exact absurd (List.mem_singleton.1 hc) (by decide)
def FreeAt (opn : List UInt8) (k : Nat) (o : ByteArray) : Prop := o.data.toList = frL opn k
def Freed (w w' : World) (mb : Nat) (la : Option Addr) (ln lc : Nat) (lk : ByteArray) (at_ : Nat) (text opn : ByteArray) (ac : Nat) (e : Ending) : Prop :=
 ∃ o : ByteArray, o.size ≤ 4 ∧ FreeAt opn.data.toList lk.size o ∧ e = .returned (.string o) ∧ MM w' mb la ln lc lk at_ text opn ac ∧ Below mb w w'
set_option maxHeartbeats 3200000 in
set_option maxRecDepth 100000 in
theorem free_four (mb : Nat) (la : Option Addr) (ln lc : Nat) (at_ : Nat) (text opn : ByteArray) (ac : Nat) (w : World) (h : MM w mb la ln lc ⟨#[65, 66, 67, 68]⟩ at_ text opn ac) :
  Calls Try.prog 65 #[.pointer (some ⟨mb, 0, none⟩)] w fun e w' => Freed w w' mb la ln lc ⟨#[65, 66, 67, 68]⟩ at_ text opn ac e := by
 have HM : Hid (MM w mb la ln lc ⟨#[65, 66, 67, 68]⟩ at_ text opn ac) := h
 have hos := h.os
 clear h
 go_enter Try.func65, Try.ntmps65
 go_wp2
 go_loopw [3, 4] (fun ov i wr => ∃ (k : Nat) (o : ByteArray), k ≤ 4 ∧ i = .int .i64 k ∧ ov = .string o ∧ o.size ≤ k ∧ FreeAt opn.data.toList k o ∧ MM wr mb la ln lc ⟨#[65, 66, 67, 68]⟩ at_ text opn ac ∧ Below mb w wr) (fun _ i _ => 4 - (intOf i).toNat)
 case atStart => exact ⟨0, ⟨#[]⟩, by decide, rfl, rfl, by decide, rfl, HM.out, Below.refl _ _⟩
 case round =>
  obtain ⟨k, o, hk, rfl, rfl, hosz, hfr, hm, hbe⟩ := hrel
  have c3 := hm.c3
  have c4 := hm.c4
  have HM1 : Hid (MM wr mb la ln lc ⟨#[65, 66, 67, 68]⟩ at_ text opn ac) := hm
  have HB1 : Hid (Below mb w wr) := hbe
  have HFR : Hid (FreeAt opn.data.toList k o) := hfr
  clear hm hbe hfr
  have h6 : k = 0 ∨ k = 1 ∨ k = 2 ∨ k = 3 ∨ k = 4 := by omega
  rcases h6 with rfl | rfl | rfl | rfl | rfl
  ·cases hin : inU opn.data.toList (UInt8.ofNat (65 + 0)) with
   | true =>
    have HN : Hid (frL opn.data.toList 1 = frL opn.data.toList 0) := fr_yes hin
    have HST : Hid (∀ wx, Calls Try.prog 26 #[.string opn, .int .u8 (((ByteArray.mk #[65, 66, 67, 68])[0]).toNat : Int)] wx fun e w' => e = .returned (.bool true) ∧ w' = wx) := by
     intro wx
     have := kstands_any opn (ByteArray.mk #[65, 66, 67, 68])[0] wx (by unfold maxLen; omega)
     rw [show inU opn.data.toList (ByteArray.mk #[65, 66, 67, 68])[0] = true from hin] at this
     exact this
    clear hin
    go_wp2
    go_quiet ((go_at_call 26; exact Calls.quiet_of_same (HST.out _)))
    go_wp2
    go_roundw
    case rel => exact ⟨1, o, by decide, rfl, rfl, by omega, (show o.data.toList = frL opn.data.toList 1 by rw [HN.out]; exact HFR.out), HM1.out.drewN _, HB1.out.trans (below_drewN' _ _ _)⟩
    case measure => simp [intOf]
   | false =>
    have HN : Hid (frL opn.data.toList 1 = frL opn.data.toList 0 ++ [UInt8.ofNat (65 + 0)]) := fr_no hin
    have HST : Hid (∀ wx, Calls Try.prog 26 #[.string opn, .int .u8 (((ByteArray.mk #[65, 66, 67, 68])[0]).toNat : Int)] wx fun e w' => e = .returned (.bool false) ∧ w' = wx) := by
     intro wx
     have := kstands_any opn (ByteArray.mk #[65, 66, 67, 68])[0] wx (by unfold maxLen; omega)
     rw [show inU opn.data.toList (ByteArray.mk #[65, 66, 67, 68])[0] = false from hin] at this
     exact this
    clear hin
    go_wp2
    go_quiet ((go_at_call 26; exact Calls.quiet_of_same (HST.out _)))
    go_wp2
    go_roundw
    case rel =>
     refine ⟨1, o ++ (ByteArray.mk #[65, 66, 67, 68]).extract 0 1, by decide, rfl, rfl, ?_, ?_, HM1.out.drewN _, HB1.out.trans (below_drewN' _ _ _)⟩
     ·rw [ByteArray.size_append]
      have : ((ByteArray.mk #[65, 66, 67, 68]).extract 0 1).size = 1 := by decide
      omega
     ·show (o ++ (ByteArray.mk #[65, 66, 67, 68]).extract 0 1).data.toList = _
      rw [cat_data, HN.out, show o.data.toList = frL opn.data.toList 0 from HFR.out]
      rfl
    case measure => simp [intOf]
  ·cases hin : inU opn.data.toList (UInt8.ofNat (65 + 1)) with
   | true =>
    have HN : Hid (frL opn.data.toList 2 = frL opn.data.toList 1) := fr_yes hin
    have HST : Hid (∀ wx, Calls Try.prog 26 #[.string opn, .int .u8 (((ByteArray.mk #[65, 66, 67, 68])[1]).toNat : Int)] wx fun e w' => e = .returned (.bool true) ∧ w' = wx) := by
     intro wx
     have := kstands_any opn (ByteArray.mk #[65, 66, 67, 68])[1] wx (by unfold maxLen; omega)
     rw [show inU opn.data.toList (ByteArray.mk #[65, 66, 67, 68])[1] = true from hin] at this
     exact this
    clear hin
    go_wp2
    go_quiet ((go_at_call 26; exact Calls.quiet_of_same (HST.out _)))
    go_wp2
    go_roundw
    case rel => exact ⟨2, o, by decide, rfl, rfl, by omega, (show o.data.toList = frL opn.data.toList 2 by rw [HN.out]; exact HFR.out), HM1.out.drewN _, HB1.out.trans (below_drewN' _ _ _)⟩
    case measure => simp [intOf]
   | false =>
    have HN : Hid (frL opn.data.toList 2 = frL opn.data.toList 1 ++ [UInt8.ofNat (65 + 1)]) := fr_no hin
    have HST : Hid (∀ wx, Calls Try.prog 26 #[.string opn, .int .u8 (((ByteArray.mk #[65, 66, 67, 68])[1]).toNat : Int)] wx fun e w' => e = .returned (.bool false) ∧ w' = wx) := by
     intro wx
     have := kstands_any opn (ByteArray.mk #[65, 66, 67, 68])[1] wx (by unfold maxLen; omega)
     rw [show inU opn.data.toList (ByteArray.mk #[65, 66, 67, 68])[1] = false from hin] at this
     exact this
    clear hin
    go_wp2
    go_quiet ((go_at_call 26; exact Calls.quiet_of_same (HST.out _)))
    go_wp2
    go_roundw
    case rel =>
     refine ⟨2, o ++ (ByteArray.mk #[65, 66, 67, 68]).extract 1 2, by decide, rfl, rfl, ?_, ?_, HM1.out.drewN _, HB1.out.trans (below_drewN' _ _ _)⟩
     ·rw [ByteArray.size_append]
      have : ((ByteArray.mk #[65, 66, 67, 68]).extract 1 2).size = 1 := by decide
      omega
     ·show (o ++ (ByteArray.mk #[65, 66, 67, 68]).extract 1 2).data.toList = _
      rw [cat_data, HN.out, show o.data.toList = frL opn.data.toList 1 from HFR.out]
      rfl
    case measure => simp [intOf]
  ·cases hin : inU opn.data.toList (UInt8.ofNat (65 + 2)) with
   | true =>
    have HN : Hid (frL opn.data.toList 3 = frL opn.data.toList 2) := fr_yes hin
    have HST : Hid (∀ wx, Calls Try.prog 26 #[.string opn, .int .u8 (((ByteArray.mk #[65, 66, 67, 68])[2]).toNat : Int)] wx fun e w' => e = .returned (.bool true) ∧ w' = wx) := by
     intro wx
     have := kstands_any opn (ByteArray.mk #[65, 66, 67, 68])[2] wx (by unfold maxLen; omega)
     rw [show inU opn.data.toList (ByteArray.mk #[65, 66, 67, 68])[2] = true from hin] at this
     exact this
    clear hin
    go_wp2
    go_quiet ((go_at_call 26; exact Calls.quiet_of_same (HST.out _)))
    go_wp2
    go_roundw
    case rel => exact ⟨3, o, by decide, rfl, rfl, by omega, (show o.data.toList = frL opn.data.toList 3 by rw [HN.out]; exact HFR.out), HM1.out.drewN _, HB1.out.trans (below_drewN' _ _ _)⟩
    case measure => simp [intOf]
   | false =>
    have HN : Hid (frL opn.data.toList 3 = frL opn.data.toList 2 ++ [UInt8.ofNat (65 + 2)]) := fr_no hin
    have HST : Hid (∀ wx, Calls Try.prog 26 #[.string opn, .int .u8 (((ByteArray.mk #[65, 66, 67, 68])[2]).toNat : Int)] wx fun e w' => e = .returned (.bool false) ∧ w' = wx) := by
     intro wx
     have := kstands_any opn (ByteArray.mk #[65, 66, 67, 68])[2] wx (by unfold maxLen; omega)
     rw [show inU opn.data.toList (ByteArray.mk #[65, 66, 67, 68])[2] = false from hin] at this
     exact this
    clear hin
    go_wp2
    go_quiet ((go_at_call 26; exact Calls.quiet_of_same (HST.out _)))
    go_wp2
    go_roundw
    case rel =>
     refine ⟨3, o ++ (ByteArray.mk #[65, 66, 67, 68]).extract 2 3, by decide, rfl, rfl, ?_, ?_, HM1.out.drewN _, HB1.out.trans (below_drewN' _ _ _)⟩
     ·rw [ByteArray.size_append]
      have : ((ByteArray.mk #[65, 66, 67, 68]).extract 2 3).size = 1 := by decide
      omega
     ·show (o ++ (ByteArray.mk #[65, 66, 67, 68]).extract 2 3).data.toList = _
      rw [cat_data, HN.out, show o.data.toList = frL opn.data.toList 2 from HFR.out]
      rfl
    case measure => simp [intOf]
  ·cases hin : inU opn.data.toList (UInt8.ofNat (65 + 3)) with
   | true =>
    have HN : Hid (frL opn.data.toList 4 = frL opn.data.toList 3) := fr_yes hin
    have HST : Hid (∀ wx, Calls Try.prog 26 #[.string opn, .int .u8 (((ByteArray.mk #[65, 66, 67, 68])[3]).toNat : Int)] wx fun e w' => e = .returned (.bool true) ∧ w' = wx) := by
     intro wx
     have := kstands_any opn (ByteArray.mk #[65, 66, 67, 68])[3] wx (by unfold maxLen; omega)
     rw [show inU opn.data.toList (ByteArray.mk #[65, 66, 67, 68])[3] = true from hin] at this
     exact this
    clear hin
    go_wp2
    go_quiet ((go_at_call 26; exact Calls.quiet_of_same (HST.out _)))
    go_wp2
    go_roundw
    case rel => exact ⟨4, o, by decide, rfl, rfl, by omega, (show o.data.toList = frL opn.data.toList 4 by rw [HN.out]; exact HFR.out), HM1.out.drewN _, HB1.out.trans (below_drewN' _ _ _)⟩
    case measure => simp [intOf]
   | false =>
    have HN : Hid (frL opn.data.toList 4 = frL opn.data.toList 3 ++ [UInt8.ofNat (65 + 3)]) := fr_no hin
    have HST : Hid (∀ wx, Calls Try.prog 26 #[.string opn, .int .u8 (((ByteArray.mk #[65, 66, 67, 68])[3]).toNat : Int)] wx fun e w' => e = .returned (.bool false) ∧ w' = wx) := by
     intro wx
     have := kstands_any opn (ByteArray.mk #[65, 66, 67, 68])[3] wx (by unfold maxLen; omega)
     rw [show inU opn.data.toList (ByteArray.mk #[65, 66, 67, 68])[3] = false from hin] at this
     exact this
    clear hin
    go_wp2
    go_quiet ((go_at_call 26; exact Calls.quiet_of_same (HST.out _)))
    go_wp2
    go_roundw
    case rel =>
     refine ⟨4, o ++ (ByteArray.mk #[65, 66, 67, 68]).extract 3 4, by decide, rfl, rfl, ?_, ?_, HM1.out.drewN _, HB1.out.trans (below_drewN' _ _ _)⟩
     ·rw [ByteArray.size_append]
      have : ((ByteArray.mk #[65, 66, 67, 68]).extract 3 4).size = 1 := by decide
      omega
     ·show (o ++ (ByteArray.mk #[65, 66, 67, 68]).extract 3 4).data.toList = _
      rw [cat_data, HN.out, show o.data.toList = frL opn.data.toList 3 from HFR.out]
      rfl
    case measure => simp [intOf]
  ·go_wp2
   go_ret
   exact ⟨o, by omega, HFR.out, rfl, HM1.out, HB1.out⟩
set_option maxHeartbeats 3200000 in
set_option maxRecDepth 100000 in
theorem free_three (mb : Nat) (la : Option Addr) (ln lc : Nat) (at_ : Nat) (text opn : ByteArray) (ac : Nat) (w : World) (h : MM w mb la ln lc ⟨#[65, 66, 67]⟩ at_ text opn ac) :
  Calls Try.prog 65 #[.pointer (some ⟨mb, 0, none⟩)] w fun e w' => Freed w w' mb la ln lc ⟨#[65, 66, 67]⟩ at_ text opn ac e := by
 have HM : Hid (MM w mb la ln lc ⟨#[65, 66, 67]⟩ at_ text opn ac) := h
 have hos := h.os
 clear h
 go_enter Try.func65, Try.ntmps65
 go_wp2
 go_loopw [3, 4] (fun ov i wr => ∃ (k : Nat) (o : ByteArray), k ≤ 3 ∧ i = .int .i64 k ∧ ov = .string o ∧ o.size ≤ k ∧ FreeAt opn.data.toList k o ∧ MM wr mb la ln lc ⟨#[65, 66, 67]⟩ at_ text opn ac ∧ Below mb w wr) (fun _ i _ => 3 - (intOf i).toNat)
 case atStart => exact ⟨0, ⟨#[]⟩, by decide, rfl, rfl, by decide, rfl, HM.out, Below.refl _ _⟩
 case round =>
  obtain ⟨k, o, hk, rfl, rfl, hosz, hfr, hm, hbe⟩ := hrel
  have c3 := hm.c3
  have c4 := hm.c4
  have HM1 : Hid (MM wr mb la ln lc ⟨#[65, 66, 67]⟩ at_ text opn ac) := hm
  have HB1 : Hid (Below mb w wr) := hbe
  have HFR : Hid (FreeAt opn.data.toList k o) := hfr
  clear hm hbe hfr
  have h6 : k = 0 ∨ k = 1 ∨ k = 2 ∨ k = 3 := by omega
  rcases h6 with rfl | rfl | rfl | rfl
  ·cases hin : inU opn.data.toList (UInt8.ofNat (65 + 0)) with
   | true =>
    have HN : Hid (frL opn.data.toList 1 = frL opn.data.toList 0) := fr_yes hin
    have HST : Hid (∀ wx, Calls Try.prog 26 #[.string opn, .int .u8 (((ByteArray.mk #[65, 66, 67])[0]).toNat : Int)] wx fun e w' => e = .returned (.bool true) ∧ w' = wx) := by
     intro wx
     have := kstands_any opn (ByteArray.mk #[65, 66, 67])[0] wx (by unfold maxLen; omega)
     rw [show inU opn.data.toList (ByteArray.mk #[65, 66, 67])[0] = true from hin] at this
     exact this
    clear hin
    go_wp2
    go_quiet ((go_at_call 26; exact Calls.quiet_of_same (HST.out _)))
    go_wp2
    go_roundw
    case rel => exact ⟨1, o, by decide, rfl, rfl, by omega, (show o.data.toList = frL opn.data.toList 1 by rw [HN.out]; exact HFR.out), HM1.out.drewN _, HB1.out.trans (below_drewN' _ _ _)⟩
    case measure => simp [intOf]
   | false =>
    have HN : Hid (frL opn.data.toList 1 = frL opn.data.toList 0 ++ [UInt8.ofNat (65 + 0)]) := fr_no hin
    have HST : Hid (∀ wx, Calls Try.prog 26 #[.string opn, .int .u8 (((ByteArray.mk #[65, 66, 67])[0]).toNat : Int)] wx fun e w' => e = .returned (.bool false) ∧ w' = wx) := by
     intro wx
     have := kstands_any opn (ByteArray.mk #[65, 66, 67])[0] wx (by unfold maxLen; omega)
     rw [show inU opn.data.toList (ByteArray.mk #[65, 66, 67])[0] = false from hin] at this
     exact this
    clear hin
    go_wp2
    go_quiet ((go_at_call 26; exact Calls.quiet_of_same (HST.out _)))
    go_wp2
    go_roundw
    case rel =>
     refine ⟨1, o ++ (ByteArray.mk #[65, 66, 67]).extract 0 1, by decide, rfl, rfl, ?_, ?_, HM1.out.drewN _, HB1.out.trans (below_drewN' _ _ _)⟩
     ·rw [ByteArray.size_append]
      have : ((ByteArray.mk #[65, 66, 67]).extract 0 1).size = 1 := by decide
      omega
     ·show (o ++ (ByteArray.mk #[65, 66, 67]).extract 0 1).data.toList = _
      rw [cat_data, HN.out, show o.data.toList = frL opn.data.toList 0 from HFR.out]
      rfl
    case measure => simp [intOf]
  ·cases hin : inU opn.data.toList (UInt8.ofNat (65 + 1)) with
   | true =>
    have HN : Hid (frL opn.data.toList 2 = frL opn.data.toList 1) := fr_yes hin
    have HST : Hid (∀ wx, Calls Try.prog 26 #[.string opn, .int .u8 (((ByteArray.mk #[65, 66, 67])[1]).toNat : Int)] wx fun e w' => e = .returned (.bool true) ∧ w' = wx) := by
     intro wx
     have := kstands_any opn (ByteArray.mk #[65, 66, 67])[1] wx (by unfold maxLen; omega)
     rw [show inU opn.data.toList (ByteArray.mk #[65, 66, 67])[1] = true from hin] at this
     exact this
    clear hin
    go_wp2
    go_quiet ((go_at_call 26; exact Calls.quiet_of_same (HST.out _)))
    go_wp2
    go_roundw
    case rel => exact ⟨2, o, by decide, rfl, rfl, by omega, (show o.data.toList = frL opn.data.toList 2 by rw [HN.out]; exact HFR.out), HM1.out.drewN _, HB1.out.trans (below_drewN' _ _ _)⟩
    case measure => simp [intOf]
   | false =>
    have HN : Hid (frL opn.data.toList 2 = frL opn.data.toList 1 ++ [UInt8.ofNat (65 + 1)]) := fr_no hin
    have HST : Hid (∀ wx, Calls Try.prog 26 #[.string opn, .int .u8 (((ByteArray.mk #[65, 66, 67])[1]).toNat : Int)] wx fun e w' => e = .returned (.bool false) ∧ w' = wx) := by
     intro wx
     have := kstands_any opn (ByteArray.mk #[65, 66, 67])[1] wx (by unfold maxLen; omega)
     rw [show inU opn.data.toList (ByteArray.mk #[65, 66, 67])[1] = false from hin] at this
     exact this
    clear hin
    go_wp2
    go_quiet ((go_at_call 26; exact Calls.quiet_of_same (HST.out _)))
    go_wp2
    go_roundw
    case rel =>
     refine ⟨2, o ++ (ByteArray.mk #[65, 66, 67]).extract 1 2, by decide, rfl, rfl, ?_, ?_, HM1.out.drewN _, HB1.out.trans (below_drewN' _ _ _)⟩
     ·rw [ByteArray.size_append]
      have : ((ByteArray.mk #[65, 66, 67]).extract 1 2).size = 1 := by decide
      omega
     ·show (o ++ (ByteArray.mk #[65, 66, 67]).extract 1 2).data.toList = _
      rw [cat_data, HN.out, show o.data.toList = frL opn.data.toList 1 from HFR.out]
      rfl
    case measure => simp [intOf]
  ·cases hin : inU opn.data.toList (UInt8.ofNat (65 + 2)) with
   | true =>
    have HN : Hid (frL opn.data.toList 3 = frL opn.data.toList 2) := fr_yes hin
    have HST : Hid (∀ wx, Calls Try.prog 26 #[.string opn, .int .u8 (((ByteArray.mk #[65, 66, 67])[2]).toNat : Int)] wx fun e w' => e = .returned (.bool true) ∧ w' = wx) := by
     intro wx
     have := kstands_any opn (ByteArray.mk #[65, 66, 67])[2] wx (by unfold maxLen; omega)
     rw [show inU opn.data.toList (ByteArray.mk #[65, 66, 67])[2] = true from hin] at this
     exact this
    clear hin
    go_wp2
    go_quiet ((go_at_call 26; exact Calls.quiet_of_same (HST.out _)))
    go_wp2
    go_roundw
    case rel => exact ⟨3, o, by decide, rfl, rfl, by omega, (show o.data.toList = frL opn.data.toList 3 by rw [HN.out]; exact HFR.out), HM1.out.drewN _, HB1.out.trans (below_drewN' _ _ _)⟩
    case measure => simp [intOf]
   | false =>
    have HN : Hid (frL opn.data.toList 3 = frL opn.data.toList 2 ++ [UInt8.ofNat (65 + 2)]) := fr_no hin
    have HST : Hid (∀ wx, Calls Try.prog 26 #[.string opn, .int .u8 (((ByteArray.mk #[65, 66, 67])[2]).toNat : Int)] wx fun e w' => e = .returned (.bool false) ∧ w' = wx) := by
     intro wx
     have := kstands_any opn (ByteArray.mk #[65, 66, 67])[2] wx (by unfold maxLen; omega)
     rw [show inU opn.data.toList (ByteArray.mk #[65, 66, 67])[2] = false from hin] at this
     exact this
    clear hin
    go_wp2
    go_quiet ((go_at_call 26; exact Calls.quiet_of_same (HST.out _)))
    go_wp2
    go_roundw
    case rel =>
     refine ⟨3, o ++ (ByteArray.mk #[65, 66, 67]).extract 2 3, by decide, rfl, rfl, ?_, ?_, HM1.out.drewN _, HB1.out.trans (below_drewN' _ _ _)⟩
     ·rw [ByteArray.size_append]
      have : ((ByteArray.mk #[65, 66, 67]).extract 2 3).size = 1 := by decide
      omega
     ·show (o ++ (ByteArray.mk #[65, 66, 67]).extract 2 3).data.toList = _
      rw [cat_data, HN.out, show o.data.toList = frL opn.data.toList 2 from HFR.out]
      rfl
    case measure => simp [intOf]
  ·go_wp2
   go_ret
   exact ⟨o, by omega, HFR.out, rfl, HM1.out, HB1.out⟩
theorem free_any (mb : Nat) (la : Option Addr) (ln lc : Nat) (lk : ByteArray) (at_ : Nat) (text opn : ByteArray) (ac : Nat) (w : World) (h : MM w mb la ln lc lk at_ text opn ac) :
  Calls Try.prog 65 #[.pointer (some ⟨mb, 0, none⟩)] w fun e w' => Freed w w' mb la ln lc lk at_ text opn ac e := by
 rcases h.lo with rfl | rfl
 ·exact free_four mb la ln lc at_ text opn ac w h
 ·exact free_three mb la ln lc at_ text opn ac w h
end Go.Proofs.Ytdgkpkdinfklaab

namespace Go.Proofs.Ytdgkpkdinfklaab
open Go.RowKit
def Commanded (w w' : World) (mb : Nat) (la : Option Addr) (ln lc : Nat) (lk : ByteArray) (text opn : ByteArray) (e : Ending) : Prop :=
 ∃ (s more opn' : ByteArray) (at_ ac : Nat), e = .returned (.tuple #[.string s, .string more]) ∧ MM w' mb la ln lc lk at_ text opn' ac ∧ Below mb w w' ∧ s.size ≤ 2 ∧ more.size ≤ 6 ∧ TX lk (text ++ s) ac ∧
  ((s.data.toList = [] ∧ opn' = opn) ∨ (text.size ≤ 70 ∧ s.data.toList ≠ [] ∧ Cmd opn.data.toList s.data.toList more.data.toList opn'.data.toList))
set_option maxHeartbeats 3200000 in
set_option maxRecDepth 100000 in
theorem command_any (mb : Nat) (la : Option Addr) (ln lc : Nat) (lk : ByteArray) (at_ : Nat) (text opn : ByteArray) (ac : Nat) (w : World) (h : MM w mb la ln lc lk at_ text opn ac) (ho : opn.size ≤ 200) :
  Calls Try.prog 50 #[.pointer (some ⟨mb, 0, none⟩)] w fun e w' => Commanded w w' mb la ln lc lk text opn e := by
 have HM : Hid (MM w mb la ln lc lk at_ text opn ac) := h
 have HTX : Hid (TX lk text ac) := h.tx
 have HLO : Hid (lk = ⟨#[65, 66, 67, 68]⟩ ∨ lk = ⟨#[65, 66, 67]⟩) := h.lo
 clear h
 go_enter Try.func50, Try.ntmps50
 go_wp2_with fail
 refine (mpick_any mb 12 la ln lc lk at_ text opn ac w HM.out (by decide) (by decide)).mono ?_
 rintro e w1 ⟨r, at1, hr, h70, rfl, hm1, hb1⟩
 have HM1 : Hid (MM w1 mb la ln lc lk at1 text opn ac) := hm1
 have HB1 : Hid (Below mb w w1) := hb1
 have H70 : Hid (r ≠ 0 → text.size ≤ 70) := h70
 have c5 := hm1.c5
 have f5 := hm1.fz 5
 have hac := hm1.ac10
 clear hm1 hb1 h70 HM
 have h12 : r = 0 ∨ r = 1 ∨ r = 2 ∨ r = 3 ∨ r = 4 ∨ r = 5 ∨ r = 6 ∨ r = 7 ∨ r = 8 ∨ r = 9 ∨ r = 10 ∨ r = 11 := by omega
 rcases h12 with rfl | rfl | rfl | rfl | rfl | rfl | rfl | rfl | rfl | rfl | rfl | rfl
 ·go_wp2
  go_ret2
  exact ⟨⟨#[]⟩, ⟨#[]⟩, opn, at1, ac, rfl, HM1.out, HB1.out, by decide, by decide, HTX.out.app0 (by decide) (by decide) (by decide), .inl ⟨rfl, rfl⟩⟩
 ·by_cases h10 : 10 ≤ ac
  ·go_wp2
   go_ret2
   exact ⟨⟨#[111]⟩, ⟨#[]⟩, opn, at1, ac, rfl, HM1.out, HB1.out, by decide, by decide, HTX.out.app0 (by decide) (by decide) (by decide), .inr ⟨H70.out (by decide), by decide, .out⟩⟩
  ·have hm2 : Hid (MM (w1.setCell ⟨mb, 5, none⟩ (.int .i64 ((ac : Int) + 1))) mb la ln lc lk at1 text opn (ac + 1)) := HM1.out.setAcc (ac + 1) (by omega) (by omega)
   go_wp2_with fail
   refine (mpick_any mb 3 la ln lc lk at1 text opn (ac + 1) _ hm2.out (by decide) (by decide)).mono ?_
   rintro e w2 ⟨j, at2, hj, _, rfl, hm3, hb3⟩
   have HM3 : Hid (MM w2 mb la ln lc lk at2 text opn (ac + 1)) := hm3
   have HB3 : Hid (Below mb w w2) := (HB1.out.setCell (by simp) _).trans hb3
   clear hm3 hb3 c5 f5
   have h3 : j = 0 ∨ j = 1 ∨ j = 2 := by omega
   rcases h3 with rfl | rfl | rfl
   all_goals
    go_wp2_with fail
    go_quiet (fail)
    go_wp2
    go_ret2
    exact ⟨_, ⟨#[]⟩, opn, at2, ac + 1, rfl, HM3.out.drewN _, HB3.out.trans (below_drewN' _ _ _), by decide, by decide, HTX.out.app1 (by decide) (by decide) (by decide), .inr ⟨H70.out (by decide), by decide, .acc (.inl rfl) (by decide)⟩⟩
 ·by_cases h10 : 10 ≤ ac
  ·go_wp2
   go_ret2
   exact ⟨⟨#[111]⟩, ⟨#[]⟩, opn, at1, ac, rfl, HM1.out, HB1.out, by decide, by decide, HTX.out.app0 (by decide) (by decide) (by decide), .inr ⟨H70.out (by decide), by decide, .out⟩⟩
  ·have hm2 : Hid (MM (w1.setCell ⟨mb, 5, none⟩ (.int .i64 ((ac : Int) + 1))) mb la ln lc lk at1 text opn (ac + 1)) := HM1.out.setAcc (ac + 1) (by omega) (by omega)
   go_wp2_with fail
   refine (mpick_any mb 3 la ln lc lk at1 text opn (ac + 1) _ hm2.out (by decide) (by decide)).mono ?_
   rintro e w2 ⟨j, at2, hj, _, rfl, hm3, hb3⟩
   have HM3 : Hid (MM w2 mb la ln lc lk at2 text opn (ac + 1)) := hm3
   have HB3 : Hid (Below mb w w2) := (HB1.out.setCell (by simp) _).trans hb3
   clear hm3 hb3 c5 f5
   have h3 : j = 0 ∨ j = 1 ∨ j = 2 := by omega
   rcases h3 with rfl | rfl | rfl
   all_goals
    go_wp2_with fail
    go_quiet (fail)
    go_wp2
    go_ret2
    exact ⟨_, ⟨#[]⟩, opn, at2, ac + 1, rfl, HM3.out.drewN _, HB3.out.trans (below_drewN' _ _ _), by decide, by decide, HTX.out.app1 (by decide) (by decide) (by decide), .inr ⟨H70.out (by decide), by decide, .acc (.inr rfl) (by decide)⟩⟩
 ·by_cases h10 : 10 ≤ ac
  ·go_wp2
   go_ret2
   exact ⟨⟨#[111]⟩, ⟨#[]⟩, opn, at1, ac, rfl, HM1.out, HB1.out, by decide, by decide, HTX.out.app0 (by decide) (by decide) (by decide), .inr ⟨H70.out (by decide), by decide, .out⟩⟩
  ·have hm2 : Hid (MM (w1.setCell ⟨mb, 5, none⟩ (.int .i64 ((ac : Int) + 1))) mb la ln lc lk at1 text opn (ac + 1)) := HM1.out.setAcc (ac + 1) (by omega) (by omega)
   go_wp2_with fail
   refine (mpick_any mb 3 la ln lc lk at1 text opn (ac + 1) _ hm2.out (by decide) (by decide)).mono ?_
   rintro e w2 ⟨j, at2, hj, _, rfl, hm3, hb3⟩
   have HM3 : Hid (MM w2 mb la ln lc lk at2 text opn (ac + 1)) := hm3
   have HB3 : Hid (Below mb w w2) := (HB1.out.setCell (by simp) _).trans hb3
   clear hm3 hb3 c5 f5
   have h3 : j = 0 ∨ j = 1 ∨ j = 2 := by omega
   rcases h3 with rfl | rfl | rfl
   all_goals
    go_wp2_with fail
    go_quiet (fail)
    go_wp2
    go_ret2
    exact ⟨_, ⟨#[]⟩, opn, at2, ac + 1, rfl, HM3.out.drewN _, HB3.out.trans (below_drewN' _ _ _), by decide, by decide, HTX.out.app1 (by decide) (by decide) (by decide), .inr ⟨H70.out (by decide), by decide, .acc (.inl rfl) (by decide)⟩⟩
 ·by_cases h10 : 10 ≤ ac
  ·go_wp2
   go_ret2
   exact ⟨⟨#[111]⟩, ⟨#[]⟩, opn, at1, ac, rfl, HM1.out, HB1.out, by decide, by decide, HTX.out.app0 (by decide) (by decide) (by decide), .inr ⟨H70.out (by decide), by decide, .out⟩⟩
  ·have hm2 : Hid (MM (w1.setCell ⟨mb, 5, none⟩ (.int .i64 ((ac : Int) + 1))) mb la ln lc lk at1 text opn (ac + 1)) := HM1.out.setAcc (ac + 1) (by omega) (by omega)
   go_wp2_with fail
   refine (mpick_any mb 3 la ln lc lk at1 text opn (ac + 1) _ hm2.out (by decide) (by decide)).mono ?_
   rintro e w2 ⟨j, at2, hj, _, rfl, hm3, hb3⟩
   have HM3 : Hid (MM w2 mb la ln lc lk at2 text opn (ac + 1)) := hm3
   have HB3 : Hid (Below mb w w2) := (HB1.out.setCell (by simp) _).trans hb3
   clear hm3 hb3 c5 f5
   have h3 : j = 0 ∨ j = 1 ∨ j = 2 := by omega
   rcases h3 with rfl | rfl | rfl
   all_goals
    go_wp2_with fail
    go_quiet (fail)
    go_wp2
    go_ret2
    exact ⟨_, ⟨#[]⟩, opn, at2, ac + 1, rfl, HM3.out.drewN _, HB3.out.trans (below_drewN' _ _ _), by decide, by decide, HTX.out.app1 (by decide) (by decide) (by decide), .inr ⟨H70.out (by decide), by decide, .acc (.inr rfl) (by decide)⟩⟩
 ·go_wp2_with fail
  refine (free_any mb la ln lc lk at1 text opn ac w1 HM1.out).mono ?_
  rintro e w2 ⟨o, hos, hfr, rfl, hm2, hb2⟩
  have HM2 : Hid (MM w2 mb la ln lc lk at1 text opn ac) := hm2
  have HB2 : Hid (Below mb w w2) := HB1.out.trans hb2
  have HFR : Hid (FreeAt opn.data.toList lk.size o) := hfr
  clear hm2 hb2 hfr c5 f5
  by_cases h0 : o.size = 0
  ·have hf0 : o = ⟨#[]⟩ := by
    apply ByteArray.ext
    exact Array.eq_empty_of_size_eq_zero h0
   subst hf0
   go_wp2
   go_ret2
   exact ⟨⟨#[105, 49]⟩, ⟨#[]⟩, opn, at1, ac, rfl, HM2.out, HB2.out, by decide, by decide, HTX.out.app0 (by decide) (by decide) (by decide), .inr ⟨H70.out (by decide), by decide, .add (by decide)⟩⟩
  ·have hne := ne_empty o (by omega)
   have hop : 0 < o.size := by omega
   go_wp2_with fail
   refine (mpick_any mb o.size la ln lc lk at1 text opn ac w2 HM2.out hop (by omega)).mono ?_
   rintro e w3 ⟨j, at3, hj, _, rfl, hm3, hb3⟩
   have c3 := hm3.c3
   have f3 := hm3.fz 3
   have HM3 : Hid (MM w3 mb la ln lc lk at3 text opn ac) := hm3
   have HB3 : Hid (Below mb w w3) := HB2.out.trans hb3
   have HX : Hid ((o.extract j (j + 1)).data.toList = [o[j]]) := by
    show (o.extract j (j + 1)).data.toList = [o[j]]
    rw [mid_data, List.drop_eq_getElem_cons (by simpa using hj)]
    rfl
   have hxs : (o.extract j (j + 1)).size = 1 := by
    have e1 := len_eq (o.extract j (j + 1))
    rw [HX.out] at e1
    exact e1.symm
   have HMEM : Hid (inU [65, 66, 67, 68] o[j] = true ∧ inU opn.data.toList o[j] = false) := by
    refine fr_mem opn.data.toList lk.size (by rcases HLO.out with e | e <;> rw [e] <;> decide) o[j] ?_
    rw [← show o.data.toList = frL opn.data.toList lk.size from HFR.out]
    simp [ByteArray.getElem_eq_getElem_data]
   have HRT : Hid (TX lk (text ++ ((⟨#[91]⟩ : ByteArray) ++ o.extract j (j + 1))) ac) := by
    have hm : o[j] = 65 ∨ o[j] = 66 ∨ o[j] = 67 ∨ o[j] = 68 := by
     have := HMEM.out.1
     simp [inU] at this
     rcases this with h | h | h | h
     ·exact .inl h.symm
     ·exact .inr (.inl h.symm)
     ·exact .inr (.inr (.inl h.symm))
     ·exact .inr (.inr (.inr h.symm))
    refine HTX.out.app (k := 0) ?_ ?_ (fun hl => ?_)
    ·rw [cat_data, HX.out]
     rcases hm with e | e | e | e <;> rw [e] <;> decide
    ·rw [cat_data, HX.out]
     rcases hm with e | e | e | e <;> rw [e] <;> decide
    ·have h3 := fr_three opn.data.toList o[j] (by
      rw [← show o.data.toList = frL opn.data.toList 3 by rw [show o.data.toList = frL opn.data.toList lk.size from HFR.out, hl]; rfl]
      simp [ByteArray.getElem_eq_getElem_data])
     rw [cat_data, HX.out]
     rcases hm with e | e | e | e
     ·rw [e]; decide
     ·rw [e]; decide
     ·rw [e]; decide
     ·exact absurd e h3
   have HM4 : Hid (MM (w3.setCell ⟨mb, 3, none⟩ (.string (opn ++ o.extract j (j + 1)))) mb la ln lc lk at3 text (opn ++ o.extract j (j + 1)) ac) := HM3.out.setOpen _ (by rw [ByteArray.size_append, hxs]; omega)
   clear hm3 hb3
   go_wp2_with fail
   go_region
   all_goals
    go_wp2
    go_ret2
    refine ⟨(⟨#[91]⟩ : ByteArray) ++ o.extract j (j + 1), ⟨#[66, 93]⟩, opn ++ o.extract j (j + 1), at3, ac, rfl, HM4.out.drew, (HB3.out.setCell (p := ⟨mb, 3, none⟩) (Nat.le_refl _) _).drew, ?_, by decide, HRT.out, .inr ⟨H70.out (by decide), ?_, ?_⟩⟩
    ·rw [ByteArray.size_append, hxs]; decide
    ·rw [cat_data, HX.out]; simp
    ·rw [cat_data, cat_data, HX.out]
     exact .reg HMEM.out.1 HMEM.out.2
 ·go_wp2_with fail
  refine (free_any mb la ln lc lk at1 text opn ac w1 HM1.out).mono ?_
  rintro e w2 ⟨o, hos, hfr, rfl, hm2, hb2⟩
  have HM2 : Hid (MM w2 mb la ln lc lk at1 text opn ac) := hm2
  have HB2 : Hid (Below mb w w2) := HB1.out.trans hb2
  have HFR : Hid (FreeAt opn.data.toList lk.size o) := hfr
  clear hm2 hb2 hfr c5 f5
  by_cases h0 : o.size = 0
  ·have hf0 : o = ⟨#[]⟩ := by
    apply ByteArray.ext
    exact Array.eq_empty_of_size_eq_zero h0
   subst hf0
   go_wp2
   go_ret2
   exact ⟨⟨#[105, 49]⟩, ⟨#[]⟩, opn, at1, ac, rfl, HM2.out, HB2.out, by decide, by decide, HTX.out.app0 (by decide) (by decide) (by decide), .inr ⟨H70.out (by decide), by decide, .add (by decide)⟩⟩
  ·have hne := ne_empty o (by omega)
   have hop : 0 < o.size := by omega
   go_wp2_with fail
   refine (mpick_any mb o.size la ln lc lk at1 text opn ac w2 HM2.out hop (by omega)).mono ?_
   rintro e w3 ⟨j, at3, hj, _, rfl, hm3, hb3⟩
   have c3 := hm3.c3
   have f3 := hm3.fz 3
   have HM3 : Hid (MM w3 mb la ln lc lk at3 text opn ac) := hm3
   have HB3 : Hid (Below mb w w3) := HB2.out.trans hb3
   have HX : Hid ((o.extract j (j + 1)).data.toList = [o[j]]) := by
    show (o.extract j (j + 1)).data.toList = [o[j]]
    rw [mid_data, List.drop_eq_getElem_cons (by simpa using hj)]
    rfl
   have hxs : (o.extract j (j + 1)).size = 1 := by
    have e1 := len_eq (o.extract j (j + 1))
    rw [HX.out] at e1
    exact e1.symm
   have HMEM : Hid (inU [65, 66, 67, 68] o[j] = true ∧ inU opn.data.toList o[j] = false) := by
    refine fr_mem opn.data.toList lk.size (by rcases HLO.out with e | e <;> rw [e] <;> decide) o[j] ?_
    rw [← show o.data.toList = frL opn.data.toList lk.size from HFR.out]
    simp [ByteArray.getElem_eq_getElem_data]
   have HRT : Hid (TX lk (text ++ ((⟨#[91]⟩ : ByteArray) ++ o.extract j (j + 1))) ac) := by
    have hm : o[j] = 65 ∨ o[j] = 66 ∨ o[j] = 67 ∨ o[j] = 68 := by
     have := HMEM.out.1
     simp [inU] at this
     rcases this with h | h | h | h
     ·exact .inl h.symm
     ·exact .inr (.inl h.symm)
     ·exact .inr (.inr (.inl h.symm))
     ·exact .inr (.inr (.inr h.symm))
    refine HTX.out.app (k := 0) ?_ ?_ (fun hl => ?_)
    ·rw [cat_data, HX.out]
     rcases hm with e | e | e | e <;> rw [e] <;> decide
    ·rw [cat_data, HX.out]
     rcases hm with e | e | e | e <;> rw [e] <;> decide
    ·have h3 := fr_three opn.data.toList o[j] (by
      rw [← show o.data.toList = frL opn.data.toList 3 by rw [show o.data.toList = frL opn.data.toList lk.size from HFR.out, hl]; rfl]
      simp [ByteArray.getElem_eq_getElem_data])
     rw [cat_data, HX.out]
     rcases hm with e | e | e | e
     ·rw [e]; decide
     ·rw [e]; decide
     ·rw [e]; decide
     ·exact absurd e h3
   have HM4 : Hid (MM (w3.setCell ⟨mb, 3, none⟩ (.string (opn ++ o.extract j (j + 1)))) mb la ln lc lk at3 text (opn ++ o.extract j (j + 1)) ac) := HM3.out.setOpen _ (by rw [ByteArray.size_append, hxs]; omega)
   clear hm3 hb3
   go_wp2_with fail
   go_region
   all_goals
    go_wp2
    go_ret2
    refine ⟨(⟨#[91]⟩ : ByteArray) ++ o.extract j (j + 1), ⟨#[66, 93]⟩, opn ++ o.extract j (j + 1), at3, ac, rfl, HM4.out.drew, (HB3.out.setCell (p := ⟨mb, 3, none⟩) (Nat.le_refl _) _).drew, ?_, by decide, HRT.out, .inr ⟨H70.out (by decide), ?_, ?_⟩⟩
    ·rw [ByteArray.size_append, hxs]; decide
    ·rw [cat_data, HX.out]; simp
    ·rw [cat_data, cat_data, HX.out]
     exact .reg HMEM.out.1 HMEM.out.2
 ·go_wp2_with fail
  refine (free_any mb la ln lc lk at1 text opn ac w1 HM1.out).mono ?_
  rintro e w2 ⟨o, hos, hfr, rfl, hm2, hb2⟩
  have HM2 : Hid (MM w2 mb la ln lc lk at1 text opn ac) := hm2
  have HB2 : Hid (Below mb w w2) := HB1.out.trans hb2
  have HFR : Hid (FreeAt opn.data.toList lk.size o) := hfr
  clear hm2 hb2 hfr c5 f5
  by_cases h0 : o.size = 0
  ·have hf0 : o = ⟨#[]⟩ := by
    apply ByteArray.ext
    exact Array.eq_empty_of_size_eq_zero h0
   subst hf0
   go_wp2
   go_ret2
   exact ⟨⟨#[105, 49]⟩, ⟨#[]⟩, opn, at1, ac, rfl, HM2.out, HB2.out, by decide, by decide, HTX.out.app0 (by decide) (by decide) (by decide), .inr ⟨H70.out (by decide), by decide, .add (by decide)⟩⟩
  ·have hne := ne_empty o (by omega)
   have hop : 0 < o.size := by omega
   go_wp2_with fail
   refine (mpick_any mb o.size la ln lc lk at1 text opn ac w2 HM2.out hop (by omega)).mono ?_
   rintro e w3 ⟨j, at3, hj, _, rfl, hm3, hb3⟩
   have c3 := hm3.c3
   have f3 := hm3.fz 3
   have HM3 : Hid (MM w3 mb la ln lc lk at3 text opn ac) := hm3
   have HB3 : Hid (Below mb w w3) := HB2.out.trans hb3
   have HX : Hid ((o.extract j (j + 1)).data.toList = [o[j]]) := by
    show (o.extract j (j + 1)).data.toList = [o[j]]
    rw [mid_data, List.drop_eq_getElem_cons (by simpa using hj)]
    rfl
   have hxs : (o.extract j (j + 1)).size = 1 := by
    have e1 := len_eq (o.extract j (j + 1))
    rw [HX.out] at e1
    exact e1.symm
   have HMEM : Hid (inU [65, 66, 67, 68] o[j] = true ∧ inU opn.data.toList o[j] = false) := by
    refine fr_mem opn.data.toList lk.size (by rcases HLO.out with e | e <;> rw [e] <;> decide) o[j] ?_
    rw [← show o.data.toList = frL opn.data.toList lk.size from HFR.out]
    simp [ByteArray.getElem_eq_getElem_data]
   have HRT : Hid (TX lk (text ++ ((⟨#[91]⟩ : ByteArray) ++ o.extract j (j + 1))) ac) := by
    have hm : o[j] = 65 ∨ o[j] = 66 ∨ o[j] = 67 ∨ o[j] = 68 := by
     have := HMEM.out.1
     simp [inU] at this
     rcases this with h | h | h | h
     ·exact .inl h.symm
     ·exact .inr (.inl h.symm)
     ·exact .inr (.inr (.inl h.symm))
     ·exact .inr (.inr (.inr h.symm))
    refine HTX.out.app (k := 0) ?_ ?_ (fun hl => ?_)
    ·rw [cat_data, HX.out]
     rcases hm with e | e | e | e <;> rw [e] <;> decide
    ·rw [cat_data, HX.out]
     rcases hm with e | e | e | e <;> rw [e] <;> decide
    ·have h3 := fr_three opn.data.toList o[j] (by
      rw [← show o.data.toList = frL opn.data.toList 3 by rw [show o.data.toList = frL opn.data.toList lk.size from HFR.out, hl]; rfl]
      simp [ByteArray.getElem_eq_getElem_data])
     rw [cat_data, HX.out]
     rcases hm with e | e | e | e
     ·rw [e]; decide
     ·rw [e]; decide
     ·rw [e]; decide
     ·exact absurd e h3
   have HM4 : Hid (MM (w3.setCell ⟨mb, 3, none⟩ (.string (opn ++ o.extract j (j + 1)))) mb la ln lc lk at3 text (opn ++ o.extract j (j + 1)) ac) := HM3.out.setOpen _ (by rw [ByteArray.size_append, hxs]; omega)
   clear hm3 hb3
   go_wp2_with fail
   go_region
   all_goals
    go_wp2
    go_ret2
    refine ⟨(⟨#[91]⟩ : ByteArray) ++ o.extract j (j + 1), ⟨#[66, 93]⟩, opn ++ o.extract j (j + 1), at3, ac, rfl, HM4.out.drew, (HB3.out.setCell (p := ⟨mb, 3, none⟩) (Nat.le_refl _) _).drew, ?_, by decide, HRT.out, .inr ⟨H70.out (by decide), ?_, ?_⟩⟩
    ·rw [ByteArray.size_append, hxs]; decide
    ·rw [cat_data, HX.out]; simp
    ·rw [cat_data, cat_data, HX.out]
     exact .reg HMEM.out.1 HMEM.out.2
 ·go_wp2
  go_ret2
  exact ⟨⟨#[63]⟩, ⟨#[123, 66, 125, 123, 66, 125]⟩, opn, at1, ac, rfl, HM1.out, HB1.out, by decide, by decide, HTX.out.app0 (by decide) (by decide) (by decide), .inr ⟨H70.out (by decide), by decide, .ask⟩⟩
 ·go_wp2
  go_ret2
  exact ⟨⟨#[33]⟩, ⟨#[123, 66, 125]⟩, opn, at1, ac, rfl, HM1.out, HB1.out, by decide, by decide, HTX.out.app0 (by decide) (by decide) (by decide), .inr ⟨H70.out (by decide), by decide, .rep⟩⟩
 ·go_wp2
  go_ret2
  exact ⟨⟨#[111]⟩, ⟨#[]⟩, opn, at1, ac, rfl, HM1.out, HB1.out, by decide, by decide, HTX.out.app0 (by decide) (by decide) (by decide), .inr ⟨H70.out (by decide), by decide, .out⟩⟩
 ·go_wp2_with fail
  refine (mpick_any mb 10 la ln lc lk at1 text opn ac w1 HM1.out (by decide) (by decide)).mono ?_
  rintro e w2 ⟨j, at2, hj, _, rfl, hm3, hb3⟩
  have HM3 : Hid (MM w2 mb la ln lc lk at2 text opn ac) := hm3
  have HB3 : Hid (Below mb w w2) := HB1.out.trans hb3
  clear hm3 hb3 c5 f5
  have h3 : j = 0 ∨ j = 1 ∨ j = 2 ∨ j = 3 ∨ j = 4 ∨ j = 5 ∨ j = 6 ∨ j = 7 ∨ j = 8 ∨ j = 9 := by omega
  rcases h3 with rfl | rfl | rfl | rfl | rfl | rfl | rfl | rfl | rfl | rfl
  all_goals
   go_wp2
   go_ret2
   exact ⟨_, ⟨#[]⟩, opn, at2, ac, rfl, HM3.out, HB3.out, by decide, by decide, HTX.out.app0 (by decide) (by decide) (by decide), .inr ⟨H70.out (by decide), by decide, .add (by decide)⟩⟩
end Go.Proofs.Ytdgkpkdinfklaab

namespace Go.Proofs.Ytdgkpkdinfklaab
open Go.RowKit
structure Mid (w wr : World) (mb : Nat) (la : Option Addr) (ln lc : Nat) (lk : ByteArray) (t k : Nat) (todo : ByteArray) : Prop where
 mid : ∃ text opn at_ ac, MM wr mb la ln lc lk at_ text opn ac ∧ Gen t text.data.toList todo.data.toList opn.data.toList ∧ k = 10 * (200 - text.size) + todo.size
 below : Below mb w wr
 kb : k ≤ 2001
theorem head_data (s : ByteArray) (h : 0 < s.size) : s.data.toList = s[0] :: (s.extract 1 s.size).data.toList := by
 rw [tail_data]
 exact List.drop_eq_getElem_cons (l := s.data.toList) (i := 0) (by simpa using h)
theorem gen_sizes {t : Nat} {text todo opn : ByteArray} (h : Gen t text.data.toList todo.data.toList opn.data.toList) : text.size ≤ 184 ∧ opn.size ≤ 184 := by
 have h1 := h.bound
 have h2 := h.t4
 have h3 := h.shut
 rw [len_eq] at h1 h3
 have h4 : shuts todo.data.toList ≤ lits todo.data.toList := by
  unfold shuts lits
  generalize todo.data.toList = l
  induction l with
  | nil => exact Nat.le_refl _
  | cons x r ih =>
   by_cases hx : x = 93
   ·subst hx; simp; simpa using ih
   ·by_cases hy : x = 66
    ·subst hy; simpa using ih
    ·simp [hx, hy]; omega
 omega
def ThreadOut (w w' : World) (mb : Nat) (la : Option Addr) (ln lc : Nat) (lk : ByteArray) (t : Nat) : Prop :=
 ∃ text' opn' at' ac', MM w' mb la ln lc lk at' text' opn' ac' ∧ Gen t text'.data.toList [] opn'.data.toList ∧ Below mb w w'
set_option maxHeartbeats 3200000 in
set_option maxRecDepth 100000 in
theorem thread_any (mb : Nat) (la : Option Addr) (ln lc : Nat) (lk : ByteArray) (at_ t : Nat) (text opn : ByteArray) (ac : Nat) (w : World) (h : MM w mb la ln lc lk at_ text opn ac) (hg : Gen t text.data.toList [66] opn.data.toList) :
  Calls Try.prog 37 #[.pointer (some ⟨mb, 0, none⟩)] w fun e w' => e = .returned (.tuple #[]) ∧ ThreadOut w w' mb la ln lc lk t := by
 have HM : Hid (MM w mb la ln lc lk at_ text opn ac) := h
 have HG : Hid (Gen t text.data.toList [66] opn.data.toList) := hg
 clear h hg
 go_enter Try.func37, Try.ntmps37
 go_wp2
 go_loopg [2] (10 * (200 - text.size) + 1) (fun k tv wr => ∃ todo : ByteArray, tv = .string todo ∧ Mid w wr mb la ln lc lk t k todo)
 case atStart => exact ⟨⟨#[66]⟩, rfl, ⟨text, opn, at_, ac, HM.out, HG.out, rfl⟩, Below.refl _ _, by omega⟩
 case round =>
  obtain ⟨todo, rfl, ⟨tx, op, at1, ac1, hm, hg, hk⟩, hbe, hkb⟩ := hrel
  have htd : todo.size ≤ 2001 := by omega
  obtain ⟨hts, hops⟩ := gen_sizes hg
  have HG1 : Hid (Gen t tx.data.toList todo.data.toList op.data.toList) := hg
  have HM1 : Hid (MM wr mb la ln lc lk at1 tx op ac1) := hm
  have HB1 : Hid (Below mb w wr) := hbe
  have c2 := hm.c2
  have c3 := hm.c3
  have f2 := hm.fz 2
  have f3 := hm.fz 3
  have hlt := hm.lt
  have hk' : Hid (gk = 10 * (200 - tx.size) + todo.size) := hk
  clear hg hm hbe hk
  by_cases h0 : todo.size = 0
  ·have hf0 : todo = ⟨#[]⟩ := by
    apply ByteArray.ext
    exact Array.eq_empty_of_size_eq_zero h0
   subst hf0
   go_wp2
   go_end0
   exact ⟨rfl, tx, op, at1, ac1, HM1.out, HG1.out, HB1.out⟩
  ·have hne := ne_empty todo (by omega)
   have hpos : 0 < todo.size := by omega
   have hhd := head_data todo hpos
   have hxs : (todo.extract 1 todo.size).size = todo.size - 1 := by simp
   by_cases h66 : todo[0] = 66
   ·have b66 : ((todo[0].toNat : Int) != 66) = false := by rw [h66]; rfl
    have HG2 : Hid (Gen t tx.data.toList (66 :: (todo.extract 1 todo.size).data.toList) op.data.toList) := by
     have := HG1.out; rw [hhd, h66] at this; exact this
    clear hhd h66
    go_wp2_with fail
    refine (command_any mb la ln lc lk at1 tx op ac1 wr HM1.out (by omega)).mono ?_
    rintro e w2 ⟨s, more, op', at2, ac2, rfl, hm2, hb2, hss, hms, htx, hcase⟩
    have HTX : Hid (TX lk (tx ++ s) ac2) := htx
    clear htx
    have HM2 : Hid (MM w2 mb la ln lc lk at2 tx op' ac2) := hm2
    have HB2 : Hid (Below mb w w2) := HB1.out.trans hb2
    have d2 := hm2.c2
    have e2 := hm2.fz 2
    clear hm2 hb2 c2 c3 f2 f3
    rcases hcase with ⟨hs0, rfl⟩ | ⟨h70, hsne, hcmd⟩
    ·have hs1 : s = ⟨#[]⟩ := by
      apply ByteArray.ext
      apply Array.toList_inj.1
      exact hs0
     subst hs1
     go_wp2
     go_roundg (10 * (200 - tx.size) + (todo.size - 1))
     case measure => have := hk'.out; omega
     case rel => exact ⟨todo.extract 1 todo.size, rfl, ⟨tx, op', at2, ac2, HM2.out, HG2.out.endB, by rw [hxs]⟩, HB2.out, by have := hk'.out; omega⟩
    ·have hsp : 0 < s.size := by
      have e1 := len_eq s
      have : s.data.toList.length ≠ 0 := fun e0 => hsne (List.eq_nil_of_length_eq_zero e0)
      omega
     have hsn := ne_empty s hsp
     have HG3 : Hid (Gen t (tx ++ s).data.toList (((more ++ (⟨#[66]⟩ : ByteArray)) ++ todo.extract 1 todo.size).data.toList) op'.data.toList) := by
      show Gen t (tx ++ s).data.toList (((more ++ (⟨#[66]⟩ : ByteArray)) ++ todo.extract 1 todo.size).data.toList) op'.data.toList
      have := HG2.out.cmd hcmd (by rw [len_eq]; exact h70)
      rw [cat_data, cat_data, cat_data, List.append_assoc]
      exact this
     have hsz2 := (gen_sizes HG3.out).1
     have HM3 : Hid (MM (w2.setCell ⟨mb, 2, none⟩ (.string (tx ++ s))) mb la ln lc lk at2 (tx ++ s) op' ac2) := HM2.out.setText _ (by omega) HTX.out
     have hcat : (tx ++ s).size = tx.size + s.size := ByteArray.size_append
     have htodo : (((more ++ (⟨#[66]⟩ : ByteArray)) ++ todo.extract 1 todo.size)).size = more.size + 1 + (todo.size - 1) := by
      rw [ByteArray.size_append, ByteArray.size_append, hxs]; rfl
     have HCAT : Hid ((tx ++ s).size = tx.size + s.size) := hcat
     have HTODO : Hid ((((more ++ (⟨#[66]⟩ : ByteArray)) ++ todo.extract 1 todo.size)).size = more.size + 1 + (todo.size - 1)) := htodo
     rw [hcat] at hsz2
     clear hcat htodo hcmd hsne hxs
     go_wp2
     go_roundg (10 * (200 - (tx.size + s.size)) + (more.size + 1 + (todo.size - 1)))
     case measure => have := hk'.out; omega
     case rel => exact ⟨_, rfl, ⟨tx ++ s, op', at2, ac2, HM3.out, HG3.out, by rw [HCAT.out, HTODO.out]⟩, HB2.out.setCell (by simp) _, by have := hk'.out; omega⟩
   ·have b66 : ((todo[0].toNat : Int) != 66) = true := by have := u8g h66; simp only [bne]; exact congrArg not this
    obtain ⟨ee, hee⟩ : ∃ ee, ee = todo[0] := ⟨_, rfl⟩
    have HGE : Hid (Gen t tx.data.toList (ee :: (todo.extract 1 todo.size).data.toList) op.data.toList) := by
     have := HG1.out; rw [hhd, ← hee] at this; exact this
    have hel : ee = 93 ∨ ee = 125 ∨ ee = 123 := by
     have hok := HGE.out.ok
     cases hok with
     | lit he _ => exact he
     | b _ _ => exact absurd hee.symm h66
    have he66 : ee ≠ 66 := by rw [hee]; exact h66
    have HGL := HGE.out.lit he66
    have hcat1 : (tx ++ (⟨#[ee]⟩ : ByteArray)).data.toList = tx.data.toList ++ [ee] := by rw [cat_data]
    rw [← hcat1] at HGL
    have hszc : (tx ++ (⟨#[ee]⟩ : ByteArray)).size = tx.size + 1 := by rw [ByteArray.size_append]; rfl
    have HM2 : Hid (MM ((wr.setCell ⟨mb, 2, none⟩ (.string (tx ++ (⟨#[ee]⟩ : ByteArray)))).alloc (.cells #[.int .u8 (ee.toNat : Int)] 5)) mb la ln lc lk at1 (tx ++ (⟨#[ee]⟩ : ByteArray)) op ac1) :=
     (HM1.out.setText _ (by omega) (HM1.out.tx.app0 (by rcases hel with e | e | e <;> rw [e] <;> decide) (by rcases hel with e | e | e <;> rw [e] <;> decide) (by rcases hel with e | e | e <;> rw [e] <;> decide))).below ((Below.refl _ _).alloc (Nat.le_refl _) _)
    have HB2 : Hid (Below mb w ((wr.setCell ⟨mb, 2, none⟩ (.string (tx ++ (⟨#[ee]⟩ : ByteArray)))).alloc (.cells #[.int .u8 (ee.toNat : Int)] 5))) := (HB1.out.setCell (p := ⟨mb, 2, none⟩) (Nat.le_refl _) _).alloc (by simp [World.setCell]; omega) _
    have hcv : (convert 56 9 (.slice (some ⟨wr.heap.size, 0, none⟩) 1 1)).run Try.prog (wr.alloc (.cells #[.int .u8 (ee.toNat : Int)] 5)).drew = .ok (.string ⟨#[ee]⟩) (wr.alloc (.cells #[.int .u8 (ee.toNat : Int)] 5)).drew := by
     refine run_convert_bytes_back (P := Try.prog) _ 56 9 5 ⟨wr.heap.size, 0, none⟩ 1 [ee] Try.underlying56 Try.underlying5 Try.underlying9 (fun j hj => ?_)
     have hj0 : j = 0 := by simpa using hj
     subst hj0
     rw [addr_at]
     show (wr.alloc _).cell? _ = _
     rw [World.cell?_alloc_at _ _ _ _ rfl]
     rfl
    have HS : Hid (todo[0] = ee) := hee.symm
    have hb' : ((todo[0].toNat : Int)) = (ee.toNat : Int) := by rw [hee]
    have hmeas : 10 * (200 - (tx.size + 1)) + (todo.size - 1) < gk := by have := hk'.out; omega
    clear hhd h66 HGE HG1
    by_cases h93 : ee = 93
    ·have b93 : ((ee.toNat : Int) == 93) = true := by rw [h93]; rfl
     rw [if_pos h93] at HGL
     have HGL1 : Hid (Gen t (tx ++ (⟨#[ee]⟩ : ByteArray)).data.toList (todo.extract 1 todo.size).data.toList op.data.toList.dropLast) := HGL
     clear HGL hcat1 hel he66 hee h93
     by_cases hop : op.size = 0
     ·have hop0 : op = ⟨#[]⟩ := by
       apply ByteArray.ext
       exact Array.eq_empty_of_size_eq_zero hop
      subst hop0
      go_wp2
      go_region
      all_goals
       go_wp2
       go_roundg (10 * (200 - (tx.size + 1)) + (todo.size - 1))
       case measure => exact hmeas
       case rel => exact ⟨_, rfl, ⟨tx ++ (⟨#[ee]⟩ : ByteArray), ⟨#[]⟩, at1, ac1, HM2.out.drew, HGL1.out, by rw [hszc, hxs]⟩, HB2.out.drew, by omega⟩
     ·have hopn := ne_empty op (by omega)
      have HX : Hid ((op.extract 0 (op.size - 1)).data.toList = op.data.toList.dropLast) := by
       show (op.extract 0 (op.size - 1)).data.toList = op.data.toList.dropLast
       rw [Lib.extract_data, List.drop_zero, List.dropLast_eq_take]
       simp
      have hxs2 : (op.extract 0 (op.size - 1)).size ≤ 240 := by simp; omega
      obtain ⟨w2, hw2⟩ : ∃ w2, w2 = ((wr.setCell ⟨mb, 2, none⟩ (.string (tx ++ (⟨#[ee]⟩ : ByteArray)))).alloc (.cells #[.int .u8 (ee.toNat : Int)] 5)).drew := ⟨_, rfl⟩
      have HM3 : Hid (MM w2 mb la ln lc lk at1 (tx ++ (⟨#[ee]⟩ : ByteArray)) op ac1) := by rw [hw2]; exact HM2.out.drew
      have HB3 : Hid (Below mb w w2) := by rw [hw2]; exact HB2.out.drew
      have HW2 : Hid (w2 = ((wr.setCell ⟨mb, 2, none⟩ (.string (tx ++ (⟨#[ee]⟩ : ByteArray)))).alloc (.cells #[.int .u8 (ee.toNat : Int)] 5)).drew) := hw2
      have HM4 : Hid (MM (w2.setCell ⟨mb, 3, none⟩ (.string (op.extract 0 (op.size - 1)))) mb la ln lc lk at1 (tx ++ (⟨#[ee]⟩ : ByteArray)) (op.extract 0 (op.size - 1)) ac1) := HM3.out.setOpen _ hxs2
      clear hw2
      go_wp2
      go_region
      all_goals
       rw [← HW2.out]
       have e3 := HM3.out.c3
       have z3 := HM3.out.fz 3
       go_wp2
       go_region
       all_goals
        go_wp2
        go_roundg (10 * (200 - (tx.size + 1)) + (todo.size - 1))
        case measure => exact hmeas
        case rel => exact ⟨_, rfl, ⟨_, _, at1, ac1, HM4.out.drew, by rw [HX.out]; exact HGL1.out, by rw [hszc, hxs]⟩, (HB3.out.setCell (p := ⟨mb, 3, none⟩) (Nat.le_refl _) _).drew, by omega⟩
    ·have b93 : ((ee.toNat : Int) == 93) = false := u8g h93
     rw [if_neg h93] at HGL
     have HGL1 : Hid (Gen t (tx ++ (⟨#[ee]⟩ : ByteArray)).data.toList (todo.extract 1 todo.size).data.toList op.data.toList) := HGL
     clear HGL hcat1 hel he66 hee h93
     go_wp2
     go_region
     all_goals
      go_wp2
      go_roundg (10 * (200 - (tx.size + 1)) + (todo.size - 1))
      case measure => exact hmeas
      case rel => exact ⟨_, rfl, ⟨_, _, at1, ac1, HM2.out.drew, HGL1.out, by rw [hszc, hxs]⟩, HB2.out.drew, by omega⟩
end Go.Proofs.Ytdgkpkdinfklaab

namespace Go.Proofs.Ytdgkpkdinfklaab
open Go.RowKit
def Between (w wr : World) (mb : Nat) (la : Option Addr) (ln lc : Nat) (lk : ByteArray) (k : Nat) : Prop :=
 ∃ text opn at_ ac, MM wr mb la ln lc lk at_ text opn ac ∧ ((k = 0 ∧ text = ⟨#[]⟩ ∧ opn = ⟨#[]⟩) ∨ (1 ≤ k ∧ Gen k text.data.toList [] opn.data.toList)) ∧ Below w.heap.size w wr
def ProgramIn (lk : ByteArray) (e : Ending) : Prop := ∃ (p : ByteArray) (t : Nat) (opn : List UInt8), e = .returned (.string p) ∧ Gen t p.data.toList [] opn ∧ TX lk p 10
set_option maxHeartbeats 1600000 in
set_option maxRecDepth 100000 in
theorem program_any (la : Option Addr) (ln lc : Nat) (lk : ByteArray) (hlo : lk = ⟨#[65, 66, 67, 68]⟩ ∨ lk = ⟨#[65, 66, 67]⟩) (w : World) (hi : IsInts w w.heap.size la ln) (hl : ln ≤ maxLen) :
  Calls Try.prog 23 #[.slice la ln lc, .string lk] w fun e w' => ProgramIn lk e ∧ Below w.heap.size w w' := by
 have HS : Hid (MM (w.alloc (.cells #[.slice la ln lc, .int .i64 0, .string ⟨#[]⟩, .string ⟨#[]⟩, .string lk, .int .i64 0] 66)) w.heap.size la ln lc lk 0 ⟨#[]⟩ ⟨#[]⟩ 0) := by
  refine ⟨by simp, ?_, ?_, ?_, ?_, ?_, ?_, fun i => World.frozen?_alloc_at _ _ _ _ rfl, hi.below ((Below.refl _ _).alloc (Nat.le_refl _) _), hl, Nat.zero_le _, by decide, by decide, by decide, hlo, ⟨by decide, by decide, fun _ => by decide⟩⟩
  all_goals (rw [World.cell?_alloc_at _ _ _ _ rfl]; rfl)
 have HB0 : Hid (Below w.heap.size w (w.alloc (.cells #[.slice la ln lc, .int .i64 0, .string ⟨#[]⟩, .string ⟨#[]⟩, .string lk, .int .i64 0] 66))) := (Below.refl _ _).alloc (Nat.le_refl _) _
 clear hi hl
 go_enter Try.func23, Try.ntmps23
 go_wp2_with fail
 refine (mpick_any w.heap.size 4 la ln lc lk 0 ⟨#[]⟩ ⟨#[]⟩ 0 _ HS.out (by decide) (by decide)).mono ?_
 rintro e w1 ⟨r, at1, hr, _, rfl, hm1, hb1⟩
 have HM1 : Hid (MM w1 w.heap.size la ln lc lk at1 ⟨#[]⟩ ⟨#[]⟩ 0) := hm1
 have HB1 : Hid (Below w.heap.size w w1) := HB0.out.trans hb1
 clear hm1 hb1 HS
 go_wp2
 go_loopw [7] (fun i wr => ∃ k : Nat, k ≤ r + 1 ∧ i = .int .i64 k ∧ Between w wr w.heap.size la ln lc lk k) (fun i _ => r + 1 - (intOf i).toNat)
 case atStart => exact ⟨0, Nat.zero_le _, rfl, ⟨#[]⟩, ⟨#[]⟩, at1, 0, HM1.out, .inl ⟨rfl, rfl, rfl⟩, HB1.out⟩
 case round =>
  obtain ⟨k, hk, rfl, text, opn, at2, ac, hm, hcase, hbe⟩ := hrel
  have HM2 : Hid (MM wr w.heap.size la ln lc lk at2 text opn ac) := hm
  have HB2 : Hid (Below w.heap.size w wr) := hbe
  have c2 := hm.c2
  have f2 := hm.fz 2
  have hts := hm.ts
  clear hm hbe
  by_cases hlt : k < r + 1
  ·rcases hcase with ⟨rfl, rfl, rfl⟩ | ⟨h1, hg⟩
   ·go_wp2_with fail
    refine (thread_any w.heap.size la ln lc lk at2 1 ⟨#[]⟩ ⟨#[]⟩ ac wr HM2.out Gen.start).mono ?_
    rintro e w2 ⟨rfl, hout⟩
    have HT : Hid (ThreadOut wr w2 w.heap.size la ln lc lk 1) := hout
    clear hout c2 f2
    go_wp2
    go_roundw
    case rel =>
     obtain ⟨tx, op, a3, ac3, m3, g3, b3⟩ := HT.out
     exact ⟨1, by omega, rfl, tx, op, a3, ac3, m3, .inr ⟨by decide, g3⟩, HB2.out.trans b3⟩
    case measure => simp [intOf]
   ·have HG : Hid (Gen (k + 1) (text ++ (⟨#[124]⟩ : ByteArray)).data.toList [66] opn.data.toList) := by
     show Gen (k + 1) (text ++ (⟨#[124]⟩ : ByteArray)).data.toList [66] opn.data.toList
     rw [cat_data]
     exact hg.bar (by omega)
    have hsz := hg.acc.1
    rw [len_eq] at hsz
    have hcat : (text ++ (⟨#[124]⟩ : ByteArray)).size = text.size + 1 := by rw [ByteArray.size_append]; rfl
    have HM3 : Hid (MM (wr.setCell ⟨w.heap.size, 2, none⟩ (.string (text ++ (⟨#[124]⟩ : ByteArray)))) w.heap.size la ln lc lk at2 (text ++ (⟨#[124]⟩ : ByteArray)) opn ac) := HM2.out.setText _ (by omega) (HM2.out.tx.app0 (by decide) (by decide) (by decide))
    have hk0 : (0 : Int) < (k : Int) := by omega
    clear hg hcat
    go_wp2_with fail
    refine (thread_any w.heap.size la ln lc lk at2 (k + 1) _ opn ac _ HM3.out HG.out).mono ?_
    rintro e w2 ⟨rfl, hout⟩
    have HT : Hid (ThreadOut (wr.setCell ⟨w.heap.size, 2, none⟩ (.string (text ++ (⟨#[124]⟩ : ByteArray)))) w2 w.heap.size la ln lc lk (k + 1)) := hout
    clear hout c2 f2
    go_wp2
    go_roundw
    case rel =>
     obtain ⟨tx, op, a3, ac3, m3, g3, b3⟩ := HT.out
     exact ⟨k + 1, by omega, by go_num, tx, op, a3, ac3, m3, .inr ⟨by omega, g3⟩, (HB2.out.setCell (p := ⟨w.heap.size, 2, none⟩) (Nat.le_refl _) _).trans b3⟩
    case measure => simp [intOf]; omega
  ·have HC : Hid (Gen k text.data.toList [] opn.data.toList) := by
    rcases hcase with ⟨h0, _⟩ | ⟨_, hg⟩
    ·omega
    ·exact hg
   clear hcase
   go_wp2
   go_ret
   exact ⟨⟨text, k, _, rfl, HC.out, HM2.out.tx.mono HM2.out.ac10⟩, HB2.out⟩
set_option maxHeartbeats 400000 in
theorem AnyIn_any (la : Option Addr) (ln lc : Nat) (w : World) (hi : IsInts w w.heap.size la ln) (hl : ln ≤ maxLen) :
  Calls Try.prog 8 #[.slice la ln lc] w fun e w' => ProgramIn ⟨#[65, 66, 67, 68]⟩ e ∧ Below w.heap.size w w' := by
 go_enter Try.func8, Try.ntmps8
 go_wp2_with fail
 refine (program_any la ln lc ⟨#[65, 66, 67, 68]⟩ (.inl rfl) w hi hl).mono ?_
 rintro e w1 ⟨⟨p, t, opn, rfl, hg, htx⟩, hb⟩
 have HG : Hid (Gen t p.data.toList [] opn) := hg
 have HT : Hid (TX ⟨#[65, 66, 67, 68]⟩ p 10) := htx
 clear hg htx
 go_wp2
 go_ret
 exact ⟨⟨p, t, opn, rfl, HG.out, HT.out⟩, hb⟩
set_option maxHeartbeats 400000 in
theorem ksize_any (c : UInt8) (w : World) :
  Calls Try.prog 33 #[.int .u8 (c.toNat : Int)] w fun e w' => e = .returned (.int .i64 (sizeU c)) ∧ w' = w := by
 cases hi : inU [103, 112, 105, 91, 60] c with
 | true =>
  have hz : sizeU c = 2 := by simp [sizeU, hi]
  rw [hz]
  go_enter Try.func33, Try.ntmps33
  go_wp2_with fail
  refine (kstands_any _ c w (by unfold maxLen; decide)).mono ?_
  rintro e w' ⟨rfl, rfl⟩
  rw [show inU (ByteArray.mk #[103, 112, 105, 91, 60]).data.toList c = true from hi]
  go_wp2
  go_ret
  exact ⟨rfl, rfl⟩
 | false =>
  have hz : sizeU c = 1 := by simp [sizeU, hi]
  rw [hz]
  go_enter Try.func33, Try.ntmps33
  go_wp2_with fail
  refine (kstands_any _ c w (by unfold maxLen; decide)).mono ?_
  rintro e w' ⟨rfl, rfl⟩
  rw [show inU (ByteArray.mk #[103, 112, 105, 91, 60]).data.toList c = false from hi]
  go_wp2
  go_ret
  exact ⟨rfl, rfl⟩
end Go.Proofs.Ytdgkpkdinfklaab
