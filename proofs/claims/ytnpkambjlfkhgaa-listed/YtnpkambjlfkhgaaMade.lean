import Derived.Test.YtnpkambjlfkhgaaPure6
namespace Go.Proofs.Ytnpkambjlfkhgaa

/-! ### Longer texts -/
theorem fw_more (p q : List UInt8) : ∀ k, k ≤ p.length → fw (p ++ q) k = fw p k := by
  intro k
  induction k with
  | zero => intro _; rfl
  | succ k ih =>
    intro hk
    rw [fw, fw, ih (by omega), List.getElem?_append_left (by omega)]

/-- The states of the walk by what belongs together. -/
inductive TR (p : List UInt8) : TS → Prop
  | start : TR p ⟨0, [], 1, []⟩
  | step {t : TS} : TR p t → t.i < p.length → TR p (tstep p t)

theorem tr_tw (p : List UInt8) (k : Nat) : TR p (tw p k) := by
  induction k with
  | zero => exact .start
  | succ k ih =>
    rw [tw]
    split
    · exact .step ih (by assumption)
    · exact ih

theorem TR.tw {p : List UInt8} {t : TS} (h : TR p t) : ∃ k, tw p k = t := by
  induction h with
  | start => exact ⟨0, rfl⟩
  | step _ hl ih =>
    obtain ⟨k, rfl⟩ := ih
    exact ⟨k + 1, by rw [Go.Proofs.Ytnpkambjlfkhgaa.tw, if_pos hl]⟩

theorem tstep_i {p : List UInt8} {t : TS} (h : t.i < p.length) : (tstep p t).i = t.i + sizeU p[t.i] := by
  rw [tstep, List.getElem?_eq_getElem h]

theorem tstep_more {p q : List UInt8} {t : TS} (h : t.i < p.length) (hr : (tstep p t).i ≤ p.length) : tstep (p ++ q) t = tstep p t := by
  rw [tstep_i h] at hr
  have e0 : (p ++ q)[t.i]? = p[t.i]? := List.getElem?_append_left h
  unfold tstep
  rw [e0, List.getElem?_eq_getElem h]
  simp only
  have hh : heldU t.now (p ++ q) t.i = heldU t.now p t.i := by
    unfold heldU
    rw [e0, List.getElem?_eq_getElem h]
    simp only
    split
    · rename_i hc
      have hz : sizeU p[t.i] = 2 := by rcases hc with hc | hc <;> rw [hc] <;> rfl
      rw [List.getElem?_append_left (by omega)]
    · rfl
  rw [hh]
  congr 1
  split
  · rename_i hc
    have hz : sizeU p[t.i] = 2 := by rcases hc with hc | hc <;> rw [hc] <;> rfl
    rw [List.getElem?_append_left (by omega)]
  · split
    · rename_i hc
      have hz : sizeU p[t.i] = 2 := by rcases hc with hc | hc <;> rw [hc] <;> rfl
      rw [List.getElem?_append_left (by omega)]
    · rfl

theorem TR.more {p : List UInt8} {t : TS} (h : TR p t) (q : List UInt8) (hi : t.i ≤ p.length) : TR (p ++ q) t := by
  induction h with
  | start => exact .start
  | step hr hl ih =>
    rename_i t0
    rw [← tstep_more (q := q) hl hi]
    refine .step (ih (by omega)) (by rw [List.length_append]; omega)

/-! ### The made programs -/
inductive TodoOk : List UInt8 → Prop
  | nil : TodoOk []
  | lit {e : UInt8} {r : List UInt8} : e = 93 ∨ e = 125 ∨ e = 123 → TodoOk r → TodoOk (e :: r)
  | b {r : List UInt8} : TodoOk r → r.head? ≠ some 66 → TodoOk (66 :: r)

def lits (l : List UInt8) : Nat := (l.filter (· != 66)).length
def shuts (l : List UInt8) : Nat := (l.filter (· == 93)).length

/-- A command, by the locks that are open: its beginning, what is to be made behind it, the locks that are open then. -/
inductive Cmd (opn : List UInt8) : List UInt8 → List UInt8 → List UInt8 → Prop
  | acc {c d : UInt8} : (c = 103 ∨ c = 112) → inU [120, 121, 122] d = true → Cmd opn [c, d] [] opn
  | out : Cmd opn [111] [] opn
  | add {d : UInt8} : inU [48, 49, 50, 51, 52, 53, 54, 55, 56, 57] d = true → Cmd opn [105, d] [] opn
  | reg {l : UInt8} : inU [65, 66, 67, 68] l = true → inU opn l = false → Cmd opn [91, l] [66, 93] (opn ++ [l])
  | ask : Cmd opn [63] [123, 66, 125, 123, 66, 125] opn
  | rep : Cmd opn [33] [123, 66, 125] opn

/-- What holds while a thread is made: t is its number. -/
structure Gen (t : Nat) (text todo opn : List UInt8) : Prop where
  t1 : 1 ≤ t
  t4 : t ≤ 4
  ok : TodoOk todo
  form : ∃ F, fw text text.length = some (F ++ List.replicate (4 - t) 109) ∧ ((F = todo ∧ todo ≠ []) ∨ (F = 66 :: todo ∧ todo.head? ≠ some 66))
  last : todo = [] ∨ todo.getLast? = some 66
  toks : ∃ th mks, TR text ⟨text.length, opn, th, mks⟩ ∧ MksOk mks ∧ mks.find? nestB = none
  shut : opn.length = shuts todo
  small : 2 * (text.length + lits todo) ≤ 5 * text.length + (if todo.head? = some 123 then 5 else 0)
  bound : text.length + lits todo ≤ 180 + t

theorem Gen.start : Gen 1 [] [66] [] :=
  ⟨by decide, by decide, .b .nil (by decide), ⟨[66], rfl, .inl ⟨rfl, by decide⟩⟩, .inr rfl, ⟨1, [], .start, fun m hm => by simp at hm, rfl⟩, rfl, by decide, by decide⟩

theorem MksOk.snoc {l : List MK} {m : MK} (h : MksOk l) (hm : MkOk m) : MksOk (l ++ [m]) := by
  intro x hx
  rcases List.mem_append.1 hx with hx | hx
  · exact h x hx
  · rw [List.mem_singleton] at hx; subst hx; exact hm

/-- A body ends. -/
theorem Gen.endB {t : Nat} {text r opn : List UInt8} (h : Gen t text (66 :: r) opn) : Gen t text r opn := by
  obtain ⟨t1, t4, ok, ⟨F, hF, hFF⟩, hlast, toks, shut, small, bound⟩ := h
  cases ok with
  | lit he _ => rcases he with he | he | he <;> exact absurd he (by decide)
  | b hr hh =>
    refine ⟨t1, t4, hr, ⟨F, hF, .inr ⟨?_, hh⟩⟩, ?_, toks, by rw [shut]; simp [shuts], ?_, by simpa [lits] using bound⟩
    · rcases hFF with ⟨e, _⟩ | ⟨_, e⟩
      · exact e
      · exact absurd rfl e
    · cases r with
      | nil => exact .inl rfl
      | cons y r' => right; rcases hlast with e | e; exact absurd e (by simp); simpa using e
    · have : lits (66 :: r) = lits r := by simp [lits]
      rw [this] at small
      simp at small
      split <;> omega

theorem lit_none {e : UInt8} (he : e = 93 ∨ e = 125 ∨ e = 123) : opnL e = none ∧ e ≠ 66 ∧ e ≠ 109 ∧ stB e e = true := by
  rcases he with rfl | rfl | rfl <;> decide

/-- A bracket is written. -/
theorem Gen.lit {t : Nat} {text r opn : List UInt8} {e : UInt8} (h : Gen t text (e :: r) opn) (he : e ≠ 66) : Gen t (text ++ [e]) r (if e = 93 then opn.dropLast else opn) := by
  obtain ⟨t1, t4, ok, ⟨F, hF, hFF⟩, hlast, ⟨th, mks, htr, hmk, hnest⟩, shut, small, bound⟩ := h
  cases ok with
  | b _ _ => exact absurd rfl he
  | lit hl hr =>
    obtain ⟨l1, l2, l3, l4⟩ := lit_none hl
    have hlen : (text ++ [e]).length = text.length + 1 := by simp
    have hc : (text ++ [e])[text.length]? = some e := by simp
    have hf0 : fw (text ++ [e]) text.length = some (F ++ List.replicate (4 - t) 109) := by rw [fw_more _ _ _ (Nat.le_refl _)]; exact hF
    have hlits : lits (e :: r) = lits r + 1 := by simp [lits, l2]
    have hrne : r ≠ [] := by
      intro e0
      subst e0
      rcases hlast with e0 | e0
      · cases e0
      · simp at e0; exact he e0
    refine ⟨t1, t4, hr, ⟨r, ?_, .inl ⟨rfl, hrne⟩⟩, ?_, ?_, ?_, ?_, ?_⟩
    · rw [hlen]
      refine fw_step hf0 hc ?_
      rcases hFF with ⟨e1, _⟩ | ⟨e1, _⟩
      · rw [e1]
        show nxt (e :: (r ++ _)) e = _
        rw [nxt_e l2 l3, l4]
      · rw [e1]
        show nxt (66 :: e :: (r ++ _)) e = _
        rw [nxt_skip l1, nxt_e l2 l3, l4]
    · right
      rcases hlast with e0 | e0
      · cases e0
      · rw [List.getLast?_cons_of_ne_nil hrne] at e0; exact e0
    · obtain ⟨k, hk⟩ := (htr.more [e] (Nat.le_refl _)).tw
      rcases hl with rfl | rfl | rfl
      · have hs := step_give hk hc (.inl rfl)
        exact ⟨th, mks, by rw [hlen, if_pos rfl, ← hs]; exact tr_tw _ _, hmk, hnest⟩
      · have hs := step_one hk hc (by simp)
        exact ⟨th, mks, by rw [hlen, if_neg (by decide), ← hs]; exact tr_tw _ _, hmk, hnest⟩
      · have hs := step_one hk hc (by simp)
        exact ⟨th, mks, by rw [hlen, if_neg (by decide), ← hs]; exact tr_tw _ _, hmk, hnest⟩
    · rcases hl with rfl | rfl | rfl
      · rw [if_pos rfl, List.length_dropLast, shut]; simp [shuts]
      · rw [if_neg (by decide), shut]; simp [shuts]
      · rw [if_neg (by decide), shut]; simp [shuts]
    · rw [hlen]
      rw [hlits] at small
      have h5 : (if (e :: r).head? = some 123 then 5 else 0) ≤ 5 := by split <;> omega
      split <;> omega
    · rw [hlen]; rw [hlits] at bound; omega

theorem nxB (X : List UInt8) (c : UInt8) (more : List UInt8) (h : opnL c = some more) : nxt (66 :: X) c = (more ++ 66 :: X, true) := nxt_B h

/-- A command begins. -/
theorem Gen.cmd {t : Nat} {text r opn s more opn' : List UInt8} (h : Gen t text (66 :: r) opn) (hc : Cmd opn s more opn') (hl : text.length ≤ 70) : Gen t (text ++ s) (more ++ 66 :: r) opn' := by
  obtain ⟨t1, t4, ok, ⟨F, hF, hFF⟩, hlast, ⟨th, mks, htr, hmk, hnest⟩, shut, small, bound⟩ := h
  have hla : ∀ m : List UInt8, m ++ 66 :: r = [] ∨ (m ++ 66 :: r).getLast? = some 66 := by
    intro m
    right
    rcases hlast with e0 | e0
    · cases e0
    · rw [List.getLast?_append, e0]; rfl
  have hFe : F = 66 :: r := by
    rcases hFF with ⟨e, _⟩ | ⟨_, e⟩
    · exact e
    · exact absurd rfl e
  subst hFe
  have hrr : TodoOk (66 :: r) := ok
  have hl66 : lits (66 :: r) = lits r := by simp [lits]
  rw [hl66] at small bound
  simp at small
  have hshut : shuts (66 :: r) = shuts r := by simp [shuts]
  rw [hshut] at shut
  have hf0 : ∀ s, fw (text ++ s) text.length = some (66 :: (r ++ List.replicate (4 - t) 109)) := fun s => by rw [fw_more _ _ _ (Nat.le_refl _)]; exact hF
  cases hc with
  | @acc c d hc hd =>
    have hlen : (text ++ [c, d]).length = text.length + 1 + 1 := by simp
    have e0 : (text ++ [c, d])[text.length]? = some c := by simp
    have e1 : (text ++ [c, d])[text.length + 1]? = some d := by simp
    have f1 : fw (text ++ [c, d]) (text.length + 1) = some (118 :: 66 :: (r ++ List.replicate (4 - t) 109)) := fw_step (hf0 _) e0 (by rcases hc with rfl | rfl; exact nxB _ 103 [118] rfl; exact nxB _ 112 [118] rfl)
    obtain ⟨k, hk⟩ := (htr.more [c, d] (Nat.le_refl _)).tw
    have hs := step_access hk e0 e1 hc
    have hd3 : 0 ≤ (d.toNat : Int) - 120 ∧ (d.toNat : Int) - 120 < 3 := by
      simp [inU] at hd
      rcases hd with rfl | rfl | rfl <;> decide
    refine ⟨t1, t4, hrr, ⟨66 :: r, ?_, .inl ⟨rfl, by simp⟩⟩, hla [], ⟨th, _, by rw [hlen, ← hs]; exact tr_tw _ _, hmk.snoc ?_, ?_⟩, by rw [shut]; simp [shuts], ?_, ?_⟩
    · rw [hlen]; exact fw_step f1 e1 (by rw [nxt_e (by decide) (by decide)]; exact congrArg _ hd)
    · right; refine ⟨?_, hd3⟩; split
      · exact .inr rfl
      · exact .inl rfl
    · rw [List.find?_append, hnest, List.find?_cons]
      have : nestB (mkN (if c = 112 then 2 else 1) text.length th ((d.toNat : Int) - 120) opn) = false := by
        split <;> simp [nestB, mkN]
      rw [this]; rfl
    · rw [hlen]; simp [lits]; simp [lits] at small; omega
    · rw [hlen]; simp [lits]; simp [lits] at small bound; omega
  | out =>
    have hlen : (text ++ [111]).length = text.length + 1 := by simp
    have e0 : (text ++ [111])[text.length]? = some 111 := by simp
    obtain ⟨k, hk⟩ := (htr.more [111] (Nat.le_refl _)).tw
    have hs := step_one hk e0 (by simp)
    refine ⟨t1, t4, hrr, ⟨66 :: r, ?_, .inl ⟨rfl, by simp⟩⟩, hla [], ⟨th, mks, by rw [hlen, ← hs]; exact tr_tw _ _, hmk, hnest⟩, by rw [shut]; simp [shuts], ?_, ?_⟩
    · rw [hlen]; exact fw_step (hf0 _) e0 (nxB _ 111 [] rfl)
    · rw [hlen]; simp [lits]; simp [lits] at small; omega
    · rw [hlen]; simp [lits]; simp [lits] at small bound; omega
  | @add d hd =>
    have hlen : (text ++ [105, d]).length = text.length + 1 + 1 := by simp
    have e0 : (text ++ [105, d])[text.length]? = some 105 := by simp
    have e1 : (text ++ [105, d])[text.length + 1]? = some d := by simp
    have f1 : fw (text ++ [105, d]) (text.length + 1) = some (110 :: 66 :: (r ++ List.replicate (4 - t) 109)) := fw_step (hf0 _) e0 (nxB _ 105 [110] rfl)
    obtain ⟨k, hk⟩ := (htr.more [105, d] (Nat.le_refl _)).tw
    have hs := step_two hk e0
    refine ⟨t1, t4, hrr, ⟨66 :: r, ?_, .inl ⟨rfl, by simp⟩⟩, hla [], ⟨th, mks, by rw [hlen, ← hs]; exact tr_tw _ _, hmk, hnest⟩, by rw [shut]; simp [shuts], ?_, ?_⟩
    · rw [hlen]; exact fw_step f1 e1 (by rw [nxt_e (by decide) (by decide)]; exact congrArg _ hd)
    · rw [hlen]; simp [lits]; simp [lits] at small; omega
    · rw [hlen]; simp [lits]; simp [lits] at small bound; omega
  | @reg l hlk hno =>
    have hlen : (text ++ [91, l]).length = text.length + 1 + 1 := by simp
    have e0 : (text ++ [91, l])[text.length]? = some 91 := by simp
    have e1 : (text ++ [91, l])[text.length + 1]? = some l := by simp
    have f1 : fw (text ++ [91, l]) (text.length + 1) = some (108 :: 66 :: 93 :: 66 :: (r ++ List.replicate (4 - t) 109)) := fw_step (hf0 _) e0 (nxB _ 91 [108, 66, 93] rfl)
    obtain ⟨k, hk⟩ := (htr.more [91, l] (Nat.le_refl _)).tw
    have hs := step_take hk e0 e1 (.inl rfl)
    have hl5 : l = 65 ∨ l = 66 ∨ l = 67 ∨ l = 68 := by simp [inU] at hlk; rcases hlk with rfl | rfl | rfl | rfl <;> simp
    have hl6 : 0 ≤ (l.toNat : Int) - 65 ∧ (l.toNat : Int) - 65 < 5 := by rcases hl5 with rfl | rfl | rfl | rfl <;> decide
    refine ⟨t1, t4, .b (.lit (.inl rfl) hrr) (by simp), ⟨66 :: 93 :: 66 :: r, ?_, .inl ⟨rfl, by simp⟩⟩, hla [66, 93], ⟨th, _, by rw [hlen, ← hs]; exact tr_tw _ _, hmk.snoc ?_, ?_⟩, by rw [List.length_append, shut]; simp [shuts], ?_, ?_⟩
    · rw [hlen]; exact fw_step f1 e1 (by rw [nxt_e (by decide) (by decide)]; exact congrArg _ hlk)
    · exact .inl ⟨rfl, hl6⟩
    · rw [List.find?_append, hnest, List.find?_cons]
      have : nestB (mkN 3 text.length th ((l.toNat : Int) - 65) opn) = false := by
        rcases hl5 with rfl | rfl | rfl | rfl <;> simp [nestB, mkN, hno]
      rw [this]; rfl
    · rw [hlen]; simp [lits]; simp [lits] at small; omega
    · rw [hlen]; simp [lits]; simp [lits] at small bound; omega
  | ask =>
    have hlen : (text ++ [63]).length = text.length + 1 := by simp
    have e0 : (text ++ [63])[text.length]? = some 63 := by simp
    obtain ⟨k, hk⟩ := (htr.more [63] (Nat.le_refl _)).tw
    have hs := step_one hk e0 (by simp)
    refine ⟨t1, t4, ?_, ⟨[123, 66, 125, 123, 66, 125] ++ 66 :: r, ?_, .inl ⟨rfl, by simp⟩⟩, hla [123, 66, 125, 123, 66, 125], ⟨th, mks, by rw [hlen, ← hs]; exact tr_tw _ _, hmk, hnest⟩, by rw [shut]; simp [shuts], ?_, ?_⟩
    · exact .lit (by simp) (.b (.lit (by simp) (.lit (by simp) (.b (.lit (by simp) hrr) (by simp)))) (by simp))
    · rw [hlen]; exact fw_step (hf0 _) e0 (by rw [nxB _ 63 [123, 66, 125, 123, 66, 125] rfl]; rfl)
    · rw [hlen]; simp [lits]; simp [lits] at small; omega
    · rw [hlen]; simp [lits]; simp [lits] at small bound; omega
  | rep =>
    have hlen : (text ++ [33]).length = text.length + 1 := by simp
    have e0 : (text ++ [33])[text.length]? = some 33 := by simp
    obtain ⟨k, hk⟩ := (htr.more [33] (Nat.le_refl _)).tw
    have hs := step_one hk e0 (by simp)
    refine ⟨t1, t4, ?_, ⟨[123, 66, 125] ++ 66 :: r, ?_, .inl ⟨rfl, by simp⟩⟩, hla [123, 66, 125], ⟨th, mks, by rw [hlen, ← hs]; exact tr_tw _ _, hmk, hnest⟩, by rw [shut]; simp [shuts], ?_, ?_⟩
    · exact .lit (by simp) (.b (.lit (by simp) hrr) (by simp))
    · rw [hlen]; exact fw_step (hf0 _) e0 (by rw [nxB _ 33 [123, 66, 125] rfl]; rfl)
    · rw [hlen]; simp [lits]; simp [lits] at small; omega
    · rw [hlen]; simp [lits]; simp [lits] at small bound; omega

theorem Gen.done {t : Nat} {text opn : List UInt8} (h : Gen t text [] opn) : fw text text.length = some (66 :: List.replicate (4 - t) 109) ∧ opn = [] := by
  obtain ⟨F, hF, hFF⟩ := h.form
  refine ⟨?_, List.eq_nil_of_length_eq_zero h.shut⟩
  rcases hFF with ⟨_, e⟩ | ⟨e, _⟩
  · exact absurd rfl e
  · subst e; exact hF

/-- One more thread. -/
theorem Gen.bar {t : Nat} {text opn : List UInt8} (h : Gen t text [] opn) (ht : t < 4) : Gen (t + 1) (text ++ [124]) [66] opn := by
  obtain ⟨hF, ho⟩ := h.done
  obtain ⟨t1, t4, _, _, _, ⟨th, mks, htr, hmk, hnest⟩, shut, small, bound⟩ := h
  have hlen : (text ++ [124]).length = text.length + 1 := by simp
  have e0 : (text ++ [124])[text.length]? = some 124 := by simp
  obtain ⟨k, hk⟩ := (htr.more [124] (Nat.le_refl _)).tw
  have hs := step_bar hk e0
  have hf0 : fw (text ++ [124]) text.length = some (66 :: List.replicate (4 - t) 109) := by rw [fw_more _ _ _ (Nat.le_refl _)]; exact hF
  refine ⟨by omega, by omega, .b .nil (by simp), ⟨[66], ?_, .inl ⟨rfl, by simp⟩⟩, .inr rfl, ⟨th + 1, mks, by rw [hlen, ← hs]; exact tr_tw _ _, hmk, hnest⟩, by rw [ho]; rfl, ?_, ?_⟩
  · rw [hlen]
    refine fw_step hf0 e0 ?_
    rw [nxt_skip rfl, show 4 - t = (4 - (t + 1)) + 1 by omega, List.replicate_succ, nxt_m]
    rfl
  · rw [hlen]; simp [lits]; simp [lits] at small; omega
  · rw [hlen]; simp [lits]; simp [lits] at bound; omega

/-- What is made is a program. -/
theorem Gen.acc {t : Nat} {text opn : List UInt8} (h : Gen t text [] opn) : text.length ≤ 184 ∧ ∃ mks, Acc text mks ∧ mks.find? nestB = none := by
  obtain ⟨hF, _⟩ := h.done
  obtain ⟨th, mks, htr, hmk, hnest⟩ := h.toks
  obtain ⟨k, hk⟩ := htr.tw
  refine ⟨by have := h.bound; have := h.t4; simp [lits] at *; omega, mks, ⟨⟨_, hF, ?_⟩, ⟨k, _, _, hk⟩, hmk⟩, hnest⟩
  simp [wholeF]

end Go.Proofs.Ytnpkambjlfkhgaa
