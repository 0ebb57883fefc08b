import Derived.Test.YtdgkpkdinfklaabGH
namespace Go.Proofs.Ytdgkpkdinfklaab
def cnt (f : List UInt8) : Nat := (f.filter fun e => e == 93 || e == 62).length
theorem cnt_cons (e : UInt8) (r : List UInt8) : cnt (e :: r) = (if e = 93 ∨ e = 62 then 1 else 0) + cnt r := by
 unfold cnt
 by_cases h : e = 93 ∨ e = 62
 ·rw [if_pos h, List.filter_cons, if_pos (by simpa using h)]; simp; omega
 ·rw [if_neg h, List.filter_cons, if_neg (by simpa using h)]; simp
theorem cnt_next {f f' : List UInt8} {c : UInt8} (h : BF f) (hn : nxt f c = (f', true)) :
  (sizeU c = 1 ∧ cnt f' + (if c = 93 ∨ c = 62 then 1 else 0) = cnt f) ∨ (sizeU c = 2 ∧ ∃ e X, f' = e :: X ∧ cnt X = cnt f + (if c = 91 ∨ c = 60 then 1 else 0)) := by
 rcases h with h | ⟨X, rfl, hX⟩
 ·induction f with
  | nil => simp [nxt] at hn
  | cons e r ih =>
   simp only [List.all_cons, Bool.and_eq_true] at h
   unfold nxt at hn
   split at hn
   ·rename_i he
    subst he
    split at hn
    ·rename_i more hm
     simp only [Prod.mk.injEq, and_true] at hn
     subst hn
     unfold opnL at hm
     split at hm
     ·rename_i hc; cases hm
      right
      refine ⟨by rcases hc with rfl | rfl <;> rfl, 118, 66 :: r, rfl, ?_⟩
      rcases hc with rfl | rfl <;> rfl
     split at hm
     ·rename_i hc; cases hm; subst hc
      exact .inr ⟨rfl, 110, 66 :: r, rfl, rfl⟩
     split at hm
     ·rename_i hc; cases hm; subst hc
      exact .inl ⟨rfl, rfl⟩
     split at hm
     ·rename_i hc; cases hm; subst hc
      refine .inr ⟨rfl, 108, 66 :: 93 :: 66 :: r, rfl, ?_⟩
      simp [cnt_cons]; omega
     split at hm
     ·rename_i hc; cases hm; subst hc
      refine .inr ⟨rfl, 107, 97 :: 118 :: 62 :: 66 :: r, rfl, ?_⟩
      simp [cnt_cons]; omega
     split at hm
     ·rename_i hc; cases hm; subst hc
      refine .inl ⟨rfl, ?_⟩
      simp [cnt_cons]
     split at hm
     ·rename_i hc; cases hm; subst hc
      refine .inl ⟨rfl, ?_⟩
      simp [cnt_cons]
     ·cases hm
    ·rename_i hm
     rcases ih hn h.2 with ⟨a, b⟩ | ⟨a, e, X, b, d⟩
     ·exact .inl ⟨a, by rw [b, cnt_cons]; simp⟩
     ·exact .inr ⟨a, e, X, b, by rw [d, cnt_cons]; simp⟩
   ·split at hn
    ·rename_i h109
     simp only [Prod.mk.injEq, beq_iff_eq] at hn
     obtain ⟨rfl, rfl⟩ := hn
     subst h109
     exact .inl ⟨rfl, by simp [cnt_cons]⟩
    ·rename_i h66 h109
     simp only [Prod.mk.injEq] at hn
     obtain ⟨rfl, hs⟩ := hn
     have h1 := h.1
     simp only [plainE, Bool.or_eq_true, beq_iff_eq] at h1
     rcases h1 with ((((h1 | h1) | h1) | h1) | h1) | h1
     ·exact absurd h1 h66
     ·exact absurd h1 h109
     all_goals
      subst h1
      simp [stB] at hs
      subst hs
      refine .inl ⟨rfl, ?_⟩
      simp [cnt_cons]
      try omega
 ·rw [nxt_e (by decide) (by decide)] at hn
  simp only [Prod.mk.injEq] at hn
  obtain ⟨rfl, hs⟩ := hn
  have hs' : inU [103, 112] c = true := hs
  simp [inU] at hs'
  right
  refine ⟨by rcases hs' with rfl | rfl <;> rfl, 118, 62 :: X, rfl, ?_⟩
  rcases hs' with rfl | rfl <;> simp [cnt_cons]
def TailM (f : List UInt8) : Prop := ∃ F n, f = F ++ List.replicate n 109 ∧ ∀ e ∈ F, e ≠ 109
theorem tail_next {f f' : List UInt8} {c : UInt8} (h : TailM f) (hn : nxt f c = (f', true)) : TailM f' := by
 obtain ⟨F, n, rfl, hF⟩ := h
 induction F with
 | nil =>
  cases n with
  | zero => simp [nxt] at hn
  | succ n =>
   simp only [List.nil_append, List.replicate_succ, nxt_m, Prod.mk.injEq] at hn
   obtain ⟨rfl, _⟩ := hn
   exact ⟨[66], n, rfl, by simp⟩
 | cons e r ih =>
  have hr : ∀ e ∈ r, e ≠ 109 := fun x hx => hF x (List.mem_cons_of_mem _ hx)
  have he := hF e (List.mem_cons_self ..)
  simp only [List.cons_append] at hn
  unfold nxt at hn
  split at hn
  ·rename_i h66
   split at hn
   ·rename_i more hm
    simp only [Prod.mk.injEq, and_true] at hn
    subst hn
    refine ⟨more ++ e :: r, n, by simp, ?_⟩
    intro x hx
    rcases List.mem_append.1 hx with hx | hx
    ·unfold opnL at hm
     repeat (split at hm; · (cases hm; simp at hx; try (rcases hx with rfl | rfl | rfl | rfl | rfl | rfl <;> decide); try (rcases hx with rfl | rfl | rfl | rfl <;> decide); try (rcases hx with rfl | rfl | rfl <;> decide); try (subst hx; decide)))
     cases hm
    ·exact hF x hx
   ·exact ih hr hn
  ·simp only [Prod.mk.injEq] at hn
   obtain ⟨rfl, _⟩ := hn
   exact ⟨r, n, rfl, hr⟩
theorem tail_rest {e : UInt8} {X : List UInt8} (h : TailM (e :: X)) (he : e ≠ 109) : TailM X := by
 obtain ⟨F, n, hf, hF⟩ := h
 cases F with
 | nil =>
  cases n with
  | zero => cases hf
  | succ n => simp [List.replicate_succ] at hf; exact absurd hf.1 he
 | cons y r =>
  simp at hf
  exact ⟨r, n, hf.2, fun x hx => hF x (List.mem_cons_of_mem _ hx)⟩
theorem nxt_of {p : List UInt8} {k : Nat} {f g : List UInt8} {c : UInt8} (h : fw p k = some f) (hc : p[k]? = some c) (hg : fw p (k + 1) = some g) : nxt f c = (g, true) := by
 rw [fw, h, hc] at hg
 simp only at hg
 split at hg
 ·rename_i h2
  cases hg
  rw [← h2]
 ·cases hg
theorem acc_cnt {p : List UInt8} {mks : List MK} (h : Acc p mks) (k : Nat) : ∃ f, fw p (tw p k).i = some f ∧ BF f ∧ TailM f ∧ cnt f = (tw p k).now.length := by
 obtain ⟨g, hg, _⟩ := h.form
 induction k with
 | zero => exact ⟨[66, 109, 109, 109], rfl, .inl rfl, ⟨[66], 3, rfl, by simp⟩, rfl⟩
 | succ k ih =>
  obtain ⟨f, hf, hbf, htm, hcn⟩ := ih
  by_cases hlt : (tw p k).i < p.length
  ·have hc := List.getElem?_eq_getElem hlt
   obtain ⟨room, _⟩ := acc_room h hlt hc
   obtain ⟨f1, hf1⟩ := fw_prefix hg (show (tw p k).i + 1 ≤ p.length by omega)
   have hn := nxt_of hf hc hf1
   have ei : (tw p (k + 1)).i = (tw p k).i + sizeU p[(tw p k).i] := by rw [tw, if_pos hlt, tstep, hc]
   have en : (tw p (k + 1)).now = heldU (tw p k).now p (tw p k).i := by rw [tw, if_pos hlt, tstep, hc]
   have htm1 := tail_next htm hn
   rw [ei, en]
   obtain ⟨c, hcc⟩ : ∃ c, p[(tw p k).i] = c := ⟨_, rfl⟩
   rw [hcc] at hc hn room ⊢
   rcases bf_next hbf hn with ⟨hz, hb⟩ | ⟨hz, e, X, rfl, he, hb⟩
   ·rcases cnt_next hbf hn with ⟨_, hcn1⟩ | ⟨hz2, _⟩
    ·rw [hz]
     refine ⟨f1, hf1, hb, htm1, ?_⟩
     unfold heldU
     rw [hc]
     simp only
     have hno : ¬ (c = 91 ∨ c = 60) := by
      intro h'; rcases h' with rfl | rfl <;> exact absurd hz (by decide)
     rw [if_neg hno]
     split
     ·rename_i h9
      rw [if_pos h9] at hcn1
      rw [List.length_dropLast]; omega
     ·rename_i h9
      rw [if_neg h9] at hcn1
      omega
    ·omega
   ·rcases cnt_next hbf hn with ⟨hz2, _⟩ | ⟨_, e', X', heq, hcn1⟩
    ·omega
    ·cases heq
     rw [hz] at room ⊢
     obtain ⟨f2, hf2⟩ := fw_prefix hg room
     have hlt1 : (tw p k).i + 1 < p.length := by omega
     have hc1 := List.getElem?_eq_getElem hlt1
     have hn2 := nxt_of hf1 hc1 hf2
     rw [nxt_e (by rcases he with rfl | rfl | rfl | rfl <;> decide) (by rcases he with rfl | rfl | rfl | rfl <;> decide)] at hn2
     simp only [Prod.mk.injEq] at hn2
     rw [← hn2.1] at hf2
     refine ⟨X, hf2, hb, tail_rest htm1 (by rcases he with rfl | rfl | rfl | rfl <;> decide), ?_⟩
     unfold heldU
     rw [hc]
     simp only
     split
     ·rename_i h9
      rw [if_pos h9] at hcn1
      rw [List.length_append, hcn1, hcn]; rfl
     ·rename_i h9
      rw [if_neg h9] at hcn1
      have hno : ¬ (c = 93 ∨ c = 62) := by
       intro h'; rcases h' with rfl | rfl <;> exact absurd hz (by decide)
      rw [if_neg hno]; omega
  ·have e0 : tw p (k + 1) = tw p k := by rw [tw, if_neg hlt]
   rw [e0]
   exact ⟨f, hf, hbf, htm, hcn⟩
end Go.Proofs.Ytdgkpkdinfklaab
