import Derived.Test.YtdgkpkdinfklaabGD
namespace Go.Proofs.Ytdgkpkdinfklaab
inductive TD : List UInt8 → List UInt8 → List UInt8 → Prop
 | nil (H : List UInt8) : TD H [] []
 | acc {H K s : List UInt8} (c v : UInt8) : (c = 103 ∨ c = 112) → inU [120, 121, 122] v = true → TD H K s → TD H K (c :: v :: s)
 | add {H K s : List UInt8} (d : UInt8) : inU [48, 49, 50, 51, 52, 53, 54, 55, 56, 57] d = true → TD H K s → TD H K (105 :: d :: s)
 | out {H K s : List UInt8} : TD H K s → TD H K (111 :: s)
 | take {H K s : List UInt8} (c l : UInt8) : (c = 91 ∨ c = 60) → inU [65, 66, 67, 68, 69] l = true → inU (K ++ H) l = false → TD H (l :: K) s → TD H K (c :: l :: s)
 | give {H K s : List UInt8} (c l : UInt8) : (c = 93 ∨ c = 62) → TD H K s → TD H (l :: K) (c :: s)
 | branch {H K a b s : List UInt8} : TD (K ++ H) [] a → TD (K ++ H) [] b → TD H K s → TD H K (63 :: 123 :: (a ++ 125 :: 123 :: (b ++ 125 :: s)))
 | loop {H K a s : List UInt8} : a.length ≤ 240 → TD (K ++ H) [] a → TD H K s → TD H K (33 :: 123 :: (a ++ 125 :: s))
theorem TD.cat {X J a : List UInt8} (h : TD X J a) : ∀ {H K s : List UInt8}, X = K ++ H → TD H K s → TD H (J ++ K) (a ++ s) := by
 induction h with
 | nil X => intro H K s _ hs; exact hs
 | acc c v hc hv _ ih => intro H K s e hs; exact .acc c v hc hv (ih e hs)
 | add d hd _ ih => intro H K s e hs; exact .add d hd (ih e hs)
 | out _ ih => intro H K s e hs; exact .out (ih e hs)
 | take c l hc hl hn _ ih => intro H K s e hs; subst e; exact .take c l hc hl (by rw [List.append_assoc]; exact hn) (ih rfl hs)
 | give c l hc _ ih => intro H K s e hs; exact .give c l hc (ih e hs)
 | @branch X J a b t ha hb _ _ _ ih =>
  intro H K s e hs; subst e
  have := TD.branch (H := H) (K := J ++ K) (by rw [List.append_assoc]; exact ha) (by rw [List.append_assoc]; exact hb) (ih rfl hs)
  simpa using this
 | @loop X J a t hm ha _ _ ih =>
  intro H K s e hs; subst e
  have := TD.loop (H := H) (K := J ++ K) hm (by rw [List.append_assoc]; exact ha) (ih rfl hs)
  simpa using this
theorem TD.body {H K a s : List UInt8} (h : TD (K ++ H) [] a) (hs : TD H K s) : TD H K (a ++ s) := h.cat rfl hs
def fr : List UInt8 → List UInt8 → Option (List UInt8)
 | f, [] => some f
 | f, c :: s => if (nxt f c).2 then fr (nxt f c).1 s else none
def nf : List UInt8 → List UInt8 → Bool
 | _, [] => true
 | _, [_] => true
 | now, c :: d :: s =>
  if c = 91 ∨ c = 60 then !inU now d && nf (d :: now) s
  else if c = 103 ∨ c = 112 ∨ c = 105 then nf now s
  else if c = 93 ∨ c = 62 then nf now.tail (d :: s)
  else nf now (d :: s)
theorem nf_take {now s : List UInt8} {c d : UInt8} (hc : c = 91 ∨ c = 60) : nf now (c :: d :: s) = (!inU now d && nf (d :: now) s) := by rw [nf, if_pos hc]
theorem nf_two {now s : List UInt8} {c d : UInt8} (hc : c = 103 ∨ c = 112 ∨ c = 105) : nf now (c :: d :: s) = nf now s := by
 rw [nf, if_neg (by rcases hc with rfl | rfl | rfl <;> decide), if_pos hc]
theorem nf_give {now s : List UInt8} {c : UInt8} (hc : c = 93 ∨ c = 62) : nf now (c :: s) = nf now.tail s := by
 cases s with
 | nil => simp [nf]
 | cons d s => rw [nf, if_neg (by rcases hc with rfl | rfl <;> decide), if_neg (by rcases hc with rfl | rfl <;> decide), if_pos hc]
theorem nf_one {now s : List UInt8} {c : UInt8} (hc : ¬ (c = 91 ∨ c = 60)) (hc2 : ¬ (c = 103 ∨ c = 112 ∨ c = 105)) (hc3 : ¬ (c = 93 ∨ c = 62)) : nf now (c :: s) = nf now s := by
 cases s with
 | nil => simp [nf]
 | cons d s => rw [nf, if_neg hc, if_neg hc2, if_neg hc3]
theorem fr_cons {f g s : List UInt8} {c : UInt8} (h : fr f (c :: s) = some g) : (nxt f c).2 = true ∧ fr (nxt f c).1 s = some g := by
 rw [fr] at h; split at h
 ·exact ⟨‹_›, h⟩
 ·exact absurd h (by simp)
theorem fr_e {e : UInt8} {X s g : List UInt8} (h1 : e ≠ 66) (h2 : e ≠ 109) (h : fr (e :: X) s = some g) (hw : wholeF g = true) : ∃ c t, s = c :: t ∧ stB e c = true ∧ fr X t = some g := by
 cases s with
 | nil =>
  exfalso
  rw [fr] at h
  rw [← Option.some.inj h, wholeF] at hw
  have : e = 66 := by simp at hw; exact hw.1
  exact h1 this
 | cons c t =>
  obtain ⟨ha, hb⟩ := fr_cons h
  rw [nxt_e h1 h2] at ha hb
  exact ⟨c, t, rfl, ha, hb⟩
theorem st_lb {c : UInt8} (h : stB 123 c = true) : c = 123 := by rw [st_lc] at h; simp [inU] at h; exact h.symm
theorem st_rb {c : UInt8} (h : stB 125 c = true) : c = 125 := by
 have : stB 125 c = (c == 125) := rfl
 rw [this] at h; simpa using h
theorem st_end {c : UInt8} (h : stB 93 c = true) : c = 93 := by
 have : stB 93 c = (c == 93) := rfl
 rw [this] at h; simpa using h
theorem st_mend {c : UInt8} (h : stB 62 c = true) : c = 62 := by rw [st_gt] at h; simp [inU] at h; exact h.symm
def Parsed (H Y s g : List UInt8) : Prop := ∃ a s', s = a ++ s' ∧ TD H [] a ∧ fr (66 :: Y) s' = some g ∧ nf H s' = true ∧ (∀ c ∈ s'.head?, opnL c = none)
theorem Parsed.stop {H Y s g : List UInt8} {e : UInt8} (h : Parsed H (e :: Y) s g) (hw : wholeF g = true) (h1 : e ≠ 66) (h2 : e ≠ 109) :
  ∃ a c s', s = a ++ c :: s' ∧ TD H [] a ∧ stB e c = true ∧ fr Y s' = some g ∧ nf H (c :: s') = true := by
 obtain ⟨a, s', rfl, ha, hf, hn, hh⟩ := h
 cases s' with
 | nil =>
  exfalso
  rw [fr] at hf
  rw [← Option.some.inj hf, wholeF] at hw
  simp at hw
  exact h2 hw.1
 | cons c t =>
  obtain ⟨hx, hy⟩ := fr_cons hf
  rw [nxt_skip (hh c rfl), nxt_e h1 h2] at hx hy
  exact ⟨a, c, t, rfl, ha, hx, hy, hn⟩
theorem inU_four {l : UInt8} (h : inU [65, 66, 67, 68] l = true) : inU [65, 66, 67, 68, 69] l = true := by
 simp only [inU, List.any_cons, List.any_nil, Bool.or_eq_true] at h ⊢
 rcases h with h | h | h | h | h
 ·exact .inl h
 ·exact .inr (.inl h)
 ·exact .inr (.inr (.inl h))
 ·exact .inr (.inr (.inr (.inl h)))
 ·exact absurd h (by simp)
theorem Parsed.add {H Y t g x : List UInt8} (h : Parsed H Y t g) (hx : ∀ a, TD H [] a → TD H [] (x ++ a)) : Parsed H Y (x ++ t) g := by
 obtain ⟨a, s', rfl, ha, hr⟩ := h
 exact ⟨x ++ a, s', by simp, hx a ha, hr⟩
theorem parse (n : Nat) (hm : n ≤ 240) : ∀ (s H Y g : List UInt8), s.length ≤ n → fr (66 :: Y) s = some g → wholeF g = true → nf H s = true → Parsed H Y s g := by
 induction n with
 | zero =>
  intro s H Y g hl hf hw hn
  have : s = [] := List.eq_nil_of_length_eq_zero (by omega)
  subst this
  exact ⟨[], [], rfl, .nil H, hf, hn, by simp⟩
 | succ n ih0 =>
  have ih := ih0 (by omega)
  intro s H Y g hl hf hw hn
  cases s with
  | nil => exact ⟨[], [], rfl, .nil H, hf, hn, by simp⟩
  | cons c t =>
   cases ho : opnL c with
   | none => exact ⟨[], c :: t, rfl, .nil H, hf, hn, by intro d hd; simp at hd; subst hd; exact ho⟩
   | some more =>
    obtain ⟨_, hy⟩ := fr_cons hf
    rw [nxt_B ho] at hy
    simp only [] at hy
    simp only [List.length_cons] at hl
    unfold opnL at ho
    split at ho
    ·skip
     rename_i hc
     have := Option.some.inj ho; subst this
     obtain ⟨v, t', rfl, hv, hy⟩ := fr_e (by decide) (by decide) hy hw
     rw [nf_two (by rcases hc with h | h <;> simp [h])] at hn
     simp only [List.length_cons] at hl
     exact (ih t' H Y g (by omega) hy hw hn).add (x := [c, v]) (fun a ha => .acc c v hc hv ha)
    ·split at ho
     ·rename_i hc
      have := Option.some.inj ho; subst this
      obtain ⟨v, t', rfl, hv, hy⟩ := fr_e (by decide) (by decide) hy hw
      rw [nf_two (by simp [hc])] at hn
      simp only [List.length_cons] at hl
      subst hc
      exact (ih t' H Y g (by omega) hy hw hn).add (x := [105, v]) (fun a ha => .add v hv ha)
     ·split at ho
      ·rename_i hc
       have := Option.some.inj ho; subst this
       subst hc
       rw [nf_one (by decide) (by decide) (by decide)] at hn
       exact (ih t H Y g (by omega) hy hw hn).add (x := [111]) (fun a ha => .out ha)
      ·split at ho
       ·skip
        rename_i hc
        have := Option.some.inj ho; subst this
        subst hc
        obtain ⟨l, t', rfl, hv, hy⟩ := fr_e (by decide) (by decide) hy hw
        rw [nf_take (.inl rfl), Bool.and_eq_true] at hn
        simp only [List.length_cons] at hl
        obtain ⟨a, c, s1, rfl, ha, hc, hz, hm⟩ := (ih t' (l :: H) _ g (by omega) hy hw hn.2).stop hw (by decide) (by decide)
        have := st_end hc; subst this
        rw [nf_give (.inl rfl)] at hm
        simp only [List.length_append, List.length_cons] at hl
        have := (ih s1 H Y g (by omega) hz hw hm).add (x := 91 :: l :: (a ++ [93]))
         (fun b hb => by
          have h1 : TD H [l] (93 :: b) := .give 93 l (.inl rfl) hb
          have h2 := TD.body (H := H) (K := [l]) ha h1
          simpa using TD.take (H := H) (K := []) 91 l (.inl rfl) (inU_four (by rw [← st_l]; exact hv)) (by simpa using hn.1) h2)
        simpa using this
       ·split at ho
        ·skip
         rename_i hc
         have := Option.some.inj ho; subst this
         subst hc
         obtain ⟨l, t', rfl, hv, hy⟩ := fr_e (by decide) (by decide) hy hw
         obtain ⟨c, t2, rfl, hc, hy⟩ := fr_e (by decide) (by decide) hy hw
         obtain ⟨v, t3, rfl, hv2, hy⟩ := fr_e (by decide) (by decide) hy hw
         obtain ⟨d, t4, rfl, hd, hy⟩ := fr_e (by decide) (by decide) hy hw
         have := st_mend hd; subst this
         have hc' : c = 103 ∨ c = 112 := by
          rw [st_a] at hc; simp [inU] at hc
          rcases hc with h | h
          ·exact .inl h.symm
          ·exact .inr h.symm
         rw [nf_take (.inr rfl), Bool.and_eq_true, nf_two (by rcases hc' with h | h <;> simp [h]), nf_give (.inr rfl)] at hn
         simp only [List.length_cons] at hl
         have := (ih t4 H Y g (by omega) hy hw hn.2).add (x := [60, l, c, v, 62])
          (fun b hb => .take 60 l (.inr rfl) hv (by simpa using hn.1) (.acc c v hc' hv2 (.give 62 l (.inr rfl) hb)))
         simpa using this
        ·split at ho
         ·skip
          rename_i hc
          have := Option.some.inj ho; subst this
          subst hc
          obtain ⟨l, t', rfl, hv, hy⟩ := fr_e (by decide) (by decide) hy hw
          have := st_lb hv; subst this
          rw [nf_one (by decide) (by decide) (by decide), nf_one (by decide) (by decide) (by decide)] at hn
          simp only [List.length_cons] at hl
          obtain ⟨a, c, s1, rfl, ha, hc, hz, hm⟩ := (ih t' H _ g (by omega) hy hw hn).stop hw (by decide) (by decide)
          have := st_rb hc; subst this
          obtain ⟨l, t', rfl, hv2, hz⟩ := fr_e (by decide) (by decide) hz hw
          have := st_lb hv2; subst this
          rw [nf_one (by decide) (by decide) (by decide), nf_one (by decide) (by decide) (by decide)] at hm
          simp only [List.length_append, List.length_cons] at hl
          obtain ⟨b, c, s2, rfl, hb, hc2, hz2, hm2⟩ := (ih t' H _ g (by omega) hz hw hm).stop hw (by decide) (by decide)
          have := st_rb hc2; subst this
          rw [nf_one (by decide) (by decide) (by decide)] at hm2
          simp only [List.length_append, List.length_cons] at hl
          have := (ih s2 H Y g (by omega) hz2 hw hm2).add (x := 63 :: 123 :: (a ++ 125 :: 123 :: (b ++ [125])))
           (fun d hd => by simpa using TD.branch (H := H) (K := []) ha hb hd)
          simpa using this
         ·split at ho
          ·skip
           rename_i hc
           have := Option.some.inj ho; subst this
           subst hc
           obtain ⟨l, t', rfl, hv, hy⟩ := fr_e (by decide) (by decide) hy hw
           have := st_lb hv; subst this
           rw [nf_one (by decide) (by decide) (by decide), nf_one (by decide) (by decide) (by decide)] at hn
           simp only [List.length_cons] at hl
           obtain ⟨a, c, s1, rfl, ha, hc, hz, hm⟩ := (ih t' H _ g (by omega) hy hw hn).stop hw (by decide) (by decide)
           have := st_rb hc; subst this
           rw [nf_one (by decide) (by decide) (by decide)] at hm
           simp only [List.length_append, List.length_cons] at hl
           have := (ih s1 H Y g (by omega) hz hw hm).add (x := 33 :: 123 :: (a ++ [125]))
            (fun d hd => by simpa using TD.loop (H := H) (K := []) (by omega) ha hd)
           simpa using this
          ·exact absurd ho (by simp)
end Go.Proofs.Ytdgkpkdinfklaab

namespace Go.Proofs.Ytdgkpkdinfklaab
theorem drop_at {p : List UInt8} {k : Nat} {c : UInt8} (h : p[k]? = some c) : p.drop k = c :: p.drop (k + 1) := by
 obtain ⟨hl, rfl⟩ := List.getElem?_eq_some_iff.1 h
 exact List.drop_eq_getElem_cons hl
theorem fr_of_fw {p g : List UInt8} (h : fw p p.length = some g) (n : Nat) : ∀ (k : Nat) (f : List UInt8), p.length - k ≤ n → k ≤ p.length → fw p k = some f → fr f (p.drop k) = some g := by
 induction n with
 | zero =>
  intro k f h1 h2 hf
  have : k = p.length := by omega
  subst this
  rw [List.drop_length, fr, ← hf, h]
 | succ n ih =>
  intro k f h1 h2 hf
  rcases Nat.lt_or_ge k p.length with hlt | hge
  ·have hc : p[k]? = some p[k] := List.getElem?_eq_getElem hlt
   obtain ⟨x, hx⟩ := fw_prefix h (show k + 1 ≤ p.length by omega)
   obtain ⟨ha, hb⟩ := fw_next hf hc hx
   rw [drop_at hc, fr, if_pos ha, hb]
   exact ih (k + 1) x (by omega) (by omega) hx
  ·have : k = p.length := by omega
   subst this
   rw [List.drop_length, fr, ← hf, h]
theorem nf_of {p : List UInt8} {mks : List MK} (ha : Acc p mks) (hn : mks.find? nestB = none) (n : Nat) : ∀ k, p.length - (tw p k).i ≤ n → nf (tw p k).now.reverse (p.drop (tw p k).i) = true := by
 induction n with
 | zero =>
  intro k h
  rw [List.drop_eq_nil_of_le (by omega), nf]
 | succ n ih =>
  intro k h
  rcases Nat.lt_or_ge (tw p k).i p.length with hlt | hge
  ·have hc : p[(tw p k).i]? = some p[(tw p k).i] := List.getElem?_eq_getElem hlt
   generalize hcc : p[(tw p k).i] = c at hc
   obtain ⟨hroom, l, hl⟩ := acc_room ha hlt hc
   obtain ⟨e1, e2, _, e4⟩ := tw_at hlt hc
   have hz := sizeU_pos c
   have ihk := ih (k + 1) (by omega)
   rw [e1, e2] at ihk
   rw [drop_at hc]
   have hmem : ∀ m ∈ (tw p (k + 1)).mks, nestB m = false := by
    intro m hm
    have := List.find?_eq_none.1 hn m (by rw [hl]; exact List.mem_append_left _ hm)
    simpa using this
   have hok : ∀ m ∈ (tw p (k + 1)).mks, MkOk m := fun m hm => ha.marks m (by rw [hl]; exact List.mem_append_left _ hm)
   by_cases h1 : c = 91 ∨ c = 60
   ·have hs : sizeU c = 2 := by rcases h1 with rfl | rfl <;> rfl
    rw [hs] at hroom ihk
    have hd : p[(tw p k).i + 1]? = some p[(tw p k).i + 1] := List.getElem?_eq_getElem (by omega)
    generalize hdd : p[(tw p k).i + 1] = d at hd
    rw [drop_at hd, nf_take h1]
    rw [if_pos h1, hd] at e4
    have hin : mkN 3 (tw p k).i (tw p k).th ((d.toNat : Int) - 65) (tw p k).now ∈ (tw p (k + 1)).mks := by rw [e4]; simp
    have := hmem _ hin
    rw [nest_mk (hok _ hin)] at this
    rw [heldU, hc] at ihk
    simp only [if_pos h1, hd, Option.getD_some, List.reverse_append, List.reverse_cons, List.reverse_nil, List.nil_append, List.singleton_append] at ihk
    rw [Bool.and_eq_true]
    refine ⟨?_, ihk⟩
    have e : inU (tw p k).now.reverse d = inU (tw p k).now d := by simp [inU]
    rw [e, this]; rfl
   ·by_cases h2 : c = 103 ∨ c = 112 ∨ c = 105
    ·have hs : sizeU c = 2 := by rcases h2 with rfl | rfl | rfl <;> rfl
     rw [hs] at hroom ihk
     have hd : p[(tw p k).i + 1]? = some p[(tw p k).i + 1] := List.getElem?_eq_getElem (by omega)
     rw [drop_at hd, nf_two h2]
     rw [heldU, hc] at ihk
     simp only [if_neg h1] at ihk
     rw [if_neg (by rcases h2 with rfl | rfl | rfl <;> decide)] at ihk
     exact ihk
    ·have hs : sizeU c = 1 := by
      unfold sizeU
      rw [if_neg]
      simp only [inU, List.any_cons, List.any_nil, Bool.or_false, Bool.or_eq_true, beq_iff_eq]
      rintro (h | h | h | h | h)
      ·exact h2 (.inl h.symm)
      ·exact h2 (.inr (.inl h.symm))
      ·exact h2 (.inr (.inr h.symm))
      ·exact h1 (.inl h.symm)
      ·exact h1 (.inr h.symm)
     rw [hs] at hroom ihk
     rw [heldU, hc] at ihk
     simp only [if_neg h1] at ihk
     by_cases h3 : c = 93 ∨ c = 62
     ·rw [nf_give h3]
      rw [if_pos h3] at ihk
      rw [List.tail_reverse]; exact ihk
     ·rw [nf_one h1 h2 h3]
      rw [if_neg h3] at ihk
      exact ihk
  ·rw [List.drop_eq_nil_of_le (by omega), nf]
def splitBar : List UInt8 → List (List UInt8)
 | [] => [[]]
 | c :: s => if c = 124 then [] :: splitBar s else match splitBar s with
  | [] => [[c]]
  | h :: t => (c :: h) :: t
theorem split_bar {a : List UInt8} (h : 124 ∉ a) (s : List UInt8) : splitBar (a ++ 124 :: s) = a :: splitBar s := by
 induction a with
 | nil => simp [splitBar]
 | cons c a ih =>
  simp only [List.mem_cons, not_or] at h
  rw [List.cons_append, splitBar, if_neg (fun e => h.1 e.symm), ih h.2]
theorem split_none {a : List UInt8} (h : 124 ∉ a) : splitBar a = [a] := by
 induction a with
 | nil => rfl
 | cons c a ih =>
  simp only [List.mem_cons, not_or] at h
  rw [splitBar, if_neg (fun e => h.1 e.symm), ih h.2]
theorem inU_mem {l : List UInt8} {c : UInt8} : inU l c = true ↔ c ∈ l := by simp [inU]
theorem TD.no {H K a : List UInt8} (h : TD H K a) : 124 ∉ a := by
 induction h with
 | nil => simp
 | acc c v hc hv _ ih =>
  have h1 : 124 ≠ c := by rcases hc with rfl | rfl <;> decide
  have h2 : 124 ≠ v := by rintro rfl; exact absurd hv (by decide)
  simp [h1, h2, ih]
 | add d hd _ ih =>
  have h2 : 124 ≠ d := by rintro rfl; exact absurd hd (by decide)
  simp [h2, ih]
 | out _ ih => simp [ih]
 | take c l hc hl _ _ ih =>
  have h1 : 124 ≠ c := by rcases hc with rfl | rfl <;> decide
  have h2 : 124 ≠ l := by rintro rfl; exact absurd hl (by decide)
  simp [h1, h2, ih]
 | give c l hc _ ih =>
  have h1 : 124 ≠ c := by rcases hc with rfl | rfl <;> decide
  simp [h1, ih]
 | branch _ _ _ iha ihb ih => simp [iha, ihb, ih]
 | loop _ _ _ iha ih => simp [iha, ih]
theorem threads (m : Nat) : ∀ s g, s.length ≤ 240 → fr (66 :: List.replicate m 109) s = some g → wholeF g = true → nf [] s = true → (splitBar s).length ≤ m + 1 ∧ ∀ a ∈ splitBar s, TD [] [] a := by
 induction m with
 | zero =>
  intro s g hl hf hw hn
  obtain ⟨a, s', rfl, ha, hf', _, hh⟩ := parse s.length hl s [] [] g (Nat.le_refl _) hf hw hn
  cases s' with
  | nil => rw [List.append_nil, split_none ha.no]; exact ⟨Nat.le_refl _, by simpa using ha⟩
  | cons c t =>
   obtain ⟨hx, _⟩ := fr_cons hf'
   rw [nxt_skip (hh c rfl)] at hx
   exact absurd hx (by simp [nxt])
 | succ m ih =>
  intro s g hl hf hw hn
  obtain ⟨a, s', rfl, ha, hf', hn', hh⟩ := parse s.length hl s [] (List.replicate (m + 1) 109) g (Nat.le_refl _) hf hw hn
  cases s' with
  | nil => rw [List.append_nil, split_none ha.no]; exact ⟨by simp, by simpa using ha⟩
  | cons c t =>
   obtain ⟨hx, hy⟩ := fr_cons hf'
   rw [nxt_skip (hh c rfl), List.replicate_succ, nxt_m] at hx hy
   have : c = 124 := by simpa using hx
   subst this
   rw [nf_one (by decide) (by decide) (by decide)] at hn'
   obtain ⟨h1, h2⟩ := ih t g (by simp at hl; omega) hy hw hn'
   rw [split_bar ha.no]
   refine ⟨by simp; omega, ?_⟩
   intro x hx
   rcases List.mem_cons.1 hx with rfl | hx
   ·exact ha
   ·exact h2 x hx
end Go.Proofs.Ytdgkpkdinfklaab

namespace Go.Proofs.Ytdgkpkdinfklaab
structure Did where
 pick : Int
 thread : Int
 what : UInt8
 of : UInt8
structure PS where
 todo : List (List UInt8)
 held : List (List UInt8)
 regs : List Int
 gl : List Int
 pr : List UInt8
 st : List Did
end Go.Proofs.Ytdgkpkdinfklaab

namespace Go.Proofs.Ytdgkpkdinfklaab
structure At (P : PS) (t : Nat) (s l : List UInt8) (x : Int) : Prop where
 s : P.todo[t]? = some s
 l : P.held[t]? = some l
 x : P.regs[t]? = some x
section
variable {P : PS} {t : Nat} {l r : List UInt8} {v : UInt8} {x : Int}
end
end Go.Proofs.Ytdgkpkdinfklaab
