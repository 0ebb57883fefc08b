import Derived.Test.YtdgkpkdinfklaabGSF
namespace Go.Proofs.Ytdgkpkdinfklaab
inductive MD : List UInt8 → List UInt8 → List UInt8 → Prop
 | nil (H : List UInt8) : MD H [] []
 | acc {H K s : List UInt8} (c v : UInt8) : (c = 103 ∨ c = 112) → inU [120, 121, 122] v = true → MD H K s → MD H K (c :: v :: s)
 | add {H K s : List UInt8} (d : UInt8) : inU [48, 49, 50, 51, 52, 53, 54, 55, 56, 57] d = true → MD H K s → MD H K (105 :: d :: s)
 | out {H K s : List UInt8} : MD H K s → MD H K (111 :: s)
 | take {H K s : List UInt8} (l : UInt8) : inU [65, 66, 67, 68] l = true → inU (K ++ H) l = false → MD H (l :: K) s → MD H K (91 :: l :: s)
 | give {H K s : List UInt8} (l : UInt8) : MD H K s → MD H (l :: K) (93 :: s)
 | mend {H K s : List UInt8} (l c v : UInt8) : inU [65, 66, 67, 68, 69] l = true → inU (K ++ H) l = false → (c = 103 ∨ c = 112) → inU [120, 121, 122] v = true → MD H K s → MD H K (60 :: l :: c :: v :: 62 :: s)
 | branch {H K a b s : List UInt8} : MD (K ++ H) [] a → MD (K ++ H) [] b → MD H K s → MD H K (63 :: 123 :: (a ++ 125 :: 123 :: (b ++ 125 :: s)))
 | loop {H K a s : List UInt8} : a.length ≤ 240 → MD (K ++ H) [] a → MD H K s → MD H K (33 :: 123 :: (a ++ 125 :: s))
theorem MD.td {H K s : List UInt8} (h : MD H K s) : TD H K s := by
 induction h with
 | nil H => exact .nil H
 | acc c v hc hv _ ih => exact .acc c v hc hv ih
 | add d hd _ ih => exact .add d hd ih
 | out _ ih => exact .out ih
 | take l hl hn _ ih => exact .take 91 l (.inl rfl) (inU_four hl) hn ih
 | give l _ ih => exact .give 93 l (.inl rfl) ih
 | mend l c v hl hn hc hv _ ih => exact .take 60 l (.inr rfl) hl hn (.acc c v hc hv (.give 62 l (.inr rfl) ih))
 | branch _ _ _ iha ihb ih => exact .branch iha ihb ih
 | loop hm _ _ iha ih => exact .loop hm iha ih
theorem MD.cat {X J a : List UInt8} (h : MD X J a) : ∀ {H K s : List UInt8}, X = K ++ H → MD H K s → MD H (J ++ K) (a ++ s) := by
 induction h with
 | nil X => intro H K s _ hs; exact hs
 | acc c v hc hv _ ih => intro H K s e hs; exact .acc c v hc hv (ih e hs)
 | add d hd _ ih => intro H K s e hs; exact .add d hd (ih e hs)
 | out _ ih => intro H K s e hs; exact .out (ih e hs)
 | take l hl hn _ ih => intro H K s e hs; subst e; exact .take l hl (by rw [List.append_assoc]; exact hn) (ih rfl hs)
 | give l _ ih => intro H K s e hs; exact .give l (ih e hs)
 | mend l c v hl hn hc hv _ ih => intro H K s e hs; subst e; exact .mend l c v hl (by rw [List.append_assoc]; exact hn) hc hv (ih rfl hs)
 | @branch X J a b t ha hb _ _ _ ih =>
  intro H K s e hs; subst e
  have := MD.branch (H := H) (K := J ++ K) (by rw [List.append_assoc]; exact ha) (by rw [List.append_assoc]; exact hb) (ih rfl hs)
  simpa using this
 | @loop X J a t hm ha _ _ ih =>
  intro H K s e hs; subst e
  have := MD.loop (H := H) (K := J ++ K) hm (by rw [List.append_assoc]; exact ha) (ih rfl hs)
  simpa using this
theorem MD.body {H K a s : List UInt8} (h : MD (K ++ H) [] a) (hs : MD H K s) : MD H K (a ++ s) := h.cat rfl hs
def ParsedM (H Y s g : List UInt8) : Prop := ∃ a s', s = a ++ s' ∧ MD H [] a ∧ fr (66 :: Y) s' = some g ∧ nf H s' = true ∧ (∀ c ∈ s'.head?, opnL c = none)
theorem ParsedM.stop {H Y s g : List UInt8} {e : UInt8} (h : ParsedM H (e :: Y) s g) (hw : wholeF g = true) (h1 : e ≠ 66) (h2 : e ≠ 109) :
  ∃ a c s', s = a ++ c :: s' ∧ MD H [] a ∧ stB e c = true ∧ fr Y s' = some g ∧ nf H (c :: s') = true := by
 obtain ⟨a, s', rfl, ha, hf, hn, hh⟩ := h
 cases s' with
 | nil =>
  exfalso
  rw [fr] at hf
  rw [← Option.some.inj hf, wholeF] at hw
  simp at hw
  exact h2 hw.1
 | cons c t =>
  obtain ⟨hx, hy⟩ := fr_cons hf
  rw [nxt_skip (hh c rfl), nxt_e h1 h2] at hx hy
  exact ⟨a, c, t, rfl, ha, hx, hy, hn⟩
theorem ParsedM.add {H Y t g x : List UInt8} (h : ParsedM H Y t g) (hx : ∀ a, MD H [] a → MD H [] (x ++ a)) : ParsedM H Y (x ++ t) g := by
 obtain ⟨a, s', rfl, ha, hr⟩ := h
 exact ⟨x ++ a, s', by simp, hx a ha, hr⟩
theorem parseM (n : Nat) (hm : n ≤ 240) : ∀ (s H Y g : List UInt8), s.length ≤ n → fr (66 :: Y) s = some g → wholeF g = true → nf H s = true → ParsedM H Y s g := by
 induction n with
 | zero =>
  intro s H Y g hl hf hw hn
  have : s = [] := List.eq_nil_of_length_eq_zero (by omega)
  subst this
  exact ⟨[], [], rfl, .nil H, hf, hn, by simp⟩
 | succ n ih0 =>
  have ih := ih0 (by omega)
  intro s H Y g hl hf hw hn
  cases s with
  | nil => exact ⟨[], [], rfl, .nil H, hf, hn, by simp⟩
  | cons c t =>
   cases ho : opnL c with
   | none => exact ⟨[], c :: t, rfl, .nil H, hf, hn, by intro d hd; simp at hd; subst hd; exact ho⟩
   | some more =>
    obtain ⟨_, hy⟩ := fr_cons hf
    rw [nxt_B ho] at hy
    simp only [] at hy
    simp only [List.length_cons] at hl
    unfold opnL at ho
    split at ho
    ·skip
     rename_i hc
     have := Option.some.inj ho; subst this
     obtain ⟨v, t', rfl, hv, hy⟩ := fr_e (by decide) (by decide) hy hw
     rw [nf_two (by rcases hc with h | h <;> simp [h])] at hn
     simp only [List.length_cons] at hl
     exact (ih t' H Y g (by omega) hy hw hn).add (x := [c, v]) (fun a ha => .acc c v hc hv ha)
    ·split at ho
     ·rename_i hc
      have := Option.some.inj ho; subst this
      obtain ⟨v, t', rfl, hv, hy⟩ := fr_e (by decide) (by decide) hy hw
      rw [nf_two (by simp [hc])] at hn
      simp only [List.length_cons] at hl
      subst hc
      exact (ih t' H Y g (by omega) hy hw hn).add (x := [105, v]) (fun a ha => .add v hv ha)
     ·split at ho
      ·rename_i hc
       have := Option.some.inj ho; subst this
       subst hc
       rw [nf_one (by decide) (by decide) (by decide)] at hn
       exact (ih t H Y g (by omega) hy hw hn).add (x := [111]) (fun a ha => .out ha)
      ·split at ho
       ·skip
        rename_i hc
        have := Option.some.inj ho; subst this
        subst hc
        obtain ⟨l, t', rfl, hv, hy⟩ := fr_e (by decide) (by decide) hy hw
        rw [nf_take (.inl rfl), Bool.and_eq_true] at hn
        simp only [List.length_cons] at hl
        obtain ⟨a, c, s1, rfl, ha, hc, hz, hm⟩ := (ih t' (l :: H) _ g (by omega) hy hw hn.2).stop hw (by decide) (by decide)
        have := st_end hc; subst this
        rw [nf_give (.inl rfl)] at hm
        simp only [List.length_append, List.length_cons] at hl
        have := (ih s1 H Y g (by omega) hz hw hm).add (x := 91 :: l :: (a ++ [93]))
         (fun b hb => by
          have h1 : MD H [l] (93 :: b) := .give l hb
          have h2 := MD.body (H := H) (K := [l]) ha h1
          simpa using MD.take (H := H) (K := []) l (by rw [← st_l]; exact hv) (by simpa using hn.1) h2)
        simpa using this
       ·split at ho
        ·skip
         rename_i hc
         have := Option.some.inj ho; subst this
         subst hc
         obtain ⟨l, t', rfl, hv, hy⟩ := fr_e (by decide) (by decide) hy hw
         obtain ⟨c, t2, rfl, hc, hy⟩ := fr_e (by decide) (by decide) hy hw
         obtain ⟨v, t3, rfl, hv2, hy⟩ := fr_e (by decide) (by decide) hy hw
         obtain ⟨d, t4, rfl, hd, hy⟩ := fr_e (by decide) (by decide) hy hw
         have := st_mend hd; subst this
         have hc' : c = 103 ∨ c = 112 := by
          rw [st_a] at hc; simp [inU] at hc
          rcases hc with h | h
          ·exact .inl h.symm
          ·exact .inr h.symm
         rw [nf_take (.inr rfl), Bool.and_eq_true, nf_two (by rcases hc' with h | h <;> simp [h]), nf_give (.inr rfl)] at hn
         simp only [List.length_cons] at hl
         have := (ih t4 H Y g (by omega) hy hw hn.2).add (x := [60, l, c, v, 62])
          (fun b hb => .mend l c v hv (by simpa using hn.1) hc' hv2 hb)
         simpa using this
        ·split at ho
         ·skip
          rename_i hc
          have := Option.some.inj ho; subst this
          subst hc
          obtain ⟨l, t', rfl, hv, hy⟩ := fr_e (by decide) (by decide) hy hw
          have := st_lb hv; subst this
          rw [nf_one (by decide) (by decide) (by decide), nf_one (by decide) (by decide) (by decide)] at hn
          simp only [List.length_cons] at hl
          obtain ⟨a, c, s1, rfl, ha, hc, hz, hm⟩ := (ih t' H _ g (by omega) hy hw hn).stop hw (by decide) (by decide)
          have := st_rb hc; subst this
          obtain ⟨l, t', rfl, hv2, hz⟩ := fr_e (by decide) (by decide) hz hw
          have := st_lb hv2; subst this
          rw [nf_one (by decide) (by decide) (by decide), nf_one (by decide) (by decide) (by decide)] at hm
          simp only [List.length_append, List.length_cons] at hl
          obtain ⟨b, c, s2, rfl, hb, hc2, hz2, hm2⟩ := (ih t' H _ g (by omega) hz hw hm).stop hw (by decide) (by decide)
          have := st_rb hc2; subst this
          rw [nf_one (by decide) (by decide) (by decide)] at hm2
          simp only [List.length_append, List.length_cons] at hl
          have := (ih s2 H Y g (by omega) hz2 hw hm2).add (x := 63 :: 123 :: (a ++ 125 :: 123 :: (b ++ [125])))
           (fun d hd => by simpa using MD.branch (H := H) (K := []) ha hb hd)
          simpa using this
         ·split at ho
          ·skip
           rename_i hc
           have := Option.some.inj ho; subst this
           subst hc
           obtain ⟨l, t', rfl, hv, hy⟩ := fr_e (by decide) (by decide) hy hw
           have := st_lb hv; subst this
           rw [nf_one (by decide) (by decide) (by decide), nf_one (by decide) (by decide) (by decide)] at hn
           simp only [List.length_cons] at hl
           obtain ⟨a, c, s1, rfl, ha, hc, hz, hm⟩ := (ih t' H _ g (by omega) hy hw hn).stop hw (by decide) (by decide)
           have := st_rb hc; subst this
           rw [nf_one (by decide) (by decide) (by decide)] at hm
           simp only [List.length_append, List.length_cons] at hl
           have := (ih s1 H Y g (by omega) hz hw hm).add (x := 33 :: 123 :: (a ++ [125]))
            (fun d hd => by simpa using MD.loop (H := H) (K := []) (by omega) ha hd)
           simpa using this
          ·exact absurd ho (by simp)
theorem threadsM (m : Nat) : ∀ s g, s.length ≤ 240 → fr (66 :: List.replicate m 109) s = some g → wholeF g = true → nf [] s = true → (splitBar s).length ≤ m + 1 ∧ ∀ a ∈ splitBar s, MD [] [] a := by
 induction m with
 | zero =>
  intro s g hl hf hw hn
  obtain ⟨a, s', rfl, ha, hf', _, hh⟩ := parseM s.length hl s [] [] g (Nat.le_refl _) hf hw hn
  cases s' with
  | nil => rw [List.append_nil, split_none ha.td.no]; exact ⟨Nat.le_refl _, by simpa using ha⟩
  | cons c t =>
   obtain ⟨hx, _⟩ := fr_cons hf'
   rw [nxt_skip (hh c rfl)] at hx
   exact absurd hx (by simp [nxt])
 | succ m ih =>
  intro s g hl hf hw hn
  obtain ⟨a, s', rfl, ha, hf', hn', hh⟩ := parseM s.length hl s [] (List.replicate (m + 1) 109) g (Nat.le_refl _) hf hw hn
  cases s' with
  | nil => rw [List.append_nil, split_none ha.td.no]; exact ⟨by simp, by simpa using ha⟩
  | cons c t =>
   obtain ⟨hx, hy⟩ := fr_cons hf'
   rw [nxt_skip (hh c rfl), List.replicate_succ, nxt_m] at hx hy
   have : c = 124 := by simpa using hx
   subst this
   rw [nf_one (by decide) (by decide) (by decide)] at hn'
   obtain ⟨h1, h2⟩ := ih t g (by simp at hl; omega) hy hw hn'
   rw [split_bar ha.td.no]
   refine ⟨by simp; omega, ?_⟩
   intro x hx
   rcases List.mem_cons.1 hx with rfl | hx
   ·exact ha
   ·exact h2 x hx
theorem acc_threadsM {p : List UInt8} {mks : List MK} (ha : Acc p mks) (hl : p.length ≤ 240) (hn : mks.find? nestB = none) : (splitBar p).length ≤ 4 ∧ ∀ a ∈ splitBar p, MD [] [] a := by
 obtain ⟨g, hg, hw⟩ := ha.form
 have h1 := fr_of_fw hg p.length 0 [66, 109, 109, 109] (by omega) (by omega) rfl
 have h2 := nf_of ha hn p.length 0 (by omega)
 exact threadsM 3 p g hl (by simpa using h1) hw (by simpa [tw] using h2)
end Go.Proofs.Ytdgkpkdinfklaab

namespace Go.Proofs.Ytdgkpkdinfklaab
def stp : List UInt8 → List UInt8
 | [] => []
 | [c] => if c = 60 ∨ c = 62 then [] else [c]
 | c :: v :: s => if c = 60 then stp s else if c = 62 then stp (v :: s) else c :: stp (v :: s)
theorem stp_lt (l : UInt8) (s : List UInt8) : stp (60 :: l :: s) = stp s := by rw [stp, if_pos rfl]
theorem stp_gt (s : List UInt8) : stp (62 :: s) = stp s := by
 cases s with
 | nil => rfl
 | cons v s => rw [stp, if_neg (by decide), if_pos rfl]
theorem stp_keep {c : UInt8} (h1 : c ≠ 60) (h2 : c ≠ 62) (s : List UInt8) : stp (c :: s) = c :: stp s := by
 cases s with
 | nil => simp [stp, h1, h2]
 | cons v s => rw [stp, if_neg h1, if_neg h2]
theorem in_keep {al : List UInt8} {v : UInt8} (h : inU al v = true) (h1 : inU al 60 = false) (h2 : inU al 62 = false) : v ≠ 60 ∧ v ≠ 62 := by
 constructor
 ·intro e; rw [e, h1] at h; cases h
 ·intro e; rw [e, h2] at h; cases h
theorem stp_two {c v : UInt8} (hc : c ≠ 60 ∧ c ≠ 62) (hv : v ≠ 60 ∧ v ≠ 62) (s : List UInt8) : stp (c :: v :: s) = c :: v :: stp s := by rw [stp_keep hc.1 hc.2, stp_keep hv.1 hv.2]
theorem acc_keep {c : UInt8} (h : c = 103 ∨ c = 112) : c ≠ 60 ∧ c ≠ 62 := by rcases h with rfl | rfl <;> decide
theorem xyz_keep {v : UInt8} (h : inU [120, 121, 122] v = true) : v ≠ 60 ∧ v ≠ 62 := in_keep h (by decide) (by decide)
theorem dig_keep {v : UInt8} (h : inU [48, 49, 50, 51, 52, 53, 54, 55, 56, 57] v = true) : v ≠ 60 ∧ v ≠ 62 := in_keep h (by decide) (by decide)
theorem lc4_keep {v : UInt8} (h : inU [65, 66, 67, 68] v = true) : v ≠ 60 ∧ v ≠ 62 := in_keep h (by decide) (by decide)
end Go.Proofs.Ytdgkpkdinfklaab
