import Derived.Test.YtdgkpkdinfklaabGSF
namespace Go.Proofs.Ytdgkpkdinfklaab
inductive MD : List UInt8 → List UInt8 → List UInt8 → Prop
 | nil (H : List UInt8) : MD H [] []
 | acc {H K s : List UInt8} (c v : UInt8) : (c = 103 ∨ c = 112) → inU [120, 121, 122] v = true → MD H K s → MD H K (c :: v :: s)
 | add {H K s : List UInt8} (d : UInt8) : inU [48, 49, 50, 51, 52, 53, 54, 55, 56, 57] d = true → MD H K s → MD H K (105 :: d :: s)
 | out {H K s : List UInt8} : MD H K s → MD H K (111 :: s)
 | take {H K s : List UInt8} (l : UInt8) : inU [65, 66, 67, 68] l = true → inU (K ++ H) l = false → MD H (l :: K) s → MD H K (91 :: l :: s)
 | give {H K s : List UInt8} (l : UInt8) : MD H K s → MD H (l :: K) (93 :: s)
 | mend {H K s : List UInt8} (l c v : UInt8) : inU [65, 66, 67, 68, 69] l = true → inU (K ++ H) l = false → (c = 103 ∨ c = 112) → inU [120, 121, 122] v = true → MD H K s → MD H K (60 :: l :: c :: v :: 62 :: s)
 | branch {H K a b s : List UInt8} : MD (K ++ H) [] a → MD (K ++ H) [] b → MD H K s → MD H K (63 :: 123 :: (a ++ 125 :: 123 :: (b ++ 125 :: s)))
 | loop {H K a s : List UInt8} : a.length ≤ 240 → MD (K ++ H) [] a → MD H K s → MD H K (33 :: 123 :: (a ++ 125 :: s))
theorem MD.td {H K s : List UInt8} (h : MD H K s) : TD H K s := by
 induction h with
 | nil H => exact .nil H
 | acc c v hc hv _ ih => exact .acc c v hc hv ih
 | add d hd _ ih => exact .add d hd ih
 | out _ ih => exact .out ih
 | take l hl hn _ ih => exact .take 91 l (.inl rfl) (inU_four hl) hn ih
 | give l _ ih => exact .give 93 l (.inl rfl) ih
 | mend l c v hl hn hc hv _ ih => exact .take 60 l (.inr rfl) hl hn (.acc c v hc hv (.give 62 l (.inr rfl) ih))
 | branch _ _ _ iha ihb ih => exact .branch iha ihb ih
 | loop hm _ _ iha ih => exact .loop hm iha ih
theorem MD.cat {X J a : List UInt8} (h : MD X J a) : ∀ {H K s : List UInt8}, X = K ++ H → MD H K s → MD H (J ++ K) (a ++ s) := by
 induction h with
 | nil X => intro H K s _ hs; exact hs
 | acc c v hc hv _ ih => intro H K s e hs; exact .acc c v hc hv (ih e hs)
 | add d hd _ ih => intro H K s e hs; exact .add d hd (ih e hs)
 | out _ ih => intro H K s e hs; exact .out (ih e hs)
 | take l hl hn _ ih => intro H K s e hs; subst e; exact .take l hl (by rw [List.append_assoc]; exact hn) (ih rfl hs)
 | give l _ ih => intro H K s e hs; exact .give l (ih e hs)
 | mend l c v hl hn hc hv _ ih => intro H K s e hs; subst e; exact .mend l c v hl (by rw [List.append_assoc]; exact hn) hc hv (ih rfl hs)
 | @branch X J a b t ha hb _ _ _ ih =>
  intro H K s e hs; subst e
  have := MD.branch (H := H) (K := J ++ K) (by rw [List.append_assoc]; exact ha) (by rw [List.append_assoc]; exact hb) (ih rfl hs)
  simpa using this
 | @loop X J a t hm ha _ _ ih =>
  intro H K s e hs; subst e
  have := MD.loop (H := H) (K := J ++ K) hm (by rw [List.append_assoc]; exact ha) (ih rfl hs)
  simpa using this
theorem MD.body {H K a s : List UInt8} (h : MD (K ++ H) [] a) (hs : MD H K s) : MD H K (a ++ s) := h.cat rfl hs
def ParsedM (H Y s g : List UInt8) : Prop := ∃ a s', s = a ++ s' ∧ MD H [] a ∧ fr (66 :: Y) s' = some g ∧ nf H s' = true ∧ (∀ c ∈ s'.head?, opnL c = none)
theorem ParsedM.stop {H Y s g : List UInt8} {e : UInt8} (h : ParsedM H (e :: Y) s g) (hw : wholeF g = true) (h1 : e ≠ 66) (h2 : e ≠ 109) :
  ∃ a c s', s = a ++ c :: s' ∧ MD H [] a ∧ stB e c = true ∧ fr Y s' = some g ∧ nf H (c :: s') = true := by
 obtain ⟨a, s', rfl, ha, hf, hn, hh⟩ := h
 cases s' with
 | nil =>
  exfalso
  rw [fr] at hf
  rw [← Option.some.inj hf, wholeF] at hw
  simp at hw
  exact h2 hw.1
 | cons c t =>
  obtain ⟨hx, hy⟩ := fr_cons hf
  rw [nxt_skip (hh c rfl), nxt_e h1 h2] at hx hy
  exact ⟨a, c, t, rfl, ha, hx, hy, hn⟩
theorem ParsedM.add {H Y t g x : List UInt8} (h : ParsedM H Y t g) (hx : ∀ a, MD H [] a → MD H [] (x ++ a)) : ParsedM H Y (x ++ t) g := by
 obtain ⟨a, s', rfl, ha, hr⟩ := h
 exact ⟨x ++ a, s', by simp, hx a ha, hr⟩
theorem parseM (n : Nat) (hm : n ≤ 240) : ∀ (s H Y g : List UInt8), s.length ≤ n → fr (66 :: Y) s = some g → wholeF g = true → nf H s = true → ParsedM H Y s g := by
 induction n with
 | zero =>
  intro s H Y g hl hf hw hn
  have : s = [] := List.eq_nil_of_length_eq_zero (by omega)
  subst this
  exact ⟨[], [], rfl, .nil H, hf, hn, by simp⟩
 | succ n ih0 =>
  have ih := ih0 (by omega)
  intro s H Y g hl hf hw hn
  cases s with
  | nil => exact ⟨[], [], rfl, .nil H, hf, hn, by simp⟩
  | cons c t =>
   cases ho : opnL c with
   | none => exact ⟨[], c :: t, rfl, .nil H, hf, hn, by intro d hd; simp at hd; subst hd; exact ho⟩
   | some more =>
    obtain ⟨_, hy⟩ := fr_cons hf
    rw [nxt_B ho] at hy
    simp only [] at hy
    simp only [List.length_cons] at hl
    unfold opnL at ho
    split at ho
    ·skip
     rename_i hc
     have := Option.some.inj ho; subst this
     obtain ⟨v, t', rfl, hv, hy⟩ := fr_e (by decide) (by decide) hy hw
     rw [nf_two (by rcases hc with h | h <;> simp [h])] at hn
     simp only [List.length_cons] at hl
     exact (ih t' H Y g (by omega) hy hw hn).add (x := [c, v]) (fun a ha => .acc c v hc hv ha)
    ·split at ho
     ·rename_i hc
      have := Option.some.inj ho; subst this
      obtain ⟨v, t', rfl, hv, hy⟩ := fr_e (by decide) (by decide) hy hw
      rw [nf_two (by simp [hc])] at hn
      simp only [List.length_cons] at hl
      subst hc
      exact (ih t' H Y g (by omega) hy hw hn).add (x := [105, v]) (fun a ha => .add v hv ha)
     ·split at ho
      ·rename_i hc
       have := Option.some.inj ho; subst this
       subst hc
       rw [nf_one (by decide) (by decide) (by decide)] at hn
       exact (ih t H Y g (by omega) hy hw hn).add (x := [111]) (fun a ha => .out ha)
      ·split at ho
       ·skip
        rename_i hc
        have := Option.some.inj ho; subst this
        subst hc
        obtain ⟨l, t', rfl, hv, hy⟩ := fr_e (by decide) (by decide) hy hw
        rw [nf_take (.inl rfl), Bool.and_eq_true] at hn
        simp only [List.length_cons] at hl
        obtain ⟨a, c, s1, rfl, ha, hc, hz, hm⟩ := (ih t' (l :: H) _ g (by omega) hy hw hn.2).stop hw (by decide) (by decide)
        have := st_end hc; subst this
        rw [nf_give (.inl rfl)] at hm
        simp only [List.length_append, List.length_cons] at hl
        have := (ih s1 H Y g (by omega) hz hw hm).add (x := 91 :: l :: (a ++ [93]))
         (fun b hb => by
          have h1 : MD H [l] (93 :: b) := .give l hb
          have h2 := MD.body (H := H) (K := [l]) ha h1
          simpa using MD.take (H := H) (K := []) l (by rw [← st_l]; exact hv) (by simpa using hn.1) h2)
        simpa using this
       ·split at ho
        ·skip
         rename_i hc
         have := Option.some.inj ho; subst this
         subst hc
         obtain ⟨l, t', rfl, hv, hy⟩ := fr_e (by decide) (by decide) hy hw
         obtain ⟨c, t2, rfl, hc, hy⟩ := fr_e (by decide) (by decide) hy hw
         obtain ⟨v, t3, rfl, hv2, hy⟩ := fr_e (by decide) (by decide) hy hw
         obtain ⟨d, t4, rfl, hd, hy⟩ := fr_e (by decide) (by decide) hy hw
         have := st_mend hd; subst this
         have hc' : c = 103 ∨ c = 112 := by
          rw [st_a] at hc; simp [inU] at hc
          rcases hc with h | h
          ·exact .inl h.symm
          ·exact .inr h.symm
         rw [nf_take (.inr rfl), Bool.and_eq_true, nf_two (by rcases hc' with h | h <;> simp [h]), nf_give (.inr rfl)] at hn
         simp only [List.length_cons] at hl
         have := (ih t4 H Y g (by omega) hy hw hn.2).add (x := [60, l, c, v, 62])
          (fun b hb => .mend l c v hv (by simpa using hn.1) hc' hv2 hb)
         simpa using this
        ·split at ho
         ·skip
          rename_i hc
          have := Option.some.inj ho; subst this
          subst hc
          obtain ⟨l, t', rfl, hv, hy⟩ := fr_e (by decide) (by decide) hy hw
          have := st_lb hv; subst this
          rw [nf_one (by decide) (by decide) (by decide), nf_one (by decide) (by decide) (by decide)] at hn
          simp only [List.length_cons] at hl
          obtain ⟨a, c, s1, rfl, ha, hc, hz, hm⟩ := (ih t' H _ g (by omega) hy hw hn).stop hw (by decide) (by decide)
          have := st_rb hc; subst this
          obtain ⟨l, t', rfl, hv2, hz⟩ := fr_e (by decide) (by decide) hz hw
          have := st_lb hv2; subst this
          rw [nf_one (by decide) (by decide) (by decide), nf_one (by decide) (by decide) (by decide)] at hm
          simp only [List.length_append, List.length_cons] at hl
          obtain ⟨b, c, s2, rfl, hb, hc2, hz2, hm2⟩ := (ih t' H _ g (by omega) hz hw hm).stop hw (by decide) (by decide)
          have := st_rb hc2; subst this
          rw [nf_one (by decide) (by decide) (by decide)] at hm2
          simp only [List.length_append, List.length_cons] at hl
          have := (ih s2 H Y g (by omega) hz2 hw hm2).add (x := 63 :: 123 :: (a ++ 125 :: 123 :: (b ++ [125])))
           (fun d hd => by simpa using MD.branch (H := H) (K := []) ha hb hd)
          simpa using this
         ·split at ho
          ·skip
           rename_i hc
           have := Option.some.inj ho; subst this
           subst hc
           obtain ⟨l, t', rfl, hv, hy⟩ := fr_e (by decide) (by decide) hy hw
           have := st_lb hv; subst this
           rw [nf_one (by decide) (by decide) (by decide), nf_one (by decide) (by decide) (by decide)] at hn
           simp only [List.length_cons] at hl
           obtain ⟨a, c, s1, rfl, ha, hc, hz, hm⟩ := (ih t' H _ g (by omega) hy hw hn).stop hw (by decide) (by decide)
           have := st_rb hc; subst this
           rw [nf_one (by decide) (by decide) (by decide)] at hm
           simp only [List.length_append, List.length_cons] at hl
           have := (ih s1 H Y g (by omega) hz hw hm).add (x := 33 :: 123 :: (a ++ [125]))
            (fun d hd => by simpa using MD.loop (H := H) (K := []) (by omega) ha hd)
           simpa using this
          ·exact absurd ho (by simp)
theorem threadsM (m : Nat) : ∀ s g, s.length ≤ 240 → fr (66 :: List.replicate m 109) s = some g → wholeF g = true → nf [] s = true → (splitBar s).length ≤ m + 1 ∧ ∀ a ∈ splitBar s, MD [] [] a := by
 induction m with
 | zero =>
  intro s g hl hf hw hn
  obtain ⟨a, s', rfl, ha, hf', _, hh⟩ := parseM s.length hl s [] [] g (Nat.le_refl _) hf hw hn
  cases s' with
  | nil => rw [List.append_nil, split_none ha.td.no]; exact ⟨Nat.le_refl _, by simpa using ha⟩
  | cons c t =>
   obtain ⟨hx, _⟩ := fr_cons hf'
   rw [nxt_skip (hh c rfl)] at hx
   exact absurd hx (by simp [nxt])
 | succ m ih =>
  intro s g hl hf hw hn
  obtain ⟨a, s', rfl, ha, hf', hn', hh⟩ := parseM s.length hl s [] (List.replicate (m + 1) 109) g (Nat.le_refl _) hf hw hn
  cases s' with
  | nil => rw [List.append_nil, split_none ha.td.no]; exact ⟨by simp, by simpa using ha⟩
  | cons c t =>
   obtain ⟨hx, hy⟩ := fr_cons hf'
   rw [nxt_skip (hh c rfl), List.replicate_succ, nxt_m] at hx hy
   have : c = 124 := by simpa using hx
   subst this
   rw [nf_one (by decide) (by decide) (by decide)] at hn'
   obtain ⟨h1, h2⟩ := ih t g (by simp at hl; omega) hy hw hn'
   rw [split_bar ha.td.no]
   refine ⟨by simp; omega, ?_⟩
   intro x hx
   rcases List.mem_cons.1 hx with rfl | hx
   ·exact ha
   ·exact h2 x hx
theorem acc_threadsM {p : List UInt8} {mks : List MK} (ha : Acc p mks) (hl : p.length ≤ 240) (hn : mks.find? nestB = none) : (splitBar p).length ≤ 4 ∧ ∀ a ∈ splitBar p, MD [] [] a := by
 obtain ⟨g, hg, hw⟩ := ha.form
 have h1 := fr_of_fw hg p.length 0 [66, 109, 109, 109] (by omega) (by omega) rfl
 have h2 := nf_of ha hn p.length 0 (by omega)
 exact threadsM 3 p g hl (by simpa using h1) hw (by simpa [tw] using h2)
end Go.Proofs.Ytdgkpkdinfklaab

namespace Go.Proofs.Ytdgkpkdinfklaab
def stp : List UInt8 → List UInt8
 | [] => []
 | [c] => if c = 60 ∨ c = 62 then [] else [c]
 | c :: v :: s => if c = 60 then stp s else if c = 62 then stp (v :: s) else c :: stp (v :: s)
theorem stp_lt (l : UInt8) (s : List UInt8) : stp (60 :: l :: s) = stp s := by rw [stp, if_pos rfl]
theorem stp_gt (s : List UInt8) : stp (62 :: s) = stp s := by
 cases s with
 | nil => rfl
 | cons v s => rw [stp, if_neg (by decide), if_pos rfl]
theorem stp_keep {c : UInt8} (h1 : c ≠ 60) (h2 : c ≠ 62) (s : List UInt8) : stp (c :: s) = c :: stp s := by
 cases s with
 | nil => simp [stp, h1, h2]
 | cons v s => rw [stp, if_neg h1, if_neg h2]
theorem in_keep {al : List UInt8} {v : UInt8} (h : inU al v = true) (h1 : inU al 60 = false) (h2 : inU al 62 = false) : v ≠ 60 ∧ v ≠ 62 := by
 constructor
 ·intro e; rw [e, h1] at h; cases h
 ·intro e; rw [e, h2] at h; cases h
theorem stp_two {c v : UInt8} (hc : c ≠ 60 ∧ c ≠ 62) (hv : v ≠ 60 ∧ v ≠ 62) (s : List UInt8) : stp (c :: v :: s) = c :: v :: stp s := by rw [stp_keep hc.1 hc.2, stp_keep hv.1 hv.2]
theorem acc_keep {c : UInt8} (h : c = 103 ∨ c = 112) : c ≠ 60 ∧ c ≠ 62 := by rcases h with rfl | rfl <;> decide
theorem xyz_keep {v : UInt8} (h : inU [120, 121, 122] v = true) : v ≠ 60 ∧ v ≠ 62 := in_keep h (by decide) (by decide)
theorem dig_keep {v : UInt8} (h : inU [48, 49, 50, 51, 52, 53, 54, 55, 56, 57] v = true) : v ≠ 60 ∧ v ≠ 62 := in_keep h (by decide) (by decide)
theorem lck_keep {v : UInt8} (h : inU [65, 66, 67, 68, 69] v = true) : v ≠ 60 ∧ v ≠ 62 := in_keep h (by decide) (by decide)
theorem lc4_keep {v : UInt8} (h : inU [65, 66, 67, 68] v = true) : v ≠ 60 ∧ v ≠ 62 := in_keep h (by decide) (by decide)
theorem stp_cat {X J a : List UInt8} (h : MD X J a) (s : List UInt8) : stp (a ++ s) = stp a ++ stp s := by
 induction h generalizing s with
 | nil X => rfl
 | acc c v hc hv _ ih => rw [List.cons_append, List.cons_append, stp_two (acc_keep hc) (xyz_keep hv), stp_two (acc_keep hc) (xyz_keep hv), ih]; rfl
 | add d hd _ ih => rw [List.cons_append, List.cons_append, stp_two (by decide) (dig_keep hd), stp_two (by decide) (dig_keep hd), ih]; rfl
 | out _ ih => rw [List.cons_append, stp_keep (by decide) (by decide), stp_keep (by decide) (by decide), ih]; rfl
 | take l hl hn _ ih => rw [List.cons_append, List.cons_append, stp_two (by decide) (lc4_keep hl), stp_two (by decide) (lc4_keep hl), ih]; rfl
 | give l _ ih => rw [List.cons_append, stp_keep (by decide) (by decide), stp_keep (by decide) (by decide), ih]; rfl
 | mend l c v hl hn hc hv _ ih =>
  simp only [List.cons_append]
  rw [stp_lt, stp_two (acc_keep hc) (xyz_keep hv), stp_gt, stp_lt, stp_two (acc_keep hc) (xyz_keep hv), stp_gt, ih]; rfl
 | branch _ _ _ iha ihb ih =>
  simp only [List.cons_append, List.append_assoc]
  rw [stp_two (by decide) (by decide), stp_two (by decide) (by decide), iha, iha, stp_two (by decide) (by decide), stp_two (by decide) (by decide), ihb, ihb, stp_keep (by decide) (by decide), stp_keep (by decide) (by decide), ih]
  simp
 | loop hm _ _ iha ih =>
  simp only [List.cons_append, List.append_assoc]
  rw [stp_two (by decide) (by decide), stp_two (by decide) (by decide), iha, iha, stp_keep (by decide) (by decide), stp_keep (by decide) (by decide), ih]
  simp
theorem stp_len (s : List UInt8) : (stp s).length ≤ s.length := by
 have key : ∀ n s, s.length ≤ n → (stp s).length ≤ s.length := by
  intro n
  induction n with
  | zero => intro s h; have : s = [] := List.eq_nil_of_length_eq_zero (by omega); subst this; exact Nat.le_refl _
  | succ n ih =>
   intro s h
   match s with
   | [] => exact Nat.le_refl _
   | [c] => rw [stp]; split <;> simp
   | c :: v :: t =>
    rw [stp]
    simp only [List.length_cons] at h ⊢
    split
    ·have := ih t (by omega); omega
    ·split
     ·have := ih (v :: t) (by simp; omega); simp at this; omega
     ·have := ih (v :: t) (by simp; omega); simp at this ⊢; omega
 exact key s.length s (Nat.le_refl _)
theorem MD.stp {H K s : List UInt8} (h : MD H K s) : MD H K (Proofs.Ytdgkpkdinfklaab.stp s) := by
 induction h with
 | nil H => exact .nil H
 | acc c v hc hv _ ih => rw [stp_two (acc_keep hc) (xyz_keep hv)]; exact .acc c v hc hv ih
 | add d hd _ ih => rw [stp_two (by decide) (dig_keep hd)]; exact .add d hd ih
 | out _ ih => rw [stp_keep (by decide) (by decide)]; exact .out ih
 | take l hl hn _ ih => rw [stp_two (by decide) (lc4_keep hl)]; exact .take l hl hn ih
 | give l _ ih => rw [stp_keep (by decide) (by decide)]; exact .give l ih
 | mend l c v hl hn hc hv _ ih => rw [stp_lt, stp_two (acc_keep hc) (xyz_keep hv), stp_gt]; exact .acc c v hc hv ih
 | branch ha hb _ iha ihb ih =>
  rw [stp_two (by decide) (by decide), stp_cat ha, stp_two (by decide) (by decide), stp_cat hb, stp_keep (by decide) (by decide)]
  exact .branch iha ihb ih
 | @loop H K a s hm ha _ iha ih =>
  rw [stp_two (by decide) (by decide), stp_cat ha, stp_keep (by decide) (by decide)]
  exact .loop (Nat.le_trans (stp_len a) hm) iha ih
inductive TRel : List UInt8 → List UInt8 → List UInt8 → List UInt8 → Prop
 | whole {s h : List UInt8} : MD [] h.reverse s → TRel s h (stp s) h
 | mid {h s : List UInt8} (l c v : UInt8) : (c = 103 ∨ c = 112) → inU [120, 121, 122] v = true → MD [] h.reverse s → TRel (c :: v :: 62 :: s) (h ++ [l]) (c :: v :: stp s) h
 | late {h s : List UInt8} (l : UInt8) : MD [] h.reverse s → TRel (62 :: s) (h ++ [l]) (stp s) h
structure PRel (Q P : PS) : Prop where
 okq : ∃ N, Q.Ok N
 okp : ∃ N, P.Ok N
 len : Q.todo.length = P.todo.length
 reg : Q.regs = P.regs
 gl : Q.gl = P.gl
 pr : Q.pr = P.pr
 th : ∀ (t : Nat) (s h : List UInt8), Q.todo[t]? = some s → Q.held[t]? = some h → ∃ s' h', P.todo[t]? = some s' ∧ P.held[t]? = some h' ∧ TRel s h s' h'
theorem TRel.sub {s h s' h' : List UInt8} (r : TRel s h s' h') : ∀ l ∈ h', l ∈ h := by
 cases r with
 | whole _ => exact fun l hl => hl
 | mid l c v _ _ _ => exact fun x hx => List.mem_append_left _ hx
 | late l _ => exact fun x hx => List.mem_append_left _ hx
end Go.Proofs.Ytdgkpkdinfklaab

namespace Go.Proofs.Ytdgkpkdinfklaab
inductive MSh (l : List UInt8) : List UInt8 → Prop
 | get (v : UInt8) (r : List UInt8) : inU [120, 121, 122] v = true → MD [] l.reverse r → MSh l (103 :: v :: r)
 | put (v : UInt8) (r : List UInt8) : inU [120, 121, 122] v = true → MD [] l.reverse r → MSh l (112 :: v :: r)
 | add (v : UInt8) (r : List UInt8) : inU [48, 49, 50, 51, 52, 53, 54, 55, 56, 57] v = true → MD [] l.reverse r → MSh l (105 :: v :: r)
 | out (r : List UInt8) : MD [] l.reverse r → MSh l (111 :: r)
 | opens (v : UInt8) (r : List UInt8) : inU [65, 66, 67, 68, 69] v = true → inU l v = false → MD [] (l ++ [v]).reverse r → MSh l (91 :: v :: r)
 | mended (v c u : UInt8) (r : List UInt8) : inU [65, 66, 67, 68, 69] v = true → inU l v = false → (c = 103 ∨ c = 112) → inU [120, 121, 122] u = true → MD [] l.reverse r → MSh l (60 :: v :: c :: u :: 62 :: r)
 | shut (v : UInt8) (m r : List UInt8) : l = m ++ [v] → MD [] m.reverse r → MSh l (93 :: r)
 | branch (a b r : List UInt8) : MD l.reverse [] a → MD l.reverse [] b → MD [] l.reverse r → MSh l (63 :: 123 :: (a ++ 125 :: 123 :: (b ++ 125 :: r)))
 | loop (a r : List UInt8) : a.length ≤ 240 → MD l.reverse [] a → MD [] l.reverse r → MSh l (33 :: 123 :: (a ++ 125 :: r))
theorem msh_of {l s : List UInt8} (hs : s ≠ []) (h : MD [] l.reverse s) : MSh l s := by
 obtain ⟨K, hK⟩ : ∃ K, K = l.reverse := ⟨_, rfl⟩
 rw [← hK] at h
 obtain ⟨H, hH⟩ : ∃ H : List UInt8, H = [] := ⟨_, rfl⟩
 rw [← hH] at h
 have hl : l = K.reverse := by rw [hK, List.reverse_reverse]
 cases h with
 | nil => exact absurd rfl hs
 | acc c v hc hv hr =>
  subst hH
  rw [hK] at hr
  rcases hc with rfl | rfl
  ·exact .get v _ hv hr
  ·exact .put v _ hv hr
 | add d hd hr => subst hH; rw [hK] at hr; exact .add d _ hd hr
 | out hr => subst hH; rw [hK] at hr; exact .out _ hr
 | take v hv hn hr =>
  subst hH
  have e : v :: K = (l ++ [v]).reverse := by rw [hK]; simp
  rw [e] at hr
  have hn' : inU l v = false := by
   rw [List.append_nil, hK] at hn
   simpa [inU] using hn
  exact .opens v _ (inU_four hv) hn' hr
 | mend v c u hv hn hc hu hr =>
  subst hH
  have hn' : inU l v = false := by
   rw [List.append_nil, hK] at hn
   simpa [inU] using hn
  rw [hK] at hr
  exact .mended v c u _ hv hn' hc hu hr
 | @give _ K' s v hr =>
  subst hH
  have e : l = K'.reverse ++ [v] := by rw [hl]; simp
  have hr' : MD [] (K'.reverse).reverse s := by rw [List.reverse_reverse]; exact hr
  exact .shut v _ _ e hr'
 | branch ha hb hr =>
  subst hH
  rw [List.append_nil, hK] at ha hb
  rw [hK] at hr
  exact .branch _ _ _ ha hb hr
 | loop hm ha hr =>
  subst hH
  rw [List.append_nil, hK] at ha
  rw [hK] at hr
  exact .loop _ _ hm ha hr
def Eff (P : PS) (x : UInt8) (i : Nat) (s : List UInt8) : Prop := (x.toNat : Int) - 49 = i ∧ P.todo[i]? = some s ∧ s ≠ [] ∧ waitsL P.held s < 0
theorem pick_two (P : PS) (n : Int) (x : UInt8) : P.pick n x = (P, 46) ∨ ∃ i s, Eff P x i s := by
 by_cases c1 : (x.toNat : Int) - 49 < 0 ∨ (P.todo.length : Int) ≤ (x.toNat : Int) - 49 ∨ P.todo.getD ((x.toNat : Int) - 49).toNat [] = []
 ·left; unfold PS.pick; simp only; rw [if_pos c1]
 ·have c1' := c1
  simp only [not_or] at c1'
  obtain ⟨a1, a2, a3⟩ := c1'
  obtain ⟨i, hi⟩ : ∃ i : Nat, (x.toNat : Int) - 49 = i := Int.eq_ofNat_of_zero_le (by omega)
  by_cases c2 : 0 ≤ P.waits ((x.toNat : Int) - 49).toNat
  ·left; unfold PS.pick; simp only; rw [if_neg c1, if_pos c2]
  ·right
   rw [hi, Int.toNat_natCast] at a3 c2
   have hlt : i < P.todo.length := by omega
   have hs : P.todo[i]? = some P.todo[i] := List.getElem?_eq_getElem hlt
   have hsd : P.todo.getD i [] = P.todo[i] := by rw [List.getD_eq_getElem?_getD, hs]; rfl
   refine ⟨i, P.todo[i], hi, hs, by rw [← hsd]; exact a3, ?_⟩
   have : P.waits i = waitsL P.held P.todo[i] := by unfold PS.waits; rw [hsd]
   omega
theorem Eff.pick {P : PS} {N : Nat} {x : UInt8} {i : Nat} {s : List UInt8} (h : Eff P x i s) (hok : P.Ok N) (n : Int) :
  ∃ l r0, At P i s l r0 ∧ TD [] l.reverse s ∧ P.pick n x = ({ (P.does i).1 with st := (P.does i).1.st ++ [⟨n, (i : Int), (P.does i).2.1, (P.does i).2.2⟩] }, (P.does i).2.1) ∧ ∃ M, (P.pick n x).1.Ok M := by
 obtain ⟨hx, hs, hne, hw⟩ := h
 obtain ⟨l, r0, hat, htd, hsN, x0, x9⟩ := hok.at hs
 have hlt := (List.getElem?_eq_some_iff.1 hs).1
 have hsd : P.todo.getD i [] = s := by rw [List.getD_eq_getElem?_getD, hs]; rfl
 have hwt : P.waits i = waitsL P.held s := by unfold PS.waits; rw [hsd]
 have e : P.pick n x = ({ (P.does i).1 with st := (P.does i).1.st ++ [⟨n, (i : Int), (P.does i).2.1, (P.does i).2.2⟩] }, (P.does i).2.1) := by
  unfold PS.pick
  simp only
  rw [hx, Int.toNat_natCast, if_neg (by rw [hsd]; intro h; rcases h with h | h | h; omega; omega; exact hne h), if_neg (by omega)]
 refine ⟨l, r0, hat, htd, e, ?_⟩
 rw [e]
 exact ⟨_, okSt (does_ok hok hat (sh_of hne htd) hsN x0 x9) _⟩
theorem holder_mono {A B : List (List UInt8)} (h : ∀ (t : Nat) (w : List UInt8), B[t]? = some w → ∃ u, A[t]? = some u ∧ ∀ l ∈ w, l ∈ u) {v : UInt8} (hv : holderP A v < 0) : holderP B v < 0 := by
 have hf := holder_free hv
 unfold holderP
 have : B.findIdx? (fun h => inU h v) = none := by
  rw [List.findIdx?_eq_none_iff]
  intro w hw
  obtain ⟨t, ht⟩ := List.getElem?_of_mem hw
  obtain ⟨u, hu, hs⟩ := h t w ht
  cases hi : inU w v with
  | false => rfl
  | true => exact absurd (hs v (inU_mem.1 hi)) (hf t u hu)
 rw [this]; decide
theorem PRel.free {Q P : PS} (h : PRel Q P) {v : UInt8} (hv : holderP Q.held v < 0) : holderP P.held v < 0 := by
 refine holder_mono (fun t w hw => ?_) hv
 obtain ⟨N, hq⟩ := h.okq
 obtain ⟨M, hp⟩ := h.okp
 have hlt : t < P.held.length := (List.getElem?_eq_some_iff.1 hw).1
 have h1 : t < Q.todo.length := by rw [h.len, ← hp.nh]; exact hlt
 have h2 : t < Q.held.length := by rw [hq.nh]; exact h1
 obtain ⟨s', h', g1, g2, g3⟩ := h.th t _ _ (List.getElem?_eq_getElem h1) (List.getElem?_eq_getElem h2)
 rw [hw] at g2
 cases g2
 exact ⟨_, List.getElem?_eq_getElem h2, g3.sub⟩
theorem PRel.step {Q P Q' P' : PS} (h : PRel Q P) {i : Nat} {s1 l1 s2 l2 : List UInt8} (hi : i < Q.todo.length) (e1 : Q'.todo = Q.todo.set i s1) (e2 : Q'.held = Q.held.set i l1) (e3 : P'.todo = P.todo.set i s2) (e4 : P'.held = P.held.set i l2) (hq : ∃ N, Q'.Ok N) (hp : ∃ N, P'.Ok N)
  (e5 : Q'.regs = P'.regs) (e6 : Q'.gl = P'.gl) (e7 : Q'.pr = P'.pr) (hr : TRel s1 l1 s2 l2) : PRel Q' P' := by
 obtain ⟨M, hpo⟩ := h.okp
 refine ⟨hq, hp, by rw [e1, e3]; simpa using h.len, e5, e6, e7, fun t s w hs hw => ?_⟩
 rw [e1] at hs
 rw [e2] at hw
 rcases set_get hs with ⟨rfl, rfl, _⟩ | ⟨hk, hs'⟩
 ·rcases set_get hw with ⟨_, rfl, _⟩ | ⟨hk, _⟩
  ·refine ⟨s2, l2, ?_, ?_, hr⟩
   ·rw [e3]; exact List.getElem?_set_self (by rw [← h.len]; exact hi)
   ·rw [e4]; exact List.getElem?_set_self (by rw [hpo.nh, ← h.len]; exact hi)
  ·exact absurd rfl hk
 ·rcases set_get hw with ⟨e, _, _⟩ | ⟨_, hw'⟩
  ·exact absurd e hk
  ·obtain ⟨s', h', g1, g2, g3⟩ := h.th t s w hs' hw'
   exact ⟨s', h', by rw [e3, List.getElem?_set_ne (fun e => hk e.symm)]; exact g1, by rw [e4, List.getElem?_set_ne (fun e => hk e.symm)]; exact g2, g3⟩
end Go.Proofs.Ytdgkpkdinfklaab

namespace Go.Proofs.Ytdgkpkdinfklaab
theorem PRel.other {Q P : PS} (h : PRel Q P) {i : Nat} {x : UInt8} {s s' l' : List UInt8} {l : List UInt8} {r0 : Int} (hat : At Q i s l r0) (hx : (x.toNat : Int) - 49 = i) (g1 : P.todo[i]? = some s') (g2 : P.held[i]? = some l') (hne : s' ≠ []) (hw : waitsL P.held s' < 0) (n : Int) :
  At P i s' l' r0 ∧ P.pick n x = ({ (P.does i).1 with st := (P.does i).1.st ++ [⟨n, (i : Int), (P.does i).2.1, (P.does i).2.2⟩] }, (P.does i).2.1) ∧ ∃ M, (P.pick n x).1.Ok M := by
 obtain ⟨M, hp⟩ := h.okp
 have he : Eff P x i s' := ⟨hx, g1, hne, hw⟩
 obtain ⟨l2, r2, hat2, _, e, ok⟩ := he.pick hp n
 have h1 := hat2.l
 rw [g2] at h1
 cases h1
 have h2 := hat2.x
 rw [← h.reg, hat.x] at h2
 cases h2
 exact ⟨hat2, e, ok⟩
theorem PRel.pick {Q P : PS} (h : PRel Q P) (n n' : Int) (x : UInt8) :
  (((Q.pick n x).2 = 46 ∨ (Q.pick n x).2 = 60 ∨ (Q.pick n x).2 = 62) ∧ PRel (Q.pick n x).1 P) ∨
  (((Q.pick n x).2 ≠ 46 ∧ (Q.pick n x).2 ≠ 60 ∧ (Q.pick n x).2 ≠ 62) ∧ (P.pick n' x).2 = (Q.pick n x).2 ∧ PRel (Q.pick n x).1 (P.pick n' x).1) := by
 rcases pick_two Q n x with e | ⟨i, s, hef⟩
 ·left; rw [e]; exact ⟨.inl rfl, h⟩
 ·obtain ⟨N, hq⟩ := h.okq
  obtain ⟨l, r0, hat, htd, e, okQ⟩ := hef.pick hq n
  obtain ⟨hx, hs, hne, hw⟩ := hef
  have hi : i < Q.todo.length := (List.getElem?_eq_some_iff.1 hs).1
  obtain ⟨s', l', g1, g2, hr⟩ := h.th i s l hat.s hat.l
  have qh : Q.held.set i l = Q.held := set_same hat.l
  have ph : P.held.set i l' = P.held := set_same g2
  have pt : P.todo.set i s' = P.todo := set_same g1
  cases hr with
  | whole hmd =>
   cases msh_of hne hmd with
   | get v r hv hr =>
    rw [stp_two (by decide) (xyz_keep hv)] at g1
    obtain ⟨hat2, e2, okP⟩ := h.other hat hx g1 g2 (by simp) (by simp [waitsL]) n'
    right
    rw [e] at okQ ⊢
    rw [e2] at okP ⊢
    rw [doesP_get hat] at okQ ⊢
    rw [doesP_get hat2] at okP ⊢
    exact ⟨⟨by simp, by simp, by simp⟩, rfl, h.step hi rfl qh.symm rfl ph.symm okQ okP (by show Q.regs.set _ _ = P.regs.set _ _; rw [h.reg, h.gl]) h.gl h.pr (.whole hr)⟩
   | put v r hv hr =>
    rw [stp_two (by decide) (xyz_keep hv)] at g1
    obtain ⟨hat2, e2, okP⟩ := h.other hat hx g1 g2 (by simp) (by simp [waitsL]) n'
    right
    rw [e] at okQ ⊢
    rw [e2] at okP ⊢
    rw [doesP_put hat] at okQ ⊢
    rw [doesP_put hat2] at okP ⊢
    exact ⟨⟨by simp, by simp, by simp⟩, rfl, h.step hi rfl qh.symm rfl ph.symm okQ okP h.reg (by show Q.gl.set _ _ = P.gl.set _ _; rw [h.gl]) h.pr (.whole hr)⟩
   | add v r hv hr =>
    rw [stp_two (by decide) (dig_keep hv)] at g1
    obtain ⟨hat2, e2, okP⟩ := h.other hat hx g1 g2 (by simp) (by simp [waitsL]) n'
    right
    rw [e] at okQ ⊢
    rw [e2] at okP ⊢
    rw [doesP_add hat] at okQ ⊢
    rw [doesP_add hat2] at okP ⊢
    exact ⟨⟨by simp, by simp, by simp⟩, rfl, h.step hi rfl qh.symm rfl ph.symm okQ okP (by show Q.regs.set _ _ = P.regs.set _ _; rw [h.reg]) h.gl h.pr (.whole hr)⟩
   | out r hr =>
    rw [stp_keep (by decide) (by decide)] at g1
    obtain ⟨hat2, e2, okP⟩ := h.other hat hx g1 g2 (by simp) (by cases stp r <;> simp [waitsL]) n'
    right
    rw [e] at okQ ⊢
    rw [e2] at okP ⊢
    rw [doesP_out hat] at okQ ⊢
    rw [doesP_out hat2] at okP ⊢
    exact ⟨⟨by simp, by simp, by simp⟩, rfl, h.step hi rfl qh.symm rfl ph.symm okQ okP h.reg h.gl (by show Q.pr ++ _ = P.pr ++ _; rw [h.pr]) (.whole hr)⟩
   | opens v r hv hnv hr =>
    rw [stp_two (by decide) (lck_keep hv)] at g1
    obtain ⟨hat2, e2, okP⟩ := h.other hat hx g1 g2 (by simp) (by simpa [waitsL] using h.free (by simpa [waitsL] using hw)) n'
    right
    rw [e] at okQ ⊢
    rw [e2] at okP ⊢
    rw [doesP_opens hat] at okQ ⊢
    rw [doesP_opens hat2] at okP ⊢
    exact ⟨⟨by simp, by simp, by simp⟩, rfl, h.step hi rfl rfl rfl rfl okQ okP h.reg h.gl h.pr (.whole hr)⟩
   | mended v c u r hv hnv hc hu hr =>
    left
    rw [stp_lt, stp_two (acc_keep hc) (xyz_keep hu), stp_gt] at g1 pt
    rw [e] at okQ ⊢
    rw [doesP_mended hat] at okQ ⊢
    exact ⟨.inr (.inl rfl), h.step hi rfl rfl pt.symm ph.symm okQ h.okp h.reg h.gl h.pr (.mid v c u hc hu hr)⟩
   | shut v m r em hr =>
    subst em
    rw [stp_keep (by decide) (by decide)] at g1
    obtain ⟨hat2, e2, okP⟩ := h.other hat hx g1 g2 (by simp) (by cases stp r <;> simp [waitsL]) n'
    right
    rw [e] at okQ ⊢
    rw [e2] at okP ⊢
    rw [doesP_shut hat] at okQ ⊢
    rw [doesP_shut hat2] at okP ⊢
    exact ⟨⟨by simp, by simp, by simp⟩, rfl, h.step hi rfl rfl rfl rfl okQ okP h.reg h.gl h.pr (.whole hr)⟩
   | branch a b r hta htb hr =>
    rw [stp_two (by decide) (by decide), stp_cat hta, stp_two (by decide) (by decide), stp_cat htb, stp_keep (by decide) (by decide)] at g1
    obtain ⟨hat2, e2, okP⟩ := h.other hat hx g1 g2 (by simp) (by simp [waitsL]) n'
    right
    rw [e] at okQ ⊢
    rw [e2] at okP ⊢
    rw [doesP_test (.inl rfl) hat, testP_branch hta.td htb.td] at okQ ⊢
    rw [doesP_test (.inl rfl) hat2, testP_branch hta.stp.td htb.stp.td] at okP ⊢
    refine ⟨by simp only; split <;> decide, rfl, h.step (s2 := stp ((if (r0 != 0) = true then a else b) ++ r)) hi rfl qh.symm ?_ ph.symm okQ okP h.reg h.gl h.pr (.whole ?_)⟩
    ·show P.todo.set i _ = P.todo.set i _
     congr 1
     split
     ·rw [stp_cat hta]
     ·rw [stp_cat htb]
    ·split
     ·exact MD.body (by simpa using hta) hr
     ·exact MD.body (by simpa using htb) hr
   | loop a r hm hta hr =>
    rw [stp_two (by decide) (by decide), stp_cat hta, stp_keep (by decide) (by decide)] at g1
    obtain ⟨hat2, e2, okP⟩ := h.other hat hx g1 g2 (by simp) (by simp [waitsL]) n'
    right
    rw [e] at okQ ⊢
    rw [e2] at okP ⊢
    rw [doesP_test (.inr rfl) hat, testP_loop hta.td] at okQ ⊢
    rw [doesP_test (.inr rfl) hat2, testP_loop hta.stp.td] at okP ⊢
    refine ⟨by simp only; split <;> decide, rfl, h.step (s2 := stp (if (r0 != 0) = true then a ++ 33 :: 123 :: (a ++ 125 :: r) else r)) hi rfl qh.symm ?_ ph.symm okQ okP h.reg h.gl h.pr (.whole ?_)⟩
    ·show P.todo.set i _ = P.todo.set i _
     congr 1
     split
     ·rw [stp_cat hta, stp_two (by decide) (by decide), stp_cat hta, stp_keep (by decide) (by decide)]
     ·rfl
    ·split
     ·exact MD.body (by simpa using hta) (MD.loop hm (by simpa using hta) hr)
     ·exact hr
  | mid l0 c v hc hv hmd =>
   obtain ⟨hat2, e2, okP⟩ := h.other hat hx g1 g2 (by simp) (by rcases hc with rfl | rfl <;> simp [waitsL]) n'
   right
   rw [e] at okQ ⊢
   rw [e2] at okP ⊢
   rcases hc with rfl | rfl
   ·rw [doesP_get hat] at okQ ⊢
    rw [doesP_get hat2] at okP ⊢
    exact ⟨⟨by simp, by simp, by simp⟩, rfl, h.step hi rfl qh.symm rfl ph.symm okQ okP (by show Q.regs.set _ _ = P.regs.set _ _; rw [h.reg, h.gl]) h.gl h.pr (.late l0 hmd)⟩
   ·rw [doesP_put hat] at okQ ⊢
    rw [doesP_put hat2] at okP ⊢
    exact ⟨⟨by simp, by simp, by simp⟩, rfl, h.step hi rfl qh.symm rfl ph.symm okQ okP h.reg (by show Q.gl.set _ _ = P.gl.set _ _; rw [h.gl]) h.pr (.late l0 hmd)⟩
  | late l0 hmd =>
   left
   rw [e] at okQ ⊢
   rw [doesP_mend hat] at okQ ⊢
   exact ⟨.inr (.inr rfl), h.step hi rfl rfl pt.symm ph.symm okQ h.okp h.reg h.gl h.pr (.whole hmd)⟩
end Go.Proofs.Ytdgkpkdinfklaab

namespace Go.Proofs.Ytdgkpkdinfklaab
def kpB (w : UInt8) : Bool := !(w == 46 || w == 60 || w == 62)
def lf : List UInt8 → List UInt8 → List UInt8
 | x :: xs, d :: ds => if kpB d then x :: lf xs ds else lf xs ds
 | _, _ => []
theorem lf_snoc (xs : List UInt8) : ∀ (ds : List UInt8) (x d : UInt8), xs.length = ds.length → lf (xs ++ [x]) (ds ++ [d]) = lf xs ds ++ (if kpB d then [x] else []) := by
 induction xs with
 | nil =>
  intro ds x d h
  have : ds = [] := List.eq_nil_of_length_eq_zero (by simpa using h.symm)
  subst this
  simp [lf]
 | cons y ys ih =>
  intro ds x d h
  cases ds with
  | nil => simp at h
  | cons e es =>
   simp only [List.cons_append, lf]
   rw [ih es x d (by simpa using h)]
   split <;> simp
theorem upK_more (P : PS) (L M : List UInt8) : ∀ k, k ≤ L.length → P.upK (L ++ M) k = P.upK L k ∧ P.doneK (L ++ M) k = P.doneK L k := by
 intro k
 induction k with
 | zero => intro _; exact ⟨rfl, rfl⟩
 | succ k ih =>
  intro hk
  obtain ⟨h1, h2⟩ := ih (by omega)
  rw [PS.upK, PS.upK, PS.doneK, PS.doneK, h1, h2, List.getElem?_append_left (by omega)]
  exact ⟨rfl, rfl⟩
theorem upK_snoc (P : PS) (L : List UInt8) (c : UInt8) : P.upK (L ++ [c]) (L.length + 1) = ((P.upK L L.length).pick ((L.length : Int) + 1) c).1 ∧ P.doneK (L ++ [c]) (L.length + 1) = P.doneK L L.length ++ [((P.upK L L.length).pick ((L.length : Int) + 1) c).2] := by
 obtain ⟨h1, h2⟩ := upK_more P L [c] L.length (Nat.le_refl _)
 rw [PS.upK, PS.doneK, h1, h2]
 simp
theorem doneK_len (P : PS) (X : List UInt8) : ∀ k, k ≤ X.length → (P.doneK X k).length = k := by
 intro k
 induction k with
 | zero => intro _; rfl
 | succ k ih =>
  intro hk
  rw [PS.doneK, List.getElem?_eq_getElem (by omega)]
  simp [ih (by omega)]
theorem PRel.run {Q P : PS} (h : PRel Q P) (X : List UInt8) : ∀ k, k ≤ X.length → PRel (Q.upK X k) (P.upK (lf (X.take k) (Q.doneK X k)) (lf (X.take k) (Q.doneK X k)).length) ∧
  P.doneK (lf (X.take k) (Q.doneK X k)) (lf (X.take k) (Q.doneK X k)).length = (Q.doneK X k).filter kpB := by
 intro k
 induction k with
 | zero => intro _; simp only [List.take_zero, lf]; exact ⟨h, rfl⟩
 | succ k ih =>
  intro hk
  obtain ⟨h1, h2⟩ := ih (by omega)
  have hx : X[k]? = some X[k] := List.getElem?_eq_getElem (by omega)
  have hd : Q.doneK X (k + 1) = Q.doneK X k ++ [((Q.upK X k).pick ((k : Int) + 1) X[k]).2] := by rw [PS.doneK, hx]
  have hu : Q.upK X (k + 1) = ((Q.upK X k).pick ((k : Int) + 1) X[k]).1 := by rw [PS.upK, hx]
  have ht : X.take (k + 1) = X.take k ++ [X[k]] := List.take_succ_eq_append_getElem (by omega)
  have hl : (X.take k).length = (Q.doneK X k).length := by rw [doneK_len Q X k (by omega), List.length_take]; omega
  rw [hd, hu, ht, lf_snoc _ _ _ _ hl, List.filter_append]
  generalize lf (X.take k) (Q.doneK X k) = L at *
  rcases h1.pick ((k : Int) + 1) ((L.length : Int) + 1) X[k] with ⟨hw, hr⟩ | ⟨⟨w1, w2, w3⟩, e, hr⟩
  ·have hk : kpB ((Q.upK X k).pick ((k : Int) + 1) X[k]).2 = false := by
    unfold kpB
    rcases hw with hw | hw | hw <;> rw [hw] <;> decide
   rw [if_neg (by rw [hk]; decide), List.append_nil]
   refine ⟨hr, ?_⟩
   rw [h2]
   simp [hk]
  ·have hk : kpB ((Q.upK X k).pick ((k : Int) + 1) X[k]).2 = true := by
    unfold kpB
    simp [w1, w2, w3]
   obtain ⟨s1, s2⟩ := upK_snoc P L X[k]
   rw [if_pos hk, List.length_append, List.length_singleton, s1, s2, h2, e]
   exact ⟨hr, by simp [hk]⟩
theorem split_stp (p : List UInt8) (h : ∀ a ∈ splitBar p, MD [] [] a) : splitBar (stp p) = (splitBar p).map stp := by
 have key : ∀ n p, p.length ≤ n → (∀ a ∈ splitBar p, MD [] [] a) → splitBar (stp p) = (splitBar p).map stp := by
  intro n
  induction n with
  | zero =>
   intro p hp _
   have : p = [] := List.eq_nil_of_length_eq_zero (by omega)
   subst this; rfl
  | succ n ih =>
   intro p hp h
   by_cases hb : (124 : UInt8) ∈ p
   ·obtain ⟨u, v, rfl, hu⟩ := List.eq_append_cons_of_mem hb
    rw [split_bar hu] at h ⊢
    have hmu := h u (by simp)
    rw [stp_cat hmu, stp_keep (by decide) (by decide), split_bar hmu.stp.td.no, ih v (by simp at hp; omega) (fun a ha => h a (by simp [ha])), List.map_cons]
   ·rw [split_none hb] at h ⊢
    have hm := h p (by simp)
    rw [split_none hm.stp.td.no]; rfl
 exact key p.length p (Nat.le_refl _) h
theorem PRel.start {q : List UInt8} (h4 : (splitBar q).length ≤ 4) (hmd : ∀ a ∈ splitBar q, MD [] [] a) : PRel (PS.start q) (PS.start (stp q)) := by
 have hs := split_stp q hmd
 have h4' : (splitBar (stp q)).length ≤ 4 := by rw [hs, List.length_map]; exact h4
 refine ⟨start_fit h4 (fun a ha => (hmd a ha).td), start_fit h4' ?_, ?_, ?_, rfl, rfl, ?_⟩
 ·intro a ha
  rw [hs, List.mem_map] at ha
  obtain ⟨b, hb, rfl⟩ := ha
  exact (hmd b hb).stp.td
 ·show (splitBar q).length = (splitBar (stp q)).length
  rw [hs, List.length_map]
 ·show ((splitBar q).map fun _ => (0 : Int)) = (splitBar (stp q)).map fun _ => (0 : Int)
  rw [hs, List.map_map]; rfl
 ·intro t s h hst hh
  have hst' : (splitBar q)[t]? = some s := hst
  have hh' : ((splitBar q).map fun _ => ([] : List UInt8))[t]? = some h := hh
  rw [List.getElem?_map, hst'] at hh'
  have e : h = [] := (Option.some.inj hh').symm
  subst e
  refine ⟨stp s, [], ?_, ?_, .whole (hmd s (List.mem_of_getElem? hst'))⟩
  ·show (splitBar (stp q))[t]? = _
   rw [hs, List.getElem?_map, hst']; rfl
  ·show ((splitBar (stp q)).map fun _ => ([] : List UInt8))[t]? = _
   rw [hs, List.getElem?_map, List.getElem?_map, hst']; rfl
theorem kept_all {q : List UInt8} {F F' : List ST} {ts ts' : List (Nat × List UInt8)} (h : Prog q F ts) (g : Prog (stp q) F' ts') (hmd : ∀ a ∈ splitBar q, MD [] [] a) (X : List UInt8) :
  PRel ((PS.start q).upK X X.length) ((PS.start (stp q)).upK (lf X (runU F X X.length).done) (lf X (runU F X X.length).done).length) ∧
  (runU F' (lf X (runU F X X.length).done) (lf X (runU F X X.length).done).length).done = (runU F X X.length).done.filter kpB ∧
  (runU F' (lf X (runU F X X.length).done) (lf X (runU F X X.length).done).length).c.pr = (runU F X X.length).c.pr ∧
  (runU F' (lf X (runU F X X.length).done) (lf X (runU F X X.length).done).length).c.gl.map (·.val) = (runU F X X.length).c.gl.map (·.val) ∧
  (runU F' (lf X (runU F X X.length).done) (lf X (runU F X X.length).done).length).ths.map (·.reg) = (runU F X X.length).ths.map (·.reg) := by
 have h4 : (splitBar q).length ≤ 4 := by rw [h.spl, List.length_map]; exact h.n4
 have htd : ∀ a ∈ splitBar q, TD [] [] a := fun a ha => (hmd a ha).td
 have htd' : ∀ a ∈ splitBar (stp q), TD [] [] a := fun a ha => by
  rw [split_stp q hmd, List.mem_map] at ha
  obtain ⟨b, hb, rfl⟩ := ha
  exact (hmd b hb).stp.td
 obtain ⟨a1, a2⟩ := Alike.run h htd X X.length
 obtain ⟨r1, r2⟩ := (PRel.start h4 hmd).run X X.length (Nat.le_refl _)
 rw [List.take_length, a2] at r1 r2
 obtain ⟨b1, b2⟩ := Alike.run g htd' (lf X (runU F X X.length).done) (lf X (runU F X X.length).done).length
 have regs : ∀ {F : List ST} {P : PS} {ths : List TH} {c : CS}, Alike F P ths c → P.regs = ths.map (·.reg) := by
  intro F P ths c h
  apply List.ext_getElem?
  intro i
  rw [List.getElem?_map]
  by_cases hi : i < ths.length
  ·obtain ⟨K, s, st⟩ := h.th i ths[i] (List.getElem?_eq_getElem hi)
   rw [st.reg, List.getElem?_eq_getElem hi]; rfl
  ·rw [List.getElem?_eq_none (by rw [h.lenr]; omega), List.getElem?_eq_none (by omega)]; rfl
 exact ⟨r1, by rw [← b2, r2], by rw [← b1.pr, ← a1.pr, r1.pr], by rw [← b1.gl, ← a1.gl, r1.gl], by rw [← regs b1, ← regs a1, r1.reg]⟩
end Go.Proofs.Ytdgkpkdinfklaab
