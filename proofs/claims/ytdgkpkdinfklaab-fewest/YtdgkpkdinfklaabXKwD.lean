import Derived.Test.YtdgkpkdinfklaabXKwC
import Derived.Test.YtdgkpkdinfklaabXKwB
import Derived.Test.YtdgkpkdinfklaabGKQ
namespace Go.Proofs.Ytdgkpkdinfklaab
open Go.RowKit
theorem lay_fr {H K s : List UInt8} (h : MD H K s) : (60 : UInt8) ∉ s → ∀ (ch : Nat → Option UInt8), (∀ k l, ch k = some l → inU [65, 66, 67, 68, 69] l = true) → ∀ (k : Nat) (Y t : List UInt8), fr (66 :: clo K Y) (lay ch k s ++ t) = fr (66 :: Y) t := by
 induction h with
 | nil H => intro _ ch _ k Y t; rfl
 | acc c v hc hv _ ih =>
  intro hn ch hr k Y t
  have e := ih (fun h => hn (by simp [h])) ch hr (k + 1) Y t
  rw [lay_acc hc]
  cases hk : ch k with
  | none =>
   simp only [List.cons_append, List.nil_append]
   rw [fr_go (nxt_B (more := [118]) (by rcases hc with rfl | rfl <;> rfl)), fr_go (f' := 66 :: clo _ Y) (by show nxt (118 :: _) v = _; rw [nxt_e (by decide) (by decide)]; exact congrArg _ hv), e]
  | some l =>
   have hl := hr k l hk
   simp only [List.cons_append, List.nil_append]
   rw [fr_go (nxt_B (more := [107, 97, 118, 62]) rfl), fr_go (f' := 97 :: 118 :: 62 :: 66 :: clo _ Y) (by show nxt (107 :: _) l = _; rw [nxt_e (by decide) (by decide)]; exact congrArg _ hl),
    fr_go (f' := 118 :: 62 :: 66 :: clo _ Y) (by rw [nxt_e (by decide) (by decide)]; rcases hc with rfl | rfl <;> rfl), fr_go (f' := 62 :: 66 :: clo _ Y) (by rw [nxt_e (by decide) (by decide)]; exact congrArg _ hv), fr_go (f' := 66 :: clo _ Y) (by rw [nxt_e (by decide) (by decide)]; rfl), e]
 | add d hd _ ih =>
  intro hn ch hr k Y t
  rw [lay_two (.inl rfl), List.cons_append, List.cons_append, fr_go (nxt_B (more := [110]) rfl), fr_go (f' := 66 :: clo _ Y) (by show nxt (110 :: _) d = _; rw [nxt_e (by decide) (by decide)]; exact congrArg _ hd), ih (fun h => hn (by simp [h])) ch hr k Y t]
 | out _ ih =>
  intro hn ch hr k Y t
  rw [lay_one (by decide), List.cons_append, fr_go (nxt_B (more := []) rfl)]
  exact ih (fun h => hn (by simp [h])) ch hr k Y t
 | take l hl hnn _ ih =>
  intro hn ch hr k Y t
  rw [lay_two (.inr rfl), List.cons_append, List.cons_append, fr_go (nxt_B (more := [108, 66, 93]) rfl), fr_go (f' := 66 :: 93 :: 66 :: clo _ Y) (by show nxt (108 :: _) l = _; rw [nxt_e (by decide) (by decide)]; exact congrArg _ hl)]
  exact ih (fun h => hn (by simp [h])) ch hr k Y t
 | give l _ ih =>
  intro hn ch hr k Y t
  rw [lay_one (by decide), List.cons_append, fr_go (f' := 66 :: clo _ Y) (by show nxt (66 :: 93 :: _) 93 = _; rw [nxt_skip rfl, nxt_e (by decide) (by decide)]; rfl)]
  exact ih (fun h => hn (by simp [h])) ch hr k Y t
 | mend l c v hl hn hc hv _ ih => intro hn; exact absurd List.mem_cons_self hn
 | @branch H K a b s ha hb hs iha ihb ih =>
  intro hn ch hr k Y t
  have n1 : (60 : UInt8) ∉ a := fun h => hn (by simp [h])
  have n2 : (60 : UInt8) ∉ b := fun h => hn (by simp [h])
  have n3 : (60 : UInt8) ∉ s := fun h => hn (by simp [h])
  rw [lay_branch ha hb n1 n2]
  simp only [List.cons_append, List.append_assoc]
  rw [fr_go (nxt_B (more := [123, 66, 125, 123, 66, 125]) rfl), fr_go (f' := 66 :: 125 :: 123 :: 66 :: 125 :: 66 :: clo K Y) (by show nxt (123 :: _) 123 = _; rw [nxt_e (by decide) (by decide)]; rfl)]
  have ea := iha n1 ch hr k (125 :: 123 :: 66 :: 125 :: 66 :: clo K Y)
  simp only [clo] at ea
  rw [ea, fr_go (f' := 123 :: 66 :: 125 :: 66 :: clo K Y) (by rw [nxt_skip rfl, nxt_e (by decide) (by decide)]; rfl), fr_go (f' := 66 :: 125 :: 66 :: clo K Y) (by rw [nxt_e (by decide) (by decide)]; rfl)]
  have eb := ihb n2 ch hr (k + na a) (125 :: 66 :: clo K Y)
  simp only [clo] at eb
  rw [eb, fr_go (f' := 66 :: clo K Y) (by rw [nxt_skip rfl, nxt_e (by decide) (by decide)]; rfl)]
  exact ih n3 ch hr _ Y t
 | @loop H K a s hm ha hs iha ih =>
  intro hn ch hr k Y t
  have n1 : (60 : UInt8) ∉ a := fun h => hn (by simp [h])
  have n3 : (60 : UInt8) ∉ s := fun h => hn (by simp [h])
  rw [lay_loop ha n1]
  simp only [List.cons_append, List.append_assoc]
  rw [fr_go (nxt_B (more := [123, 66, 125]) rfl), fr_go (f' := 66 :: 125 :: 66 :: clo K Y) (by show nxt (123 :: _) 123 = _; rw [nxt_e (by decide) (by decide)]; rfl)]
  have ea := iha n1 ch hr k (125 :: 66 :: clo K Y)
  simp only [clo] at ea
  rw [ea, fr_go (f' := 66 :: clo K Y) (by rw [nxt_skip rfl, nxt_e (by decide) (by decide)]; rfl)]
  exact ih n3 ch hr _ Y t
theorem lay_threads (ch : Nat → Option UInt8) (hr : ∀ k l, ch k = some l → inU [65, 66, 67, 68, 69] l = true) (m : Nat) : ∀ p k, (60 : UInt8) ∉ p → (splitBar p).length ≤ m + 1 → (∀ a ∈ splitBar p, MD [] [] a) → ∃ g, fr (66 :: List.replicate m 109) (lay ch k p) = some g ∧ wholeF g = true := by
 induction m with
 | zero =>
  intro p k hn hl h
  have hb : (124 : UInt8) ∉ p := fun hb => by
   obtain ⟨u, v, rfl, hu⟩ := List.eq_append_cons_of_mem hb
   rw [split_bar hu] at hl
   simp at hl
   have := splitBar_count v
   rw [hl] at this
   simp at this
  rw [split_none hb] at h
  have := lay_fr (h p (by simp)) hn ch hr k (List.replicate 0 109) []
  rw [List.append_nil] at this
  simp only [clo] at this
  exact ⟨_, this, rfl⟩
 | succ m ih =>
  intro p k hn hl h
  by_cases hb : (124 : UInt8) ∈ p
  ·obtain ⟨u, v, rfl, hu⟩ := List.eq_append_cons_of_mem hb
   rw [split_bar hu] at hl h
   have nu : (60 : UInt8) ∉ u := fun h => hn (by simp [h])
   have nv : (60 : UInt8) ∉ v := fun h => hn (by simp [h])
   have := lay_fr (h u (by simp)) nu ch hr k (List.replicate (m + 1) 109) (124 :: lay ch (k + na u) v)
   simp only [clo] at this
   rw [lay_bar (h u (by simp)) nu, this, List.replicate_succ, fr_go (f' := 66 :: List.replicate m 109) (by rw [nxt_skip rfl, nxt_m]; rfl)]
   exact ih v (k + na u) nv (by simpa using hl) (fun a ha => h a (by simp [ha]))
  ·rw [split_none hb] at h
   have := lay_fr (h p (by simp)) hn ch hr k (List.replicate (m + 1) 109) []
   rw [List.append_nil] at this
   simp only [clo] at this
   exact ⟨_, this, by simp [wholeF]⟩
theorem lay_acc_form (ch : Nat → Option UInt8) (hr : ∀ k l, ch k = some l → inU [65, 66, 67, 68, 69] l = true) {p : List UInt8} (hn : (60 : UInt8) ∉ p) (h4 : (splitBar p).length ≤ 4) (h : ∀ a ∈ splitBar p, MD [] [] a) : ∃ mks, Acc (lay ch 0 p) mks := by
 obtain ⟨g, hg, hw⟩ := lay_threads ch hr 3 p 0 hn h4 h
 have hff : fw (lay ch 0 p) (lay ch 0 p).length = some g := by rw [fw_fr _ _ (Nat.le_refl _), List.take_length]; exact hg
 obtain ⟨r, hr, he | ⟨hl, hf⟩⟩ := reach_end (lay ch 0 p)
 ·by_cases ho : r.op = []
  ·exact ⟨_, acc_of hr he ho⟩
  ·exact (form_not_fail hff hw (fail_end hr he ho)).elim
 ·exact (form_not_fail hff hw (fail_piece hr hl hf)).elim
theorem chF_rng (Z : Nat → Int) (ln : Nat) : ∀ k l, chF Z ln k = some l → inU [65, 66, 67, 68, 69] l = true := by
 intro k l h
 rw [chF] at h
 split at h
 ·next hc =>
  have h6 := choN_lt (Z k)
  have := Option.some.inj h
  subst this
  have h0 := hc.2
  generalize choN (Z k) = m at h6 h0
  have : m = 1 ∨ m = 2 ∨ m = 3 ∨ m = 4 ∨ m = 5 := by omega
  rcases this with rfl | rfl | rfl | rfl | rfl <;> rfl
 ·cases h
structure RivOf (p q r : ByteArray) (Z : Nat → Int) (ln : Nat) : Prop where
 size : r.size ≤ 240
 acc : ∃ mks, Acc r.data.toList mks
 chk : ∀ a b, ChkIs r a b → a = 0 ∨ a = 3
 cnt : ∀ b mks, ChkIs r 0 b → Acc r.data.toList mks → prL (accL mks) (accL mks).length = [] → FairT (TKp r.data.toList) → cntC 60 q.data.toList ≤ cntC 60 r.data.toList
theorem riv_of {p q r : ByteArray} {mks : List MK} {ch : Nat → Option UInt8} (h : GoodP p mks) (hm : MendOf p q ch) (Z : Nat → Int) (ln : Nat) (hr : r.data.toList = lay (chF Z ln) 0 p.data.toList) : RivOf p q r Z ln := by
 obtain ⟨h4, hmd⟩ := chk_md h.chk
 have hna : na p.data.toList ≤ 10 := by rw [← acc_na h.acc]; exact h.ten
 have hsz : r.size ≤ 240 := by
  have := lay_size (chF Z ln) _ p.data.toList 0 (Nat.le_refl _)
  have h1 := cst_le (chF Z ln) (na p.data.toList) 0
  have h2 := h.size
  rw [← hr, len_eq, len_eq] at this
  omega
 obtain ⟨mr, hacc⟩ := lay_acc_form (chF Z ln) (chF_rng Z ln) h.no h4 hmd
 refine ⟨hsz, ⟨mr, by rw [hr]; exact hacc⟩, fun a b hc => ?_, fun b mk hc ha hp hf => ?_⟩
 ·rcases hc with ⟨h1, _⟩ | ⟨_, ⟨q', hq, _⟩ | ⟨m, _, ha, _⟩⟩
  ·omega
  ·rw [hr] at hq; exact (fail_not_acc hq hacc).elim
  ·rw [nestOf] at ha
   split at ha
   ·exact .inl ha
   ·exact .inr ha
 ·obtain ⟨hrl, mr', har', hnr⟩ := chk_ok hc
  have e := acc_unique ha har'
  subst e
  rw [hr] at ha hf
  have hg := rival_good h.no hmd (chF_rng Z ln) ha (by rw [← hr, len_eq]; exact hrl) hnr hp hf
  have := hm.least.least _ hg
  have e1 := lay_cost ch (ch_lt hm.least.rng) _ _ 0 (Nat.le_refl _) h.no
  have e2 := lay_cost _ (ch_lt (chF_rng Z ln)) _ _ 0 (Nat.le_refl _) h.no
  rw [← hm.text] at e1
  rw [← hr] at e2
  show ltC _ ≤ ltC _
  omega
end Go.Proofs.Ytdgkpkdinfklaab
