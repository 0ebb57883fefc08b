import Derived.Test.YtdgkpkdinfklaabXKyB
import Derived.Test.YtdgkpkdinfklaabGLY
import Derived.Test.YtdgkpkdinfklaabXKqKept
namespace Go.Proofs.Ytdgkpkdinfklaab
open Go.RowKit
theorem MD.no_give {H K s : List UInt8} (h : MD H K s) : (60 : UInt8) ∉ s → (62 : UInt8) ∉ s := by
 have nv : ∀ v : UInt8, inU [120, 121, 122] v = true → (62 : UInt8) ≠ v := by rintro v hv rfl; exact absurd hv (by decide)
 induction h with
 | nil H => intro _ h; cases h
 | acc c v hc hv _ ih =>
  intro hn
  have c1 : (62 : UInt8) ≠ c := by rcases hc with rfl | rfl <;> decide
  simp [ih (fun h => hn (by simp [h])), c1, nv v hv]
 | add d hd _ ih =>
  intro hn
  have d1 : (62 : UInt8) ≠ d := by rintro rfl; exact absurd hd (by decide)
  simp [ih (fun h => hn (by simp [h])), d1]
 | out _ ih => intro hn; simp [ih (fun h => hn (by simp [h]))]
 | take l hl _ _ ih =>
  intro hn
  have l1 : (62 : UInt8) ≠ l := by rintro rfl; exact absurd hl (by decide)
  simp [ih (fun h => hn (by simp [h])), l1]
 | give l _ ih => intro hn; simp [ih (fun h => hn (by simp [h]))]
 | mend l c v _ _ _ _ _ _ => intro hn; exact absurd List.mem_cons_self hn
 | branch _ _ _ iha ihb ih => intro hn; simp [iha (fun h => hn (by simp [h])), ihb (fun h => hn (by simp [h])), ih (fun h => hn (by simp [h]))]
 | loop _ _ _ iha ih => intro hn; simp [iha (fun h => hn (by simp [h])), ih (fun h => hn (by simp [h]))]
theorem split_all : ∀ (n : Nat) (p : List UInt8), p.length ≤ n → ∀ x ∈ p, x = 124 ∨ ∃ a ∈ splitBar p, x ∈ a := by
 intro n
 induction n with
 | zero => intro p hp x hx; have : p = [] := List.length_eq_zero_iff.1 (by omega); subst this; cases hx
 | succ n ih =>
  intro p hp x hx
  by_cases hb : (124 : UInt8) ∈ p
  ·obtain ⟨u, v, rfl, hu⟩ := List.eq_append_cons_of_mem hb
   rw [split_bar hu]
   rcases List.mem_append.1 hx with hx | hx
   ·exact .inr ⟨u, by simp, hx⟩
   ·rcases List.mem_cons.1 hx with rfl | hx
    ·exact .inl rfl
    ·rcases ih v (by simp at hp; omega) x hx with h | ⟨a, ha, hxa⟩
     ·exact .inl h
     ·exact .inr ⟨a, by simp [ha], hxa⟩
  ·rw [split_none hb]; exact .inr ⟨p, by simp, hx⟩
theorem prog_no_give {p : List UInt8} (h60 : (60 : UInt8) ∉ p) (h : ∀ a ∈ splitBar p, MD [] [] a) : (62 : UInt8) ∉ p := fun hx => by
 rcases split_all p.length p (Nat.le_refl _) 62 hx with e | ⟨a, ha, hxa⟩
 ·exact absurd e (by decide)
 ·exact (h a ha).no_give (fun h6 => h60 (split_sub p a ha 60 h6)) hxa
theorem strt_no : ∀ (n : Nat) (s : List UInt8) (d : Nat), s.length ≤ n → (60 : UInt8) ∉ s → (60 : UInt8) ∉ strt d s := by
 intro n
 induction n with
 | zero => intro s d hn _; have : s = [] := List.length_eq_zero_iff.1 (by omega); subst this; simp [strt]
 | succ n ih =>
  intro s d hn h60
  match s, hn with
  | [], _ => simp [strt]
  | [c], _ => exact h60
  | c :: v :: s, hn =>
   have hc : (60 : UInt8) ≠ c := fun e => h60 (by simp [e])
   have hv : (60 : UInt8) ≠ v := fun e => h60 (by simp [e])
   have hs : (60 : UInt8) ∉ s := fun e => h60 (by simp [e])
   have hvs : (60 : UInt8) ∉ v :: s := fun e => h60 (by simp at e ⊢; exact .inr e)
   simp only [List.length_cons] at hn
   rw [strt]
   split
   ·have hl : (60 : UInt8) ≠ UInt8.ofNat (65 + d % 4) := by
     obtain ⟨m, hm, h4, hmn⟩ := let_deep d
     rw [← hm]
     intro e
     have := congrArg UInt8.toNat e
     rw [hmn] at this
     have h6 : (60 : UInt8).toNat = 60 := rfl
     omega
    exact fun e => by
     rcases List.mem_cons.1 e with e | e
     ·exact absurd e (by decide)
     ·rcases List.mem_cons.1 e with e | e
      ·exact hl e
      ·exact ih s (d + 1) (by omega) hs e
   ·split
    ·simp [ih (v :: s) (d - 1) (by simp; omega) hvs]
    ·split
     ·simp [hc, hv, ih s d (by omega) hs]
     ·simp [hc, ih (v :: s) d (by simp; omega) hvs]
theorem na_skip {c : UInt8} {s : List UInt8} (h1 : ¬ (c = 103 ∨ c = 112)) (h2 : ¬ (c = 105 ∨ c = 91 ∨ c = 60)) : na (c :: s) = na s := by
 cases s with
 | nil => rfl
 | cons v s => rw [na, if_neg h1, if_neg h2]
theorem strt_na : ∀ (n : Nat) (s : List UInt8) (d : Nat), s.length ≤ n → na (strt d s) = na s := by
 intro n
 induction n with
 | zero => intro s d hn; have : s = [] := List.length_eq_zero_iff.1 (by omega); subst this; rfl
 | succ n ih =>
  intro s d hn
  match s, hn with
  | [], _ => rfl
  | [c], _ => rfl
  | c :: v :: s, hn =>
   simp only [List.length_cons] at hn
   rw [strt]
   by_cases h1 : c = 91
   ·subst h1
    rw [if_pos rfl, na, if_neg (by decide), if_pos (by decide), na, if_neg (by decide), if_pos (by decide), ih s (d + 1) (by omega)]
   ·rw [if_neg h1]
    by_cases h2 : c = 93
    ·subst h2
     rw [if_pos rfl, na_skip (by decide) (by decide), na_skip (by decide) (by decide), ih (v :: s) (d - 1) (by simp; omega)]
    ·rw [if_neg h2]
     by_cases h3 : c = 103 ∨ c = 112
     ·rw [if_pos (by rcases h3 with h | h <;> simp [h]), na, if_pos h3, na, if_pos h3, ih s d (by omega)]
     ·by_cases h4 : c = 105 ∨ c = 60
      ·have h5 : c = 105 ∨ c = 91 ∨ c = 60 := by rcases h4 with h | h <;> simp [h]
       rw [if_pos (by rcases h4 with h | h <;> simp [h]), na, if_neg h3, if_pos h5, na, if_neg h3, if_pos h5, ih s d (by omega)]
      ·have h5 : ¬ (c = 105 ∨ c = 91 ∨ c = 60) := fun e => by
        rcases e with e | e | e
        ·exact h4 (.inl e)
        ·exact h1 e
        ·exact h4 (.inr e)
       have h6 : ¬ (c = 103 ∨ c = 112 ∨ c = 105 ∨ c = 60) := fun e => by
        rcases e with e | e | e | e
        ·exact h3 (.inl e)
        ·exact h3 (.inr e)
        ·exact h4 (.inl e)
        ·exact h4 (.inr e)
       rw [if_neg h6, na_skip h3 h5, na_skip h3 h5, ih (v :: s) d (by simp; omega)]
theorem good_strt {p g : ByteArray} {mks : List MK} (h : GoodP p mks) (hg : g.data.toList = strt 0 p.data.toList) : (∃ mk, GoodP g mk) ∧ (∀ a ∈ splitBar p.data.toList, MD [] [] a) ∧ (∀ x ∈ tks [] g.data.toList, ∀ l ∈ x.2.2, l.toNat < x.2.1.toNat) := by
 obtain ⟨h4, hmd⟩ := chk_md h.chk
 have nn : ∀ a ∈ splitBar p.data.toList, (60 : UInt8) ∉ a := fun a ha hm => h.no (split_sub _ a ha 60 hm)
 obtain ⟨hs, hl⟩ := strt_prog p.data.toList h.no hmd
 have hmd' : ∀ a ∈ splitBar (strt 0 p.data.toList), MD [] [] a := fun a ha => by
  rw [hs, List.mem_map] at ha
  obtain ⟨b, hb, rfl⟩ := ha
  exact ((hmd b hb).strt0 (nn b hb)).1
 obtain ⟨mk, ha, hn⟩ := md_prog (by rw [hs, List.length_map]; exact h4) hmd'
 have hsz : g.size = p.size := by rw [← len_eq, hg, hl, len_eq]
 have hps := h.size
 refine ⟨⟨mk, ?_, by rw [hg]; exact ha, by rw [hg]; exact strt_no _ _ _ (Nat.le_refl _) h.no, ?_, by omega⟩, hmd, ?_⟩
 ·exact chk_of (by omega) (by rw [hg]; exact ha) hn
 ·rw [acc_na ha, strt_na _ _ _ (Nat.le_refl _), ← acc_na h.acc]; exact h.ten
 ·rw [hg]
  intro x hx
  obtain ⟨a, ha', hxa⟩ := (tks_split _ (fun a h => (hmd' a h).td) x).1 hx
  rw [hs, List.mem_map] at ha'
  obtain ⟨b, hb, rfl⟩ := ha'
  exact ((hmd b hb).strt0 (nn b hb)).2 x hxa
theorem freed_facts {p g q s : ByteArray} {ch : Nat → Option UInt8} (hm : MendOf g q ch) (hg : g.data.toList = strt 0 p.data.toList) (h60 : (60 : UInt8) ∉ p.data.toList) (hmd : ∀ a ∈ splitBar p.data.toList, MD [] [] a) {F F' : List ST} {ts ts' : List (Nat × List UInt8)} (hp : Prog q.data.toList F ts) (hp' : Prog g.data.toList F' ts') :
  stuckM F (runU F s.data.toList s.data.toList.length).c.lk (runU F s.data.toList s.data.toList.length).ths = [] ∧ stuckM F' (runU F' s.data.toList s.data.toList.length).c.lk (runU F' s.data.toList s.data.toList.length).ths = [] := by
 have hx : Prog (strt 0 p.data.toList) F' ts' := by rw [← hg]; exact hp'
 have hy : Prog (stp q.data.toList) F' ts' := by rw [hm.fix.str]; exact hp'
 refine ⟨Classical.byContradiction fun hne => ?_, strt_core hx h60 hmd _ _⟩
 exact stuck_core hp hy hm.fix.md hm.fix.fair s.data.toList hne (strt_core hx h60 hmd _ _)
set_option maxHeartbeats 6400000 in
set_option maxRecDepth 100000 in
theorem freed_any (la : Option Addr) (ln lc : Nat) (pa : Option Addr) (pn pc : Nat) (w : World) (hi : IsInts w w.heap.size la ln) (hl : ln ≤ maxLen) (hj : IsInts w w.heap.size pa pn) (hm : pn ≤ maxLen) :
  Calls Try.prog 5 #[.slice la ln lc, .slice pa pn pc] w fun e w' => e = .returned (.bool true) ∧ Below w.heap.size w w' := by
 go_enter Try.func5, Try.ntmps5
 go_wp2_with fail
 refine (AnyIn_any la ln lc w hi hl).mono ?_
 rintro e w1 ⟨⟨p, t, opn, rfl, hg, htx⟩, b1⟩
 obtain ⟨mks, hgood⟩ := good_of hg htx
 have HG : Hid (GoodP p mks) := hgood
 have HJ1 : Hid (IsInts w1 w1.heap.size pa pn) := ints_later hj b1
 have B1 : Hid (Below w.heap.size w w1) := b1
 have hps := hgood.size
 clear hg htx hgood b1 hi hj
 obtain ⟨g, hg⟩ : ∃ g : ByteArray, g.data.toList = strt 0 p.data.toList := ⟨⟨(strt 0 p.data.toList).toArray⟩, rfl⟩
 obtain ⟨⟨mg, hgg⟩, hmd, hord⟩ := good_strt HG.out hg
 have HGG : Hid (GoodP g mg) := hgg
 have HST : Hid (g.data.toList = strt 0 p.data.toList) := hg
 have HMD : Hid (∀ a ∈ splitBar p.data.toList, MD [] [] a) := hmd
 have HOR : Hid (∀ x ∈ tks [] g.data.toList, ∀ l ∈ x.2.2, l.toNat < x.2.1.toNat) := hord
 have hgs := hgg.size
 clear hg hgg hmd hord
 go_wp2_with fail
 refine (kstraight_any p mks w1 (by omega) HG.out.acc HG.out.no (prog_no_give HG.out.no HMD.out) g HST.out).mono ?_
 rintro e w2 ⟨rfl, b2⟩
 have HJ2 : Hid (IsInts w2 w2.heap.size pa pn) := ints_later HJ1.out b2
 have B2 : Hid (Below w.heap.size w w2) := B1.out.trans (b2.mono B1.out.size)
 clear b2 HJ1
 go_wp2_with fail
 refine (kpicks_any pa pn pc w2 HJ2.out hm).mono ?_
 rintro e w3 ⟨⟨s, rfl, hs⟩, b3⟩
 have B3 : Hid (Below w.heap.size w w3) := B2.out.trans (b3.mono B2.out.size)
 clear b3 HJ2
 go_wp2_with fail
 refine (kmended_any g mg w3 HGG.out).mono ?_
 rintro e w4 ⟨⟨q, ch, rfl, hmo⟩, b4⟩
 have HMO : Hid (MendOf g q ch) := hmo
 have B4 : Hid (Below w.heap.size w w4) := B3.out.trans (b4.mono B3.out.size)
 have hqs := hmo.size
 clear hmo b4
 go_wp2_with fail
 refine (kordered_any g mg w4 (by omega) HGG.out.acc HOR.out).mono ?_
 rintro e w5 ⟨rfl, k5, rfl⟩
 have B5 : Hid (Below w.heap.size w (w4.drewN k5)) := B4.out.trans (below_drewN' _ _ k5)
 generalize w4.drewN k5 = w5 at B5 ⊢
 go_wp2_with fail
 refine (ran_any q s 0 w5 HMO.out.chk hqs hs).mono ?_
 rintro e w6 ⟨hro, b6⟩
 obtain ⟨F, ts, d1, p1, a3, c3, a4, n4, c4, x1, s1, rfl, hprog, hf1, _, _⟩ := ran_more hro
 have HPR : Hid (Prog q.data.toList F ts) := hprog
 have HS1 : Hid (s1 = ⟨(stuckM F (runU F s.data.toList s.data.toList.length).c.lk (runU F s.data.toList s.data.toList.length).ths).toArray⟩) := hf1.2.2.2.1
 have B6 : Hid (Below w.heap.size w w6) := B5.out.trans (b6.mono B5.out.size)
 have hw6 := B6.out.size
 have HAL : Hid (∀ o, Below w.heap.size w (w6.alloc o)) := fun o => B6.out.alloc hw6 o
 clear hro hprog hf1 b6
 go_wp2_with fail
 refine (ran_any g s 0 _ HGG.out.chk (by omega) hs).mono ?_
 rintro e w7 ⟨hro, b7⟩
 obtain ⟨F', ts', d2, p2, a5, c5, a6, n6, c6, x2, s2, rfl, hprog2, hf2, _, _⟩ := ran_more hro
 obtain ⟨k1, k2⟩ := freed_facts (s := s) HMO.out HST.out HG.out.no HMD.out HPR.out hprog2
 have e1 : s1 = ⟨#[]⟩ := by rw [HS1.out, k1]
 have e2 : s2 = ⟨#[]⟩ := by rw [hf2.2.2.2.1, k2]
 subst e1 e2
 have L7 := (Blk.new (w := w6) (l := [.string d1, .string p1, .slice a3 3 c3, .slice a4 n4 c4, .int .i64 x1, .string ⟨#[]⟩]) (ty := 27)).chg (chg_of_below b7 []) (by simp)
 have m5 := L7.cell 5 _ rfl
 have hlt := L7.lt
 have B7 : Hid (Below w.heap.size w w7) := (HAL.out _).trans (b7.mono (by simp; omega))
 have hw7 := B7.out.size
 have HAL7 : Hid (∀ o, Below w.heap.size w (w7.alloc o)) := fun o => B7.out.alloc hw7 o
 clear hro hprog2 hf2 k1 k2 b7 L7
 go_wp2
 go_ret
 exact ⟨rfl, HAL7.out _⟩
end Go.Proofs.Ytdgkpkdinfklaab
