import Derived.Test.YtdgkpkdinfklaabXKqFreed
import Derived.Test.YtdgkpkdinfklaabXKwC
import Derived.Test.YtdgkpkdinfklaabXKwB
import Derived.Test.YtdgkpkdinfklaabGKQ
namespace Go.Proofs.Ytdgkpkdinfklaab
open Go.RowKit
def wb (l : List UInt8) : List UInt8 := l.flatMap fun c => if c = 124 then [93, 124, 91, 68] else [c]
theorem wb_app (a b : List UInt8) : wb (a ++ b) = wb a ++ wb b := by simp [wb]
theorem wb_none : ∀ {u : List UInt8}, (124 : UInt8) ∉ u → wb u = u := by
 intro u
 induction u with
 | nil => intro _; rfl
 | cons c r ih =>
  intro h
  have hc : c ≠ 124 := fun e => h (by simp [e])
  have := ih (fun e => h (by simp [e]))
  unfold wb at this ⊢
  rw [List.flatMap_cons, if_neg hc, this]; rfl
def WR (p : List UInt8) : List UInt8 := 91 :: 68 :: (wb p ++ [93])
def wr1 (a : List UInt8) : List UInt8 := 91 :: 68 :: (a ++ [93])
theorem WR_none {p : List UInt8} (h : (124 : UInt8) ∉ p) : WR p = wr1 p := by rw [WR, wb_none h]; rfl
theorem WR_bar {u v : List UInt8} (h : (124 : UInt8) ∉ u) : WR (u ++ 124 :: v) = wr1 u ++ 124 :: WR v := by
 rw [WR, wb_app, wb_none h, show wb (124 :: v) = [93, 124, 91, 68] ++ wb v by simp [wb], wr1, WR]
 simp
theorem cntGP_cons (c : UInt8) (l : List UInt8) : cntGP (c :: l) = (if c = 103 ∨ c = 112 then 1 else 0) + cntGP l := by
 unfold cntGP
 rw [List.filter_cons]
 by_cases h : c = 103 ∨ c = 112
 ·rw [if_pos h, if_pos (by simpa using h)]; simp; omega
 ·rw [if_neg h, if_neg (by simpa using h)]; simp
theorem cntGP_not {c : UInt8} {l : List UInt8} (h : ¬ (c = 103 ∨ c = 112)) : cntGP (c :: l) = cntGP l := by rw [cntGP_cons, if_neg h]; omega
theorem cntGP_two (l : List UInt8) : cntC 103 l + cntC 112 l = cntGP l := by
 induction l with
 | nil => rfl
 | cons c r ih =>
  rw [cntGP_cons, ← ih]
  unfold cntC
  rw [List.filter_cons, List.filter_cons]
  by_cases h1 : c = 103
  ·subst h1
   simp; omega
  ·by_cases h2 : c = 112
   ·subst h2
    simp; omega
   ·have b1 : (c == 103) = false := by simpa using h1
    have b2 : (c == 112) = false := by simpa using h2
    rw [b1, b2]; simp [h1, h2]
theorem md_na {H K s : List UInt8} (h : MD H K s) : (60 : UInt8) ∉ s → na s = cntGP s := by
 have nv : ∀ v : UInt8, inU [120, 121, 122] v = true → ¬ (v = 103 ∨ v = 112) := by rintro v hv (rfl | rfl) <;> exact absurd hv (by decide)
 induction h with
 | nil H => intro _; rfl
 | acc c v hc hv _ ih =>
  intro hn
  rw [na, if_pos hc, cntGP_cons, if_pos hc, cntGP_not (nv v hv), ih (fun h => hn (by simp [h]))]; omega
 | add d hd _ ih =>
  intro hn
  have d1 : ¬ (d = 103 ∨ d = 112) := by rintro (rfl | rfl) <;> exact absurd hd (by decide)
  rw [na, if_neg (by decide), if_pos (by decide), cntGP_not (by decide), cntGP_not d1, ih (fun h => hn (by simp [h]))]
 | out _ ih => intro hn; rw [na_skip (by decide) (by decide), cntGP_not (by decide), ih (fun h => hn (by simp [h]))]
 | take l hl _ _ ih =>
  intro hn
  have l1 : ¬ (l = 103 ∨ l = 112) := by rintro (rfl | rfl) <;> exact absurd hl (by decide)
  rw [na, if_neg (by decide), if_pos (by decide), cntGP_not (by decide), cntGP_not l1, ih (fun h => hn (by simp [h]))]
 | give l _ ih => intro hn; rw [na_skip (by decide) (by decide), cntGP_not (by decide), ih (fun h => hn (by simp [h]))]
 | mend l c v _ _ _ _ _ _ => intro hn; exact absurd List.mem_cons_self hn
 | @branch H K a b s ha hb hs iha ihb ih =>
  intro hn
  have n1 : (60 : UInt8) ∉ a := fun h => hn (by simp [h])
  have n2 : (60 : UInt8) ∉ b := fun h => hn (by simp [h])
  have n3 : (60 : UInt8) ∉ s := fun h => hn (by simp [h])
  rw [na_skip (by decide) (by decide), na_skip (by decide) (by decide), (lay_cat ha n1 (fun _ => none) 0 _).2, na_skip (by decide) (by decide), na_skip (by decide) (by decide), (lay_cat hb n2 (fun _ => none) 0 _).2, na_skip (by decide) (by decide), iha n1, ihb n2, ih n3]
  rw [cntGP_not (by decide), cntGP_not (by decide), cntGP_app, cntGP_not (by decide), cntGP_not (by decide), cntGP_app, cntGP_not (by decide)]
 | @loop H K a s hm ha hs iha ih =>
  intro hn
  have n1 : (60 : UInt8) ∉ a := fun h => hn (by simp [h])
  have n3 : (60 : UInt8) ∉ s := fun h => hn (by simp [h])
  rw [na_skip (by decide) (by decide), na_skip (by decide) (by decide), (lay_cat ha n1 (fun _ => none) 0 _).2, na_skip (by decide) (by decide), iha n1, ih n3]
  rw [cntGP_not (by decide), cntGP_not (by decide), cntGP_app, cntGP_not (by decide)]
structure WOk (p : List UInt8) : Prop where
 spl : splitBar (WR p) = (splitBar p).map wr1
 len : (WR p).length = p.length + 3 * (splitBar p).length
 cnt : cntGP (WR p) = cntGP p
 na : na (WR p) = cntGP (WR p)
 acs : ∀ th, ∀ x ∈ acs th [] (WR p), (68 : UInt8) ∈ x.2.2.2
 no : (60 : UInt8) ∉ WR p
theorem wr1_cnt (a : List UInt8) : cntGP (wr1 a) = cntGP a := by
 rw [wr1, cntGP_not (by decide), cntGP_not (by decide), cntGP_app]; rfl
theorem wr1_no {a : List UInt8} (h : (60 : UInt8) ∉ a) : (60 : UInt8) ∉ wr1 a := by simp [wr1, h]
theorem wr1_md {a : List UInt8} (h : MD [] [] a) (hn : (68 : UInt8) ∉ a) : MD [] [] (wr1 a) := h.wrap (by decide) hn
theorem wok : ∀ (n : Nat) (p : List UInt8), p.length ≤ n → (60 : UInt8) ∉ p → (68 : UInt8) ∉ p → (∀ a ∈ splitBar p, MD [] [] a) → WOk p := by
 intro n
 induction n with
 | zero =>
  intro p hp h60 h68 h
  have : p = [] := List.length_eq_zero_iff.1 (by omega)
  subst this
  have hb : (124 : UInt8) ∉ ([] : List UInt8) := by simp
  have hm := h [] (by rw [split_none hb]; simp)
  have hw := wr1_md hm h68
  refine ⟨by rw [WR_none hb, split_none hw.td.no, split_none hb]; rfl, rfl, rfl, rfl, fun th x hx => ?_, by rw [WR_none hb]; exact wr1_no h60⟩
  rw [WR_none hb] at hx
  exact wrap_acs hm 68 th x hx
 | succ n ih =>
  intro p hp h60 h68 h
  by_cases hb : (124 : UInt8) ∈ p
  ·obtain ⟨u, v, rfl, hu⟩ := List.eq_append_cons_of_mem hb
   rw [split_bar hu] at h
   have hmu := h u (by simp)
   have nu : (60 : UInt8) ∉ u := fun h => h60 (by simp [h])
   have nv : (60 : UInt8) ∉ v := fun h => h60 (by simp [h])
   have mu : (68 : UInt8) ∉ u := fun h => h68 (by simp [h])
   have mv : (68 : UInt8) ∉ v := fun h => h68 (by simp [h])
   have r := ih v (by simp at hp; omega) nv mv (fun b hb => h b (by simp [hb]))
   have hw := wr1_md hmu mu
   have e := WR_bar (u := u) (v := v) hu
   refine ⟨?_, ?_, ?_, ?_, fun th x hx => ?_, ?_⟩
   ·rw [e, split_bar hw.td.no, r.spl, split_bar hu, List.map_cons]
   ·rw [e, split_bar hu, List.length_append, List.length_cons, r.len, wr1]; simp; omega
   ·rw [e, cntGP_app, cntGP_not (by decide), r.cnt, wr1_cnt, cntGP_app, cntGP_not (by decide)]
   ·rw [e, (lay_cat hw (wr1_no nu) (fun _ => none) 0 _).2, na_skip (by decide) (by decide), r.na, md_na hw (wr1_no nu), cntGP_app, cntGP_not (by decide)]
   ·rw [e, acs_body hw.td, acs_bar] at hx
    rcases List.mem_append.1 hx with hx | hx
    ·exact wrap_acs hmu 68 th x hx
    ·exact r.acs (th + 1) x hx
   ·rw [e]
    simp only [List.mem_append, List.mem_cons, not_or]
    exact ⟨wr1_no nu, by decide, r.no⟩
  ·rw [split_none hb] at h
   have hmp := h p (by simp)
   have hw := wr1_md hmp h68
   have e := WR_none hb
   refine ⟨by rw [e, split_none hw.td.no, split_none hb]; rfl, by rw [e, split_none hb, wr1]; simp, by rw [e, wr1_cnt], by rw [e]; exact md_na hw (wr1_no h60), fun th x hx => ?_, by rw [e]; exact wr1_no h60⟩
   rw [e] at hx
   exact wrap_acs hmp 68 th x hx
structure HeldOk (q : ByteArray) (mq : List MK) : Prop where
 good : GoodP q mq
 none : prL (accL mq) (accL mq).length = []
 cnt : (accL mq).length = cntC 103 q.data.toList + cntC 112 q.data.toList
 all : ∀ m ∈ accL mq, inU (nm (hOf m) 5) 68 = true
 race : ∀ F ts, Prog q.data.toList F ts → ∀ X k, (runU F X k).race = 0
 stuck : ∀ F ts, Prog q.data.toList F ts → ∀ X k, stuckM F (runU F X k).c.lk (runU F X k).ths = []
theorem held_ok {p q : ByteArray} {mks : List MK} (h : GoodP p mks) (hs : p.size ≤ 184) (h68 : (68 : UInt8) ∉ p.data.toList) (hc : cntGP p.data.toList ≤ 10) (hq : q.data.toList = WR p.data.toList) : ∃ mq, HeldOk q mq := by
 obtain ⟨h4, hmd⟩ := chk_md h.chk
 have W := wok _ p.data.toList (Nat.le_refl _) h.no h68 hmd
 have hsub : ∀ a ∈ splitBar p.data.toList, (68 : UInt8) ∉ a := fun a ha hm => h68 (split_sub _ a ha 68 hm)
 have hmd' : ∀ a ∈ splitBar q.data.toList, MD [] [] a := fun a ha => by
  rw [hq, W.spl, List.mem_map] at ha
  obtain ⟨b, hb, rfl⟩ := ha
  exact wr1_md (hmd b hb) (hsub b hb)
 have h4' : (splitBar q.data.toList).length ≤ 4 := by rw [hq, W.spl, List.length_map]; exact h4
 obtain ⟨mq, ha, hn⟩ := md_prog h4' hmd'
 have hqs : q.size ≤ 196 := by
  have := W.len
  rw [← hq, len_eq, len_eq] at this
  omega
 have htd : ∀ a ∈ splitBar q.data.toList, TD [] [] a := fun a ha => (hmd' a ha).td
 have hna : (accL mq).length = cntGP q.data.toList := by rw [acc_na ha, hq, W.na]
 have hno : NoOpen mq := (noOpen_iff ha).2 fun x hx y hy _ _ _ => ⟨68, by decide, W.acs 1 x (by rw [← hq]; exact hx), W.acs 1 y (by rw [← hq]; exact hy)⟩
 refine ⟨mq, ⟨chk_of (by omega) ha hn, ha, by rw [hq]; exact W.no, by rw [hna, hq, W.cnt]; exact hc, by omega⟩, of_noOpen hno, by rw [hna, cntGP_two], fun m hm => ?_, fun F ts hp X k => no_race hp hno ha htd X k, fun F ts hp X k => ?_⟩
 ·obtain ⟨j, hj⟩ := List.getElem?_of_mem hm
  obtain ⟨x, _, hx, _, hmk, _⟩ := (marks_idx ha).2.2 j m hj
  have h3 : m.h3 = true := by
   rw [hmk.2.2.2.2.2.2.1, inU_mem]
   exact W.acs 1 x (by rw [← hq]; exact List.mem_of_getElem? hx)
  rw [inU_mem, nm_mem]
  exact ⟨3, by decide, h3, rfl⟩
 ·obtain ⟨a1, _⟩ := Alike.run hp htd X k
  rw [a1.unstuck hp.jok hp.thr.lastEnd]
  refine held_free (LI.prog (four_of hp) htd X k) 68 fun c v H hx => ?_
  obtain ⟨a, ha', hxa⟩ := (tks_split _ htd _).1 hx
  refine ⟨(td_nest (htd a ha') [] (fun l hl => hl) _ (by simpa using hxa)).2, fun hne => ?_⟩
  rw [hq, W.spl, List.mem_map] at ha'
  obtain ⟨b, hb, rfl⟩ := ha'
  rcases wrap_tks (hmd b hb) 68 _ hxa with e | e
  ·exact absurd (congrArg (fun x => x.2.2) e) hne
  ·exact e
end Go.Proofs.Ytdgkpkdinfklaab
