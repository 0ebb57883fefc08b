import Derived.Test.YtnpkambjlfkhgaaPure3
namespace Go.Proofs.Ytnpkambjlfkhgaa

/-- What one piece gives. -/
def Good (p : List UInt8) (x : RS × Bool) : Prop := (x.2 = false → Fail p x.1.pl) ∧ (x.2 = true → Sim p x.1)

theorem now_push (op : List (Int × Int)) (k : Int) (i : Nat) : nowOf ((k, (i : Int)) :: op) = nowOf op ++ [UInt8.ofNat (65 + i)] := by
  simp [nowOf]

theorem bodyBegin_sim {p : List UInt8} {r : RS} {k : Nat} (kd : Int) (hk : kd = 3 ∨ kd = 4) (X : List UInt8) (hkinds : KindsOk r.op) (h1 : 1 ≤ r.th) (h4 : r.th ≤ 4) (hlt : r.pl < p.length)
    (hf : fw p (r.pl + 1) = some (123 :: X)) (hX : X = 66 :: encT ((kd, -1) :: r.op) r.th) (ht : tw p k = ⟨r.pl + 1, nowOf r.op, r.th, r.mks⟩) : Good p (r.bodyBegin p kd) := by
  unfold RS.bodyBegin
  cases hx : nxI p (r.pl + 1) [123] with
  | none =>
    refine ⟨fun _ => ?_, by simp⟩
    exact fail_at (q := r.pl + 1) hf (by decide) (by decide) st_lc hx (by omega)
  | some i =>
    refine ⟨by simp, fun _ => ?_⟩
    obtain ⟨d, hd, hdi⟩ := nxI_char hx
    have hd' : d = 123 := by
      have hi : i < 1 := (List.getElem?_eq_some_iff.1 hdi).1
      have hi0 : i = 0 := by omega
      subst hi0; simpa using hdi.symm
    have hf2 := ok_at hf (by decide) (by decide) st_lc hx
    have hs := step_one ht hd (by rw [hd']; simp)
    refine ⟨?_, h1, h4, ?_, k + 1, ?_⟩
    · intro x hx
      rcases List.mem_cons.1 hx with rfl | hx
      · right; exact ⟨hk, rfl⟩
      · exact hkinds x hx
    · show fw p (r.pl + 2) = _
      rw [hf2, hX]; rfl
    · rw [hs]; simp [RS.to, RS.push, nowOf]

theorem opnL_none {c : UInt8} (h : ¬ (c = 103 ∨ c = 112 ∨ c = 105 ∨ c = 111 ∨ c = 91 ∨ c = 60 ∨ c = 63 ∨ c = 33)) : opnL c = none := by
  simp only [not_or] at h
  obtain ⟨n1, n2, n3, n4, n5, n6, n7, n8⟩ := h
  simp [opnL, n1, n2, n3, n4, n5, n6, n7, n8]

/-- The form behind a 'B', and a byte that opens nothing. -/
theorem nxt_tail (op : List (Int × Int)) (th : Int) (c : UInt8) : nxt (encT op th) c =
    (match op with
    | [] => if th < 4 then (66 :: List.replicate (4 - (th + 1)).toNat 109, c == 124) else ([], false)
    | x :: o => if x.1 = 1 then (66 :: encT o th, c == 93) else if x.1 = 3 then (123 :: 66 :: encT ((4, x.2) :: o) th, c == 125) else (66 :: encT o th, c == 125)) := by
  cases op with
  | nil =>
    simp only [encT, encS, List.nil_append]
    by_cases h : th < 4
    · rw [if_pos h]
      obtain ⟨n, hn⟩ : ∃ n, (4 - th).toNat = n + 1 := ⟨(4 - th).toNat - 1, by omega⟩
      rw [hn, List.replicate_succ, nxt_m, show (4 - (th + 1)).toNat = n by omega]
    · rw [if_neg h, show (4 - th).toNat = 0 by omega]
      rfl
  | cons x o =>
    simp only [encT, encS]
    by_cases h1 : x.1 = 1
    · rw [if_pos h1, if_pos h1]
      show nxt (93 :: 66 :: (encS o ++ _)) c = _
      rw [nxt_e (by decide) (by decide)]; rfl
    · rw [if_neg h1, if_neg h1]
      by_cases h3 : x.1 = 3
      · rw [if_pos h3, if_pos h3]
        show nxt (125 :: 123 :: 66 :: 125 :: 66 :: (encS o ++ _)) c = _
        rw [nxt_e (by decide) (by decide)]; rfl
      · rw [if_neg h3, if_neg h3]
        show nxt (125 :: 66 :: (encS o ++ _)) c = _
        rw [nxt_e (by decide) (by decide)]; rfl

theorem nxR (r : RS) (c : UInt8) (more : List UInt8) (h : opnL c = some more) : nxt (encR r) c = (more ++ encR r, true) := nxt_B h

theorem fail_tail {p : List UInt8} {r : RS} {c : UInt8} (hlt : r.pl < p.length) (hf : fw p r.pl = some (encR r)) (hc : p[r.pl]? = some c) (ho : opnL c = none) (hn : (nxt (encT r.op r.th) c).2 = false) : Fail p r.pl := by
  left
  exact ⟨_, c, hlt, hf, hc, by rw [encR, nxt_skip ho]; exact hn⟩

theorem mended_sim {p : List UInt8} {r : RS} {k : Nat} (hkinds : KindsOk r.op) (h1 : 1 ≤ r.th) (h4 : r.th ≤ 4) (hlt : r.pl < p.length) (hf : fw p r.pl = some (encR r)) (hc : p[r.pl]? = some 60) (ht : tw p k = ⟨r.pl, nowOf r.op, r.th, r.mks⟩) : Good p (r.mended p) := by
  have hf1 : fw p (r.pl + 1) = some (107 :: 97 :: 118 :: 62 :: encR r) := fw_step hf hc (nxR r 60 [107, 97, 118, 62] rfl)
  cases hx : nxI p (r.pl + 1) [65, 66, 67, 68, 69] with
  | none =>
    have hr : r.mended p = (r.to 1, false) := by simp [RS.mended, hx]
    rw [hr]
    refine ⟨fun _ => ?_, by simp⟩
    exact fail_at (q := r.pl + 1) hf1 (by decide) (by decide) st_k hx (by omega)
  | some i =>
    obtain ⟨d, hd, hdi⟩ := nxI_char hx
    obtain ⟨d1, d2, d3⟩ := lock_char hdi
    have hlt1 := nxI_lt hx
    have hf2 := ok_at hf1 (by decide) (by decide) st_k hx
    have hs := step_take ht hc hd (.inr rfl)
    have hlk : LocksOk (((r.to 2).mark 3 r.pl i).push 2 i).op := by
      intro x hx
      rcases List.mem_cons.1 hx with rfl | hx
      · exact ⟨by simp only; omega, by simp only; omega⟩
      · exact hkinds.locks x hx
    have hs' : tw p (k + 1) = ⟨(((r.to 2).mark 3 r.pl i).push 2 i).pl, nowOf (((r.to 2).mark 3 r.pl i).push 2 i).op, (((r.to 2).mark 3 r.pl i).push 2 i).th, (((r.to 2).mark 3 r.pl i).push 2 i).mks⟩ := by
      rw [hs]
      simp only [RS.push, RS.mark, RS.to]
      rw [now_push, mark_eq hkinds.locks, d2, d1]
    have ha := access_sim (r := ((r.to 2).mark 3 r.pl i).push 2 i) (X := 62 :: encR r) hlk (by simp only [RS.push, RS.mark, RS.to]; omega) hf2 (.inl rfl)
      (fun c hc => by rw [nxt_e (by decide) (by decide)]; rcases hc with rfl | rfl <;> rfl)
      (fun c _ hi => by rw [nxt_e (by decide) (by decide)]; exact hi) hs'
    cases hq : (((r.to 2).mark 3 r.pl i).push 2 i).access p with
    | mk r3 ok =>
      rw [hq] at ha
      cases ok with
      | false =>
        have hr : r.mended p = (r3, false) := by simp [RS.mended, hx, hq]
        rw [hr]
        exact ⟨fun _ => ha.1 rfl, by simp⟩
      | true =>
        obtain ⟨e1, e2, e3, e4, e5⟩ := ha.2 rfl
        simp only [RS.push, RS.mark, RS.to] at e1 e2 e3 e4 e5
        have hf4 : fw p r3.pl = some (62 :: encR r) := by rw [e1]; exact e4
        cases hz : nxI p r3.pl [62] with
        | none =>
          have hr : r.mended p = (r3, false) := by simp [RS.mended, hx, hq, hz]
          rw [hr]
          refine ⟨fun _ => ?_, by simp⟩
          have hq2 : r3.pl ≤ p.length := by
            rw [e1]
            by_cases hle : r.pl + 2 + 2 ≤ p.length
            · exact hle
            · exfalso
              have : fw p (r.pl + 2 + 2) = none := by
                have : p[r.pl + 2 + 1]? = none := List.getElem?_eq_none (by omega)
                simp [fw, this]
              rw [this] at e4; cases e4
          exact fail_at (q := r3.pl) hf4 (by decide) (by decide) st_gt hz hq2
        | some j =>
          have hr : r.mended p = ((r3.to 1).pop, true) := by simp [RS.mended, hx, hq, hz]
          rw [hr]
          refine ⟨by simp, fun _ => ?_⟩
          obtain ⟨g, hg, hgi⟩ := nxI_char hz
          have hg' : g = 62 := by
            have hi : j < 1 := (List.getElem?_eq_some_iff.1 hgi).1
            have hi0 : j = 0 := by omega
            subst hi0; simpa using hgi.symm
          have hf5 := ok_at hf4 (by decide) (by decide) st_gt hz
          have e5' : tw p (k + 1 + 1) = ⟨r3.pl, nowOf ((2, (i : Int)) :: r.op), r.th, r3.mks⟩ := by rw [e5, e1]
          have hs2 := step_give e5' hg (.inr hg')
          refine ⟨?_, ?_, ?_, ?_, k + 1 + 1 + 1, ?_⟩
          · simp only [RS.pop, RS.to, e2, List.tail_cons]; exact hkinds
          · simp only [RS.pop, RS.to, e3]; exact h1
          · simp only [RS.pop, RS.to, e3]; exact h4
          · show fw p (r3.pl + 1) = _
            rw [hf5]
            simp only [encR, RS.pop, RS.to, e2, e3, List.tail_cons]
          · rw [hs2, now_push]
            simp only [RS.pop, RS.to, e2, e3, List.tail_cons, List.dropLast_concat]

theorem piece_sim {p : List UInt8} {r : RS} (h : Sim p r) (hlt : r.pl < p.length) : Good p (r.piece p) := by
  obtain ⟨hkinds, h1, h4, hf, k, ht⟩ := h
  have hc := List.getElem?_eq_getElem hlt
  obtain ⟨c, hcc⟩ : ∃ c, p[r.pl] = c := ⟨_, rfl⟩
  rw [hcc] at hc
  clear hcc
  unfold RS.piece
  rw [hc]
  simp only
  by_cases hg : c = 103 ∨ c = 112
  · rw [if_pos hg]
    have ha := access_sim (X := encR r) hkinds.locks (by omega) hf (.inr hlt) (fun c hc => by
      rcases hc with rfl | rfl
      · exact nxR r 103 [118] rfl
      · exact nxR r 112 [118] rfl) (fun d hd hi => by
        rw [hc] at hd; cases hd
        rcases hg with rfl | rfl <;> cases hi) ht
    refine ⟨ha.1, fun e => ?_⟩
    obtain ⟨e1, e2, e3, e4, e5⟩ := ha.2 e
    exact ⟨by rw [e2]; exact hkinds, by rw [e3]; exact h1, by rw [e3]; exact h4, by rw [e1, e4]; simp [encR, e2, e3], k + 1, by rw [e5, e1, e2, e3]⟩
  rw [if_neg hg]
  by_cases hi : c = 105
  · rw [if_pos hi]; subst hi
    have hf1 : fw p (r.pl + 1) = some (110 :: encR r) := fw_step hf hc (nxR r 105 [110] rfl)
    unfold RS.addition
    cases hx : nxI p (r.pl + 1) [48, 49, 50, 51, 52, 53, 54, 55, 56, 57] with
    | none =>
      refine ⟨fun _ => ?_, by simp⟩
      exact fail_at (q := r.pl + 1) hf1 (by decide) (by decide) st_n hx (by omega)
    | some i =>
      refine ⟨by simp, fun _ => ?_⟩
      exact ⟨hkinds, h1, h4, ok_at hf1 (by decide) (by decide) st_n hx, k + 1, step_two ht hc⟩
  rw [if_neg hi]
  by_cases ho : c = 111
  · rw [if_pos ho]; subst ho
    refine ⟨by simp, fun _ => ?_⟩
    exact ⟨hkinds, h1, h4, fw_step hf hc (nxR r 111 [] rfl), k + 1, step_one ht hc (.inl rfl)⟩
  rw [if_neg ho]
  by_cases hb : c = 91
  · rw [if_pos hb]; subst hb
    have hf1 : fw p (r.pl + 1) = some (108 :: 66 :: 93 :: encR r) := fw_step hf hc (nxR r 91 [108, 66, 93] rfl)
    unfold RS.regionBegin
    cases hx : nxI p (r.pl + 1) [65, 66, 67, 68] with
    | none =>
      refine ⟨fun _ => ?_, by simp⟩
      exact fail_at (q := r.pl + 1) hf1 (by decide) (by decide) st_l hx (by omega)
    | some i =>
      refine ⟨by simp, fun _ => ?_⟩
      obtain ⟨d, hd, hdi⟩ := nxI_char hx
      obtain ⟨d1, d2, d3⟩ := lock_char4 hdi
      refine ⟨?_, h1, h4, ok_at hf1 (by decide) (by decide) st_l hx, k + 1, ?_⟩
      · intro x hx
        rcases List.mem_cons.1 hx with rfl | hx
        · left; exact ⟨rfl, by simp, by simp; omega⟩
        · exact hkinds x hx
      · rw [step_take ht hc hd (.inl rfl)]
        simp only [RS.push, RS.mark, RS.to]
        rw [now_push, mark_eq hkinds.locks, d2, d1]
  rw [if_neg hb]
  by_cases he : c = 93
  · rw [if_pos he]; subst he
    unfold RS.regionEnd
    by_cases htop : r.top = 1
    · rw [if_pos htop]
      refine ⟨by simp, fun _ => ?_⟩
      obtain ⟨pl, th, op, mks⟩ := r
      cases op with
      | nil => simp [RS.top] at htop
      | cons x o =>
        simp only [RS.top] at htop
        simp only at hf ht hc h1 h4 hkinds hlt
        have hx := hkinds x (List.mem_cons_self ..)
        refine ⟨fun y hy => hkinds y (List.mem_cons_of_mem _ hy), h1, h4, ?_, k + 1, ?_⟩
        · refine fw_step hf hc ?_
          simp only [encR]
          rw [nxt_skip (by rfl), nxt_tail]
          simp only [htop, if_true, RS.pop, RS.to]
          rfl
        · rw [step_give ht hc (.inl rfl)]
          simp only [RS.pop, RS.to, List.tail_cons]
          rcases hx with ⟨_, hx0, _⟩ | ⟨hx0, _⟩
          · simp [nowOf, hx0]
          · omega
    · rw [if_neg htop]
      refine ⟨fun _ => fail_tail hlt hf hc rfl ?_, by simp⟩
      rw [nxt_tail]
      cases hop : r.op with
      | nil => simp only; split <;> rfl
      | cons x o =>
        simp only [RS.top, hop] at htop
        simp only [if_neg htop]
        split <;> rfl
  rw [if_neg he]
  by_cases hm : c = 60
  · rw [if_pos hm]; subst hm
    exact mended_sim hkinds h1 h4 hlt hf hc ht
  rw [if_neg hm]
  by_cases hq : c = 63
  · rw [if_pos hq]; subst hq
    exact bodyBegin_sim 3 (.inl rfl) ([66, 125, 123, 66, 125] ++ encR r) hkinds h1 h4 hlt (fw_step hf hc (by rw [nxR r 63 [123, 66, 125, 123, 66, 125] rfl]; rfl)) rfl (step_one ht hc (by simp))
  rw [if_neg hq]
  by_cases hw : c = 33
  · rw [if_pos hw]; subst hw
    exact bodyBegin_sim 4 (.inr rfl) ([66, 125] ++ encR r) hkinds h1 h4 hlt (fw_step hf hc (by rw [nxR r 33 [123, 66, 125] rfl]; rfl)) rfl (step_one ht hc (by simp))
  rw [if_neg hw]
  by_cases hr : c = 125
  · rw [if_pos hr]; subst hr
    unfold RS.bodyEnd
    by_cases h3 : r.top = 3
    · rw [if_pos h3]
      obtain ⟨pl, th, op, mks⟩ := r
      cases op with
      | nil => simp [RS.top] at h3
      | cons x o =>
        simp only [RS.top] at h3
        simp only at hf ht hc h1 h4 hkinds hlt
        have hx := hkinds x (List.mem_cons_self ..)
        have hx2 : x.2 = -1 := by
          rcases hx with ⟨e, _⟩ | ⟨_, e⟩
          · omega
          · exact e
        have hnow : nowOf (x :: o) = nowOf o := by simp [nowOf, hx2]
        refine bodyBegin_sim (r := RS.pop ⟨pl, th, x :: o, mks⟩) 4 (.inr rfl) (66 :: encT ((4, x.2) :: o) th) (fun y hy => hkinds y (List.mem_cons_of_mem _ hy)) h1 h4 hlt ?_ rfl (k := k + 1) ?_
        · refine fw_step hf hc ?_
          simp only [encR]
          rw [nxt_skip (by rfl), nxt_tail]
          simp only [h3]
          rfl
        · rw [step_one ht hc (by simp)]
          simp only [RS.pop, List.tail_cons, hnow]
    · rw [if_neg h3]
      by_cases h44 : r.top = 4
      · rw [if_pos h44]
        refine ⟨by simp, fun _ => ?_⟩
        obtain ⟨pl, th, op, mks⟩ := r
        cases op with
        | nil => simp [RS.top] at h44
        | cons x o =>
          simp only [RS.top] at h44
          simp only at hf ht hc h1 h4 hkinds hlt
          have hx := hkinds x (List.mem_cons_self ..)
          have hx2 : x.2 = -1 := by
            rcases hx with ⟨e, _⟩ | ⟨_, e⟩
            · omega
            · exact e
          have hnow : nowOf (x :: o) = nowOf o := by simp [nowOf, hx2]
          refine ⟨fun y hy => hkinds y (List.mem_cons_of_mem _ hy), h1, h4, ?_, k + 1, ?_⟩
          · refine fw_step hf hc ?_
            simp only [encR]
            rw [nxt_skip (by rfl), nxt_tail]
            simp only [h44]
            rfl
          · rw [step_one ht hc (by simp)]
            simp only [RS.pop, RS.to, List.tail_cons, hnow]
      · rw [if_neg h44]
        refine ⟨fun _ => fail_tail hlt hf hc rfl ?_, by simp⟩
        rw [nxt_tail]
        cases hop : r.op with
        | nil => simp only; split <;> rfl
        | cons x o =>
          have hx := hkinds x (by rw [hop]; exact List.mem_cons_self ..)
          simp only [RS.top, hop] at h3 h44
          rcases hx with ⟨e, _⟩ | ⟨e, _⟩
          · simp only [e, if_true]; rfl
          · omega
  rw [if_neg hr]
  by_cases hbar : c = 124
  · rw [if_pos hbar]; subst hbar
    unfold RS.nextThread
    by_cases hn : r.op ≠ [] ∨ 4 ≤ r.th
    · rw [if_pos hn]
      refine ⟨fun _ => fail_tail hlt hf hc rfl ?_, by simp⟩
      rw [nxt_tail]
      cases hop : r.op with
      | nil =>
        have : ¬ r.th < 4 := by
          rcases hn with hn | hn
          · exact absurd hop hn
          · omega
        simp only [if_neg this]
      | cons x o =>
        simp only
        split
        · rfl
        · split <;> rfl
    · rw [if_neg hn]
      refine ⟨by simp, fun _ => ?_⟩
      simp only [not_or, ne_eq, Decidable.not_not] at hn
      obtain ⟨hop, hth⟩ := hn
      refine ⟨hkinds, by simp; omega, by simp; omega, ?_, k + 1, ?_⟩
      · refine fw_step hf hc ?_
        simp only [encR]
        rw [nxt_skip (by rfl), nxt_tail, hop]
        simp only [if_pos (show r.th < 4 by omega)]
        rfl
      · rw [step_bar ht hc]
  rw [if_neg hbar]
  refine ⟨fun _ => fail_tail hlt hf hc (opnL_none ?_) ?_, by simp⟩
  · simp only [not_or] at hg ⊢
    exact ⟨hg.1, hg.2, hi, ho, hb, hm, hq, hw⟩
  · rw [nxt_tail]
    cases hop : r.op with
    | nil => simp only; split <;> simp [hbar]
    | cons x o =>
      simp only
      split
      · simp [he]
      · split <;> simp [hr]

theorem Reach.sim {p : List UInt8} {r : RS} (h : Reach p r) : Sim p r := by
  induction h with
  | start => exact ⟨fun x hx => by simp [RS.start] at hx, by decide, by decide, rfl, 0, rfl⟩
  | step _ hl he ih =>
    have := (piece_sim ih hl).2
    rw [he] at this
    exact this rfl

end Go.Proofs.Ytnpkambjlfkhgaa
