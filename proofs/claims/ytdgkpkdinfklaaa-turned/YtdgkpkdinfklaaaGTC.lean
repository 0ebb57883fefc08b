import Derived.Test.YtdgkpkdinfklaaaGI
import Derived.Test.YtdgkpkdinfklaaaGE
namespace Go.Proofs.Ytdgkpkdinfklaaa

/-! ### A text behind another one -/

def MK.sh (n : Nat) (t : Int) (m : MK) : MK := { m with place := m.place + n, thread := m.thread + t }
/-- The reader's state, n bytes and t threads later, behind some marks. -/
def RS.sh (n : Nat) (t : Int) (ms : List MK) (r : RS) : RS := ⟨n + r.pl, r.th + t, r.op, ms ++ r.mks.map (MK.sh n t)⟩

theorem nxI_sh (u s : List UInt8) (k : Nat) (al : List UInt8) : nxI (u ++ s) (u.length + k) al = nxI s k al := by
  rw [nxI, nxI, List.getElem?_append_right (by omega)]
  congr 2
  omega

theorem sh_to (n : Nat) (t : Int) (ms : List MK) (r : RS) (k : Nat) : (r.sh n t ms).to k = (r.to k).sh n t ms := by
  simp [RS.sh, RS.to, Nat.add_assoc]
theorem sh_mark (n : Nat) (t : Int) (ms : List MK) (r : RS) (kind start num : Int) : (r.sh n t ms).mark kind (start + n) num = (r.mark kind start num).sh n t ms := by
  simp [RS.sh, RS.mark, MK.sh, List.append_assoc]
theorem sh_push (n : Nat) (t : Int) (ms : List MK) (r : RS) (k l : Int) : (r.sh n t ms).push k l = (r.push k l).sh n t ms := rfl
theorem sh_pop (n : Nat) (t : Int) (ms : List MK) (r : RS) : (r.sh n t ms).pop = r.pop.sh n t ms := rfl
theorem sh_top (n : Nat) (t : Int) (ms : List MK) (r : RS) : (r.sh n t ms).top = r.top := rfl
theorem sh_pl (n : Nat) (t : Int) (ms : List MK) (r : RS) : (r.sh n t ms).pl = n + r.pl := rfl
theorem sh_cast (n k : Nat) : ((n + k : Nat) : Int) = (k : Int) + n := by omega

theorem access_sh (u s : List UInt8) (t : Int) (ms : List MK) (r : RS) : (r.sh u.length t ms).access (u ++ s) = ((r.access s).1.sh u.length t ms, (r.access s).2) := by
  unfold RS.access
  rw [sh_pl, nxI_sh]
  cases h1 : nxI s r.pl [103, 112] with
  | none => rfl
  | some i =>
    simp only
    rw [Nat.add_assoc, nxI_sh]
    cases h2 : nxI s (r.pl + 1) [120, 121, 122] with
    | none => simp only [sh_to]
    | some g => simp only [sh_to, sh_cast, sh_mark]

theorem addition_sh (u s : List UInt8) (t : Int) (ms : List MK) (r : RS) : (r.sh u.length t ms).addition (u ++ s) = ((r.addition s).1.sh u.length t ms, (r.addition s).2) := by
  unfold RS.addition
  rw [sh_pl, Nat.add_assoc, nxI_sh]
  cases nxI s (r.pl + 1) [48, 49, 50, 51, 52, 53, 54, 55, 56, 57] <;> simp only [sh_to]

theorem regionBegin_sh (u s : List UInt8) (t : Int) (ms : List MK) (r : RS) : (r.sh u.length t ms).regionBegin (u ++ s) = ((r.regionBegin s).1.sh u.length t ms, (r.regionBegin s).2) := by
  unfold RS.regionBegin
  rw [sh_pl, Nat.add_assoc, nxI_sh]
  cases nxI s (r.pl + 1) [65, 66, 67, 68] <;> simp only [sh_to, sh_cast, sh_mark, sh_push]

theorem regionEnd_sh (n : Nat) (t : Int) (ms : List MK) (r : RS) : (r.sh n t ms).regionEnd = (r.regionEnd.1.sh n t ms, r.regionEnd.2) := by
  unfold RS.regionEnd
  rw [sh_top]
  split <;> simp only [sh_to, sh_pop]

theorem bodyBegin_sh (u s : List UInt8) (t : Int) (ms : List MK) (r : RS) (k : Int) : (r.sh u.length t ms).bodyBegin (u ++ s) k = ((r.bodyBegin s k).1.sh u.length t ms, (r.bodyBegin s k).2) := by
  unfold RS.bodyBegin
  rw [sh_pl, Nat.add_assoc, nxI_sh]
  cases nxI s (r.pl + 1) [123] <;> simp only [sh_to, sh_push]

theorem bodyEnd_sh (u s : List UInt8) (t : Int) (ms : List MK) (r : RS) : (r.sh u.length t ms).bodyEnd (u ++ s) = ((r.bodyEnd s).1.sh u.length t ms, (r.bodyEnd s).2) := by
  unfold RS.bodyEnd
  rw [sh_top, sh_pop]
  split
  · exact bodyBegin_sh u s t ms r.pop 4
  · split <;> simp only [sh_to]

theorem mended_sh (u s : List UInt8) (t : Int) (ms : List MK) (r : RS) : (r.sh u.length t ms).mended (u ++ s) = ((r.mended s).1.sh u.length t ms, (r.mended s).2) := by
  unfold RS.mended
  rw [sh_pl, Nat.add_assoc, nxI_sh]
  cases nxI s (r.pl + 1) [65, 66, 67, 68, 69] with
  | none => simp only [sh_to]
  | some l =>
    simp only [sh_to, sh_cast, sh_mark, sh_push, access_sh]
    rcases h : (((r.to 2).mark 3 r.pl l).push 2 l).access s with ⟨r3, b⟩
    cases b with
    | false => rfl
    | true =>
      simp only
      rw [sh_pl, nxI_sh]
      cases nxI s r3.pl [62] <;> simp only [sh_to, sh_pop]

theorem nextThread_sh (n : Nat) (t : Int) (ms : List MK) (r : RS) (h : r.th < 4 ↔ r.th + t < 4) : (r.sh n t ms).nextThread = (r.nextThread.1.sh n t ms, r.nextThread.2) := by
  have e : ((r.sh n t ms).op ≠ [] ∨ 4 ≤ (r.sh n t ms).th) ↔ (r.op ≠ [] ∨ 4 ≤ r.th) := by
    show (r.op ≠ [] ∨ 4 ≤ r.th + t) ↔ _
    have : 4 ≤ r.th + t ↔ 4 ≤ r.th := by omega
    rw [this]
  unfold RS.nextThread
  by_cases hc : r.op ≠ [] ∨ 4 ≤ r.th
  · rw [if_pos (e.2 hc), if_pos hc]
  · rw [if_neg (fun h' => hc (e.1 h')), if_neg hc]
    simp [RS.sh]
    omega

theorem piece_sh (u s : List UInt8) (t : Int) (ms : List MK) (r : RS) (h : s[r.pl]? = some 124 → (r.th < 4 ↔ r.th + t < 4)) : (r.sh u.length t ms).piece (u ++ s) = ((r.piece s).1.sh u.length t ms, (r.piece s).2) := by
  have hg : (u ++ s)[(r.sh u.length t ms).pl]? = s[r.pl]? := by
    rw [sh_pl, List.getElem?_append_right (by omega)]
    congr 1
    omega
  unfold RS.piece
  rw [hg]
  cases hs : s[r.pl]? with
  | none => rfl
  | some c =>
    simp only
    split
    · exact access_sh u s t ms r
    · split
      · exact addition_sh u s t ms r
      · split
        · simp only [sh_to]
        · split
          · exact regionBegin_sh u s t ms r
          · split
            · exact regionEnd_sh u.length t ms r
            · split
              · exact mended_sh u s t ms r
              · split
                · exact bodyBegin_sh u s t ms r 3
                · split
                  · exact bodyBegin_sh u s t ms r 4
                  · split
                    · exact bodyEnd_sh u s t ms r
                    · split
                      · rename_i hc; exact nextThread_sh u.length t ms r (h (by rw [hs, hc]))
                      · rfl

end Go.Proofs.Ytdgkpkdinfklaaa

namespace Go.Proofs.Ytdgkpkdinfklaaa

/-! ### A text with more behind it, and a text cut at a bar -/

theorem nxI_more {s : List UInt8} {k : Nat} {al : List UInt8} {i : Nat} (h : nxI s k al = some i) (v : List UInt8) : nxI (s ++ v) k al = some i := by
  rw [nxI] at h ⊢
  cases hs : s[k]? with
  | none => rw [hs] at h; cases h
  | some c =>
    rw [hs] at h
    rw [List.getElem?_append_left (List.getElem?_eq_some_iff.1 hs).1, hs]; exact h

theorem nxI_cut {s v : List UInt8} {k : Nat} {al : List UInt8} {i : Nat} (h : nxI (s ++ 124 :: v) k al = some i) (ha : 124 ∉ al) (hk : k ≤ s.length) : k < s.length ∧ nxI s k al = some i := by
  have hlt : k < s.length := by
    by_cases e : k = s.length
    · subst e
      rw [nxI, List.getElem?_append_right (Nat.le_refl _), Nat.sub_self, List.getElem?_cons_zero, Option.bind_some] at h
      rw [List.findIdx?_eq_some_iff_getElem] at h
      obtain ⟨hi, hb, _⟩ := h
      have : al[i] = 124 := by simpa using hb
      exact absurd (this ▸ List.getElem_mem hi) ha
    · omega
  refine ⟨hlt, ?_⟩
  rw [nxI, List.getElem?_append_left hlt] at h
  exact h

theorem access_more {s : List UInt8} {r : RS} (h : (r.access s).2 = true) (v : List UInt8) : r.access (s ++ v) = r.access s := by
  unfold RS.access at h ⊢
  cases h1 : nxI s r.pl [103, 112] with
  | none => rw [h1] at h; cases h
  | some i =>
    rw [h1] at h
    simp only at h
    cases h2 : nxI s (r.pl + 1) [120, 121, 122] with
    | none => rw [h2] at h; cases h
    | some g => rw [nxI_more h1 v]; simp only; rw [nxI_more h2 v]
theorem access_cut {s v : List UInt8} {r : RS} (hl : r.pl ≤ s.length) (h : (r.access (s ++ 124 :: v)).2 = true) : r.access s = r.access (s ++ 124 :: v) ∧ (r.access (s ++ 124 :: v)).1.pl ≤ s.length := by
  unfold RS.access at h ⊢
  cases h1 : nxI (s ++ 124 :: v) r.pl [103, 112] with
  | none => rw [h1] at h; cases h
  | some i =>
    rw [h1] at h
    simp only at h
    obtain ⟨l1, e1⟩ := nxI_cut h1 (by decide) hl
    cases h2 : nxI (s ++ 124 :: v) (r.pl + 1) [120, 121, 122] with
    | none => rw [h2] at h; cases h
    | some g =>
      obtain ⟨l2, e2⟩ := nxI_cut h2 (by decide) (by omega)
      rw [e1]
      simp only
      rw [e2]
      exact ⟨rfl, by simp [RS.mark, RS.to]; omega⟩

theorem piece_more {s : List UInt8} {r r' : RS} (h : r.piece s = (r', true)) (v : List UInt8) : r.piece (s ++ v) = (r', true) := by
  have h2 : (r.piece s).2 = true := by rw [h]
  rw [← h]
  clear h
  unfold RS.piece at h2 ⊢
  cases hs : s[r.pl]? with
  | none => rw [hs] at h2; cases h2
  | some c =>
    rw [hs] at h2
    rw [List.getElem?_append_left (List.getElem?_eq_some_iff.1 hs).1, hs]
    simp only at h2 ⊢
    split
    · rename_i hc; rw [if_pos hc] at h2; exact access_more h2 v
    · rename_i hc; rw [if_neg hc] at h2
      split
      · rename_i hc; rw [if_pos hc] at h2
        unfold RS.addition at h2 ⊢
        cases h3 : nxI s (r.pl + 1) [48, 49, 50, 51, 52, 53, 54, 55, 56, 57] with
        | none => rw [h3] at h2; cases h2
        | some i => rw [nxI_more h3 v]
      · rename_i hc; rw [if_neg hc] at h2
        split
        · rfl
        · rename_i hc; rw [if_neg hc] at h2
          split
          · rename_i hc; rw [if_pos hc] at h2
            unfold RS.regionBegin at h2 ⊢
            cases h3 : nxI s (r.pl + 1) [65, 66, 67, 68] with
            | none => rw [h3] at h2; cases h2
            | some i => rw [nxI_more h3 v]
          · rename_i hc; rw [if_neg hc] at h2
            split
            · rfl
            · rename_i hc; rw [if_neg hc] at h2
              split
              · rename_i hc; rw [if_pos hc] at h2
                unfold RS.mended at h2 ⊢
                cases h3 : nxI s (r.pl + 1) [65, 66, 67, 68, 69] with
                | none => rw [h3] at h2; cases h2
                | some i =>
                  rw [h3] at h2
                  rw [nxI_more h3 v]
                  simp only at h2 ⊢
                  rcases h4 : (((r.to 2).mark 3 r.pl i).push 2 i).access s with ⟨r3, b⟩
                  rw [h4] at h2
                  cases b with
                  | false => cases h2
                  | true =>
                    rw [access_more (by rw [h4]) v, h4]
                    simp only at h2 ⊢
                    cases h5 : nxI s r3.pl [62] with
                    | none => rw [h5] at h2; cases h2
                    | some j => rw [nxI_more h5 v]
              · rename_i hc; rw [if_neg hc] at h2
                have hbb : ∀ (q : RS) (k : Int), (q.bodyBegin s k).2 = true → q.bodyBegin (s ++ v) k = q.bodyBegin s k := fun q k hq => by
                  unfold RS.bodyBegin at hq ⊢
                  cases h3 : nxI s (q.pl + 1) [123] with
                  | none => rw [h3] at hq; cases hq
                  | some i => rw [nxI_more h3 v]
                split
                · rename_i hc; rw [if_pos hc] at h2; exact hbb r 3 h2
                · rename_i hc; rw [if_neg hc] at h2
                  split
                  · rename_i hc; rw [if_pos hc] at h2; exact hbb r 4 h2
                  · rename_i hc; rw [if_neg hc] at h2
                    split
                    · rename_i hc; rw [if_pos hc] at h2
                      unfold RS.bodyEnd at h2 ⊢
                      split
                      · rename_i hc; rw [if_pos hc] at h2; exact hbb _ 4 h2
                      · rfl
                    · rfl

theorem piece_cut {s v : List UInt8} {r r' : RS} (hl : r.pl < s.length) (h : r.piece (s ++ 124 :: v) = (r', true)) : r.piece s = (r', true) := by
  have h2 : (r.piece (s ++ 124 :: v)).2 = true := by rw [h]
  rw [← h]
  clear h
  unfold RS.piece at h2 ⊢
  rw [List.getElem?_append_left hl, List.getElem?_eq_getElem hl] at h2 ⊢
  simp only at h2 ⊢
  split
  · rename_i hc; rw [if_pos hc] at h2; exact (access_cut (by omega) h2).1
  · rename_i hc; rw [if_neg hc] at h2
    split
    · rename_i hc; rw [if_pos hc] at h2
      unfold RS.addition at h2 ⊢
      cases h3 : nxI (s ++ 124 :: v) (r.pl + 1) [48, 49, 50, 51, 52, 53, 54, 55, 56, 57] with
      | none => rw [h3] at h2; cases h2
      | some i => rw [(nxI_cut h3 (by decide) (by omega)).2]
    · rename_i hc; rw [if_neg hc] at h2
      split
      · rfl
      · rename_i hc; rw [if_neg hc] at h2
        split
        · rename_i hc; rw [if_pos hc] at h2
          unfold RS.regionBegin at h2 ⊢
          cases h3 : nxI (s ++ 124 :: v) (r.pl + 1) [65, 66, 67, 68] with
          | none => rw [h3] at h2; cases h2
          | some i => rw [(nxI_cut h3 (by decide) (by omega)).2]
        · rename_i hc; rw [if_neg hc] at h2
          split
          · rfl
          · rename_i hc; rw [if_neg hc] at h2
            split
            · rename_i hc; rw [if_pos hc] at h2
              unfold RS.mended at h2 ⊢
              cases h3 : nxI (s ++ 124 :: v) (r.pl + 1) [65, 66, 67, 68, 69] with
              | none => rw [h3] at h2; cases h2
              | some i =>
                rw [h3] at h2
                obtain ⟨l3, e3⟩ := nxI_cut h3 (by decide) (by omega)
                rw [e3]
                simp only at h2 ⊢
                rcases h4 : (((r.to 2).mark 3 r.pl i).push 2 i).access (s ++ 124 :: v) with ⟨r3, b⟩
                rw [h4] at h2
                cases b with
                | false => cases h2
                | true =>
                  obtain ⟨e4, l4⟩ := access_cut (s := s) (v := v) (r := ((r.to 2).mark 3 r.pl i).push 2 i) (by simp [RS.push, RS.mark, RS.to]; omega) (by rw [h4])
                  rw [e4, h4]
                  rw [h4] at l4
                  simp only at h2 ⊢
                  cases h5 : nxI (s ++ 124 :: v) r3.pl [62] with
                  | none => rw [h5] at h2; cases h2
                  | some j => rw [(nxI_cut h5 (by decide) l4).2]
            · rename_i hc; rw [if_neg hc] at h2
              have hbb : ∀ (q : RS) (k : Int), q.pl = r.pl → (q.bodyBegin (s ++ 124 :: v) k).2 = true → q.bodyBegin s k = q.bodyBegin (s ++ 124 :: v) k := fun q k hp hq => by
                unfold RS.bodyBegin at hq ⊢
                cases h3 : nxI (s ++ 124 :: v) (q.pl + 1) [123] with
                | none => rw [h3] at hq; cases hq
                | some i => rw [(nxI_cut h3 (by decide) (by omega)).2]
              split
              · rename_i hc; rw [if_pos hc] at h2; exact hbb r 3 rfl h2
              · rename_i hc; rw [if_neg hc] at h2
                split
                · rename_i hc; rw [if_pos hc] at h2; exact hbb r 4 rfl h2
                · rename_i hc; rw [if_neg hc] at h2
                  split
                  · rename_i hc; rw [if_pos hc] at h2
                    unfold RS.bodyEnd at h2 ⊢
                    split
                    · rename_i hc; rw [if_pos hc] at h2; exact hbb _ 4 rfl h2
                    · rfl
                  · rfl

theorem Reach.more {s : List UInt8} {r : RS} (h : Reach s r) (v : List UInt8) : Reach (s ++ v) r := by
  induction h with
  | start => exact .start
  | step _ hl he ih => exact .step ih (by rw [List.length_append]; omega) (piece_more he v)

theorem access_th (p : List UInt8) (r : RS) : (r.access p).1.th = r.th := by
  unfold RS.access
  split
  · rfl
  · split <;> rfl
theorem bodyBegin_th (p : List UInt8) (r : RS) (k : Int) : (r.bodyBegin p k).1.th = r.th := by
  unfold RS.bodyBegin
  split <;> rfl

theorem piece_th {p : List UInt8} {r r' : RS} (h : r.piece p = (r', true)) : (p[r.pl]? = some 124 ∧ r.op = [] ∧ r.th < 4 ∧ r' = ⟨r.pl + 1, r.th + 1, [], r.mks⟩) ∨ (p[r.pl]? ≠ some 124 ∧ r'.th = r.th) := by
  by_cases hc : p[r.pl]? = some 124
  · left
    unfold RS.piece at h
    rw [hc] at h
    simp only at h
    rw [if_neg (by decide), if_neg (by decide), if_neg (by decide), if_neg (by decide), if_neg (by decide), if_neg (by decide), if_neg (by decide), if_neg (by decide), if_neg (by decide), if_pos trivial] at h
    unfold RS.nextThread at h
    split at h
    · cases h
    · rename_i hn
      have ho : r.op = [] := by
        cases he : r.op with
        | nil => rfl
        | cons x y => exact absurd (.inl (by rw [he]; simp)) hn
      have ht : r.th < 4 := by
        by_cases h4 : 4 ≤ r.th
        · exact absurd (.inr h4) hn
        · omega
      refine ⟨hc, ho, ht, ?_⟩
      have := congrArg Prod.fst h
      simp only at this
      rw [← this, ho]
  · refine .inr ⟨hc, ?_⟩
    have h1 : r' = (r.piece p).1 := by rw [h]
    rw [h1]
    clear h h1
    unfold RS.piece
    cases hs : p[r.pl]? with
    | none => rfl
    | some c =>
      have h124 : c ≠ 124 := fun e => hc (by rw [hs, e])
      simp only
      split
      · exact access_th p r
      · split
        · unfold RS.addition; split <;> rfl
        · split
          · rfl
          · split
            · unfold RS.regionBegin; split <;> rfl
            · split
              · unfold RS.regionEnd; split <;> rfl
              · split
                · unfold RS.mended
                  split
                  · rfl
                  · rename_i l _
                    have e := access_th p (((r.to 2).mark 3 r.pl l).push 2 l)
                    split
                    · rename_i r3 h3
                      rw [h3] at e; exact e
                    · rename_i r3 h3
                      rw [h3] at e
                      split <;> exact e
                · split
                  · exact bodyBegin_th p r 3
                  · split
                    · exact bodyBegin_th p r 4
                    · split
                      · unfold RS.bodyEnd
                        split
                        · exact bodyBegin_th p r.pop 4
                        · split <;> rfl
                      · rfl

/-- A text behind a bar. -/
theorem Reach.behind {u s : List UInt8} {r0 r : RS} {t : Int} (h0 : Reach (u ++ s) r0) (e : r0 = RS.start.sh u.length t r0.mks) (h : Reach s r) (h4 : r.th + t ≤ 4) : Reach (u ++ s) (r.sh u.length t r0.mks) := by
  induction h with
  | start => rw [← e]; exact h0
  | @step r r' hr hl he ih =>
    have hth := piece_th he
    have h4' : r.th + t ≤ 4 := by
      rcases hth with ⟨_, _, _, e'⟩ | ⟨_, e'⟩
      · rw [e'] at h4; simp only at h4; omega
      · omega
    refine .step (ih h4') (by rw [sh_pl, List.length_append]; omega) ?_
    rw [piece_sh u s t r0.mks r (fun hb => ?_), he]
    rcases hth with ⟨_, _, h5, e'⟩ | ⟨e', _⟩
    · rw [e'] at h4; simp only at h4; omega
    · exact absurd hb e'

theorem Reach.four {a : List UInt8} {r : RS} (h : Reach a r) : r.th ≤ 4 := by
  induction h with
  | start => decide
  | step _ _ he ih =>
    rcases piece_th he with ⟨_, _, h4, e⟩ | ⟨_, e⟩
    · rw [e]; simp only; omega
    · rw [e]; exact ih

theorem Reach.one {a : List UInt8} {r : RS} (h : Reach a r) (hb : 124 ∉ a) : r.th = 1 := by
  induction h with
  | start => rfl
  | step _ _ he ih =>
    rcases piece_th he with ⟨h1, _⟩ | ⟨_, e⟩
    · exact absurd (List.mem_of_getElem? h1) hb
    · rw [e]; exact ih

theorem cut_reach {a v : List UInt8} {r : RS} (hb : 124 ∉ a) (h : Reach (a ++ 124 :: v) r) :
    (r.pl ≤ a.length → Reach a r) ∧ (a.length < r.pl → ∃ ra rv, Reach a ra ∧ ra.pl = a.length ∧ ra.op = [] ∧ ra.th = 1 ∧ Reach v rv ∧ r = rv.sh (a.length + 1) 1 ra.mks) := by
  induction h with
  | start => exact ⟨fun _ => .start, fun h => by simp [RS.start] at h⟩
  | @step r r' hr hl he ih =>
    have hpr := (piece_bd hr.bd hl).2 (by rw [he])
    rw [he] at hpr
    simp only at hpr
    by_cases h1 : r.pl < a.length
    · have hra := Reach.step (ih.1 (by omega)) h1 (piece_cut h1 he)
      have hb' := hra.bd.pl
      exact ⟨fun _ => hra, fun h => by omega⟩
    · by_cases h2 : r.pl = a.length
      · refine ⟨fun h => by omega, fun _ => ?_⟩
        have hg : (a ++ 124 :: v)[r.pl]? = some 124 := by rw [h2, List.getElem?_append_right (Nat.le_refl _), Nat.sub_self]; rfl
        have hra := ih.1 (by omega)
        rcases piece_th he with ⟨_, ho, _, e⟩ | ⟨e, _⟩
        · have h1t := hra.one hb
          refine ⟨r, RS.start, hra, h2, ho, h1t, .start, ?_⟩
          rw [e]
          simp [RS.sh, RS.start, h2, h1t]
        · exact absurd hg e
      · refine ⟨fun h => by omega, fun _ => ?_⟩
        obtain ⟨ra, rv, g1, g2, g3, g4, g5, e⟩ := ih.2 (by omega)
        have hp : a ++ 124 :: v = (a ++ [124]) ++ v := by simp
        have hul : (a ++ [124]).length = a.length + 1 := by simp
        have hpl : r.pl = a.length + 1 + rv.pl := by rw [e]; rfl
        have hth := piece_th he
        have hgv : (a ++ 124 :: v)[r.pl]? = v[rv.pl]? := by
          rw [hp, List.getElem?_append_right (by omega)]
          congr 1
          omega
        have hpc := piece_sh (a ++ [124]) v 1 ra.mks rv (fun hb => by
          rcases hth with ⟨_, _, h5, _⟩ | ⟨e', _⟩
          · have : r.th = rv.th + 1 := by rw [e]; rfl
            omega
          · rw [hgv] at e'; exact absurd hb e')
        rw [hul, ← hp, ← e, he] at hpc
        have h6 : (rv.piece v).2 = true := (congrArg Prod.snd hpc).symm
        have h7 : r' = (rv.piece v).1.sh (a.length + 1) 1 ra.mks := congrArg Prod.fst hpc
        refine ⟨ra, (rv.piece v).1, g1, g2, g3, g4, .step g5 ?_ (by rw [← h6]), h7⟩
        rw [List.length_append, List.length_cons] at hl
        omega

theorem nest_sh (n : Nat) (t : Int) (l : List MK) : (l.map (MK.sh n t)).find? nestB = none ↔ l.find? nestB = none := by
  rw [List.find?_eq_none, List.find?_eq_none]
  constructor
  · intro h m hm
    have := h (m.sh n t) (List.mem_map_of_mem hm)
    exact this
  · intro h m hm
    obtain ⟨m', h', rfl⟩ := List.mem_map.1 hm
    exact h m' h'

/-- The text with its first thread behind all others is accepted, too. -/
theorem turned_acc {a v : List UInt8} {mks : List MK} (hb : 124 ∉ a) (ha : Acc (a ++ 124 :: v) mks) (hn : mks.find? nestB = none) : ∃ mks', Acc (v ++ 124 :: a) mks' ∧ mks'.find? nestB = none := by
  obtain ⟨r, hr, he | ⟨hl, hf⟩⟩ := reach_end (a ++ 124 :: v)
  · by_cases ho : r.op = []
    · have hm := acc_unique ha (acc_of hr he ho)
      obtain ⟨ra, rv, g1, g2, g3, g4, g5, e⟩ := (cut_reach hb hr).2 (by rw [he]; simp)
      have hvl : rv.pl = v.length := by
        have : r.pl = a.length + 1 + rv.pl := by rw [e]; rfl
        rw [he, List.length_append, List.length_cons] at this
        omega
      have hvo : rv.op = [] := by rw [e] at ho; exact ho
      have hth : rv.th + 1 ≤ 4 := by
        have h1 := hr.four
        have h2 : r.th = rv.th + 1 := by rw [e]; rfl
        omega
      have hmk : mks = ra.mks ++ rv.mks.map (MK.sh (a.length + 1) 1) := by rw [hm, e]; rfl
      rw [hmk, List.find?_append] at hn
      have n1 : ra.mks.find? nestB = none := by
        cases h : ra.mks.find? nestB with
        | none => rfl
        | some x => rw [h] at hn; cases hn
      rw [n1, Option.none_or, nest_sh] at hn
      -- the other threads first, then the bar
      have hp : v ++ 124 :: a = (v ++ [124]) ++ a := by simp
      have w1 : Reach (v ++ 124 :: a) rv := g5.more _
      have hg : (v ++ 124 :: a)[rv.pl]? = some 124 := by rw [hvl, List.getElem?_append_right (Nat.le_refl _), Nat.sub_self]; rfl
      have w2 : Reach (v ++ 124 :: a) ⟨rv.pl + 1, rv.th + 1, [], rv.mks⟩ := by
        refine .step w1 (by rw [hvl]; simp) ?_
        unfold RS.piece
        rw [hg]
        simp only
        rw [if_neg (by decide), if_neg (by decide), if_neg (by decide), if_neg (by decide), if_neg (by decide), if_neg (by decide), if_neg (by decide), if_neg (by decide), if_neg (by decide), if_pos trivial]
        unfold RS.nextThread
        rw [if_neg (by rw [hvo]; simp; omega), hvo]
      rw [hp] at w2
      have w3 := Reach.behind (r := ra) (t := rv.th) w2 (by simp [RS.sh, RS.start, hvl]; omega) g1 (by rw [g4]; omega)
      rw [← hp] at w3
      refine ⟨_, acc_of w3 ?_ g3, ?_⟩
      · rw [sh_pl, g2]; simp; omega
      · show (rv.mks ++ ra.mks.map (MK.sh _ _)).find? nestB = none
        rw [List.find?_append, hn, Option.none_or, nest_sh]; exact n1
    · exact (fail_not_acc (fail_end hr he ho) ha).elim
  · exact (fail_not_acc (fail_piece hr hl hf) ha).elim

end Go.Proofs.Ytdgkpkdinfklaaa
