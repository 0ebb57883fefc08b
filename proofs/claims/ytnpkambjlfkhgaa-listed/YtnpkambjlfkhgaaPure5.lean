import Derived.Test.YtnpkambjlfkhgaaPure4
namespace Go.Proofs.Ytnpkambjlfkhgaa

def nestB (m : MK) : Bool := m.kind == 3 && ((m.num == 0 && m.h0) || (m.num == 1 && m.h1) || (m.num == 2 && m.h2) || (m.num == 3 && m.h3) || (m.num == 4 && m.h4))

def MkOk (m : MK) : Prop := (m.kind = 3 ∧ 0 ≤ m.num ∧ m.num < 5) ∨ ((m.kind = 1 ∨ m.kind = 2) ∧ 0 ≤ m.num ∧ m.num < 3)
def MksOk (l : List MK) : Prop := ∀ m ∈ l, MkOk m

theorem MksOk.mark {r : RS} {kind start num : Int} (h : MksOk r.mks) (h3 : (kind = 3 ∧ 0 ≤ num ∧ num < 5) ∨ ((kind = 1 ∨ kind = 2) ∧ 0 ≤ num ∧ num < 3)) : MksOk (r.mark kind start num).mks := by
  intro m hm
  rcases List.mem_append.1 hm with hm | hm
  · exact h m hm
  · rw [List.mem_singleton] at hm; subst hm; exact h3

theorem nxI_bound {p : List UInt8} {q i : Nat} {al : List UInt8} (h : nxI p q al = some i) : i < al.length := by
  obtain ⟨c, _, hi⟩ := nxI_char h
  exact (List.getElem?_eq_some_iff.1 hi).1

theorem access_mks {p : List UInt8} {r : RS} (h : MksOk r.mks) : MksOk (r.access p).1.mks := by
  unfold RS.access
  split
  · exact h
  · split
    · exact h
    · have := nxI_bound (by assumption)
      refine MksOk.mark h (.inr ⟨?_, by omega, by simp at this; omega⟩)
      split <;> simp

theorem bodyBegin_mks {p : List UInt8} {r : RS} (k : Int) (h : MksOk r.mks) : MksOk (r.bodyBegin p k).1.mks := by
  unfold RS.bodyBegin
  split <;> exact h

theorem piece_mks {p : List UInt8} {r : RS} (h : MksOk r.mks) : MksOk (r.piece p).1.mks := by
  unfold RS.piece
  split
  · exact h
  split
  · exact access_mks h
  split
  · unfold RS.addition; split <;> exact h
  split
  · exact h
  split
  · unfold RS.regionBegin
    split
    · exact h
    · have := nxI_bound (by assumption)
      exact MksOk.mark h (.inl ⟨rfl, by omega, by simp at this; omega⟩)
  split
  · unfold RS.regionEnd; split <;> exact h
  split
  · unfold RS.mended
    split
    · exact h
    · have := nxI_bound (by assumption)
      rename_i l hx
      have hm : MksOk (((r.to 2).mark 3 r.pl l).push 2 l).mks := MksOk.mark h (.inl ⟨rfl, by omega, by simp at this; omega⟩)
      have ha := access_mks (p := p) hm
      split
      · rename_i r3 hq
        rw [hq] at ha; exact ha
      · rename_i r3 hq
        rw [hq] at ha
        split <;> exact ha
  split
  · exact bodyBegin_mks 3 h
  split
  · exact bodyBegin_mks 4 h
  split
  · unfold RS.bodyEnd
    split
    · exact bodyBegin_mks 4 h
    · split <;> exact h
  split
  · unfold RS.nextThread; split <;> exact h
  · exact h

theorem Reach.mks {p : List UInt8} {r : RS} (h : Reach p r) : MksOk r.mks := by
  induction h with
  | start => intro m hm; simp [RS.start] at hm
  | step _ _ he ih =>
    have := piece_mks (p := p) ih
    rw [he] at this
    exact this

/-- The text is a program as far as its form goes; these are its marks. -/
structure Acc (p : List UInt8) (mks : List MK) : Prop where
  form : ∃ f, fw p p.length = some f ∧ wholeF f = true
  toks : ∃ k now th, tw p k = ⟨p.length, now, th, mks⟩
  marks : MksOk mks

theorem whole_enc (r : RS) (_h : KindsOk r.op) : wholeF (encR r) = decide (r.op = []) := by
  cases hop : r.op with
  | nil => simp [encR, encT, wholeF, hop, encS]
  | cons x o =>
    simp only [encR, encT, wholeF, hop, encS]
    rw [show decide (x :: o = []) = false by simp]
    split
    · rfl
    · split <;> rfl

theorem acc_of {p : List UInt8} {r : RS} (h : Reach p r) (he : r.pl = p.length) (ho : r.op = []) : Acc p r.mks := by
  obtain ⟨hk, _, _, hf, k, ht⟩ := h.sim
  refine ⟨⟨encR r, by rw [← he]; exact hf, by rw [whole_enc r hk, ho]; rfl⟩, ⟨k, _, _, by rw [ht, he]⟩, h.mks⟩

theorem fail_end {p : List UInt8} {r : RS} (h : Reach p r) (he : r.pl = p.length) (ho : r.op ≠ []) : Fail p r.pl := by
  obtain ⟨hk, _, _, hf, k, ht⟩ := h.sim
  right
  exact ⟨he, encR r, hf, by rw [whole_enc r hk]; simpa using ho⟩

theorem fail_piece {p : List UInt8} {r : RS} (h : Reach p r) (hlt : r.pl < p.length) (hf : (r.piece p).2 = false) : Fail p (r.piece p).1.pl := (piece_sim h.sim hlt).1 hf

theorem fw_prefix {p : List UInt8} {a b : Nat} {f : List UInt8} (h : fw p b = some f) (hab : a ≤ b) : ∃ g, fw p a = some g := by
  induction b generalizing f with
  | zero => exact ⟨f, by rw [show a = 0 by omega]; exact h⟩
  | succ b ih =>
    by_cases e : a = b + 1
    · exact ⟨f, by rw [e]; exact h⟩
    · have h' := h
      rw [fw] at h'
      cases hb : fw p b with
      | none => rw [hb] at h'; cases h'
      | some g => exact ih hb (by omega)

theorem fail_none {p : List UInt8} {q : Nat} {f : List UInt8} {c : UInt8} (hf : fw p q = some f) (hc : p[q]? = some c) (hn : (nxt f c).2 = false) : fw p (q + 1) = none := by
  simp [fw, hf, hc, hn]

theorem fail_le {p : List UInt8} {q : Nat} (h : Fail p q) : q ≤ p.length := by
  rcases h with ⟨_, _, h, _⟩ | ⟨h, _⟩ <;> omega

theorem fail_unique {p : List UInt8} {a b : Nat} (ha : Fail p a) (hb : Fail p b) : a = b := by
  have key : ∀ a b, Fail p a → Fail p b → ¬ a < b := by
    intro a b ha hb hlt
    have hbl := fail_le hb
    rcases ha with ⟨f, c, hl, hf, hc, hn⟩ | ⟨hl, _⟩
    · have h0 := fail_none hf hc hn
      have hbf : ∃ g, fw p b = some g := by
        rcases hb with ⟨g, _, _, hg, _⟩ | ⟨_, g, hg, _⟩ <;> exact ⟨g, hg⟩
      obtain ⟨g, hg⟩ := hbf
      obtain ⟨g', hg'⟩ := fw_prefix hg (show a + 1 ≤ b by omega)
      rw [h0] at hg'; cases hg'
    · omega
  have h1 := key a b ha hb
  have h2 := key b a hb ha
  omega

theorem fail_not_acc {p : List UInt8} {q : Nat} {mks : List MK} (hf : Fail p q) (ha : Acc p mks) : False := by
  obtain ⟨⟨f, hff, hw⟩, _, _⟩ := ha
  rcases hf with ⟨g, c, hl, hg, hc, hn⟩ | ⟨hl, g, hg, hn⟩
  · obtain ⟨g', hg'⟩ := fw_prefix hff (show q + 1 ≤ p.length by omega)
    rw [fail_none hg hc hn] at hg'; cases hg'
  · rw [hl, hff] at hg
    cases hg
    rw [hw] at hn; cases hn

theorem tw_stay {p : List UInt8} {k : Nat} (h : p.length ≤ (tw p k).i) (j : Nat) : tw p (k + j) = tw p k := by
  induction j with
  | zero => rfl
  | succ j ih =>
    rw [← Nat.add_assoc, tw, ih, if_neg (by omega)]

theorem tw_final {p : List UInt8} {k j : Nat} (hk : p.length ≤ (tw p k).i) (hj : p.length ≤ (tw p j).i) : tw p k = tw p j := by
  rcases Nat.le_total k j with h | h
  · obtain ⟨d, rfl⟩ := Nat.exists_eq_add_of_le h
    exact (tw_stay hk d).symm
  · obtain ⟨d, rfl⟩ := Nat.exists_eq_add_of_le h
    exact tw_stay hj d

theorem acc_unique {p : List UInt8} {a b : List MK} (ha : Acc p a) (hb : Acc p b) : a = b := by
  obtain ⟨_, ⟨k, n, t, hk⟩, _⟩ := ha
  obtain ⟨_, ⟨j, n', t', hj⟩, _⟩ := hb
  have := tw_final (p := p) (k := k) (j := j) (by rw [hk]; exact Nat.le_refl _) (by rw [hj]; exact Nat.le_refl _)
  rw [hk, hj] at this
  exact (TS.mk.injEq .. ▸ this).2.2.2

theorem sizeU_pos (c : UInt8) : 1 ≤ sizeU c := by unfold sizeU; split <;> omega

theorem tw_grow (p : List UInt8) (k j : Nat) : (tw p k).i ≤ (tw p (k + j)).i ∧ ∃ l, (tw p (k + j)).mks = (tw p k).mks ++ l := by
  induction j with
  | zero => exact ⟨Nat.le_refl _, [], by simp⟩
  | succ j ih =>
    obtain ⟨h1, l, hl⟩ := ih
    rw [← Nat.add_assoc, tw]
    split
    · rename_i hlt
      unfold tstep
      rw [List.getElem?_eq_getElem hlt]
      simp only
      have := sizeU_pos p[(tw p (k + j)).i]
      refine ⟨by omega, ?_⟩
      split
      · exact ⟨l ++ _, by rw [hl, List.append_assoc]⟩
      · split
        · exact ⟨l ++ _, by rw [hl, List.append_assoc]⟩
        · exact ⟨l, hl⟩
    · exact ⟨h1, l, hl⟩

/-- In a program of the form what belongs together is there whole. -/
theorem acc_room {p : List UInt8} {mks : List MK} (h : Acc p mks) {k : Nat} {c : UInt8} (hlt : (tw p k).i < p.length) (hc : p[(tw p k).i]? = some c) : (tw p k).i + sizeU c ≤ p.length ∧ ∃ l, mks = (tw p (k + 1)).mks ++ l := by
  obtain ⟨_, ⟨j, n, t, hj⟩, _⟩ := h
  have hkj : k < j := by
    rcases Nat.lt_or_ge k j with h | h
    · exact h
    · exfalso
      obtain ⟨d, rfl⟩ := Nat.exists_eq_add_of_le h
      rw [tw_stay (by rw [hj]; exact Nat.le_refl _)] at hlt
      rw [hj] at hlt
      exact absurd hlt (Nat.lt_irrefl _)
  obtain ⟨d, rfl⟩ := Nat.exists_eq_add_of_le (show k + 1 ≤ j by omega)
  obtain ⟨h1, l, hl⟩ := tw_grow p (k + 1) d
  rw [hj] at h1 hl
  refine ⟨?_, l, hl⟩
  have e : (tw p (k + 1)).i = (tw p k).i + sizeU c := by
    rw [tw, if_pos hlt, tstep, hc]
  rw [← e]; exact h1

theorem acc_end {p : List UInt8} {mks : List MK} (h : Acc p mks) {k : Nat} (hge : p.length ≤ (tw p k).i) : (tw p k).mks = mks ∧ (tw p k).i = p.length := by
  obtain ⟨_, ⟨j, n, t, hj⟩, _⟩ := h
  have := tw_final (p := p) (k := k) (j := j) hge (by rw [hj]; exact Nat.le_refl _)
  rw [this, hj]
  exact ⟨rfl, rfl⟩

end Go.Proofs.Ytnpkambjlfkhgaa
