import Derived.Test.YtnpkambjlfkhgaaRdMark
namespace Go.Proofs.Ytnpkambjlfkhgaa
open Go.RowKit

theorem stsV_get (l : List ST) (i : Nat) (m : ST) (h : l[i]? = some m) (j : Nat) (hj : j < 12) : (stsV l)[i * 12 + j]? = (stV m)[j]? := by
  induction l generalizing i with
  | nil => simp at h
  | cons y r ih =>
    have e : stsV (y :: r) = stV y ++ stsV r := by simp [stsV]
    have hl : (stV y).length = 12 := rfl
    cases i with
    | zero =>
      simp at h; subst h
      rw [e, List.getElem?_append_left (by omega)]; simp
    | succ i =>
      have := ih i (by simpa using h)
      rw [e, List.getElem?_append_right (by omega), ← this]
      congr 1
      omega

theorem stsV_set (l : List ST) (i : Nat) (m m' : ST) (h : l[i]? = some m) (j : Nat) (v : Value) (hm : (stV m).set j v = stV m') (hj : j < 12) : (stsV l).set (i * 12 + j) v = stsV (l.set i m') := by
  induction l generalizing i with
  | nil => simp at h
  | cons y r ih =>
    have e : ∀ y r, stsV (y :: r) = stV y ++ stsV r := fun y r => by simp [stsV]
    have hl : ∀ y, (stV y).length = 12 := fun _ => rfl
    cases i with
    | zero =>
      simp at h; subst h
      rw [List.set_cons_zero, e, e, List.set_append_left _ _ (by rw [hl]; omega), ← hm]; simp
    | succ i =>
      have := ih i (by simpa using h)
      rw [List.set_cons_succ, e, e, ← this, List.set_append_right _ _ (by rw [hl]; omega), hl]
      congr 2
      omega

theorem RD.stepForm {w b s pl th op mk ao co am cm} (h : RD w b s pl th op mk ao co am cm) (hn : 0 < mk.length) : ∃ g, am = some ⟨g, 0, none⟩ ∧ b < g := by
  obtain ⟨g, cap, hv, hb, _⟩ := h.rm.form hn
  cases hv
  exact ⟨g, rfl, by omega⟩

theorem RD.stepCell {w b s pl th op mk ao co am cm} (h : RD w b s pl th op mk ao co am cm) {g : Nat} (hg : am = some ⟨g, 0, none⟩) (i : Nat) (m : ST) (hx : mk[i]? = some m) (j : Nat) (hj : j < 12) (v : Value) (hv : (stV m)[j]? = some v) :
    w.cell? ⟨g, i * 12 + j, none⟩ = some v ∧ w.frozen? ⟨g, i * 12 + j, none⟩ = false := by
  subst hg
  have hi : i < mk.length := (List.getElem?_eq_some_iff.1 hx).1
  exact ⟨(h.rm.cellAt (i * 12 + j) (by omega)).trans ((stsV_get mk i m hx j hj).trans hv), h.rm.frozenAt _⟩

/-- A store into a step. -/
theorem RD.setStep {w b s pl th op mk ao co g cm} (h : RD w b s pl th op mk ao co (some ⟨g, 0, none⟩) cm) (i : Nat) (m m' : ST) (hx : mk[i]? = some m) (j : Nat) (hj : j < 12) (v : Value) (hm : (stV m).set j v = stV m') :
    RD (w.setCell ⟨g, i * 12 + j, none⟩ v) b s pl th op (mk.set i m') ao co (some ⟨g, 0, none⟩) cm ∧ Below b w (w.setCell ⟨g, i * 12 + j, none⟩ v) ∧ Kp b w (w.setCell ⟨g, i * 12 + j, none⟩ v) := by
  obtain ⟨hb, c0, c1, c2, c3, c4, fz, ro, rm⟩ := h
  obtain ⟨a0, hg⟩ := rm.stored (i * 12 + j) v
  have hge : b + 1 ≤ g := (rm.lt g rfl).1
  have hne : some b ≠ some g := by intro e; cases e; omega
  have K := fun i => hg.cell_far ⟨b, i, none⟩ hb hne
  refine ⟨⟨by simpa [World.setCell] using hb, (K 0).trans c0, (K 1).trans c1, (K 2).trans c2, (K 3).trans c3, ?_, fun i => (hg.frozen_far ⟨b, i, none⟩ hb hne).trans (fz i), ro.kept hg (rows_apart ro rm (by decide)), ?_⟩, (Below.refl b w).setCell (by simp; omega) _, (Kp.refl b w).row rm hg⟩
  · rw [(K 4), c4]; simp
  · rw [stsV_set mk i m m' hx j v hm hj] at a0
    rw [List.length_set]; exact a0

theorem toNat_mem (mk : List ST) (f : Int) (h0 : 0 ≤ f) (hf : f < mk.length) : ∃ (k : Nat) (m : ST), f = k ∧ mk[k]? = some m ∧ k < mk.length := by
  obtain ⟨k, rfl⟩ := Int.eq_ofNat_of_zero_le h0
  have hk : k < mk.length := by omega
  exact ⟨k, mk[k], rfl, List.getElem?_eq_getElem hk, hk⟩

set_option maxHeartbeats 800000 in
set_option maxRecDepth 100000 in
theorem lead_any (b : Nat) (f t : Int) (s : ByteArray) (pl : Nat) (th : Int) (op : List OP) (mk : List ST) (ao co am cm) (w : World) (h : RD w b s pl th op mk ao co am cm) (hm : mk.length ≤ 1000) :
    Calls Try.prog 59 #[.pointer (some ⟨b, 0, none⟩), .int .i64 f, .int .i64 t] w fun e w' => e = .returned (.tuple #[]) ∧ RD w' b s pl th op (leadL mk f t) ao co am cm ∧ Below b w w' ∧ Kp b w w' := by
  have c4 := h.c4
  by_cases h0 : 0 ≤ f
  · by_cases hf : f < mk.length
    · obtain ⟨k, m, rfl, hx, hk⟩ := toNat_mem mk f h0 hf
      obtain ⟨g, rfl, hbg⟩ := h.stepForm (by omega)
      obtain ⟨q, z⟩ := h.stepCell rfl k m hx 5 (by decide) _ rfl
      have R : Hid (RD (w.setCell ⟨g, k * 12 + 5, none⟩ (.int .i64 t)) b s pl th op (leadL mk k t) ao co (some ⟨g, 0, none⟩) cm) := by
        have := (h.setStep k m { m with nx := t } hx 5 (by decide) (.int .i64 t) rfl).1
        have e : leadL mk k t = mk.set k { m with nx := t } := by simp [leadL, hx]
        show RD _ _ _ _ _ _ (leadL mk k t) _ _ _ _
        rw [e]; exact this
      have BE : Hid (Below b w (w.setCell ⟨g, k * 12 + 5, none⟩ (.int .i64 t)) ∧ Kp b w (w.setCell ⟨g, k * 12 + 5, none⟩ (.int .i64 t))) := (h.setStep k m { m with nx := t } hx 5 (by decide) (.int .i64 t) rfl).2
      obtain ⟨n, hnn⟩ : ∃ n, n = mk.length := ⟨_, rfl⟩
      rw [← hnn] at c4 hm hk hf
      clear h hx hnn
      go_enter Try.func59, Try.ntmps59
      go_wp2
      go_end0
      exact ⟨rfl, R.out, BE.out.1, BE.out.2⟩
    · have e : leadL mk f t = mk := by
        unfold leadL; rw [if_pos h0, List.getElem?_eq_none (by omega)]
      rw [e]
      have R : Hid (RD w b s pl th op mk ao co am cm) := h
      obtain ⟨n, hnn⟩ : ∃ n, n = mk.length := ⟨_, rfl⟩
      rw [← hnn] at c4 hm hf
      clear h hnn e
      go_enter Try.func59, Try.ntmps59
      go_wp2
      go_end0
      exact ⟨rfl, R.out, Below.refl _ _, Kp.refl _ _⟩
  · have e : leadL mk f t = mk := by unfold leadL; rw [if_neg h0]
    rw [e]
    have R : Hid (RD w b s pl th op mk ao co am cm) := h
    clear h e
    go_enter Try.func59, Try.ntmps59
    go_wp2
    go_end0
    exact ⟨rfl, R.out, Below.refl _ _, Kp.refl _ _⟩

set_option maxHeartbeats 800000 in
set_option maxRecDepth 100000 in
theorem else_any (b : Nat) (f : Int) (s : ByteArray) (pl : Nat) (th : Int) (op : List OP) (mk : List ST) (ao co am cm) (w : World) (h : RD w b s pl th op mk ao co am cm) (hm : mk.length ≤ 1000) :
    Calls Try.prog 58 #[.pointer (some ⟨b, 0, none⟩), .int .i64 f] w fun e w' => e = .returned (.tuple #[]) ∧ RD w' b s pl th op (elseL mk f mk.length) ao co am cm ∧ Below b w w' ∧ Kp b w w' := by
  have c4 := h.c4
  by_cases h0 : 0 ≤ f
  · by_cases hf : f < mk.length
    · obtain ⟨k, m, rfl, hx, hk⟩ := toNat_mem mk f h0 hf
      obtain ⟨g, rfl, hbg⟩ := h.stepForm (by omega)
      obtain ⟨q, z⟩ := h.stepCell rfl k m hx 6 (by decide) _ rfl
      have R : Hid (RD (w.setCell ⟨g, k * 12 + 6, none⟩ (.int .i64 mk.length)) b s pl th op (elseL mk k mk.length) ao co (some ⟨g, 0, none⟩) cm) := by
        have := (h.setStep k m { m with el := mk.length } hx 6 (by decide) (.int .i64 mk.length) rfl).1
        have e : elseL mk k mk.length = mk.set k { m with el := mk.length } := by simp [elseL, hx]
        show RD _ _ _ _ _ _ (elseL mk k mk.length) _ _ _ _
        rw [e]; exact this
      have BE : Hid (Below b w (w.setCell ⟨g, k * 12 + 6, none⟩ (.int .i64 mk.length)) ∧ Kp b w (w.setCell ⟨g, k * 12 + 6, none⟩ (.int .i64 mk.length))) := (h.setStep k m { m with el := mk.length } hx 6 (by decide) (.int .i64 mk.length) rfl).2
      obtain ⟨L, hL⟩ : ∃ L, L = elseL mk k mk.length := ⟨_, rfl⟩
      rw [← hL] at R ⊢
      obtain ⟨n, hnn⟩ : ∃ n, n = mk.length := ⟨_, rfl⟩
      rw [← hnn] at c4 hm hk hf R BE
      clear h hx hnn hL
      go_enter Try.func58, Try.ntmps58
      go_wp2
      go_region
      all_goals
        go_wp2
        go_end0
        exact ⟨rfl, R.out.drew, BE.out.1.drew, BE.out.2.drew⟩
    · have e : elseL mk f mk.length = mk := by
        unfold elseL; rw [if_pos h0, List.getElem?_eq_none (by omega)]
      rw [e]
      have R : Hid (RD w b s pl th op mk ao co am cm) := h
      obtain ⟨n, hnn⟩ : ∃ n, n = mk.length := ⟨_, rfl⟩
      rw [← hnn] at c4 hm hf
      clear h hnn e
      go_enter Try.func58, Try.ntmps58
      go_wp2
      go_end0
      exact ⟨rfl, R.out, Below.refl _ _, Kp.refl _ _⟩
  · have e : elseL mk f mk.length = mk := by unfold elseL; rw [if_neg h0]
    rw [e]
    have R : Hid (RD w b s pl th op mk ao co am cm) := h
    clear h e
    go_enter Try.func58, Try.ntmps58
    go_wp2
    go_end0
    exact ⟨rfl, R.out, Below.refl _ _, Kp.refl _ _⟩

end Go.Proofs.Ytnpkambjlfkhgaa
