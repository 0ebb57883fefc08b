import Derived.Test.YtnpkambjlfkhgaaRdLead
import Derived.Test.YtnpkambjlfkhgaaRdNext
namespace Go.Proofs.Ytnpkambjlfkhgaa
open Go.RowKit

theorem RR.c1 {w b s r} (h : RR w b s r) : w.cell? ⟨b, 1, none⟩ = some (.int .i64 r.pl) := by obtain ⟨_, _, _, _, h⟩ := h; exact h.c1
theorem RR.c0 {w b s r} (h : RR w b s r) : w.cell? ⟨b, 0, none⟩ = some (.string s) := by obtain ⟨_, _, _, _, h⟩ := h; exact h.c0
theorem RR.c2 {w b s r} (h : RR w b s r) : w.cell? ⟨b, 2, none⟩ = some (.int .i64 r.th) := by obtain ⟨_, _, _, _, h⟩ := h; exact h.c2
theorem RR.c3 {w b s r} (h : RR w b s r) : ∃ ao co, w.cell? ⟨b, 3, none⟩ = some (.slice ao r.op.length co) := by obtain ⟨ao, co, _, _, h⟩ := h; exact ⟨ao, co, by simpa using h.c3⟩
theorem RR.fz {w b s r} (h : RR w b s r) (i : Nat) : w.frozen? ⟨b, i, none⟩ = false := by obtain ⟨_, _, _, _, h⟩ := h; exact h.fz i
theorem RR.lt {w b s r} (h : RR w b s r) : b < w.heap.size := by obtain ⟨_, _, _, _, h⟩ := h; exact h.hb
theorem RR.drewN {w b s r} (h : RR w b s r) (n : Nat) : RR (w.drewN n) b s r := by obtain ⟨_, _, _, _, h⟩ := h; exact ⟨_, _, _, _, h.drewN n⟩
/-- The place moved on. -/
theorem RR.moved {w b s r} (h : RR w b s r) : RR (w.setCell ⟨b, 1, none⟩ (.int .i64 ((r.pl : Int) + 1))) b s (r.to 1) := by obtain ⟨_, _, _, _, h⟩ := h; exact ⟨_, _, _, _, h.place (r.pl + 1)⟩
theorem moved_below (b : Nat) (w : World) (v : Value) : Below b w (w.setCell ⟨b, 1, none⟩ v) := (Below.refl b w).setCell (by simp) _

theorem nxI_none {s : ByteArray} {pl : Nat} {al : List UInt8} (h : nxI s.data.toList pl al = none) : s.size ≤ pl ∨ ∃ hlt : pl < s.size, al.findIdx? (· == s[pl]) = none := by
  by_cases hlt : pl < s.size
  · right
    refine ⟨hlt, ?_⟩
    have e : s.data.toList[pl]? = some s[pl] := by rw [List.getElem?_eq_getElem (by simpa using hlt)]; rfl
    rw [nxI, e] at h; exact h
  · left; omega

theorem nxI_some {s : ByteArray} {pl i : Nat} {al : List UInt8} (h : nxI s.data.toList pl al = some i) : ∃ hlt : pl < s.size, al.findIdx? (· == s[pl]) = some i := by
  by_cases hlt : pl < s.size
  · refine ⟨hlt, ?_⟩
    have e : s.data.toList[pl]? = some s[pl] := by rw [List.getElem?_eq_getElem (by simpa using hlt)]; rfl
    rw [nxI, e] at h; exact h
  · rw [nxI, List.getElem?_eq_none (by simp; omega)] at h; cases h

theorem nextR_none (b : Nat) (al : List UInt8) (s : ByteArray) (r : RT) (w : World) (h : RR w b s r) (hs : s.size ≤ 240) (ha : al.length ≤ 100) (hp : r.pl ≤ 1000) (hx : nxI s.data.toList r.pl al = none) :
    Calls Try.prog 53 #[.pointer (some ⟨b, 0, none⟩), .string ⟨al.toArray⟩] w fun e w' => e = .returned (.int .i64 (-1)) ∧ RR w' b s r ∧ Below b w w' := by
  have hs' : s.size ≤ maxLen := by unfold maxLen; omega
  have H := h
  obtain ⟨ao, co, am, cm, h⟩ := h
  rcases nxI_none hx with hge | ⟨hlt, hf⟩
  · refine (next_end b _ s _ _ _ _ _ _ _ _ w h hs' hp hge).mono ?_
    rintro e w' ⟨he, n, hw⟩
    rw [hw]
    exact ⟨he, H.drewN n, below_drewN' _ _ _⟩
  · refine (next_in b ⟨al.toArray⟩ s _ _ _ _ _ _ _ _ w h hs' ha hp hlt).mono ?_
    rintro e w' (⟨_, he, n, hw⟩ | ⟨i, hi, _⟩)
    · rw [hw]
      exact ⟨he, H.drewN n, below_drewN' _ _ _⟩
    · simp only [] at hi; rw [hf] at hi; cases hi

theorem nextR_some (b : Nat) (al : List UInt8) (s : ByteArray) (r : RT) (i : Nat) (w : World) (h : RR w b s r) (hs : s.size ≤ 240) (ha : al.length ≤ 100) (hp : r.pl ≤ 1000) (hx : nxI s.data.toList r.pl al = some i) :
    Calls Try.prog 53 #[.pointer (some ⟨b, 0, none⟩), .string ⟨al.toArray⟩] w fun e w' => e = .returned (.int .i64 i) ∧ RR w' b s (r.to 1) ∧ Below b w w' := by
  have hs' : s.size ≤ maxLen := by unfold maxLen; omega
  have H := h
  obtain ⟨ao, co, am, cm, h⟩ := h
  obtain ⟨hlt, hf⟩ := nxI_some hx
  refine (next_in b ⟨al.toArray⟩ s _ _ _ _ _ _ _ _ w h hs' ha hp hlt).mono ?_
  rintro e w' (⟨hi, _⟩ | ⟨i', hi, he, hr, hb⟩)
  · simp only [] at hi; rw [hf] at hi; cases hi
  · simp only [] at hi; rw [hf] at hi; cases hi
    exact ⟨he, ⟨_, _, _, _, hr⟩, hb⟩

theorem stepR (b : Nat) (kind start num tt nn : Int) (mend : Bool) (s : ByteArray) (r : RT) (w : World) (h : RR w b s r) (hn : r.op.length ≤ 1000) (hm : r.st.length ≤ 1000) :
    Calls Try.prog 32 #[.pointer (some ⟨b, 0, none⟩), .agg #[.int .i64 kind, .int .i64 start, .int .i64 tt, .int .i64 num, .bool mend, .int .i64 nn, .int .i64 0, .bool false, .bool false, .bool false, .bool false, .bool false]] w fun e w' => e = .returned (.tuple #[]) ∧ RR w' b s (r.step kind start num mend) ∧ Below b w w' ∧ Kp b w w' := by
  obtain ⟨ao, co, am, cm, h⟩ := h
  refine (step_any b kind start num tt nn 0 mend s _ _ _ _ _ _ _ _ w h (by simpa using hn) hm).mono ?_
  rintro e w' ⟨he, ⟨am', cm', hr⟩, hb⟩
  refine ⟨he, ⟨ao, co, am', cm', ?_⟩, hb⟩
  have e1 : ∀ i, hldT r.op.reverse i = hldT r.op i := fun i => by simp [hldT]
  simp only [e1] at hr
  exact hr

theorem leadR (b : Nat) (f t : Int) (s : ByteArray) (r : RT) (w : World) (h : RR w b s r) (hm : r.st.length ≤ 1000) :
    Calls Try.prog 59 #[.pointer (some ⟨b, 0, none⟩), .int .i64 f, .int .i64 t] w fun e w' => e = .returned (.tuple #[]) ∧ RR w' b s (r.lead f t) ∧ Below b w w' ∧ Kp b w w' := by
  obtain ⟨ao, co, am, cm, h⟩ := h
  refine (lead_any b f t s _ _ _ _ _ _ _ _ w h hm).mono ?_
  rintro e w' ⟨he, hr, hb⟩
  exact ⟨he, ⟨ao, co, am, cm, hr⟩, hb⟩

theorem elseR (b : Nat) (f : Int) (s : ByteArray) (r : RT) (w : World) (h : RR w b s r) (hm : r.st.length ≤ 1000) :
    Calls Try.prog 58 #[.pointer (some ⟨b, 0, none⟩), .int .i64 f] w fun e w' => e = .returned (.tuple #[]) ∧ RR w' b s (r.els f) ∧ Below b w w' ∧ Kp b w w' := by
  obtain ⟨ao, co, am, cm, h⟩ := h
  refine (else_any b f s _ _ _ _ _ _ _ _ w h hm).mono ?_
  rintro e w' ⟨he, hr, hb⟩
  exact ⟨he, ⟨ao, co, am, cm, hr⟩, hb⟩

theorem pushR (b : Nat) (k l f : Int) (s : ByteArray) (r : RT) (w : World) (h : RR w b s r) (hn : r.op.length ≤ 1000) :
    Calls Try.prog 54 #[.pointer (some ⟨b, 0, none⟩), .agg #[.int .i64 k, .int .i64 l, .int .i64 f]] w fun e w' => e = .returned (.tuple #[]) ∧ RR w' b s (r.push k l f) ∧ Below b w w' := by
  obtain ⟨ao, co, am, cm, h⟩ := h
  refine (push_any b k l f s _ _ _ _ _ _ _ _ w h (by simpa using hn)).mono ?_
  rintro e w' ⟨he, ⟨ao', co', hr⟩, hb⟩
  refine ⟨he, ⟨ao', co', am, cm, ?_⟩, hb⟩
  rw [← List.reverse_cons] at hr
  exact hr

theorem popR (b : Nat) (s : ByteArray) (r : RT) (w : World) (h : RR w b s r) (hn : r.op.length ≤ 1000) (h0 : r.op ≠ []) :
    Calls Try.prog 56 #[.pointer (some ⟨b, 0, none⟩)] w fun e w' => e = .returned (.tuple #[]) ∧ RR w' b s r.pop ∧ Below b w w' ∧ Kp b w w' := by
  obtain ⟨pl, th, op, mks⟩ := r
  obtain ⟨ao, co, am, cm, h⟩ := h
  cases op with
  | nil => exact absurd rfl h0
  | cons x o =>
    simp only [List.reverse_cons] at h
    refine (pop_some b s _ _ _ x _ _ _ _ _ w h (by simp at hn ⊢; omega)).mono ?_
    rintro e w' ⟨he, ⟨ao', co', hr⟩, hb⟩
    exact ⟨he, ⟨ao', co', am, cm, hr⟩, hb⟩

theorem RR.above {w b s r} (h : RR w b s r) {w' : World} (hb : Below w.heap.size w w') : RR w' b s r := by
  obtain ⟨ao, co, am, cm, h⟩ := h
  exact ⟨ao, co, am, cm, h.above w' hb⟩

theorem RR.c4 {w b s r} (h : RR w b s r) : ∃ am cm, w.cell? ⟨b, 4, none⟩ = some (.slice am r.st.length cm) := by obtain ⟨_, _, am, cm, h⟩ := h; exact ⟨am, cm, h.c4⟩

theorem topR (b : Nat) (s : ByteArray) (r : RT) (w : World) (h : RR w b s r) (hn : r.op.length ≤ 1000) :
    Calls Try.prog 55 #[.pointer (some ⟨b, 0, none⟩)] w fun e w' => e = .returned (.agg #[.int .i64 r.top.1, .int .i64 r.top.2.1, .int .i64 r.top.2.2]) ∧ RR w' b s r ∧ Below b w w' := by
  have H := h
  have hlt := h.lt
  obtain ⟨pl, th, op, mks⟩ := r
  obtain ⟨ao, co, am, cm, h⟩ := h
  cases op with
  | nil =>
    refine (top_none b s _ _ _ _ _ _ _ w h).mono ?_
    rintro e w' ⟨he, hw⟩
    exact ⟨he, H.above hw, hw.mono (by omega)⟩
  | cons x o =>
    simp only [List.reverse_cons] at h
    refine (top_some b s _ _ _ x _ _ _ _ _ w h (by simp at hn ⊢; omega)).mono ?_
    rintro e w' ⟨he, hw⟩
    exact ⟨he, H.above hw, hw.mono (by omega)⟩

end Go.Proofs.Ytnpkambjlfkhgaa
