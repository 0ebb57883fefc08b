import Derived.Test.YtnpkambjlfkhgaaAccE
namespace Go.Proofs.Ytnpkambjlfkhgaa
open Go.RowKit

theorem Try.infoAccs : (Try.prog.info? 24).map (fun i => (i.zero, i.size, i.bytes)) = some (some (.slice none 0 0), 1, 24) := by kernel_rfl

/-- The first k elements of a row are written. -/
def Filled (xs : List Value) (N k : Nat) : Prop := ∀ i j, i < k → j < 5 → xs[i * 5 + j]? = (bmV N)[j]?

theorem filled_all {xs : List Value} {N c : Nat} (h : Filled xs N c) (hl : xs.length = c * 5) : xs = bmsV N c := by
  apply List.ext_getElem?
  intro q
  by_cases hq : q < c * 5
  · have e : q = (q / 5) * 5 + q % 5 := by omega
    rw [e, h (q / 5) (q % 5) (by omega) (by omega), bmsV_get N c (q / 5) (q % 5) (by omega) (by omega)]
  · rw [List.getElem?_eq_none (by omega), List.getElem?_eq_none (by rw [bmsV_length]; omega)]

theorem filled_step {xs : List Value} {N k c : Nat} (h : Filled xs N k) (hl : xs.length = c * 5) (hk : k < c) :
    Filled (((((xs.set (k * 5) (.int .i64 (-1))).set (k * 5 + 1) (.int .i64 N)).set (k * 5 + 2) (.int .i64 0)).set (k * 5 + 3) (.bool false)).set (k * 5 + 4) (.string ⟨#[110, 111, 110, 101]⟩)) N (k + 1) := by
  intro i j hi hj
  by_cases e : i = k
  · subst e
    have h6 : j = 0 ∨ j = 1 ∨ j = 2 ∨ j = 3 ∨ j = 4 := by omega
    rcases h6 with rfl | rfl | rfl | rfl | rfl
    all_goals simp [List.getElem?_set, bmV]; omega
  · rw [← h i j (by omega) hj]
    simp only [List.getElem?_set]
    rw [if_neg (by omega), if_neg (by omega), if_neg (by omega), if_neg (by omega), if_neg (by omega)]

/-- Stores into a row of accesses leave the book alone. -/
theorem BK.stored {w w' : World} {bk : Nat} {fs aa ca} (h : BK w bk fs aa ca) {g B : Nat} (hg : w.grownBy w' (some g)) (hB : bk < g) (hrow : ∀ k, (Value.slice aa fs.length ca).ownBlock = some k → k < B) (hfs : ∀ f ∈ fs, ∀ k, (Value.slice f.1 f.2 f.2).ownBlock = some k → k < B) (hgB : B ≤ g) : BK w' bk fs aa ca := by
  refine ⟨by have := hg.size; have := h.lt; omega, ?_, ?_, ?_, ?_, ?_⟩
  · exact (hg.cell_far ⟨bk, 0, none⟩ h.lt (by simp; omega)).trans h.c0
  · exact (hg.cell_far ⟨bk, 1, none⟩ h.lt (by simp; omega)).trans h.c1
  · exact (hg.frozen_far ⟨bk, 1, none⟩ h.lt (by simp; omega)).trans h.f1
  · refine h.row.kept hg ?_
    cases hv : (Value.slice aa fs.length ca).ownBlock with
    | none => exact .inl rfl
    | some q => right; have := hrow q hv; simp; omega
  · intro k f hf
    refine (h.each k f hf).kept hg ?_
    cases hv : (Value.slice f.1 f.2 f.2).ownBlock with
    | none => exact .inl rfl
    | some q => right; have := hfs f (List.mem_of_getElem? hf) q hv; simp; omega

theorem Below.trans_grown {b : Nat} {w w' : World} {g : Nat} (hg : w.grownBy w' (some g)) (hb : b ≤ g) (hs : b ≤ w.heap.size) : Below b w w' :=
  (Below.refl b w).grown hg hs (fun k hk => by cases hk; exact hb)

theorem grown_twice {a b c : World} {g : Nat} (h : a.grownBy b (some g)) (k : b.grownBy c (some g)) : a.grownBy c (some g) :=
  ⟨k.os.trans h.os, k.tape.trans h.tape, k.output.trans h.output, Nat.le_trans h.size k.size, fun i hi hne => (k.block i (by have := h.size; omega) hne).trans (h.block i hi hne)⟩

/-- Five stores into an element of a row. -/
theorem row_stored {w : World} {B g c : Nat} {xs : List Value} (k : Nat) (v0 v1 v2 v3 v4 : Value) (h : w.ownsRow B 30 5 (.slice (some ⟨g, 0, none⟩) c c) c xs) :
    (((((w.setCell ⟨g, k, none⟩ v0).setCell ⟨g, k + 1, none⟩ v1).setCell ⟨g, k + 2, none⟩ v2).setCell ⟨g, k + 3, none⟩ v3).setCell ⟨g, k + 4, none⟩ v4).ownsRow B 30 5 (.slice (some ⟨g, 0, none⟩) c c) c (((((xs.set k v0).set (k + 1) v1).set (k + 2) v2).set (k + 3) v3).set (k + 4) v4) ∧
    w.grownBy (((((w.setCell ⟨g, k, none⟩ v0).setCell ⟨g, k + 1, none⟩ v1).setCell ⟨g, k + 2, none⟩ v2).setCell ⟨g, k + 3, none⟩ v3).setCell ⟨g, k + 4, none⟩ v4) (some g) := by
  obtain ⟨a0, b0⟩ := h.stored k v0
  obtain ⟨a1, b1⟩ := a0.stored (k + 1) v1
  obtain ⟨a2, b2⟩ := a1.stored (k + 2) v2
  obtain ⟨a3, b3⟩ := a2.stored (k + 3) v3
  obtain ⟨a4, b4⟩ := a3.stored (k + 4) v4
  exact ⟨a4, grown_twice (grown_twice (grown_twice (grown_twice b0 b1) b2) b3) b4⟩

/-- A row up to its capacity. -/
theorem row_full {w : World} {B e size g n cap : Nat} {xs : List Value} (h : w.ownsRow B e size (.slice (some ⟨g, 0, none⟩) n cap) n xs) : ∃ ys : List Value, w.ownsRow B e size (.slice (some ⟨g, 0, none⟩) cap cap) cap ys ∧ n ≤ cap := by
  rcases h.2 with ⟨h0, _⟩ | ⟨g', cap', cur, hv, hg, hh, hn, hc, hs, _⟩
  · cases h0
  · cases hv
    exact ⟨cur.toList, ⟨by simpa using hs, .inr ⟨g, cap, cur, rfl, hg, hh, Nat.le_refl _, hc, hs, List.take_of_length_le (by simp [hs])⟩⟩, hn⟩

end Go.Proofs.Ytnpkambjlfkhgaa
