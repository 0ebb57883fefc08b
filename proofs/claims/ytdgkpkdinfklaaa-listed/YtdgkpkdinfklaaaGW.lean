import Derived.Test.YtdgkpkdinfklaaaGG
namespace Go.Proofs.Ytdgkpkdinfklaaa
open Go.RowKit

theorem accsV_get (l : List MK) (i : Nat) (m : MK) (h : l[i]? = some m) (j : Nat) (hj : j < 5) : (accsV l)[i * 5 + j]? = (accV m)[j]? := by
  induction l generalizing i with
  | nil => simp at h
  | cons y r ih =>
    have e : accsV (y :: r) = accV y ++ accsV r := by simp [accsV]
    have hl : (accV y).length = 5 := rfl
    cases i with
    | zero =>
      simp at h; subst h
      rw [e, List.getElem?_append_left (by omega)]; simp
    | succ i =>
      have := ih i (by simpa using h)
      rw [e, List.getElem?_append_right (by omega), ← this]
      congr 1
      omega

theorem accAt {w : World} {B g n cm : Nat} {l : List MK} (h : w.ownsRow B 30 5 (.slice (some ⟨g, 0, none⟩) n cm) n (accsV l)) (hn : n = l.length) (i : Nat) (m : MK) (hx : l[i]? = some m) (j : Nat) (hj : j < 5) (v : Value) (hv : (accV m)[j]? = some v) :
    w.cell? ⟨g, i * 5 + j, none⟩ = some v := by
  have hi : i < l.length := (List.getElem?_eq_some_iff.1 hx).1
  exact (h.cellAt (i * 5 + j) (by omega)).trans ((accsV_get l i m hx j hj).trans hv)

/-- What the owner writes. -/
def bmV (k : Nat) : List Value := [.int .i64 (-1), .int .i64 k, .int .i64 0, .bool false, .string ⟨#[110, 111, 110, 101]⟩]
def bmsV (k c : Nat) : List Value := (List.replicate c (bmV k)).flatten

theorem bmsV_get (k c i j : Nat) (hi : i < c) (hj : j < 5) : (bmsV k c)[i * 5 + j]? = (bmV k)[j]? := by
  induction c generalizing i with
  | zero => omega
  | succ c ih =>
    have e : bmsV k (c + 1) = bmV k ++ bmsV k c := by simp [bmsV, List.replicate_succ]
    have hl : (bmV k).length = 5 := rfl
    cases i with
    | zero => rw [e, List.getElem?_append_left (by omega)]; simp
    | succ i =>
      have := ih i (by omega)
      rw [e, List.getElem?_append_right (by omega), ← this]
      congr 1
      omega

theorem bmsV_length (k c : Nat) : (bmsV k c).length = c * 5 := by
  induction c with
  | zero => simp [bmsV]
  | succ c ih =>
    have e : bmsV k (c + 1) = bmV k ++ bmsV k c := by simp [bmsV, List.replicate_succ]
    rw [e, List.length_append, ih]
    show 5 + c * 5 = _
    omega

theorem row_cap {w : World} {B e s n : Nat} {v : Value} {xs : List Value} (h : w.ownsRow B e s v n xs) : n ≤ maxLen := by
  rcases h.2 with ⟨_, hn⟩ | ⟨g, cap, cur, hv, _, _, h1, h2, _⟩
  · rw [hn]; exact Nat.zero_le _
  · omega

/-- The book with the lists of accesses that came out so far. -/
structure BK (w : World) (bk : Nat) (fs : List (Option Addr × Nat)) (aa : Option Addr) (ca : Nat) : Prop where
  lt : bk < w.heap.size
  c0 : w.cell? ⟨bk, 0, none⟩ = some (.slice none 0 0)
  c1 : w.cell? ⟨bk, 1, none⟩ = some (.slice aa fs.length ca)
  f1 : w.frozen? ⟨bk, 1, none⟩ = false
  row : w.ownsRow (bk + 1) 24 1 (.slice aa fs.length ca) fs.length (fs.map fun f => .slice f.1 f.2 f.2)
  each : ∀ k f, fs[k]? = some f → w.ownsRow (bk + 1) 30 5 (.slice f.1 f.2 f.2) f.2 (bmsV k f.2)

theorem BK.below {w w' : World} {bk : Nat} {fs aa ca} (h : BK w bk fs aa ca) (hb : Below w.heap.size w w') : BK w' bk fs aa ca :=
  ⟨by have := hb.size; have := h.lt; omega, (hb.cell (p := ⟨bk, 0, none⟩) h.lt).trans h.c0, (hb.cell (p := ⟨bk, 1, none⟩) h.lt).trans h.c1, (hb.frozen (p := ⟨bk, 1, none⟩) h.lt).trans h.f1, ownsRow_later h.row hb, fun k f hf => ownsRow_later (h.each k f hf) hb⟩

theorem BK.drewN {w : World} {bk : Nat} {fs aa ca} (h : BK w bk fs aa ca) (n : Nat) : BK (w.drewN n) bk fs aa ca := h.below ⟨rfl, rfl, rfl, Nat.le_refl _, fun _ _ => rfl⟩

end Go.Proofs.Ytdgkpkdinfklaaa

namespace Go.Proofs.Ytdgkpkdinfklaaa
open Go.RowKit

theorem Try.infoAccs : (Try.prog.info? 24).map (fun i => (i.zero, i.size, i.bytes)) = some (some (.slice none 0 0), 1, 24) := by kernel_rfl

/-- The first k elements of a row are written. -/
def Filled (xs : List Value) (N k : Nat) : Prop := ∀ i j, i < k → j < 5 → xs[i * 5 + j]? = (bmV N)[j]?

theorem filled_all {xs : List Value} {N c : Nat} (h : Filled xs N c) (hl : xs.length = c * 5) : xs = bmsV N c := by
  apply List.ext_getElem?
  intro q
  by_cases hq : q < c * 5
  · have e : q = (q / 5) * 5 + q % 5 := by omega
    rw [e, h (q / 5) (q % 5) (by omega) (by omega), bmsV_get N c (q / 5) (q % 5) (by omega) (by omega)]
  · rw [List.getElem?_eq_none (by omega), List.getElem?_eq_none (by rw [bmsV_length]; omega)]

theorem filled_step {xs : List Value} {N k c : Nat} (h : Filled xs N k) (hl : xs.length = c * 5) (hk : k < c) :
    Filled (((((xs.set (k * 5) (.int .i64 (-1))).set (k * 5 + 1) (.int .i64 N)).set (k * 5 + 2) (.int .i64 0)).set (k * 5 + 3) (.bool false)).set (k * 5 + 4) (.string ⟨#[110, 111, 110, 101]⟩)) N (k + 1) := by
  intro i j hi hj
  by_cases e : i = k
  · subst e
    have h6 : j = 0 ∨ j = 1 ∨ j = 2 ∨ j = 3 ∨ j = 4 := by omega
    rcases h6 with rfl | rfl | rfl | rfl | rfl
    all_goals simp [List.getElem?_set, bmV]; omega
  · rw [← h i j (by omega) hj]
    simp only [List.getElem?_set]
    rw [if_neg (by omega), if_neg (by omega), if_neg (by omega), if_neg (by omega), if_neg (by omega)]

/-- Stores into a row of accesses leave the book alone. -/
theorem BK.stored {w w' : World} {bk : Nat} {fs aa ca} (h : BK w bk fs aa ca) {g B : Nat} (hg : w.grownBy w' (some g)) (hB : bk < g) (hrow : ∀ k, (Value.slice aa fs.length ca).ownBlock = some k → k < B) (hfs : ∀ f ∈ fs, ∀ k, (Value.slice f.1 f.2 f.2).ownBlock = some k → k < B) (hgB : B ≤ g) : BK w' bk fs aa ca := by
  refine ⟨by have := hg.size; have := h.lt; omega, ?_, ?_, ?_, ?_, ?_⟩
  · exact (hg.cell_far ⟨bk, 0, none⟩ h.lt (by simp; omega)).trans h.c0
  · exact (hg.cell_far ⟨bk, 1, none⟩ h.lt (by simp; omega)).trans h.c1
  · exact (hg.frozen_far ⟨bk, 1, none⟩ h.lt (by simp; omega)).trans h.f1
  · refine h.row.kept hg ?_
    cases hv : (Value.slice aa fs.length ca).ownBlock with
    | none => exact .inl rfl
    | some q => right; have := hrow q hv; simp; omega
  · intro k f hf
    refine (h.each k f hf).kept hg ?_
    cases hv : (Value.slice f.1 f.2 f.2).ownBlock with
    | none => exact .inl rfl
    | some q => right; have := hfs f (List.mem_of_getElem? hf) q hv; simp; omega

theorem Below.trans_grown {b : Nat} {w w' : World} {g : Nat} (hg : w.grownBy w' (some g)) (hb : b ≤ g) (hs : b ≤ w.heap.size) : Below b w w' :=
  (Below.refl b w).grown hg hs (fun k hk => by cases hk; exact hb)

theorem grown_twice {a b c : World} {g : Nat} (h : a.grownBy b (some g)) (k : b.grownBy c (some g)) : a.grownBy c (some g) :=
  ⟨k.os.trans h.os, k.tape.trans h.tape, k.output.trans h.output, Nat.le_trans h.size k.size, fun i hi hne => (k.block i (by have := h.size; omega) hne).trans (h.block i hi hne)⟩

/-- Five stores into an element of a row. -/
theorem row_stored {w : World} {B g c : Nat} {xs : List Value} (k : Nat) (v0 v1 v2 v3 v4 : Value) (h : w.ownsRow B 30 5 (.slice (some ⟨g, 0, none⟩) c c) c xs) :
    (((((w.setCell ⟨g, k, none⟩ v0).setCell ⟨g, k + 1, none⟩ v1).setCell ⟨g, k + 2, none⟩ v2).setCell ⟨g, k + 3, none⟩ v3).setCell ⟨g, k + 4, none⟩ v4).ownsRow B 30 5 (.slice (some ⟨g, 0, none⟩) c c) c (((((xs.set k v0).set (k + 1) v1).set (k + 2) v2).set (k + 3) v3).set (k + 4) v4) ∧
    w.grownBy (((((w.setCell ⟨g, k, none⟩ v0).setCell ⟨g, k + 1, none⟩ v1).setCell ⟨g, k + 2, none⟩ v2).setCell ⟨g, k + 3, none⟩ v3).setCell ⟨g, k + 4, none⟩ v4) (some g) := by
  obtain ⟨a0, b0⟩ := h.stored k v0
  obtain ⟨a1, b1⟩ := a0.stored (k + 1) v1
  obtain ⟨a2, b2⟩ := a1.stored (k + 2) v2
  obtain ⟨a3, b3⟩ := a2.stored (k + 3) v3
  obtain ⟨a4, b4⟩ := a3.stored (k + 4) v4
  exact ⟨a4, grown_twice (grown_twice (grown_twice (grown_twice b0 b1) b2) b3) b4⟩

/-- A row up to its capacity. -/
theorem row_full {w : World} {B e size g n cap : Nat} {xs : List Value} (h : w.ownsRow B e size (.slice (some ⟨g, 0, none⟩) n cap) n xs) : ∃ ys : List Value, w.ownsRow B e size (.slice (some ⟨g, 0, none⟩) cap cap) cap ys ∧ n ≤ cap := by
  rcases h.2 with ⟨h0, _⟩ | ⟨g', cap', cur, hv, hg, hh, hn, hc, hs, _⟩
  · cases h0
  · cases hv
    exact ⟨cur.toList, ⟨by simpa using hs, .inr ⟨g, cap, cur, rfl, hg, hh, Nat.le_refl _, hc, hs, List.take_of_length_le (by simp [hs])⟩⟩, hn⟩

end Go.Proofs.Ytdgkpkdinfklaaa

namespace Go.Proofs.Ytdgkpkdinfklaaa
open Go.RowKit

theorem BK.added {W w1 : World} {bk : Nat} {fs : List (Option Addr × Nat)} {aa : Option Addr} {ca : Nat} {x : Option Addr} {c g cap : Nat} {o : Obj} (h : BK W bk fs aa ca)
    (hf : W.ownsRow (bk + 1) 30 5 (.slice x c c) c (bmsV fs.length c))
    (hown : w1.ownsRow (bk + 1) 24 1 (.slice (some ⟨g, 0, none⟩) (fs.length + 1) cap) (fs.length + 1) ((fs.map fun f => .slice f.1 f.2 f.2) ++ [.slice x c c]))
    (hgrow : (W.alloc o).grownBy w1 (Value.slice aa fs.length ca).ownBlock) :
    BK (w1.setCell ⟨bk, 1, none⟩ (.slice (some ⟨g, 0, none⟩) (fs.length + 1) cap)) bk (fs ++ [(x, c)]) (some ⟨g, 0, none⟩) cap := by
  have hlt := h.lt
  have hne : some bk ≠ (Value.slice aa fs.length ca).ownBlock := low_ne h.row
  have k0 := (hgrow.cell_far ⟨bk, 0, none⟩ (by simp; omega) hne).trans ((World.cell?_alloc_past _ _ _ hlt).trans h.c0)
  have k1 := (hgrow.cell_far ⟨bk, 1, none⟩ (by simp; omega) hne).trans ((World.cell?_alloc_past _ _ _ hlt).trans h.c1)
  have z1 := (hgrow.frozen_far ⟨bk, 1, none⟩ (by simp; omega) hne).trans ((World.frozen?_alloc_past _ _ _ hlt).trans h.f1)
  have hb1 : bk < w1.heap.size := by have := hgrow.size; simp at this; omega
  have hel : ∀ k f, (fs ++ [(x, c)])[k]? = some f → w1.ownsRow (bk + 1) 30 5 (.slice f.1 f.2 f.2) f.2 (bmsV k f.2) := by
    intro k f hk
    have hW : W.ownsRow (bk + 1) 30 5 (.slice f.1 f.2 f.2) f.2 (bmsV k f.2) := by
      by_cases hkl : k < fs.length
      · rw [List.getElem?_append_left hkl] at hk
        exact h.each k f hk
      · rw [List.getElem?_append_right (by omega)] at hk
        have hk0 : k - fs.length = 0 := by
          have := (List.getElem?_eq_some_iff.1 hk).1
          simp at this; omega
        rw [hk0] at hk
        simp at hk
        subst hk
        have : k = fs.length := by omega
        subst this
        exact hf
    exact (hW.alloc o).kept hgrow (rows_apart hW h.row (by decide))
  clear hgrow hf h
  refine ⟨by simpa [World.setCell] using hb1, by go_simp, ?_, by go_simp, ?_, ?_⟩
  · rw [List.length_append]; exact cell_same k1
  · rw [List.length_append, List.map_append]
    exact ownsRow_setCell_below hown (by simp) _
  · intro k f hk
    exact ownsRow_setCell_below (hel k f hk) (by simp) _

end Go.Proofs.Ytdgkpkdinfklaaa

namespace Go.Proofs.Ytdgkpkdinfklaaa
open Go.RowKit

/-- Two lists of one text: the same. -/
theorem ListIs.both {w w1 w2 w3 : World} {s : ByteArray} {v v' : Value} {a a' : Int} (h : ListIs w w1 s v a) (h' : ListIs w2 w3 s v' a') :
    a = a' ∧ ∃ (l : List MK) (x x' : Option Addr) (n c c' : Nat), n = l.length ∧ n ≤ 1000 ∧ v = .slice x n c ∧ v' = .slice x' n c' ∧ w1.ownsRow w.heap.size 30 5 (.slice x n c) n (accsV l) ∧ w3.ownsRow w2.heap.size 30 5 (.slice x' n c') n (accsV l) := by
  obtain ⟨b, hc, h⟩ := h
  obtain ⟨b', hc', h'⟩ := h'
  obtain ⟨rfl, rfl⟩ := hc.unique hc'
  refine ⟨rfl, ?_⟩
  rcases h with ⟨h0, rfl⟩ | ⟨h0, hz, mks, x, c, hacc, hlen, rfl, hown⟩
  · rcases h' with ⟨_, rfl⟩ | ⟨h1, _⟩
    · exact ⟨[], none, none, 0, 0, 0, rfl, by decide, rfl, rfl, World.ownsRow_nil _ _ _ _, World.ownsRow_nil _ _ _ _⟩
    · exact absurd h1 h0
  · rcases h' with ⟨h1, _⟩ | ⟨_, _, mks', x', c', hacc', _, rfl, hown'⟩
    · exact absurd h0 h1
    · have := acc_unique hacc hacc'
      subst this
      refine ⟨accL mks, x, x', _, c, c', rfl, Nat.le_trans (List.length_filter_le _ _) hlen, rfl, rfl, hown, hown'⟩

end Go.Proofs.Ytdgkpkdinfklaaa
