import Derived.Test.YtnpkambjlfkhgaaAccF
namespace Go.Proofs.Ytnpkambjlfkhgaa
open Go.RowKit

theorem BK.added {W w1 : World} {bk : Nat} {fs : List (Option Addr × Nat)} {aa : Option Addr} {ca : Nat} {x : Option Addr} {c g cap : Nat} {o : Obj} (h : BK W bk fs aa ca)
    (hf : W.ownsRow (bk + 1) 30 5 (.slice x c c) c (bmsV fs.length c))
    (hown : w1.ownsRow (bk + 1) 24 1 (.slice (some ⟨g, 0, none⟩) (fs.length + 1) cap) (fs.length + 1) ((fs.map fun f => .slice f.1 f.2 f.2) ++ [.slice x c c]))
    (hgrow : (W.alloc o).grownBy w1 (Value.slice aa fs.length ca).ownBlock) :
    BK (w1.setCell ⟨bk, 1, none⟩ (.slice (some ⟨g, 0, none⟩) (fs.length + 1) cap)) bk (fs ++ [(x, c)]) (some ⟨g, 0, none⟩) cap := by
  have hlt := h.lt
  have hne : some bk ≠ (Value.slice aa fs.length ca).ownBlock := low_ne h.row
  have k0 := (hgrow.cell_far ⟨bk, 0, none⟩ (by simp; omega) hne).trans ((World.cell?_alloc_past _ _ _ hlt).trans h.c0)
  have k1 := (hgrow.cell_far ⟨bk, 1, none⟩ (by simp; omega) hne).trans ((World.cell?_alloc_past _ _ _ hlt).trans h.c1)
  have z1 := (hgrow.frozen_far ⟨bk, 1, none⟩ (by simp; omega) hne).trans ((World.frozen?_alloc_past _ _ _ hlt).trans h.f1)
  have hb1 : bk < w1.heap.size := by have := hgrow.size; simp at this; omega
  have hel : ∀ k f, (fs ++ [(x, c)])[k]? = some f → w1.ownsRow (bk + 1) 30 5 (.slice f.1 f.2 f.2) f.2 (bmsV k f.2) := by
    intro k f hk
    have hW : W.ownsRow (bk + 1) 30 5 (.slice f.1 f.2 f.2) f.2 (bmsV k f.2) := by
      by_cases hkl : k < fs.length
      · rw [List.getElem?_append_left hkl] at hk
        exact h.each k f hk
      · rw [List.getElem?_append_right (by omega)] at hk
        have hk0 : k - fs.length = 0 := by
          have := (List.getElem?_eq_some_iff.1 hk).1
          simp at this; omega
        rw [hk0] at hk
        simp at hk
        subst hk
        have : k = fs.length := by omega
        subst this
        exact hf
    exact (hW.alloc o).kept hgrow (rows_apart hW h.row (by decide))
  clear hgrow hf h
  refine ⟨by simpa [World.setCell] using hb1, by go_simp, ?_, by go_simp, ?_, ?_⟩
  · rw [List.length_append]; exact cell_same k1
  · rw [List.length_append, List.map_append]
    exact ownsRow_setCell_below hown (by simp) _
  · intro k f hk
    exact ownsRow_setCell_below (hel k f hk) (by simp) _

end Go.Proofs.Ytnpkambjlfkhgaa
