import Derived.Test.YtnpkambjlfkhgaaLawA
namespace Go.Proofs.Ytnpkambjlfkhgaa
open Go.RowKit

/-- The book without a list. -/
structure NoBook (w : World) (bk : Nat) : Prop where
  lt : bk < w.heap.size
  c0 : w.cell? ⟨bk, 0, none⟩ = some (.slice none 0 0)
  c1 : w.cell? ⟨bk, 1, none⟩ = some (.slice none 0 0)

theorem NoBook.below {w w' : World} {bk : Nat} (h : NoBook w bk) (hb : Below w.heap.size w w') : NoBook w' bk :=
  ⟨by have := hb.size; have := h.lt; omega, (hb.cell (p := ⟨bk, 0, none⟩) h.lt).trans h.c0, (hb.cell (p := ⟨bk, 1, none⟩) h.lt).trans h.c1⟩

/-- A script in memory. -/
structure Script (W : World) (b off len : Nat) (K : Nat → Int) (S P : Nat → ByteArray) (L : Nat → Value) : Prop where
  lt : 0 < len → b < W.heap.size
  c0 : ∀ j, j < len → W.cell? ⟨b, off + j * 4, none⟩ = some (.int .i64 (K j))
  c1 : ∀ j, j < len → W.cell? ⟨b, off + j * 4 + 1, none⟩ = some (.string (S j))
  c2 : ∀ j, j < len → W.cell? ⟨b, off + j * 4 + 2, none⟩ = some (.string (P j))
  c3 : ∀ j, j < len → W.cell? ⟨b, off + j * 4 + 3, none⟩ = some (L j)
  s0 : ∀ j, j < len → (S j).size ≤ maxLen
  s1 : ∀ j, j < len → (P j).size ≤ maxLen
  s2 : ∀ j, j < len → ∃ a n c, L j = .slice a n c

end Go.Proofs.Ytnpkambjlfkhgaa
