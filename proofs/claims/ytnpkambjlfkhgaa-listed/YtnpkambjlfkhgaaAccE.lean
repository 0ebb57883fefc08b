import Derived.Test.YtnpkambjlfkhgaaAccD
namespace Go.Proofs.Ytnpkambjlfkhgaa
open Go.RowKit

theorem accsV_get (l : List MK) (i : Nat) (m : MK) (h : l[i]? = some m) (j : Nat) (hj : j < 5) : (accsV l)[i * 5 + j]? = (accV m)[j]? := by
  induction l generalizing i with
  | nil => simp at h
  | cons y r ih =>
    have e : accsV (y :: r) = accV y ++ accsV r := by simp [accsV]
    have hl : (accV y).length = 5 := rfl
    cases i with
    | zero =>
      simp at h; subst h
      rw [e, List.getElem?_append_left (by omega)]; simp
    | succ i =>
      have := ih i (by simpa using h)
      rw [e, List.getElem?_append_right (by omega), ← this]
      congr 1
      omega

theorem accAt {w : World} {B g n cm : Nat} {l : List MK} (h : w.ownsRow B 30 5 (.slice (some ⟨g, 0, none⟩) n cm) n (accsV l)) (hn : n = l.length) (i : Nat) (m : MK) (hx : l[i]? = some m) (j : Nat) (hj : j < 5) (v : Value) (hv : (accV m)[j]? = some v) :
    w.cell? ⟨g, i * 5 + j, none⟩ = some v := by
  have hi : i < l.length := (List.getElem?_eq_some_iff.1 hx).1
  exact (h.cellAt (i * 5 + j) (by omega)).trans ((accsV_get l i m hx j hj).trans hv)

/-- What the owner writes. -/
def bmV (k : Nat) : List Value := [.int .i64 (-1), .int .i64 k, .int .i64 0, .bool false, .string ⟨#[110, 111, 110, 101]⟩]
def bmsV (k c : Nat) : List Value := (List.replicate c (bmV k)).flatten

theorem bmsV_get (k c i j : Nat) (hi : i < c) (hj : j < 5) : (bmsV k c)[i * 5 + j]? = (bmV k)[j]? := by
  induction c generalizing i with
  | zero => omega
  | succ c ih =>
    have e : bmsV k (c + 1) = bmV k ++ bmsV k c := by simp [bmsV, List.replicate_succ]
    have hl : (bmV k).length = 5 := rfl
    cases i with
    | zero => rw [e, List.getElem?_append_left (by omega)]; simp
    | succ i =>
      have := ih i (by omega)
      rw [e, List.getElem?_append_right (by omega), ← this]
      congr 1
      omega

theorem bmsV_length (k c : Nat) : (bmsV k c).length = c * 5 := by
  induction c with
  | zero => simp [bmsV]
  | succ c ih =>
    have e : bmsV k (c + 1) = bmV k ++ bmsV k c := by simp [bmsV, List.replicate_succ]
    rw [e, List.length_append, ih]
    show 5 + c * 5 = _
    omega

theorem row_cap {w : World} {B e s n : Nat} {v : Value} {xs : List Value} (h : w.ownsRow B e s v n xs) : n ≤ maxLen := by
  rcases h.2 with ⟨_, hn⟩ | ⟨g, cap, cur, hv, _, _, h1, h2, _⟩
  · rw [hn]; exact Nat.zero_le _
  · omega

/-- The book with the lists of accesses that came out so far. -/
structure BK (w : World) (bk : Nat) (fs : List (Option Addr × Nat)) (aa : Option Addr) (ca : Nat) : Prop where
  lt : bk < w.heap.size
  c0 : w.cell? ⟨bk, 0, none⟩ = some (.slice none 0 0)
  c1 : w.cell? ⟨bk, 1, none⟩ = some (.slice aa fs.length ca)
  f1 : w.frozen? ⟨bk, 1, none⟩ = false
  row : w.ownsRow (bk + 1) 24 1 (.slice aa fs.length ca) fs.length (fs.map fun f => .slice f.1 f.2 f.2)
  each : ∀ k f, fs[k]? = some f → w.ownsRow (bk + 1) 30 5 (.slice f.1 f.2 f.2) f.2 (bmsV k f.2)

theorem BK.below {w w' : World} {bk : Nat} {fs aa ca} (h : BK w bk fs aa ca) (hb : Below w.heap.size w w') : BK w' bk fs aa ca :=
  ⟨by have := hb.size; have := h.lt; omega, (hb.cell (p := ⟨bk, 0, none⟩) h.lt).trans h.c0, (hb.cell (p := ⟨bk, 1, none⟩) h.lt).trans h.c1, (hb.frozen (p := ⟨bk, 1, none⟩) h.lt).trans h.f1, ownsRow_later h.row hb, fun k f hf => ownsRow_later (h.each k f hf) hb⟩

theorem BK.drewN {w : World} {bk : Nat} {fs aa ca} (h : BK w bk fs aa ca) (n : Nat) : BK (w.drewN n) bk fs aa ca := h.below ⟨rfl, rfl, rfl, Nat.le_refl _, fun _ _ => rfl⟩

end Go.Proofs.Ytnpkambjlfkhgaa
