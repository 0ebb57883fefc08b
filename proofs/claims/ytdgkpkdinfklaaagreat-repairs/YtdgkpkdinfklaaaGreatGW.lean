import Derived.Test.YtdgkpkdinfklaaaGreatGG
namespace Go.Proofs.YtdgkpkdinfklaaaGreat
open Go.RowKit

theorem accsV_get (l : List MK) (i : Nat) (m : MK) (h : l[i]? = some m) (j : Nat) (hj : j < 5) : (accsV l)[i * 5 + j]? = (accV m)[j]? := by
  induction l generalizing i with
  | nil => simp at h
  | cons y r ih =>
    have e : accsV (y :: r) = accV y ++ accsV r := by simp [accsV]
    have hl : (accV y).length = 5 := rfl
    cases i with
    | zero =>
      simp at h; subst h
      rw [e, List.getElem?_append_left (by omega)]; simp
    | succ i =>
      have := ih i (by simpa using h)
      rw [e, List.getElem?_append_right (by omega), ← this]
      congr 1
      omega

theorem accAt {w : World} {B g n cm : Nat} {l : List MK} (h : w.ownsRow B 47 5 (.slice (some ⟨g, 0, none⟩) n cm) n (accsV l)) (hn : n = l.length) (i : Nat) (m : MK) (hx : l[i]? = some m) (j : Nat) (hj : j < 5) (v : Value) (hv : (accV m)[j]? = some v) :
    w.cell? ⟨g, i * 5 + j, none⟩ = some v := by
  have hi : i < l.length := (List.getElem?_eq_some_iff.1 hx).1
  exact (h.cellAt (i * 5 + j) (by omega)).trans ((accsV_get l i m hx j hj).trans hv)

end Go.Proofs.YtdgkpkdinfklaaaGreat
