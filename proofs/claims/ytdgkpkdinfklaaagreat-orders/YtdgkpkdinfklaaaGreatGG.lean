import Derived.Test.YtdgkpkdinfklaaaGreatGF
namespace Go.Proofs.YtdgkpkdinfklaaaGreat
open Go.RowKit
def hOf (m : MK) : Nat → Bool
 | 0 => m.h0
 | 1 => m.h1
 | 2 => m.h2
 | 3 => m.h3
 | _ => m.h4
theorem ofNat_toNat (k : Nat) (h : k < 5) : ((UInt8.ofNat (65 + k)).toNat : Int) = 65 + (k : Int) := by
 rw [UInt8.toNat_ofNat_of_lt' (by show 65 + k < 256; omega)]; omega
end Go.Proofs.YtdgkpkdinfklaaaGreat

namespace Go.Proofs.YtdgkpkdinfklaaaGreat
open Go.RowKit
theorem ownsRow_later {w w' : World} {B e size n : Nat} {v : Value} {xs : List Value} (h : w.ownsRow B e size v n xs) (hb : Below w.heap.size w w') : w'.ownsRow B e size v n xs := by
 refine ⟨h.1, ?_⟩
 rcases h.2 with h0 | ⟨g, cap, cur, hv, hg, hh, r⟩
 ·exact .inl h0
 ·exact .inr ⟨g, cap, cur, hv, hg, by rw [hb.block g ((Array.getElem?_eq_some_iff.1 hh).1)]; exact hh, r⟩
theorem markAt {w : World} {B : Nat} {g n cm : Nat} {mks : List ST} (h : w.ownsRow B 88 12 (.slice (some ⟨g, 0, none⟩) mks.length cm) mks.length (stsV mks)) (i : Nat) (m : ST) (hx : mks[i]? = some m) (j : Nat) (hj : j < 12) (v : Value) (hv : (stV m)[j]? = some v) (_ : n = n) :
  w.cell? ⟨g, i * 12 + j, none⟩ = some v := by
 have hi : i < mks.length := (List.getElem?_eq_some_iff.1 hx).1
 exact (h.cellAt (i * 12 + j) (by omega)).trans ((stsV_get mks i m hx j hj).trans hv)
end Go.Proofs.YtdgkpkdinfklaaaGreat
