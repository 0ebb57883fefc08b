import Derived.Test.YtdgkpkdinfklaabGD
import Derived.Test.YtdgkpkdinfklaabGI
import Derived.Test.YtdgkpkdinfklaabGLY
namespace Go.Proofs.Ytdgkpkdinfklaab
open Go.RowKit
def prs : List UInt8 → List (UInt8 × UInt8)
 | a :: b :: l => (a, b) :: prs l
 | _ => []
def nfE (E : List (UInt8 × UInt8)) (to : List UInt8) : Nat := (E.filter (fun e => !inU to e.2)).length
end Go.Proofs.Ytdgkpkdinfklaab

namespace Go.Proofs.Ytdgkpkdinfklaab
open Go.RowKit
def WI (E : List (UInt8 × UInt8)) (a : UInt8) (to : List UInt8) (ag : Bool) : Prop :=
 (∀ x ∈ to, WayE E a x) ∧ to.length + nfE E to ≤ E.length ∧ (ag = false → pas a E to = to)
end Go.Proofs.Ytdgkpkdinfklaab

namespace Go.Proofs.Ytdgkpkdinfklaab
open Go.RowKit
theorem tks_walk {p : List UInt8} {mks : List MK} (ha : Acc p mks) {k : Nat} {c : UInt8} (hlt : (tw p k).i < p.length) (hc : p[(tw p k).i]? = some c) :
  tks (tw p k).now (p.drop (tw p k).i) = (if c = 91 ∨ c = 60 then [(c, (p[(tw p k).i + 1]?).getD 0, (tw p k).now)] else []) ++ tks (tw p (k + 1)).now (p.drop (tw p (k + 1)).i) := by
 obtain ⟨hroom, _⟩ := acc_room ha hlt hc
 obtain ⟨t1, t2, _, _⟩ := tw_at hlt hc
 rw [t1, t2]
 have hd : p.drop (tw p k).i = c :: p.drop ((tw p k).i + 1) := by
  rw [List.drop_eq_getElem_cons hlt]
  rw [List.getElem?_eq_getElem hlt] at hc
  rw [Option.some.inj hc]
 rw [hd]
 by_cases h2 : sizeU c = 2
 ·have hlt2 : (tw p k).i + 1 < p.length := by omega
  have hd2 : p.drop ((tw p k).i + 1) = p[(tw p k).i + 1] :: p.drop ((tw p k).i + 2) := by rw [List.drop_eq_getElem_cons hlt2]
  have hg : p[(tw p k).i + 1]? = some p[(tw p k).i + 1] := List.getElem?_eq_getElem hlt2
  rw [hd2, h2]
  have hcase : (c = 103 ∨ c = 112 ∨ c = 105) ∨ (c = 91 ∨ c = 60) := by
   by_cases h3 : inU [103, 112, 105, 91, 60] c = true
   ·simp [inU] at h3
    rcases h3 with rfl | rfl | rfl | rfl | rfl <;> simp
   ·rw [sizeU, if_neg h3] at h2
    exact absurd h2 (by decide)
  rcases hcase with h3 | h3
  ·have nt : ¬ (c = 91 ∨ c = 60) := by rcases h3 with rfl | rfl | rfl <;> decide
   have ng : ¬ (c = 93 ∨ c = 62) := by rcases h3 with rfl | rfl | rfl <;> decide
   have hh : heldU (tw p k).now p (tw p k).i = (tw p k).now := by
    rw [heldU, hc]; simp only; rw [if_neg nt, if_neg ng]
   rw [hh, tks_two h3, if_neg nt]; rfl
  ·have hh : heldU (tw p k).now p (tw p k).i = (tw p k).now ++ [p[(tw p k).i + 1]] := by
    rw [heldU, hc]; simp only; rw [if_pos h3, hg]; rfl
   rw [hh, tks_take h3, if_pos h3, hg]; rfl
 ·have h1 : sizeU c = 1 := by
   unfold sizeU at h2 ⊢
   split <;> simp_all
  have nt : ¬ (c = 91 ∨ c = 60) := by rintro (rfl | rfl) <;> exact absurd h1 (by decide)
  rw [h1, if_neg nt, List.nil_append]
  by_cases h3 : c = 93 ∨ c = 62
  ·have hh : heldU (tw p k).now p (tw p k).i = (tw p k).now.dropLast := by
    rw [heldU, hc]; simp only; rw [if_neg nt, if_pos h3]
   rw [hh, tks_give h3]
  ·have hh : heldU (tw p k).now p (tw p k).i = (tw p k).now := by
    rw [heldU, hc]; simp only; rw [if_neg nt, if_neg h3]
   rw [hh, tks_skip h1 (fun e => h3 (.inl e)) (fun e => h3 (.inr e))]
end Go.Proofs.Ytdgkpkdinfklaab
