import Derived.Test.YtnpkambjlfkhgaaAccC
namespace Go.Proofs.Ytnpkambjlfkhgaa
open Go.RowKit

theorem tw_th (p : List UInt8) (k : Nat) : 1 ≤ (tw p k).th ∧ (tw p k).th ≤ (tw p k).i + 1 := by
  induction k with
  | zero => exact ⟨show (1 : Int) ≤ 1 by decide, show (1 : Int) ≤ ((0 : Nat) : Int) + 1 by decide⟩
  | succ k ih =>
    by_cases hlt : (tw p k).i < p.length
    · obtain ⟨t1, _, t3, _⟩ := tw_at hlt (List.getElem?_eq_getElem hlt)
      have := sizeU_pos p[(tw p k).i]
      rw [t1, t3]
      split <;> omega
    · rw [tw, if_neg hlt]; exact ih

theorem hOf_mkN (kind place th num : Int) (now : List UInt8) : nm (hOf (mkN kind place th num now)) 5 = nm (sortF now) 5 := by
  refine nm_congr 5 fun j hj => ?_
  have h6 : j = 0 ∨ j = 1 ∨ j = 2 ∨ j = 3 ∨ j = 4 := by omega
  rcases h6 with rfl | rfl | rfl | rfl | rfl <;> rfl

theorem heldU_same {now p : List UInt8} {i : Nat} {c : UInt8} (hc : p[i]? = some c) (h : ¬ (c = 91 ∨ c = 60) ∧ ¬ (c = 93 ∨ c = 62)) : heldU now p i = now := by
  simp [heldU, hc, h.1, h.2]

/-- The rows of a list while it is made. -/
structure Listing (s : ByteArray) (w wr : World) (v : Value) (k j : Nat) (now : ByteArray) : Prop where
  at_ : (tw s.data.toList j).i = k
  nw : (tw s.data.toList j).now = now.data.toList
  small : now.size ≤ k
  le : k ≤ s.size
  row : wr.ownsRow w.heap.size 30 5 v (accL (tw s.data.toList j).mks).length (accsV (accL (tw s.data.toList j).mks))
  below : Below w.heap.size w wr

end Go.Proofs.Ytnpkambjlfkhgaa
