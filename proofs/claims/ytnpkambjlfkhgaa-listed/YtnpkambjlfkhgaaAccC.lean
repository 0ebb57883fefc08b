import Derived.Test.YtnpkambjlfkhgaaAccB
namespace Go.Proofs.Ytnpkambjlfkhgaa
open Go.RowKit

/-- Which of the five locks stand in a text. -/
def sortF (now : List UInt8) (j : Nat) : Bool := inU now (UInt8.ofNat (65 + j))

theorem nm_congr {h h' : Nat → Bool} (k : Nat) (e : ∀ j, j < k → h j = h' j) : nm h k = nm h' k := by
  induction k with
  | zero => rfl
  | succ k ih => rw [nm, nm, ih (fun j hj => e j (by omega)), e k (by omega)]

theorem nm_yes {h : Nat → Bool} {k : Nat} (e : h k = true) : nm h (k + 1) = nm h k ++ [UInt8.ofNat (65 + k)] := by rw [nm, e]; rfl
theorem nm_no {h : Nat → Bool} {k : Nat} (e : h k = false) : nm h (k + 1) = nm h k := by rw [nm, e]; simp

def SortedAt (now : List UInt8) (k : Nat) (o : ByteArray) : Prop := o.data.toList = nm (sortF now) k

end Go.Proofs.Ytnpkambjlfkhgaa
