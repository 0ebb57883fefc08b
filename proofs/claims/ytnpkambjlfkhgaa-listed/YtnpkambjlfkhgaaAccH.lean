import Derived.Test.YtnpkambjlfkhgaaAccG
namespace Go.Proofs.Ytnpkambjlfkhgaa
open Go.RowKit

/-- Two lists of one text: the same. -/
theorem ListIs.both {w w1 w2 w3 : World} {s : ByteArray} {v v' : Value} {a a' : Int} (h : ListIs w w1 s v a) (h' : ListIs w2 w3 s v' a') :
    a = a' ∧ ∃ (l : List MK) (x x' : Option Addr) (n c c' : Nat), n = l.length ∧ n ≤ 1000 ∧ v = .slice x n c ∧ v' = .slice x' n c' ∧ w1.ownsRow w.heap.size 30 5 (.slice x n c) n (accsV l) ∧ w3.ownsRow w2.heap.size 30 5 (.slice x' n c') n (accsV l) := by
  obtain ⟨b, hc, h⟩ := h
  obtain ⟨b', hc', h'⟩ := h'
  obtain ⟨rfl, rfl⟩ := hc.unique hc'
  refine ⟨rfl, ?_⟩
  rcases h with ⟨h0, rfl⟩ | ⟨h0, hz, mks, x, c, hacc, hlen, rfl, hown⟩
  · rcases h' with ⟨_, rfl⟩ | ⟨h1, _⟩
    · exact ⟨[], none, none, 0, 0, 0, rfl, by decide, rfl, rfl, World.ownsRow_nil _ _ _ _, World.ownsRow_nil _ _ _ _⟩
    · exact absurd h1 h0
  · rcases h' with ⟨h1, _⟩ | ⟨_, _, mks', x', c', hacc', _, rfl, hown'⟩
    · exact absurd h0 h1
    · have := acc_unique hacc hacc'
      subst this
      refine ⟨accL mks, x, x', _, c, c', rfl, Nat.le_trans (List.length_filter_le _ _) hlen, rfl, rfl, hown, hown'⟩

end Go.Proofs.Ytnpkambjlfkhgaa
