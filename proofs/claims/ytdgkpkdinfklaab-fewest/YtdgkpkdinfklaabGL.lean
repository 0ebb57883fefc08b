import Derived.Test.YtdgkpkdinfklaabGK
import Derived.Test.YtdgkpkdinfklaabGI
import Derived.Laws.ResultCell
namespace Go.Proofs.Ytdgkpkdinfklaab
open Go.RowKit
theorem row_ne {w : World} {B e size n k ty : Nat} {v : Value} {xs l : List Value} (h : w.ownsRow B e size v n xs) (hk : Blk w k l ty) (hne : e ≠ ty) : v.ownBlock ≠ some k := by
 intro e'
 rcases h.2 with ⟨rfl, _⟩ | ⟨g, cap, cur, rfl, _, hh, _⟩
 ·cases e'
 ·have : g = k := by simpa [Value.ownBlock] using e'
  subst this
  have hk' : w.heap[g]? = some (.cells l.toArray ty) := hk
  rw [hh] at hk'
  simp at hk'
  exact hne hk'.2
end Go.Proofs.Ytdgkpkdinfklaab
