import Derived.Test.YtdgkpkdinfklaabXKwC
import Derived.Test.YtdgkpkdinfklaabXKwB
import Derived.Test.YtdgkpkdinfklaabGKQ
namespace Go.Proofs.Ytdgkpkdinfklaab
open Go.RowKit
theorem pairs_say {q : ByteArray} {mks : List MK} (hc : ChkIs q 0 0) (ha : Acc q.data.toList mks) {w w' : World} {v : Value} {a : Int} (hp : PairsIs w w' q v a) : a = 0 ∧ ∃ x c, v = .slice x (prL (accL mks) (accL mks).length).length c := by
 obtain ⟨b, hb, hp⟩ := hp
 have ha' := (hb.unique hc).1
 subst ha'
 refine ⟨rfl, ?_⟩
 rcases hp with ⟨h0, _⟩ | ⟨_, _, mks', x, c, hacc, _, hv, _⟩
 ·exact absurd rfl h0
 ·have e := acc_unique hacc ha
  subst e
  exact ⟨x, c, hv⟩
end Go.Proofs.Ytdgkpkdinfklaab
