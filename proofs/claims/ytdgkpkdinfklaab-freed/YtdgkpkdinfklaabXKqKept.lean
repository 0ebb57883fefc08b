import Derived.Test.YtdgkpkdinfklaabGKQ
import Derived.Test.YtdgkpkdinfklaabGMD
import Derived.Deep.RegionHeld
namespace Go.Proofs.Ytdgkpkdinfklaab
open Go.RowKit
theorem ran_more {w w' : World} {p q : ByteArray} {e : Ending} (h : RanOut w p q e w') : ∃ F ts sd sp a3 c3 a4 n4 c4 xr ss, e = .returned (.tuple #[.agg #[.string sd, .string sp, .slice a3 3 c3, .slice a4 n4 c4, .int .i64 xr, .string ss], .bool true]) ∧ Prog p.data.toList F ts ∧
  (sd = ⟨(runU F q.data.toList q.data.toList.length).done.toArray⟩ ∧ sp = ⟨(runU F q.data.toList q.data.toList.length).c.pr.toArray⟩ ∧ xr = (runU F q.data.toList q.data.toList.length).race ∧ ss = ⟨(stuckM F (runU F q.data.toList q.data.toList.length).c.lk (runU F q.data.toList q.data.toList.length).ths).toArray⟩ ∧ n4 = (runU F q.data.toList q.data.toList.length).ths.length) ∧
  w'.ownsRow w.heap.size 3 1 (.slice a3 3 c3) 3 (intsV ((runU F q.data.toList q.data.toList.length).c.gl.map (·.val))) ∧
  w'.ownsRow w.heap.size 3 1 (.slice a4 n4 c4) n4 (intsV ((runU F q.data.toList q.data.toList.length).ths.map (·.reg))) := by
 obtain ⟨F, ts, v, he, _, hp, a3, c3, a4, c4, hv, h1, h2, _⟩ := h
 subst hv
 exact ⟨F, ts, _, _, a3, c3, a4, _, c4, _, _, he, hp, ⟨rfl, rfl, rfl, rfl, rfl⟩, h1, h2⟩
end Go.Proofs.Ytdgkpkdinfklaab
