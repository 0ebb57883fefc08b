import Derived.Test.YtdgkpkdinfklaaaGreatGD
namespace Go.Proofs.YtdgkpkdinfklaaaGreat
def fr : List UInt8 → List UInt8 → Option (List UInt8)
 | f, [] => some f
 | f, c :: s => if (nxt f c).2 then fr (nxt f c).1 s else none
end Go.Proofs.YtdgkpkdinfklaaaGreat

namespace Go.Proofs.YtdgkpkdinfklaaaGreat
theorem inU_mem {l : List UInt8} {c : UInt8} : inU l c = true ↔ c ∈ l := by simp [inU]
end Go.Proofs.YtdgkpkdinfklaaaGreat
