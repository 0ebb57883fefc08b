import Derived.Test.YtdgkpkdinfklaabGD
import Derived.Test.YtdgkpkdinfklaabGI
import Derived.Test.YtdgkpkdinfklaabGLY
namespace Go.Proofs.Ytdgkpkdinfklaab
open Go.RowKit

/-- Edges as pairs. -/
def prs : List UInt8 → List (UInt8 × UInt8)
  | a :: b :: l => (a, b) :: prs l
  | _ => []

def nfE (E : List (UInt8 × UInt8)) (to : List UInt8) : Nat := (E.filter (fun e => !inU to e.2)).length
end Go.Proofs.Ytdgkpkdinfklaab

namespace Go.Proofs.Ytdgkpkdinfklaab
open Go.RowKit

/-- What is gathered so far: all by ways, and room for what may still come. -/
def WI (E : List (UInt8 × UInt8)) (a : UInt8) (to : List UInt8) (ag : Bool) : Prop :=
  (∀ x ∈ to, WayE E a x) ∧ to.length + nfE E to ≤ E.length ∧ (ag = false → pas a E to = to)
end Go.Proofs.Ytdgkpkdinfklaab
