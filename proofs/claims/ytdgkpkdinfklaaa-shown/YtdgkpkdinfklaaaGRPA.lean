import Derived.Test.YtdgkpkdinfklaaaGD
import Derived.Test.YtdgkpkdinfklaaaGI
import Derived.Test.YtdgkpkdinfklaaaGLY
namespace Go.Proofs.Ytdgkpkdinfklaaa
open Go.RowKit
def prs : List UInt8 → List (UInt8 × UInt8)
 | a :: b :: l => (a, b) :: prs l
 | _ => []
def nfE (E : List (UInt8 × UInt8)) (to : List UInt8) : Nat := (E.filter (fun e => !inU to e.2)).length
end Go.Proofs.Ytdgkpkdinfklaaa

namespace Go.Proofs.Ytdgkpkdinfklaaa
open Go.RowKit
def WI (E : List (UInt8 × UInt8)) (a : UInt8) (to : List UInt8) (ag : Bool) : Prop :=
 (∀ x ∈ to, WayE E a x) ∧ to.length + nfE E to ≤ E.length ∧ (ag = false → pas a E to = to)
end Go.Proofs.Ytdgkpkdinfklaaa
