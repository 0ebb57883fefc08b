import Derived.Test.YtdgkpkdinfklaabGH
import Derived.Test.YtdgkpkdinfklaabGI
import Derived.Test.YtdgkpkdinfklaabGA
import Derived.Test.YtdgkpkdinfklaabGE
import Derived.Test.YtdgkpkdinfklaabGL
import Derived.Laws.BytesArg
import Derived.Test.YtdgkpkdinfklaabGK
import Derived.Test.YtdgkpkdinfklaabGQ
import Derived.BigRegion
namespace Go.Proofs.Ytdgkpkdinfklaab
open Go.RowKit
structure Two (n : Nat) (d1 p1 d2 p2 : ByteArray) (r1 r2 : Int) : Prop where
 done : ∃ d, d1.data.toList = d2.data.toList ++ d
 pr : ∃ d, p1.data.toList = p2.data.toList ++ d
 race : r1 = r2 ∨ (r2 = 0 ∧ (n : Int) < r1)
 s1 : d1.size ≤ 1000
 s2 : p1.size ≤ 1000
end Go.Proofs.Ytdgkpkdinfklaab
