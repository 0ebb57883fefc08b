import Derived.Test.YtdgkpkdinfklaabGH
namespace Go.Proofs.Ytdgkpkdinfklaab

def cnt (f : List UInt8) : Nat := (f.filter fun e => e == 93 || e == 62).length

end Go.Proofs.Ytdgkpkdinfklaab
