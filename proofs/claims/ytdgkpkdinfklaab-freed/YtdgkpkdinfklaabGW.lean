import Derived.Test.YtdgkpkdinfklaabGG
namespace Go.Proofs.Ytdgkpkdinfklaab
open Go.RowKit
def bmV (k : Nat) : List Value := [.int .i64 (-1), .int .i64 k, .int .i64 0, .bool false, .string ⟨#[110, 111, 110, 101]⟩]
def bmsV (k c : Nat) : List Value := (List.replicate c (bmV k)).flatten
end Go.Proofs.Ytdgkpkdinfklaab
