import Derived.Test.YtdgkpkdinfklaabXKyA
import Derived.Test.YtdgkpkdinfklaabGLY
import Derived.Test.YtdgkpkdinfklaabXKqKept
namespace Go.Proofs.Ytdgkpkdinfklaab
open Go.RowKit

theorem na_skip {c : UInt8} {s : List UInt8} (h1 : ¬ (c = 103 ∨ c = 112)) (h2 : ¬ (c = 105 ∨ c = 91 ∨ c = 60)) : na (c :: s) = na s := by
  cases s with
  | nil => rfl
  | cons v s => rw [na, if_neg h1, if_neg h2]
end Go.Proofs.Ytdgkpkdinfklaab
