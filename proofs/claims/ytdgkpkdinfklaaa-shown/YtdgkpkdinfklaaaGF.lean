import Derived.Test.YtdgkpkdinfklaaaGA
import Derived.Test.YtdgkpkdinfklaaaGE
import Derived.Laws.BytesArg
namespace Go.Proofs.Ytdgkpkdinfklaaa
def sb (p : List UInt8) : Nat → Nat × List UInt8
 | 0 => (0, [])
 | n + 1 => match p[(sb p n).1]? with
  | none => sb p n
  | some c => if c = 60 then ((sb p n).1 + 2, (sb p n).2) else if c = 62 then ((sb p n).1 + 1, (sb p n).2) else ((sb p n).1 + 1, (sb p n).2 ++ [c])
end Go.Proofs.Ytdgkpkdinfklaaa

namespace Go.Proofs.Ytdgkpkdinfklaaa
open Go.RowKit
theorem Try.infoByte : (Try.prog.info? 5).map (fun i => (i.zero, i.size, i.bytes)) = some (some (.int .u8 0), 1, 1) := by kernel_rfl
theorem addr_at (g j : Nat) : (⟨g, 0, none⟩ : Addr).add j = ⟨g, j, none⟩ := by unfold Addr.add; split <;> simp_all
def byV (l : List UInt8) : List Value := l.map fun b => .int .u8 (b.toNat : Int)
end Go.Proofs.Ytdgkpkdinfklaaa
