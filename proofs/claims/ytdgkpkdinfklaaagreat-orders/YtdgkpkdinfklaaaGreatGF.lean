import Derived.Test.YtdgkpkdinfklaaaGreatGE
import Derived.Test.YtdgkpkdinfklaaaGreatGA
import Derived.Laws.BytesArg
namespace Go.Proofs.YtdgkpkdinfklaaaGreat
open Go.RowKit
theorem Tryz.infoByte : (Tryz.prog.info? 5).map (fun i => (i.zero, i.size, i.bytes)) = some (some (.int .u8 0), 1, 1) := by kernel_rfl
theorem addr_at (g j : Nat) : (⟨g, 0, none⟩ : Addr).add j = ⟨g, j, none⟩ := by unfold Addr.add; split <;> simp_all
def byV (l : List UInt8) : List Value := l.map fun b => .int .u8 (b.toNat : Int)
end Go.Proofs.YtdgkpkdinfklaaaGreat
