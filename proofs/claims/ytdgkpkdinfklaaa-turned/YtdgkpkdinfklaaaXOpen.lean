import Derived.Test.YtdgkpkdinfklaaaGE
import Derived.ProofKit
import Derived.Lib.SmallJoins
import Derived.ChangeOld
namespace Go.Proofs.Ytdgkpkdinfklaaa
open Go.ChangeShapes Go.WideShapes Go.ChangeAt Go.RowKit Go.Deep Go.Joins

theorem Try.cellsInt : Try.prog.cellsOf 3 = 1 := by kernel_rfl
theorem Try.cellsStr : Try.prog.cellsOf 9 = 1 := by kernel_rfl
theorem Try.cellsInts : Try.prog.cellsOf 22 = 1 := by kernel_rfl

/-- What is known of a script that came in. -/
def IsScript (W : World) (a0 : Option Addr) (len : Nat) : Prop :=
  len = 0 ∨ ∃ b off K S P L, a0 = some ⟨b, off, none⟩ ∧ len ≤ maxLen ∧ Script W b off len K S P L

theorem Try.own : ownKnob Try.prog.godebug = none := by kernel_rfl
theorem Try.laidOut : laidOutB Try.prog = true := by kernel_rfl

end Go.Proofs.Ytdgkpkdinfklaaa
