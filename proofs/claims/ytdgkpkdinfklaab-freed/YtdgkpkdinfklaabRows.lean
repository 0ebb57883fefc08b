/-
  No cell of these rows narrows 'for every input' (looked for: loops, veiled, ifaces, maps, wideKeys, modest, calm, conditions, laid).
  DERIVED. THE GIVEN ROWS OF THIS SEAT. 5 by the template 'for every input the law returns true; each argument reads behind the call as it read before'; 0 by the template 'total and deterministic' (their statements: YtdgkpkdinfklaabTotals.lean).
  GIVEN WITH THE SEED: the statements are not yours to turn. If you find one false, say at which input.
  Laid BY PROGRAM, IN A SANDBOX (cutbox-rows.mjs): the forced cells as the released guide's own fill.sh prints them over the translation 844619a20c03713a… (all of the seat's roots in one cut). By AI agents, Wed Nov 11 2026. No macro, syntax, notation, axiom, sorry.
-/
import Derived.Test.YtdgkpkdinfklaabChecked
import GoSem.Claim
import GoSem.ClaimJoined
import GoSem.ClaimMapViews
import Derived.JoinedTies
import Derived.KernelRfl
namespace Go.Proofs.Ytdgkpkdinfklaab
/- THE CELL 'sum', in the pinned program and in every row, IS THE sha256 OF THE DUMP (.gsa) THAT YtdgkpkdinfklaabProg.lean LOADS. Nothing in Lean hashes anything: it is a label: what it is worth is what the hold of that sum in a sandbox is worth. -/
noncomputable def Try.pinned : Pinned := { name := "ytdgkpkdinfklaab", sum := "844619a20c03713ad17f121d26181267a1ee6e118fa8699165df87cc96baabc6", checked := Try.checked }
namespace Rows
def none {H : Type} : Left H := { results := [], args := [] }

/-- 'mendkeep.Safe': WHATEVER THE INPUT: true; the input reads as it did. -/
def safeSpec : ChangeSpec := { name := "safe", fn := fun _ => fun
  | [d1, d2] => { results := [.lit (.bool true)], args := [d1, d2] }
  | _ => none }
def safeRow : OpenClaim := { program := "ytdgkpkdinfklaab", sum := "844619a20c03713ad17f121d26181267a1ee6e118fa8699165df87cc96baabc6", func := "mend/mendkeep.Safe", spec := "safe", recurses := true, apart := false }
def SafeSaid : Prop := safeRow.holds Try.pinned (OpenSpec.ofChange safeSpec)

/-- ITS FALSE NEIGHBOUR: 'it returns false'. Refute it at one input. -/
def safeWrong : ChangeSpec := { name := "safe", fn := fun _ => fun
  | [d1, d2] => { results := [.lit (.bool false)], args := [d1, d2] }
  | _ => none }
def SafeWrongFalsely : Prop := safeRow.holds Try.pinned (OpenSpec.ofChange safeWrong)

/-- 'mendkeep.Kept': WHATEVER THE INPUT: true; the input reads as it did. -/
def keptSpec : ChangeSpec := { name := "kept", fn := fun _ => fun
  | [d1, d2] => { results := [.lit (.bool true)], args := [d1, d2] }
  | _ => none }
def keptRow : OpenClaim := { program := "ytdgkpkdinfklaab", sum := "844619a20c03713ad17f121d26181267a1ee6e118fa8699165df87cc96baabc6", func := "mend/mendkeep.Kept", spec := "kept", recurses := true, apart := false }
def KeptSaid : Prop := keptRow.holds Try.pinned (OpenSpec.ofChange keptSpec)

/-- ITS FALSE NEIGHBOUR: 'it returns false'. Refute it at one input. -/
def keptWrong : ChangeSpec := { name := "kept", fn := fun _ => fun
  | [d1, d2] => { results := [.lit (.bool false)], args := [d1, d2] }
  | _ => none }
def KeptWrongFalsely : Prop := keptRow.holds Try.pinned (OpenSpec.ofChange keptWrong)

/-- 'mendkeep.Freed': WHATEVER THE INPUT: true; the input reads as it did. -/
def freedSpec : ChangeSpec := { name := "freed", fn := fun _ => fun
  | [d1, d2] => { results := [.lit (.bool true)], args := [d1, d2] }
  | _ => none }
def freedRow : OpenClaim := { program := "ytdgkpkdinfklaab", sum := "844619a20c03713ad17f121d26181267a1ee6e118fa8699165df87cc96baabc6", func := "mend/mendkeep.Freed", spec := "freed", recurses := true, apart := false }
def FreedSaid : Prop := freedRow.holds Try.pinned (OpenSpec.ofChange freedSpec)

/-- ITS FALSE NEIGHBOUR: 'it returns false'. Refute it at one input. -/
def freedWrong : ChangeSpec := { name := "freed", fn := fun _ => fun
  | [d1, d2] => { results := [.lit (.bool false)], args := [d1, d2] }
  | _ => none }
def FreedWrongFalsely : Prop := freedRow.holds Try.pinned (OpenSpec.ofChange freedWrong)

/-- 'mendkeep.Fewest': WHATEVER THE INPUT: true; the input reads as it did. -/
def fewestSpec : ChangeSpec := { name := "fewest", fn := fun _ => fun
  | [d1, d2] => { results := [.lit (.bool true)], args := [d1, d2] }
  | _ => none }
def fewestRow : OpenClaim := { program := "ytdgkpkdinfklaab", sum := "844619a20c03713ad17f121d26181267a1ee6e118fa8699165df87cc96baabc6", func := "mend/mendkeep.Fewest", spec := "fewest", recurses := true, apart := false }
def FewestSaid : Prop := fewestRow.holds Try.pinned (OpenSpec.ofChange fewestSpec)

/-- ITS FALSE NEIGHBOUR: 'it returns false'. Refute it at one input. -/
def fewestWrong : ChangeSpec := { name := "fewest", fn := fun _ => fun
  | [d1, d2] => { results := [.lit (.bool false)], args := [d1, d2] }
  | _ => none }
def FewestWrongFalsely : Prop := fewestRow.holds Try.pinned (OpenSpec.ofChange fewestWrong)

/-- 'mendkeep.Held': WHATEVER THE INPUT: true; the input reads as it did. -/
def heldSpec : ChangeSpec := { name := "held", fn := fun _ => fun
  | [d1, d2] => { results := [.lit (.bool true)], args := [d1, d2] }
  | _ => none }
def heldRow : OpenClaim := { program := "ytdgkpkdinfklaab", sum := "844619a20c03713ad17f121d26181267a1ee6e118fa8699165df87cc96baabc6", func := "mend/mendkeep.Held", spec := "held", recurses := true, apart := false }
def HeldSaid : Prop := heldRow.holds Try.pinned (OpenSpec.ofChange heldSpec)

/-- ITS FALSE NEIGHBOUR: 'it returns false'. Refute it at one input. -/
def heldWrong : ChangeSpec := { name := "held", fn := fun _ => fun
  | [d1, d2] => { results := [.lit (.bool false)], args := [d1, d2] }
  | _ => none }
def HeldWrongFalsely : Prop := heldRow.holds Try.pinned (OpenSpec.ofChange heldWrong)

/- THE SECOND FORM. 'bulk': how many values and letters a reading holds, each counted each time it is reached (what is shared counts as often as it is met; a slice's spare places count too). A statement '..UptoSaid' is the law's where the arguments, and the package variables that the reading takes, are together of bulk at most 1048576: NARROWER than '..Said'. Prove '..Said' where nothing that the law and all that it calls make is longer than what came in: it says more and counts as full. Else prove '..UptoSaid'. A law counts once. -/
mutual
def uptoBulk {H : Type} : DataW H → Nat
  | .lit (.string bytes) => bytes.length + 1
  | .lit _ => 1
  | .nil => 1
  | .ptr d => uptoBulk d + 1
  | .slice elems spare => uptoBulkAll elems + uptoBulkAll spare + 1
  | .agg parts => uptoBulkAll parts + 1
  | .iface _ d => uptoBulk d + 1
  | .map entries => uptoBulkEntries entries + 1
  | .held _ => 1
def uptoBulkAll {H : Type} : List (DataW H) → Nat
  | [] => 0
  | d :: r => uptoBulk d + uptoBulkAll r
def uptoBulkEntries {H : Type} : List (Lit × DataW H) → Nat
  | [] => 0
  | x :: r => uptoBulkEntry x + uptoBulkEntries r
def uptoBulkEntry {H : Type} : Lit × DataW H → Nat
  | (.string bytes, d) => bytes.length + uptoBulk d + 1
  | (_, d) => uptoBulk d + 1
 end
def uptoSmall : (H : Type) → List (DataW H) → Bool := fun _ ds => decide (uptoBulkAll ds ≤ 1048576)
def OpenSpec.upto (s : _root_.Go.ChangeSpec) : _root_.Go.OpenSpec := { _root_.Go.OpenSpec.ofChange s with cond := some uptoSmall }

/-- 'mendkeep.Safe', WHERE WHAT IT READS IS OF BULK AT MOST 1048576: true; the input reads as it did. -/
def safeUptoRow : OpenClaim := { program := "ytdgkpkdinfklaab", sum := "844619a20c03713ad17f121d26181267a1ee6e118fa8699165df87cc96baabc6", func := "mend/mendkeep.Safe", spec := "safe", recurses := true, apart := false, narrowed := true }
def SafeUptoSaid : Prop := safeUptoRow.holds Try.pinned (OpenSpec.upto safeSpec)

/-- 'mendkeep.Kept', WHERE WHAT IT READS IS OF BULK AT MOST 1048576: true; the input reads as it did. -/
def keptUptoRow : OpenClaim := { program := "ytdgkpkdinfklaab", sum := "844619a20c03713ad17f121d26181267a1ee6e118fa8699165df87cc96baabc6", func := "mend/mendkeep.Kept", spec := "kept", recurses := true, apart := false, narrowed := true }
def KeptUptoSaid : Prop := keptUptoRow.holds Try.pinned (OpenSpec.upto keptSpec)

/-- 'mendkeep.Freed', WHERE WHAT IT READS IS OF BULK AT MOST 1048576: true; the input reads as it did. -/
def freedUptoRow : OpenClaim := { program := "ytdgkpkdinfklaab", sum := "844619a20c03713ad17f121d26181267a1ee6e118fa8699165df87cc96baabc6", func := "mend/mendkeep.Freed", spec := "freed", recurses := true, apart := false, narrowed := true }
def FreedUptoSaid : Prop := freedUptoRow.holds Try.pinned (OpenSpec.upto freedSpec)

/-- 'mendkeep.Fewest', WHERE WHAT IT READS IS OF BULK AT MOST 1048576: true; the input reads as it did. -/
def fewestUptoRow : OpenClaim := { program := "ytdgkpkdinfklaab", sum := "844619a20c03713ad17f121d26181267a1ee6e118fa8699165df87cc96baabc6", func := "mend/mendkeep.Fewest", spec := "fewest", recurses := true, apart := false, narrowed := true }
def FewestUptoSaid : Prop := fewestUptoRow.holds Try.pinned (OpenSpec.upto fewestSpec)

/-- 'mendkeep.Held', WHERE WHAT IT READS IS OF BULK AT MOST 1048576: true; the input reads as it did. -/
def heldUptoRow : OpenClaim := { program := "ytdgkpkdinfklaab", sum := "844619a20c03713ad17f121d26181267a1ee6e118fa8699165df87cc96baabc6", func := "mend/mendkeep.Held", spec := "held", recurses := true, apart := false, narrowed := true }
def HeldUptoSaid : Prop := heldUptoRow.holds Try.pinned (OpenSpec.upto heldSpec)

end Rows
end Go.Proofs.Ytdgkpkdinfklaab
