/-
  No cell of these rows narrows 'for every input' (looked for: loops, veiled, ifaces, maps, wideKeys, modest, calm, conditions, laid).
  DERIVED. THE GIVEN ROWS OF THIS SEAT. 7 by the template 'for every input the law returns true; each argument reads behind the call as it read before'; 0 by the template 'total and deterministic' (their statements: YtdgkpkdinfklaaaGreatTotals.lean).
  GIVEN WITH THE SEED: the statements are not yours to turn. If you find one false, say at which input.
  Laid BY PROGRAM, IN A SANDBOX (cutbox-rows.mjs): the forced cells as the released guide's own fill.sh prints them over the translation 4ead4225dfcfddde… (all of the seat's roots in one cut). By AI agents, Wed Nov 11 2026. No macro, syntax, notation, axiom, sorry.
-/
import Derived.Test.YtdgkpkdinfklaaaGreatChecked
import GoSem.Claim
import GoSem.ClaimJoined
import GoSem.ClaimMapViews
import Derived.JoinedTies
import Derived.KernelRfl
namespace Go.Proofs.YtdgkpkdinfklaaaGreat
/- THE CELL 'sum', in the pinned program and in every row, IS THE sha256 OF THE DUMP (.gsa) THAT YtdgkpkdinfklaaaGreatProg.lean LOADS. Nothing in Lean hashes anything: it is a label: what it is worth is what the hold of that sum in a sandbox is worth. -/
noncomputable def Tryz.pinned : Pinned := { name := "ytdgkpkdinfklaaagreat", sum := "4ead4225dfcfddde07c04a070ae22f7e0dec4ee251af65b5889cf3630da99841", checked := Tryz.checked }
namespace Rows
def none {H : Type} : Left H := { results := [], args := [] }

/-- 'mendlaw.Checks': WHATEVER THE INPUT: true; the input reads as it did. -/
def checksSpec : ChangeSpec := { name := "checks", fn := fun _ => fun
  | [d] => { results := [.lit (.bool true)], args := [d] }
  | _ => none }
def checksRow : OpenClaim := { program := "ytdgkpkdinfklaaagreat", sum := "4ead4225dfcfddde07c04a070ae22f7e0dec4ee251af65b5889cf3630da99841", func := "mend/mendlaw.Checks", spec := "checks", recurses := true, apart := false }
def ChecksSaid : Prop := checksRow.holds Tryz.pinned (OpenSpec.ofChange checksSpec)

/-- ITS FALSE NEIGHBOUR: 'it returns false'. Refute it at one input. -/
def checksWrong : ChangeSpec := { name := "checks", fn := fun _ => fun
  | [d] => { results := [.lit (.bool false)], args := [d] }
  | _ => none }
def ChecksWrongFalsely : Prop := checksRow.holds Tryz.pinned (OpenSpec.ofChange checksWrong)

/-- 'mendlaw.Strips': WHATEVER THE INPUT: true; the input reads as it did. -/
def stripsSpec : ChangeSpec := { name := "strips", fn := fun _ => fun
  | [d] => { results := [.lit (.bool true)], args := [d] }
  | _ => none }
def stripsRow : OpenClaim := { program := "ytdgkpkdinfklaaagreat", sum := "4ead4225dfcfddde07c04a070ae22f7e0dec4ee251af65b5889cf3630da99841", func := "mend/mendlaw.Strips", spec := "strips", recurses := true, apart := false }
def StripsSaid : Prop := stripsRow.holds Tryz.pinned (OpenSpec.ofChange stripsSpec)

/-- ITS FALSE NEIGHBOUR: 'it returns false'. Refute it at one input. -/
def stripsWrong : ChangeSpec := { name := "strips", fn := fun _ => fun
  | [d] => { results := [.lit (.bool false)], args := [d] }
  | _ => none }
def StripsWrongFalsely : Prop := stripsRow.holds Tryz.pinned (OpenSpec.ofChange stripsWrong)

/-- 'mendlaw.Lists': WHATEVER THE INPUT: true; the input reads as it did. -/
def listsSpec : ChangeSpec := { name := "lists", fn := fun _ => fun
  | [d] => { results := [.lit (.bool true)], args := [d] }
  | _ => none }
def listsRow : OpenClaim := { program := "ytdgkpkdinfklaaagreat", sum := "4ead4225dfcfddde07c04a070ae22f7e0dec4ee251af65b5889cf3630da99841", func := "mend/mendlaw.Lists", spec := "lists", recurses := true, apart := false }
def ListsSaid : Prop := listsRow.holds Tryz.pinned (OpenSpec.ofChange listsSpec)

/-- ITS FALSE NEIGHBOUR: 'it returns false'. Refute it at one input. -/
def listsWrong : ChangeSpec := { name := "lists", fn := fun _ => fun
  | [d] => { results := [.lit (.bool false)], args := [d] }
  | _ => none }
def ListsWrongFalsely : Prop := listsRow.holds Tryz.pinned (OpenSpec.ofChange listsWrong)

/-- 'mendlaw.Runs': WHATEVER THE INPUT: true; the input reads as it did. -/
def runsSpec : ChangeSpec := { name := "runs", fn := fun _ => fun
  | [d] => { results := [.lit (.bool true)], args := [d] }
  | _ => none }
def runsRow : OpenClaim := { program := "ytdgkpkdinfklaaagreat", sum := "4ead4225dfcfddde07c04a070ae22f7e0dec4ee251af65b5889cf3630da99841", func := "mend/mendlaw.Runs", spec := "runs", recurses := true, apart := false }
def RunsSaid : Prop := runsRow.holds Tryz.pinned (OpenSpec.ofChange runsSpec)

/-- ITS FALSE NEIGHBOUR: 'it returns false'. Refute it at one input. -/
def runsWrong : ChangeSpec := { name := "runs", fn := fun _ => fun
  | [d] => { results := [.lit (.bool false)], args := [d] }
  | _ => none }
def RunsWrongFalsely : Prop := runsRow.holds Tryz.pinned (OpenSpec.ofChange runsWrong)

/-- 'mendlaw.Opens': WHATEVER THE INPUT: true; the input reads as it did. -/
def opensSpec : ChangeSpec := { name := "opens", fn := fun _ => fun
  | [d] => { results := [.lit (.bool true)], args := [d] }
  | _ => none }
def opensRow : OpenClaim := { program := "ytdgkpkdinfklaaagreat", sum := "4ead4225dfcfddde07c04a070ae22f7e0dec4ee251af65b5889cf3630da99841", func := "mend/mendlaw.Opens", spec := "opens", recurses := true, apart := false }
def OpensSaid : Prop := opensRow.holds Tryz.pinned (OpenSpec.ofChange opensSpec)

/-- ITS FALSE NEIGHBOUR: 'it returns false'. Refute it at one input. -/
def opensWrong : ChangeSpec := { name := "opens", fn := fun _ => fun
  | [d] => { results := [.lit (.bool false)], args := [d] }
  | _ => none }
def OpensWrongFalsely : Prop := opensRow.holds Tryz.pinned (OpenSpec.ofChange opensWrong)

/-- 'mendlaw.Orders': WHATEVER THE INPUT: true; the input reads as it did. -/
def ordersSpec : ChangeSpec := { name := "orders", fn := fun _ => fun
  | [d] => { results := [.lit (.bool true)], args := [d] }
  | _ => none }
def ordersRow : OpenClaim := { program := "ytdgkpkdinfklaaagreat", sum := "4ead4225dfcfddde07c04a070ae22f7e0dec4ee251af65b5889cf3630da99841", func := "mend/mendlaw.Orders", spec := "orders", recurses := true, apart := false }
def OrdersSaid : Prop := ordersRow.holds Tryz.pinned (OpenSpec.ofChange ordersSpec)

/-- ITS FALSE NEIGHBOUR: 'it returns false'. Refute it at one input. -/
def ordersWrong : ChangeSpec := { name := "orders", fn := fun _ => fun
  | [d] => { results := [.lit (.bool false)], args := [d] }
  | _ => none }
def OrdersWrongFalsely : Prop := ordersRow.holds Tryz.pinned (OpenSpec.ofChange ordersWrong)

/-- 'mendlaw.Repairs': WHATEVER THE INPUT: true; the input reads as it did. -/
def repairsSpec : ChangeSpec := { name := "repairs", fn := fun _ => fun
  | [d] => { results := [.lit (.bool true)], args := [d] }
  | _ => none }
def repairsRow : OpenClaim := { program := "ytdgkpkdinfklaaagreat", sum := "4ead4225dfcfddde07c04a070ae22f7e0dec4ee251af65b5889cf3630da99841", func := "mend/mendlaw.Repairs", spec := "repairs", recurses := true, apart := false }
def RepairsSaid : Prop := repairsRow.holds Tryz.pinned (OpenSpec.ofChange repairsSpec)

/-- ITS FALSE NEIGHBOUR: 'it returns false'. Refute it at one input. -/
def repairsWrong : ChangeSpec := { name := "repairs", fn := fun _ => fun
  | [d] => { results := [.lit (.bool false)], args := [d] }
  | _ => none }
def RepairsWrongFalsely : Prop := repairsRow.holds Tryz.pinned (OpenSpec.ofChange repairsWrong)

/- THE SECOND FORM. 'bulk': how many values and letters a reading holds, each counted each time it is reached (what is shared counts as often as it is met; a slice's spare places count too). A statement '..UptoSaid' is the law's where the arguments, and the package variables that the reading takes, are together of bulk at most 1048576: NARROWER than '..Said'. Prove '..Said' where nothing that the law and all that it calls make is longer than what came in: it says more and counts as full. Else prove '..UptoSaid'. A law counts once. -/
mutual
def uptoBulk {H : Type} : DataW H → Nat
  | .lit (.string bytes) => bytes.length + 1
  | .lit _ => 1
  | .nil => 1
  | .ptr d => uptoBulk d + 1
  | .slice elems spare => uptoBulkAll elems + uptoBulkAll spare + 1
  | .agg parts => uptoBulkAll parts + 1
  | .iface _ d => uptoBulk d + 1
  | .map entries => uptoBulkEntries entries + 1
  | .held _ => 1
def uptoBulkAll {H : Type} : List (DataW H) → Nat
  | [] => 0
  | d :: r => uptoBulk d + uptoBulkAll r
def uptoBulkEntries {H : Type} : List (Lit × DataW H) → Nat
  | [] => 0
  | x :: r => uptoBulkEntry x + uptoBulkEntries r
def uptoBulkEntry {H : Type} : Lit × DataW H → Nat
  | (.string bytes, d) => bytes.length + uptoBulk d + 1
  | (_, d) => uptoBulk d + 1
 end
def uptoSmall : (H : Type) → List (DataW H) → Bool := fun _ ds => decide (uptoBulkAll ds ≤ 1048576)
def OpenSpec.upto (s : _root_.Go.ChangeSpec) : _root_.Go.OpenSpec := { _root_.Go.OpenSpec.ofChange s with cond := some uptoSmall }

/-- 'mendlaw.Checks', WHERE WHAT IT READS IS OF BULK AT MOST 1048576: true; the input reads as it did. -/
def checksUptoRow : OpenClaim := { program := "ytdgkpkdinfklaaagreat", sum := "4ead4225dfcfddde07c04a070ae22f7e0dec4ee251af65b5889cf3630da99841", func := "mend/mendlaw.Checks", spec := "checks", recurses := true, apart := false, narrowed := true }
def ChecksUptoSaid : Prop := checksUptoRow.holds Tryz.pinned (OpenSpec.upto checksSpec)

/-- 'mendlaw.Strips', WHERE WHAT IT READS IS OF BULK AT MOST 1048576: true; the input reads as it did. -/
def stripsUptoRow : OpenClaim := { program := "ytdgkpkdinfklaaagreat", sum := "4ead4225dfcfddde07c04a070ae22f7e0dec4ee251af65b5889cf3630da99841", func := "mend/mendlaw.Strips", spec := "strips", recurses := true, apart := false, narrowed := true }
def StripsUptoSaid : Prop := stripsUptoRow.holds Tryz.pinned (OpenSpec.upto stripsSpec)

/-- 'mendlaw.Lists', WHERE WHAT IT READS IS OF BULK AT MOST 1048576: true; the input reads as it did. -/
def listsUptoRow : OpenClaim := { program := "ytdgkpkdinfklaaagreat", sum := "4ead4225dfcfddde07c04a070ae22f7e0dec4ee251af65b5889cf3630da99841", func := "mend/mendlaw.Lists", spec := "lists", recurses := true, apart := false, narrowed := true }
def ListsUptoSaid : Prop := listsUptoRow.holds Tryz.pinned (OpenSpec.upto listsSpec)

/-- 'mendlaw.Runs', WHERE WHAT IT READS IS OF BULK AT MOST 1048576: true; the input reads as it did. -/
def runsUptoRow : OpenClaim := { program := "ytdgkpkdinfklaaagreat", sum := "4ead4225dfcfddde07c04a070ae22f7e0dec4ee251af65b5889cf3630da99841", func := "mend/mendlaw.Runs", spec := "runs", recurses := true, apart := false, narrowed := true }
def RunsUptoSaid : Prop := runsUptoRow.holds Tryz.pinned (OpenSpec.upto runsSpec)

/-- 'mendlaw.Opens', WHERE WHAT IT READS IS OF BULK AT MOST 1048576: true; the input reads as it did. -/
def opensUptoRow : OpenClaim := { program := "ytdgkpkdinfklaaagreat", sum := "4ead4225dfcfddde07c04a070ae22f7e0dec4ee251af65b5889cf3630da99841", func := "mend/mendlaw.Opens", spec := "opens", recurses := true, apart := false, narrowed := true }
def OpensUptoSaid : Prop := opensUptoRow.holds Tryz.pinned (OpenSpec.upto opensSpec)

/-- 'mendlaw.Orders', WHERE WHAT IT READS IS OF BULK AT MOST 1048576: true; the input reads as it did. -/
def ordersUptoRow : OpenClaim := { program := "ytdgkpkdinfklaaagreat", sum := "4ead4225dfcfddde07c04a070ae22f7e0dec4ee251af65b5889cf3630da99841", func := "mend/mendlaw.Orders", spec := "orders", recurses := true, apart := false, narrowed := true }
def OrdersUptoSaid : Prop := ordersUptoRow.holds Tryz.pinned (OpenSpec.upto ordersSpec)

/-- 'mendlaw.Repairs', WHERE WHAT IT READS IS OF BULK AT MOST 1048576: true; the input reads as it did. -/
def repairsUptoRow : OpenClaim := { program := "ytdgkpkdinfklaaagreat", sum := "4ead4225dfcfddde07c04a070ae22f7e0dec4ee251af65b5889cf3630da99841", func := "mend/mendlaw.Repairs", spec := "repairs", recurses := true, apart := false, narrowed := true }
def RepairsUptoSaid : Prop := repairsUptoRow.holds Tryz.pinned (OpenSpec.upto repairsSpec)

end Rows
end Go.Proofs.YtdgkpkdinfklaaaGreat
