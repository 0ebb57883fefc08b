/-
  No cell of these rows narrows 'for every input' (looked for: loops, veiled, ifaces, maps, wideKeys, modest, calm, conditions, laid).
  DERIVED. THE GIVEN ROWS OF THIS SEAT. 5 by the template 'for every input the law returns true; each argument reads behind the call as it read before'; 0 by the template 'total and deterministic' (their statements: YtdgkpkdinfklaaaTotals.lean).
  GIVEN WITH THE SEED: the statements are not yours to turn. If you find one false, say at which input.
  Laid BY PROGRAM, IN A SANDBOX (cutbox-rows.mjs): the forced cells as the released guide's own fill.sh prints them over the translation c784f06303c060d6… (all of the seat's roots in one cut). By AI agents, Wed Nov 11 2026. No macro, syntax, notation, axiom, sorry.
-/
import Derived.Test.YtdgkpkdinfklaaaChecked
import GoSem.Claim
import GoSem.ClaimJoined
import GoSem.ClaimMapViews
import Derived.JoinedTies
import Derived.KernelRfl
namespace Go.Proofs.Ytdgkpkdinfklaaa
/- THE CELL 'sum', in the pinned program and in every row, IS THE sha256 OF THE DUMP (.gsa) THAT YtdgkpkdinfklaaaProg.lean LOADS. Nothing in Lean hashes anything: it is a label: what it is worth is what the hold of that sum in a sandbox is worth. -/
noncomputable def Try.pinned : Pinned := { name := "ytdgkpkdinfklaaa", sum := "c784f06303c060d625239d404f5e2825ea61a98ed4516847d4312ef8160984c3", checked := Try.checked }
namespace Rows
def none {H : Type} : Left H := { results := [], args := [] }

/-- 'mendkeep.Listed': WHATEVER THE INPUT: true; the input reads as it did. -/
def listedSpec : ChangeSpec := { name := "listed", fn := fun _ => fun
  | [d] => { results := [.lit (.bool true)], args := [d] }
  | _ => none }
def listedRow : OpenClaim := { program := "ytdgkpkdinfklaaa", sum := "c784f06303c060d625239d404f5e2825ea61a98ed4516847d4312ef8160984c3", func := "mend/mendkeep.Listed", spec := "listed", apart := false }
def ListedSaid : Prop := listedRow.holds Try.pinned (OpenSpec.ofChange listedSpec)

/-- ITS FALSE NEIGHBOUR: 'it returns false'. Refute it at one input. -/
def listedWrong : ChangeSpec := { name := "listed", fn := fun _ => fun
  | [d] => { results := [.lit (.bool false)], args := [d] }
  | _ => none }
def ListedWrongFalsely : Prop := listedRow.holds Try.pinned (OpenSpec.ofChange listedWrong)

/-- 'mendkeep.Prefixed': WHATEVER THE INPUT: true; the input reads as it did. -/
def prefixedSpec : ChangeSpec := { name := "prefixed", fn := fun _ => fun
  | [d1, d2, d3] => { results := [.lit (.bool true)], args := [d1, d2, d3] }
  | _ => none }
def prefixedRow : OpenClaim := { program := "ytdgkpkdinfklaaa", sum := "c784f06303c060d625239d404f5e2825ea61a98ed4516847d4312ef8160984c3", func := "mend/mendkeep.Prefixed", spec := "prefixed", apart := false }
def PrefixedSaid : Prop := prefixedRow.holds Try.pinned (OpenSpec.ofChange prefixedSpec)

/-- ITS FALSE NEIGHBOUR: 'it returns false'. Refute it at one input. -/
def prefixedWrong : ChangeSpec := { name := "prefixed", fn := fun _ => fun
  | [d1, d2, d3] => { results := [.lit (.bool false)], args := [d1, d2, d3] }
  | _ => none }
def PrefixedWrongFalsely : Prop := prefixedRow.holds Try.pinned (OpenSpec.ofChange prefixedWrong)

/-- 'mendkeep.Alone': WHATEVER THE INPUT: true; the input reads as it did. -/
def aloneSpec : ChangeSpec := { name := "alone", fn := fun _ => fun
  | [d1, d2, d3] => { results := [.lit (.bool true)], args := [d1, d2, d3] }
  | _ => none }
def aloneRow : OpenClaim := { program := "ytdgkpkdinfklaaa", sum := "c784f06303c060d625239d404f5e2825ea61a98ed4516847d4312ef8160984c3", func := "mend/mendkeep.Alone", spec := "alone", apart := false }
def AloneSaid : Prop := aloneRow.holds Try.pinned (OpenSpec.ofChange aloneSpec)

/-- ITS FALSE NEIGHBOUR: 'it returns false'. Refute it at one input. -/
def aloneWrong : ChangeSpec := { name := "alone", fn := fun _ => fun
  | [d1, d2, d3] => { results := [.lit (.bool false)], args := [d1, d2, d3] }
  | _ => none }
def AloneWrongFalsely : Prop := aloneRow.holds Try.pinned (OpenSpec.ofChange aloneWrong)

/-- 'mendkeep.Turned': WHATEVER THE INPUT: true; the input reads as it did. -/
def turnedSpec : ChangeSpec := { name := "turned", fn := fun _ => fun
  | [d1, d2] => { results := [.lit (.bool true)], args := [d1, d2] }
  | _ => none }
def turnedRow : OpenClaim := { program := "ytdgkpkdinfklaaa", sum := "c784f06303c060d625239d404f5e2825ea61a98ed4516847d4312ef8160984c3", func := "mend/mendkeep.Turned", spec := "turned", apart := false }
def TurnedSaid : Prop := turnedRow.holds Try.pinned (OpenSpec.ofChange turnedSpec)

/-- ITS FALSE NEIGHBOUR: 'it returns false'. Refute it at one input. -/
def turnedWrong : ChangeSpec := { name := "turned", fn := fun _ => fun
  | [d1, d2] => { results := [.lit (.bool false)], args := [d1, d2] }
  | _ => none }
def TurnedWrongFalsely : Prop := turnedRow.holds Try.pinned (OpenSpec.ofChange turnedWrong)

/-- 'mendkeep.Shown': WHATEVER THE INPUT: true; the input reads as it did. -/
def shownSpec : ChangeSpec := { name := "shown", fn := fun _ => fun
  | [d1, d2, d3, d4, d5, d6] => { results := [.lit (.bool true)], args := [d1, d2, d3, d4, d5, d6] }
  | _ => none }
def shownRow : OpenClaim := { program := "ytdgkpkdinfklaaa", sum := "c784f06303c060d625239d404f5e2825ea61a98ed4516847d4312ef8160984c3", func := "mend/mendkeep.Shown", spec := "shown", recurses := true, apart := false }
def ShownSaid : Prop := shownRow.holds Try.pinned (OpenSpec.ofChange shownSpec)

/-- ITS FALSE NEIGHBOUR: 'it returns false'. Refute it at one input. -/
def shownWrong : ChangeSpec := { name := "shown", fn := fun _ => fun
  | [d1, d2, d3, d4, d5, d6] => { results := [.lit (.bool false)], args := [d1, d2, d3, d4, d5, d6] }
  | _ => none }
def ShownWrongFalsely : Prop := shownRow.holds Try.pinned (OpenSpec.ofChange shownWrong)

/- THE SECOND FORM. 'bulk': how many values and letters a reading holds, each counted each time it is reached (what is shared counts as often as it is met; a slice's spare places count too). A statement '..UptoSaid' is the law's where the arguments, and the package variables that the reading takes, are together of bulk at most 1048576: NARROWER than '..Said'. Prove '..Said' where nothing that the law and all that it calls make is longer than what came in: it says more and counts as full. Else prove '..UptoSaid'. A law counts once. -/
mutual
def uptoBulk {H : Type} : DataW H → Nat
  | .lit (.string bytes) => bytes.length + 1
  | .lit _ => 1
  | .nil => 1
  | .ptr d => uptoBulk d + 1
  | .slice elems spare => uptoBulkAll elems + uptoBulkAll spare + 1
  | .agg parts => uptoBulkAll parts + 1
  | .iface _ d => uptoBulk d + 1
  | .map entries => uptoBulkEntries entries + 1
  | .held _ => 1
def uptoBulkAll {H : Type} : List (DataW H) → Nat
  | [] => 0
  | d :: r => uptoBulk d + uptoBulkAll r
def uptoBulkEntries {H : Type} : List (Lit × DataW H) → Nat
  | [] => 0
  | x :: r => uptoBulkEntry x + uptoBulkEntries r
def uptoBulkEntry {H : Type} : Lit × DataW H → Nat
  | (.string bytes, d) => bytes.length + uptoBulk d + 1
  | (_, d) => uptoBulk d + 1
 end
def uptoSmall : (H : Type) → List (DataW H) → Bool := fun _ ds => decide (uptoBulkAll ds ≤ 1048576)
def OpenSpec.upto (s : _root_.Go.ChangeSpec) : _root_.Go.OpenSpec := { _root_.Go.OpenSpec.ofChange s with cond := some uptoSmall }

/-- 'mendkeep.Listed', WHERE WHAT IT READS IS OF BULK AT MOST 1048576: true; the input reads as it did. -/
def listedUptoRow : OpenClaim := { program := "ytdgkpkdinfklaaa", sum := "c784f06303c060d625239d404f5e2825ea61a98ed4516847d4312ef8160984c3", func := "mend/mendkeep.Listed", spec := "listed", apart := false, narrowed := true }
def ListedUptoSaid : Prop := listedUptoRow.holds Try.pinned (OpenSpec.upto listedSpec)

/-- 'mendkeep.Prefixed', WHERE WHAT IT READS IS OF BULK AT MOST 1048576: true; the input reads as it did. -/
def prefixedUptoRow : OpenClaim := { program := "ytdgkpkdinfklaaa", sum := "c784f06303c060d625239d404f5e2825ea61a98ed4516847d4312ef8160984c3", func := "mend/mendkeep.Prefixed", spec := "prefixed", apart := false, narrowed := true }
def PrefixedUptoSaid : Prop := prefixedUptoRow.holds Try.pinned (OpenSpec.upto prefixedSpec)

/-- 'mendkeep.Alone', WHERE WHAT IT READS IS OF BULK AT MOST 1048576: true; the input reads as it did. -/
def aloneUptoRow : OpenClaim := { program := "ytdgkpkdinfklaaa", sum := "c784f06303c060d625239d404f5e2825ea61a98ed4516847d4312ef8160984c3", func := "mend/mendkeep.Alone", spec := "alone", apart := false, narrowed := true }
def AloneUptoSaid : Prop := aloneUptoRow.holds Try.pinned (OpenSpec.upto aloneSpec)

/-- 'mendkeep.Turned', WHERE WHAT IT READS IS OF BULK AT MOST 1048576: true; the input reads as it did. -/
def turnedUptoRow : OpenClaim := { program := "ytdgkpkdinfklaaa", sum := "c784f06303c060d625239d404f5e2825ea61a98ed4516847d4312ef8160984c3", func := "mend/mendkeep.Turned", spec := "turned", apart := false, narrowed := true }
def TurnedUptoSaid : Prop := turnedUptoRow.holds Try.pinned (OpenSpec.upto turnedSpec)

/-- 'mendkeep.Shown', WHERE WHAT IT READS IS OF BULK AT MOST 1048576: true; the input reads as it did. -/
def shownUptoRow : OpenClaim := { program := "ytdgkpkdinfklaaa", sum := "c784f06303c060d625239d404f5e2825ea61a98ed4516847d4312ef8160984c3", func := "mend/mendkeep.Shown", spec := "shown", recurses := true, apart := false, narrowed := true }
def ShownUptoSaid : Prop := shownUptoRow.holds Try.pinned (OpenSpec.upto shownSpec)

end Rows
end Go.Proofs.Ytdgkpkdinfklaaa
