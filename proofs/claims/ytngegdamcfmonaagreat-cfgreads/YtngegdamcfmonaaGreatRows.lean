/-
  No cell of these rows narrows 'for every input' (looked for: loops, veiled, ifaces, maps, wideKeys, modest, calm, conditions, laid).
  DERIVED. THE GIVEN ROWS OF THIS SEAT. 6 by the template 'for every input the law returns true; each argument reads behind the call as it read before'; 0 by the template 'total and deterministic' (their statements: YtngegdamcfmonaaGreatTotals.lean).
  GIVEN WITH THE SEED: the statements are not yours to turn. If you find one false, say at which input.
  Laid BY PROGRAM, IN A SANDBOX (cutbox-rows.mjs): the forced cells as the released guide's own fill.sh prints them over the translation 0f429170cfc27a52… (all of the seat's roots in one cut). By AI agents, Wed Nov 11 2026. No macro, syntax, notation, axiom, sorry.
-/
import Derived.Test.YtngegdamcfmonaaGreatChecked
import GoSem.Claim
import GoSem.ClaimJoined
import GoSem.ClaimMapViews
import Derived.JoinedTies
import Derived.KernelRfl
namespace Go.Proofs.YtngegdamcfmonaaGreat
/- THE CELL 'sum', in the pinned program and in every row, IS THE sha256 OF THE DUMP (.gsa) THAT YtngegdamcfmonaaGreatProg.lean LOADS. Nothing in Lean hashes anything: it is a label: what it is worth is what the hold of that sum in a sandbox is worth. -/
noncomputable def Tryz.pinned : Pinned := { name := "ytngegdamcfmonaagreat", sum := "0f429170cfc27a52e29022595c9e933392f9001a335f4bf00a8b149a4e4504ec", checked := Tryz.checked }
namespace Rows
def none {H : Type} : Left H := { results := [], args := [] }

/-- 'lychlaw12.CfgWrites': WHATEVER THE INPUT: true; the input reads as it did. -/
def cfgWritesSpec : ChangeSpec := { name := "cfgWrites", fn := fun _ => fun
  | [d1, d2] => { results := [.lit (.bool true)], args := [d1, d2] }
  | _ => none }
def cfgWritesRow : OpenClaim := { program := "ytngegdamcfmonaagreat", sum := "0f429170cfc27a52e29022595c9e933392f9001a335f4bf00a8b149a4e4504ec", func := "lych/lychlaw12.CfgWrites", spec := "cfgWrites", unfollowed := true, recurses := true, apart := false }
def CfgWritesSaid : Prop := cfgWritesRow.holds Tryz.pinned (OpenSpec.ofChange cfgWritesSpec)

/-- ITS FALSE NEIGHBOUR: 'it returns false'. Refute it at one input. -/
def cfgWritesWrong : ChangeSpec := { name := "cfgWrites", fn := fun _ => fun
  | [d1, d2] => { results := [.lit (.bool false)], args := [d1, d2] }
  | _ => none }
def CfgWritesWrongFalsely : Prop := cfgWritesRow.holds Tryz.pinned (OpenSpec.ofChange cfgWritesWrong)

/-- 'lychlaw12.CfgReads': WHATEVER THE INPUT: true; the input reads as it did. -/
def cfgReadsSpec : ChangeSpec := { name := "cfgReads", fn := fun _ => fun
  | [d] => { results := [.lit (.bool true)], args := [d] }
  | _ => none }
def cfgReadsRow : OpenClaim := { program := "ytngegdamcfmonaagreat", sum := "0f429170cfc27a52e29022595c9e933392f9001a335f4bf00a8b149a4e4504ec", func := "lych/lychlaw12.CfgReads", spec := "cfgReads", unfollowed := true, recurses := true, apart := false }
def CfgReadsSaid : Prop := cfgReadsRow.holds Tryz.pinned (OpenSpec.ofChange cfgReadsSpec)

/-- ITS FALSE NEIGHBOUR: 'it returns false'. Refute it at one input. -/
def cfgReadsWrong : ChangeSpec := { name := "cfgReads", fn := fun _ => fun
  | [d] => { results := [.lit (.bool false)], args := [d] }
  | _ => none }
def CfgReadsWrongFalsely : Prop := cfgReadsRow.holds Tryz.pinned (OpenSpec.ofChange cfgReadsWrong)

/-- 'lychlaw12.CfgBack': WHATEVER THE INPUT: true; the input reads as it did. -/
def cfgBackSpec : ChangeSpec := { name := "cfgBack", fn := fun _ => fun
  | [d1, d2, d3] => { results := [.lit (.bool true)], args := [d1, d2, d3] }
  | _ => none }
def cfgBackRow : OpenClaim := { program := "ytngegdamcfmonaagreat", sum := "0f429170cfc27a52e29022595c9e933392f9001a335f4bf00a8b149a4e4504ec", func := "lych/lychlaw12.CfgBack", spec := "cfgBack", unfollowed := true, recurses := true, apart := false }
def CfgBackSaid : Prop := cfgBackRow.holds Tryz.pinned (OpenSpec.ofChange cfgBackSpec)

/-- ITS FALSE NEIGHBOUR: 'it returns false'. Refute it at one input. -/
def cfgBackWrong : ChangeSpec := { name := "cfgBack", fn := fun _ => fun
  | [d1, d2, d3] => { results := [.lit (.bool false)], args := [d1, d2, d3] }
  | _ => none }
def CfgBackWrongFalsely : Prop := cfgBackRow.holds Tryz.pinned (OpenSpec.ofChange cfgBackWrong)

/-- 'lychlaw12.CfgSame': WHATEVER THE INPUT: true; the input reads as it did. -/
def cfgSameSpec : ChangeSpec := { name := "cfgSame", fn := fun _ => fun
  | [d1, d2] => { results := [.lit (.bool true)], args := [d1, d2] }
  | _ => none }
def cfgSameRow : OpenClaim := { program := "ytngegdamcfmonaagreat", sum := "0f429170cfc27a52e29022595c9e933392f9001a335f4bf00a8b149a4e4504ec", func := "lych/lychlaw12.CfgSame", spec := "cfgSame", unfollowed := true, recurses := true, apart := false }
def CfgSameSaid : Prop := cfgSameRow.holds Tryz.pinned (OpenSpec.ofChange cfgSameSpec)

/-- ITS FALSE NEIGHBOUR: 'it returns false'. Refute it at one input. -/
def cfgSameWrong : ChangeSpec := { name := "cfgSame", fn := fun _ => fun
  | [d1, d2] => { results := [.lit (.bool false)], args := [d1, d2] }
  | _ => none }
def CfgSameWrongFalsely : Prop := cfgSameRow.holds Tryz.pinned (OpenSpec.ofChange cfgSameWrong)

/-- 'lychlaw12.CfgParts': WHATEVER THE INPUT: true; the input reads as it did. -/
def cfgPartsSpec : ChangeSpec := { name := "cfgParts", fn := fun _ => fun
  | [d1, d2] => { results := [.lit (.bool true)], args := [d1, d2] }
  | _ => none }
def cfgPartsRow : OpenClaim := { program := "ytngegdamcfmonaagreat", sum := "0f429170cfc27a52e29022595c9e933392f9001a335f4bf00a8b149a4e4504ec", func := "lych/lychlaw12.CfgParts", spec := "cfgParts", unfollowed := true, recurses := true, apart := false }
def CfgPartsSaid : Prop := cfgPartsRow.holds Tryz.pinned (OpenSpec.ofChange cfgPartsSpec)

/-- ITS FALSE NEIGHBOUR: 'it returns false'. Refute it at one input. -/
def cfgPartsWrong : ChangeSpec := { name := "cfgParts", fn := fun _ => fun
  | [d1, d2] => { results := [.lit (.bool false)], args := [d1, d2] }
  | _ => none }
def CfgPartsWrongFalsely : Prop := cfgPartsRow.holds Tryz.pinned (OpenSpec.ofChange cfgPartsWrong)

/-- 'lychlaw12.CfgCuts': WHATEVER THE INPUT: true; the input reads as it did. -/
def cfgCutsSpec : ChangeSpec := { name := "cfgCuts", fn := fun _ => fun
  | [d1, d2] => { results := [.lit (.bool true)], args := [d1, d2] }
  | _ => none }
def cfgCutsRow : OpenClaim := { program := "ytngegdamcfmonaagreat", sum := "0f429170cfc27a52e29022595c9e933392f9001a335f4bf00a8b149a4e4504ec", func := "lych/lychlaw12.CfgCuts", spec := "cfgCuts", unfollowed := true, recurses := true, apart := false }
def CfgCutsSaid : Prop := cfgCutsRow.holds Tryz.pinned (OpenSpec.ofChange cfgCutsSpec)

/-- ITS FALSE NEIGHBOUR: 'it returns false'. Refute it at one input. -/
def cfgCutsWrong : ChangeSpec := { name := "cfgCuts", fn := fun _ => fun
  | [d1, d2] => { results := [.lit (.bool false)], args := [d1, d2] }
  | _ => none }
def CfgCutsWrongFalsely : Prop := cfgCutsRow.holds Tryz.pinned (OpenSpec.ofChange cfgCutsWrong)

/- THE SECOND FORM. 'bulk': how many values and letters a reading holds, each counted each time it is reached (what is shared counts as often as it is met; a slice's spare places count too). A statement '..UptoSaid' is the law's where the arguments, and the package variables that the reading takes, are together of bulk at most 1048576: NARROWER than '..Said'. Prove '..Said' where nothing that the law and all that it calls make is longer than what came in: it says more and counts as full. Else prove '..UptoSaid'. A law counts once. -/
mutual
def uptoBulk {H : Type} : DataW H → Nat
  | .lit (.string bytes) => bytes.length + 1
  | .lit _ => 1
  | .nil => 1
  | .ptr d => uptoBulk d + 1
  | .slice elems spare => uptoBulkAll elems + uptoBulkAll spare + 1
  | .agg parts => uptoBulkAll parts + 1
  | .iface _ d => uptoBulk d + 1
  | .map entries => uptoBulkEntries entries + 1
  | .held _ => 1
def uptoBulkAll {H : Type} : List (DataW H) → Nat
  | [] => 0
  | d :: r => uptoBulk d + uptoBulkAll r
def uptoBulkEntries {H : Type} : List (Lit × DataW H) → Nat
  | [] => 0
  | x :: r => uptoBulkEntry x + uptoBulkEntries r
def uptoBulkEntry {H : Type} : Lit × DataW H → Nat
  | (.string bytes, d) => bytes.length + uptoBulk d + 1
  | (_, d) => uptoBulk d + 1
 end
def uptoSmall : (H : Type) → List (DataW H) → Bool := fun _ ds => decide (uptoBulkAll ds ≤ 1048576)
def OpenSpec.upto (s : _root_.Go.ChangeSpec) : _root_.Go.OpenSpec := { _root_.Go.OpenSpec.ofChange s with cond := some uptoSmall }

/-- 'lychlaw12.CfgWrites', WHERE WHAT IT READS IS OF BULK AT MOST 1048576: true; the input reads as it did. -/
def cfgWritesUptoRow : OpenClaim := { program := "ytngegdamcfmonaagreat", sum := "0f429170cfc27a52e29022595c9e933392f9001a335f4bf00a8b149a4e4504ec", func := "lych/lychlaw12.CfgWrites", spec := "cfgWrites", unfollowed := true, recurses := true, apart := false, narrowed := true }
def CfgWritesUptoSaid : Prop := cfgWritesUptoRow.holds Tryz.pinned (OpenSpec.upto cfgWritesSpec)

/-- 'lychlaw12.CfgReads', WHERE WHAT IT READS IS OF BULK AT MOST 1048576: true; the input reads as it did. -/
def cfgReadsUptoRow : OpenClaim := { program := "ytngegdamcfmonaagreat", sum := "0f429170cfc27a52e29022595c9e933392f9001a335f4bf00a8b149a4e4504ec", func := "lych/lychlaw12.CfgReads", spec := "cfgReads", unfollowed := true, recurses := true, apart := false, narrowed := true }
def CfgReadsUptoSaid : Prop := cfgReadsUptoRow.holds Tryz.pinned (OpenSpec.upto cfgReadsSpec)

/-- 'lychlaw12.CfgBack', WHERE WHAT IT READS IS OF BULK AT MOST 1048576: true; the input reads as it did. -/
def cfgBackUptoRow : OpenClaim := { program := "ytngegdamcfmonaagreat", sum := "0f429170cfc27a52e29022595c9e933392f9001a335f4bf00a8b149a4e4504ec", func := "lych/lychlaw12.CfgBack", spec := "cfgBack", unfollowed := true, recurses := true, apart := false, narrowed := true }
def CfgBackUptoSaid : Prop := cfgBackUptoRow.holds Tryz.pinned (OpenSpec.upto cfgBackSpec)

/-- 'lychlaw12.CfgSame', WHERE WHAT IT READS IS OF BULK AT MOST 1048576: true; the input reads as it did. -/
def cfgSameUptoRow : OpenClaim := { program := "ytngegdamcfmonaagreat", sum := "0f429170cfc27a52e29022595c9e933392f9001a335f4bf00a8b149a4e4504ec", func := "lych/lychlaw12.CfgSame", spec := "cfgSame", unfollowed := true, recurses := true, apart := false, narrowed := true }
def CfgSameUptoSaid : Prop := cfgSameUptoRow.holds Tryz.pinned (OpenSpec.upto cfgSameSpec)

/-- 'lychlaw12.CfgParts', WHERE WHAT IT READS IS OF BULK AT MOST 1048576: true; the input reads as it did. -/
def cfgPartsUptoRow : OpenClaim := { program := "ytngegdamcfmonaagreat", sum := "0f429170cfc27a52e29022595c9e933392f9001a335f4bf00a8b149a4e4504ec", func := "lych/lychlaw12.CfgParts", spec := "cfgParts", unfollowed := true, recurses := true, apart := false, narrowed := true }
def CfgPartsUptoSaid : Prop := cfgPartsUptoRow.holds Tryz.pinned (OpenSpec.upto cfgPartsSpec)

/-- 'lychlaw12.CfgCuts', WHERE WHAT IT READS IS OF BULK AT MOST 1048576: true; the input reads as it did. -/
def cfgCutsUptoRow : OpenClaim := { program := "ytngegdamcfmonaagreat", sum := "0f429170cfc27a52e29022595c9e933392f9001a335f4bf00a8b149a4e4504ec", func := "lych/lychlaw12.CfgCuts", spec := "cfgCuts", unfollowed := true, recurses := true, apart := false, narrowed := true }
def CfgCutsUptoSaid : Prop := cfgCutsUptoRow.holds Tryz.pinned (OpenSpec.upto cfgCutsSpec)

end Rows
end Go.Proofs.YtngegdamcfmonaaGreat
