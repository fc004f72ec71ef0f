/-
  No cell of these rows narrows 'for every input' (looked for: loops, veiled, ifaces, maps, wideKeys, modest, calm, conditions, laid).
  DERIVED. THE GIVEN ROWS OF THIS SEAT. 4 by the template 'for every input the law returns true; each argument reads behind the call as it read before'; 0 by the template 'total and deterministic' (their statements: YtdhmefoenopoeaaTotals.lean).
  GIVEN WITH THE SEED: the statements are not yours to turn. If you find one false, say at which input.
  Laid BY PROGRAM, IN A SANDBOX (cutbox-rows.mjs): the forced cells as the released guide's own fill.sh prints them over the translation 03b3db0fac84f7fe… (all of the seat's roots in one cut). By AI agents, Wed Nov 11 2026. No macro, syntax, notation, axiom, sorry.
-/
import Derived.Test.YtdhmefoenopoeaaChecked
import GoSem.Claim
import GoSem.ClaimJoined
import GoSem.ClaimMapViews
import Derived.JoinedTies
import Derived.KernelRfl
namespace Go.Proofs.Ytdhmefoenopoeaa
/- THE CELL 'sum', in the pinned program and in every row, IS THE sha256 OF THE DUMP (.gsa) THAT YtdhmefoenopoeaaProg.lean LOADS. Nothing in Lean hashes anything: it is a label: what it is worth is what the hold of that sum in a sandbox is worth. -/
noncomputable def Try.pinned : Pinned := { name := "ytdhmefoenopoeaa", sum := "03b3db0fac84f7fe3bc12a36fa4c66d78c54060c0ccc88d7b5679f480875ded8", checked := Try.checked }
namespace Rows
def none {H : Type} : Left H := { results := [], args := [] }

/-- 'lychlaw7.VxlanReads': WHATEVER THE INPUT: true; the input reads as it did. -/
def vxlanReadsSpec : ChangeSpec := { name := "vxlanReads", fn := fun _ => fun
  | [d] => { results := [.lit (.bool true)], args := [d] }
  | _ => none }
def vxlanReadsRow : OpenClaim := { program := "ytdhmefoenopoeaa", sum := "03b3db0fac84f7fe3bc12a36fa4c66d78c54060c0ccc88d7b5679f480875ded8", func := "lych/lychlaw7.VxlanReads", spec := "vxlanReads", apart := false }
def VxlanReadsSaid : Prop := vxlanReadsRow.holds Try.pinned (OpenSpec.ofChange vxlanReadsSpec)

/-- ITS FALSE NEIGHBOUR: 'it returns false'. Refute it at one input. -/
def vxlanReadsWrong : ChangeSpec := { name := "vxlanReads", fn := fun _ => fun
  | [d] => { results := [.lit (.bool false)], args := [d] }
  | _ => none }
def VxlanReadsWrongFalsely : Prop := vxlanReadsRow.holds Try.pinned (OpenSpec.ofChange vxlanReadsWrong)

/-- 'lychlaw7.VxlanBack': WHATEVER THE INPUT: true; the input reads as it did. -/
def vxlanBackSpec : ChangeSpec := { name := "vxlanBack", fn := fun _ => fun
  | [d1, d2, d3] => { results := [.lit (.bool true)], args := [d1, d2, d3] }
  | _ => none }
def vxlanBackRow : OpenClaim := { program := "ytdhmefoenopoeaa", sum := "03b3db0fac84f7fe3bc12a36fa4c66d78c54060c0ccc88d7b5679f480875ded8", func := "lych/lychlaw7.VxlanBack", spec := "vxlanBack", apart := false }
def VxlanBackSaid : Prop := vxlanBackRow.holds Try.pinned (OpenSpec.ofChange vxlanBackSpec)

/-- ITS FALSE NEIGHBOUR: 'it returns false'. Refute it at one input. -/
def vxlanBackWrong : ChangeSpec := { name := "vxlanBack", fn := fun _ => fun
  | [d1, d2, d3] => { results := [.lit (.bool false)], args := [d1, d2, d3] }
  | _ => none }
def VxlanBackWrongFalsely : Prop := vxlanBackRow.holds Try.pinned (OpenSpec.ofChange vxlanBackWrong)

/-- 'lychlaw7.VxlanBits': WHATEVER THE INPUT: true; the input reads as it did. -/
def vxlanBitsSpec : ChangeSpec := { name := "vxlanBits", fn := fun _ => fun
  | [d1, d2, d3, d4, d5, d6] => { results := [.lit (.bool true)], args := [d1, d2, d3, d4, d5, d6] }
  | _ => none }
def vxlanBitsRow : OpenClaim := { program := "ytdhmefoenopoeaa", sum := "03b3db0fac84f7fe3bc12a36fa4c66d78c54060c0ccc88d7b5679f480875ded8", func := "lych/lychlaw7.VxlanBits", spec := "vxlanBits", apart := false }
def VxlanBitsSaid : Prop := vxlanBitsRow.holds Try.pinned (OpenSpec.ofChange vxlanBitsSpec)

/-- ITS FALSE NEIGHBOUR: 'it returns false'. Refute it at one input. -/
def vxlanBitsWrong : ChangeSpec := { name := "vxlanBits", fn := fun _ => fun
  | [d1, d2, d3, d4, d5, d6] => { results := [.lit (.bool false)], args := [d1, d2, d3, d4, d5, d6] }
  | _ => none }
def VxlanBitsWrongFalsely : Prop := vxlanBitsRow.holds Try.pinned (OpenSpec.ofChange vxlanBitsWrong)

/-- 'lychlaw7.VxlanBounds': WHATEVER THE INPUT: true; the input reads as it did. -/
def vxlanBoundsSpec : ChangeSpec := { name := "vxlanBounds", fn := fun _ => fun
  | [d1, d2] => { results := [.lit (.bool true)], args := [d1, d2] }
  | _ => none }
def vxlanBoundsRow : OpenClaim := { program := "ytdhmefoenopoeaa", sum := "03b3db0fac84f7fe3bc12a36fa4c66d78c54060c0ccc88d7b5679f480875ded8", func := "lych/lychlaw7.VxlanBounds", spec := "vxlanBounds", apart := false }
def VxlanBoundsSaid : Prop := vxlanBoundsRow.holds Try.pinned (OpenSpec.ofChange vxlanBoundsSpec)

/-- ITS FALSE NEIGHBOUR: 'it returns false'. Refute it at one input. -/
def vxlanBoundsWrong : ChangeSpec := { name := "vxlanBounds", fn := fun _ => fun
  | [d1, d2] => { results := [.lit (.bool false)], args := [d1, d2] }
  | _ => none }
def VxlanBoundsWrongFalsely : Prop := vxlanBoundsRow.holds Try.pinned (OpenSpec.ofChange vxlanBoundsWrong)

/- THE SECOND FORM. 'bulk': how many values and letters a reading holds, each counted each time it is reached (what is shared counts as often as it is met; a slice's spare places count too). A statement '..UptoSaid' is the law's where the arguments, and the package variables that the reading takes, are together of bulk at most 1048576: NARROWER than '..Said'. Prove '..Said' where nothing that the law and all that it calls make is longer than what came in: it says more and counts as full. Else prove '..UptoSaid'. A law counts once. -/
mutual
def uptoBulk {H : Type} : DataW H → Nat
  | .lit (.string bytes) => bytes.length + 1
  | .lit _ => 1
  | .nil => 1
  | .ptr d => uptoBulk d + 1
  | .slice elems spare => uptoBulkAll elems + uptoBulkAll spare + 1
  | .agg parts => uptoBulkAll parts + 1
  | .iface _ d => uptoBulk d + 1
  | .map entries => uptoBulkEntries entries + 1
  | .held _ => 1
def uptoBulkAll {H : Type} : List (DataW H) → Nat
  | [] => 0
  | d :: r => uptoBulk d + uptoBulkAll r
def uptoBulkEntries {H : Type} : List (Lit × DataW H) → Nat
  | [] => 0
  | x :: r => uptoBulkEntry x + uptoBulkEntries r
def uptoBulkEntry {H : Type} : Lit × DataW H → Nat
  | (.string bytes, d) => bytes.length + uptoBulk d + 1
  | (_, d) => uptoBulk d + 1
 end
def uptoSmall : (H : Type) → List (DataW H) → Bool := fun _ ds => decide (uptoBulkAll ds ≤ 1048576)
def OpenSpec.upto (s : _root_.Go.ChangeSpec) : _root_.Go.OpenSpec := { _root_.Go.OpenSpec.ofChange s with cond := some uptoSmall }

/-- 'lychlaw7.VxlanReads', WHERE WHAT IT READS IS OF BULK AT MOST 1048576: true; the input reads as it did. -/
def vxlanReadsUptoRow : OpenClaim := { program := "ytdhmefoenopoeaa", sum := "03b3db0fac84f7fe3bc12a36fa4c66d78c54060c0ccc88d7b5679f480875ded8", func := "lych/lychlaw7.VxlanReads", spec := "vxlanReads", apart := false, narrowed := true }
def VxlanReadsUptoSaid : Prop := vxlanReadsUptoRow.holds Try.pinned (OpenSpec.upto vxlanReadsSpec)

/-- 'lychlaw7.VxlanBack', WHERE WHAT IT READS IS OF BULK AT MOST 1048576: true; the input reads as it did. -/
def vxlanBackUptoRow : OpenClaim := { program := "ytdhmefoenopoeaa", sum := "03b3db0fac84f7fe3bc12a36fa4c66d78c54060c0ccc88d7b5679f480875ded8", func := "lych/lychlaw7.VxlanBack", spec := "vxlanBack", apart := false, narrowed := true }
def VxlanBackUptoSaid : Prop := vxlanBackUptoRow.holds Try.pinned (OpenSpec.upto vxlanBackSpec)

/-- 'lychlaw7.VxlanBits', WHERE WHAT IT READS IS OF BULK AT MOST 1048576: true; the input reads as it did. -/
def vxlanBitsUptoRow : OpenClaim := { program := "ytdhmefoenopoeaa", sum := "03b3db0fac84f7fe3bc12a36fa4c66d78c54060c0ccc88d7b5679f480875ded8", func := "lych/lychlaw7.VxlanBits", spec := "vxlanBits", apart := false, narrowed := true }
def VxlanBitsUptoSaid : Prop := vxlanBitsUptoRow.holds Try.pinned (OpenSpec.upto vxlanBitsSpec)

/-- 'lychlaw7.VxlanBounds', WHERE WHAT IT READS IS OF BULK AT MOST 1048576: true; the input reads as it did. -/
def vxlanBoundsUptoRow : OpenClaim := { program := "ytdhmefoenopoeaa", sum := "03b3db0fac84f7fe3bc12a36fa4c66d78c54060c0ccc88d7b5679f480875ded8", func := "lych/lychlaw7.VxlanBounds", spec := "vxlanBounds", apart := false, narrowed := true }
def VxlanBoundsUptoSaid : Prop := vxlanBoundsUptoRow.holds Try.pinned (OpenSpec.upto vxlanBoundsSpec)

end Rows
end Go.Proofs.Ytdhmefoenopoeaa
