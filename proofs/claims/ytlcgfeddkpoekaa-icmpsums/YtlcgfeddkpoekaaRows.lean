/-
  No cell of these rows narrows 'for every input' (looked for: loops, veiled, ifaces, maps, wideKeys, modest, calm, conditions, laid).
  DERIVED. THE GIVEN ROWS OF THIS SEAT. 5 by the template 'for every input the law returns true; each argument reads behind the call as it read before'; 0 by the template 'total and deterministic' (their statements: YtlcgfeddkpoekaaTotals.lean).
  GIVEN WITH THE SEED: the statements are not yours to turn. If you find one false, say at which input.
  Laid BY PROGRAM, IN A SANDBOX (cutbox-rows.mjs): the forced cells as the released guide's own fill.sh prints them over the translation 8acf44f3d01385fe… (all of the seat's roots in one cut). By AI agents, Wed Nov 11 2026. No macro, syntax, notation, axiom, sorry.
-/
import Derived.Test.YtlcgfeddkpoekaaChecked
import GoSem.Claim
import GoSem.ClaimJoined
import GoSem.ClaimMapViews
import Derived.JoinedTies
import Derived.KernelRfl
namespace Go.Proofs.Ytlcgfeddkpoekaa
/- THE CELL 'sum', in the pinned program and in every row, IS THE sha256 OF THE DUMP (.gsa) THAT YtlcgfeddkpoekaaProg.lean LOADS. Nothing in Lean hashes anything: it is a label: what it is worth is what the hold of that sum in a sandbox is worth. -/
noncomputable def Try.pinned : Pinned := { name := "ytlcgfeddkpoekaa", sum := "8acf44f3d01385fed482c247e1a36199733efc79107136032151dd7c685bf565", checked := Try.checked }
namespace Rows
def none {H : Type} : Left H := { results := [], args := [] }

/-- 'lychlaw6.IcmpReads': WHATEVER THE INPUT: true; the input reads as it did. -/
def icmpReadsSpec : ChangeSpec := { name := "icmpReads", fn := fun _ => fun
  | [d] => { results := [.lit (.bool true)], args := [d] }
  | _ => none }
def icmpReadsRow : OpenClaim := { program := "ytlcgfeddkpoekaa", sum := "8acf44f3d01385fed482c247e1a36199733efc79107136032151dd7c685bf565", func := "lych/lychlaw6.IcmpReads", spec := "icmpReads", apart := false }
def IcmpReadsSaid : Prop := icmpReadsRow.holds Try.pinned (OpenSpec.ofChange icmpReadsSpec)

/-- ITS FALSE NEIGHBOUR: 'it returns false'. Refute it at one input. -/
def icmpReadsWrong : ChangeSpec := { name := "icmpReads", fn := fun _ => fun
  | [d] => { results := [.lit (.bool false)], args := [d] }
  | _ => none }
def IcmpReadsWrongFalsely : Prop := icmpReadsRow.holds Try.pinned (OpenSpec.ofChange icmpReadsWrong)

/-- 'lychlaw6.IcmpBack': WHATEVER THE INPUT: true; the input reads as it did. -/
def icmpBackSpec : ChangeSpec := { name := "icmpBack", fn := fun _ => fun
  | [d] => { results := [.lit (.bool true)], args := [d] }
  | _ => none }
def icmpBackRow : OpenClaim := { program := "ytlcgfeddkpoekaa", sum := "8acf44f3d01385fed482c247e1a36199733efc79107136032151dd7c685bf565", func := "lych/lychlaw6.IcmpBack", spec := "icmpBack", apart := false }
def IcmpBackSaid : Prop := icmpBackRow.holds Try.pinned (OpenSpec.ofChange icmpBackSpec)

/-- ITS FALSE NEIGHBOUR: 'it returns false'. Refute it at one input. -/
def icmpBackWrong : ChangeSpec := { name := "icmpBack", fn := fun _ => fun
  | [d] => { results := [.lit (.bool false)], args := [d] }
  | _ => none }
def IcmpBackWrongFalsely : Prop := icmpBackRow.holds Try.pinned (OpenSpec.ofChange icmpBackWrong)

/-- 'lychlaw6.IcmpSums': WHATEVER THE INPUT: true; the input reads as it did. -/
def icmpSumsSpec : ChangeSpec := { name := "icmpSums", fn := fun _ => fun
  | [d1, d2] => { results := [.lit (.bool true)], args := [d1, d2] }
  | _ => none }
def icmpSumsRow : OpenClaim := { program := "ytlcgfeddkpoekaa", sum := "8acf44f3d01385fed482c247e1a36199733efc79107136032151dd7c685bf565", func := "lych/lychlaw6.IcmpSums", spec := "icmpSums", apart := false }
def IcmpSumsSaid : Prop := icmpSumsRow.holds Try.pinned (OpenSpec.ofChange icmpSumsSpec)

/-- ITS FALSE NEIGHBOUR: 'it returns false'. Refute it at one input. -/
def icmpSumsWrong : ChangeSpec := { name := "icmpSums", fn := fun _ => fun
  | [d1, d2] => { results := [.lit (.bool false)], args := [d1, d2] }
  | _ => none }
def IcmpSumsWrongFalsely : Prop := icmpSumsRow.holds Try.pinned (OpenSpec.ofChange icmpSumsWrong)

/-- 'lychlaw6.IcmpGreat': WHATEVER THE INPUT: true; the input reads as it did. -/
def icmpGreatSpec : ChangeSpec := { name := "icmpGreat", fn := fun _ => fun
  | [d] => { results := [.lit (.bool true)], args := [d] }
  | _ => none }
def icmpGreatRow : OpenClaim := { program := "ytlcgfeddkpoekaa", sum := "8acf44f3d01385fed482c247e1a36199733efc79107136032151dd7c685bf565", func := "lych/lychlaw6.IcmpGreat", spec := "icmpGreat", apart := false }
def IcmpGreatSaid : Prop := icmpGreatRow.holds Try.pinned (OpenSpec.ofChange icmpGreatSpec)

/-- ITS FALSE NEIGHBOUR: 'it returns false'. Refute it at one input. -/
def icmpGreatWrong : ChangeSpec := { name := "icmpGreat", fn := fun _ => fun
  | [d] => { results := [.lit (.bool false)], args := [d] }
  | _ => none }
def IcmpGreatWrongFalsely : Prop := icmpGreatRow.holds Try.pinned (OpenSpec.ofChange icmpGreatWrong)

/-- 'lychlaw6.IcmpKinds': WHATEVER THE INPUT: true; the input reads as it did. -/
def icmpKindsSpec : ChangeSpec := { name := "icmpKinds", fn := fun _ => fun
  | [d1, d2, d3] => { results := [.lit (.bool true)], args := [d1, d2, d3] }
  | _ => none }
def icmpKindsRow : OpenClaim := { program := "ytlcgfeddkpoekaa", sum := "8acf44f3d01385fed482c247e1a36199733efc79107136032151dd7c685bf565", func := "lych/lychlaw6.IcmpKinds", spec := "icmpKinds", apart := false }
def IcmpKindsSaid : Prop := icmpKindsRow.holds Try.pinned (OpenSpec.ofChange icmpKindsSpec)

/-- ITS FALSE NEIGHBOUR: 'it returns false'. Refute it at one input. -/
def icmpKindsWrong : ChangeSpec := { name := "icmpKinds", fn := fun _ => fun
  | [d1, d2, d3] => { results := [.lit (.bool false)], args := [d1, d2, d3] }
  | _ => none }
def IcmpKindsWrongFalsely : Prop := icmpKindsRow.holds Try.pinned (OpenSpec.ofChange icmpKindsWrong)

/- THE SECOND FORM. 'bulk': how many values and letters a reading holds, each counted each time it is reached (what is shared counts as often as it is met; a slice's spare places count too). A statement '..UptoSaid' is the law's where the arguments, and the package variables that the reading takes, are together of bulk at most 1048576: NARROWER than '..Said'. Prove '..Said' where nothing that the law and all that it calls make is longer than what came in: it says more and counts as full. Else prove '..UptoSaid'. A law counts once. -/
mutual
def uptoBulk {H : Type} : DataW H → Nat
  | .lit (.string bytes) => bytes.length + 1
  | .lit _ => 1
  | .nil => 1
  | .ptr d => uptoBulk d + 1
  | .slice elems spare => uptoBulkAll elems + uptoBulkAll spare + 1
  | .agg parts => uptoBulkAll parts + 1
  | .iface _ d => uptoBulk d + 1
  | .map entries => uptoBulkEntries entries + 1
  | .held _ => 1
def uptoBulkAll {H : Type} : List (DataW H) → Nat
  | [] => 0
  | d :: r => uptoBulk d + uptoBulkAll r
def uptoBulkEntries {H : Type} : List (Lit × DataW H) → Nat
  | [] => 0
  | x :: r => uptoBulkEntry x + uptoBulkEntries r
def uptoBulkEntry {H : Type} : Lit × DataW H → Nat
  | (.string bytes, d) => bytes.length + uptoBulk d + 1
  | (_, d) => uptoBulk d + 1
 end
def uptoSmall : (H : Type) → List (DataW H) → Bool := fun _ ds => decide (uptoBulkAll ds ≤ 1048576)
def OpenSpec.upto (s : _root_.Go.ChangeSpec) : _root_.Go.OpenSpec := { _root_.Go.OpenSpec.ofChange s with cond := some uptoSmall }

/-- 'lychlaw6.IcmpReads', WHERE WHAT IT READS IS OF BULK AT MOST 1048576: true; the input reads as it did. -/
def icmpReadsUptoRow : OpenClaim := { program := "ytlcgfeddkpoekaa", sum := "8acf44f3d01385fed482c247e1a36199733efc79107136032151dd7c685bf565", func := "lych/lychlaw6.IcmpReads", spec := "icmpReads", apart := false, narrowed := true }
def IcmpReadsUptoSaid : Prop := icmpReadsUptoRow.holds Try.pinned (OpenSpec.upto icmpReadsSpec)

/-- 'lychlaw6.IcmpBack', WHERE WHAT IT READS IS OF BULK AT MOST 1048576: true; the input reads as it did. -/
def icmpBackUptoRow : OpenClaim := { program := "ytlcgfeddkpoekaa", sum := "8acf44f3d01385fed482c247e1a36199733efc79107136032151dd7c685bf565", func := "lych/lychlaw6.IcmpBack", spec := "icmpBack", apart := false, narrowed := true }
def IcmpBackUptoSaid : Prop := icmpBackUptoRow.holds Try.pinned (OpenSpec.upto icmpBackSpec)

/-- 'lychlaw6.IcmpSums', WHERE WHAT IT READS IS OF BULK AT MOST 1048576: true; the input reads as it did. -/
def icmpSumsUptoRow : OpenClaim := { program := "ytlcgfeddkpoekaa", sum := "8acf44f3d01385fed482c247e1a36199733efc79107136032151dd7c685bf565", func := "lych/lychlaw6.IcmpSums", spec := "icmpSums", apart := false, narrowed := true }
def IcmpSumsUptoSaid : Prop := icmpSumsUptoRow.holds Try.pinned (OpenSpec.upto icmpSumsSpec)

/-- 'lychlaw6.IcmpGreat', WHERE WHAT IT READS IS OF BULK AT MOST 1048576: true; the input reads as it did. -/
def icmpGreatUptoRow : OpenClaim := { program := "ytlcgfeddkpoekaa", sum := "8acf44f3d01385fed482c247e1a36199733efc79107136032151dd7c685bf565", func := "lych/lychlaw6.IcmpGreat", spec := "icmpGreat", apart := false, narrowed := true }
def IcmpGreatUptoSaid : Prop := icmpGreatUptoRow.holds Try.pinned (OpenSpec.upto icmpGreatSpec)

/-- 'lychlaw6.IcmpKinds', WHERE WHAT IT READS IS OF BULK AT MOST 1048576: true; the input reads as it did. -/
def icmpKindsUptoRow : OpenClaim := { program := "ytlcgfeddkpoekaa", sum := "8acf44f3d01385fed482c247e1a36199733efc79107136032151dd7c685bf565", func := "lych/lychlaw6.IcmpKinds", spec := "icmpKinds", apart := false, narrowed := true }
def IcmpKindsUptoSaid : Prop := icmpKindsUptoRow.holds Try.pinned (OpenSpec.upto icmpKindsSpec)

end Rows
end Go.Proofs.Ytlcgfeddkpoekaa
