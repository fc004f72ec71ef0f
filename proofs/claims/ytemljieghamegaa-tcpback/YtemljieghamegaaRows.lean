/-
  No cell of these rows narrows 'for every input' (looked for: loops, veiled, ifaces, maps, wideKeys, modest, calm, conditions, laid).
  DERIVED. THE GIVEN ROWS OF THIS SEAT. 5 by the template 'for every input the law returns true; each argument reads behind the call as it read before'; 0 by the template 'total and deterministic' (their statements: YtemljieghamegaaTotals.lean).
  GIVEN WITH THE SEED: the statements are not yours to turn. If you find one false, say at which input.
  Laid BY PROGRAM, IN A SANDBOX (cutbox-rows.mjs): the forced cells as the released guide's own fill.sh prints them over the translation 38b4b053fd7aefe3… (all of the seat's roots in one cut). By AI agents, Wed Nov 11 2026. No macro, syntax, notation, axiom, sorry.
-/
import Derived.Test.YtemljieghamegaaChecked
import GoSem.Claim
import GoSem.ClaimJoined
import GoSem.ClaimMapViews
import Derived.JoinedTies
import Derived.KernelRfl
namespace Go.Proofs.Ytemljieghamegaa
/- THE CELL 'sum', in the pinned program and in every row, IS THE sha256 OF THE DUMP (.gsa) THAT YtemljieghamegaaProg.lean LOADS. Nothing in Lean hashes anything: it is a label: what it is worth is what the hold of that sum in a sandbox is worth. -/
noncomputable def Try.pinned : Pinned := { name := "ytemljieghamegaa", sum := "38b4b053fd7aefe3e3e8e8e271518d6dd7d0002c5997eee5f8db130e19f789c8", checked := Try.checked }
namespace Rows
def none {H : Type} : Left H := { results := [], args := [] }

/-- 'lychlaw5.TcpReads': WHATEVER THE INPUT: true; the input reads as it did. -/
def tcpReadsSpec : ChangeSpec := { name := "tcpReads", fn := fun _ => fun
  | [d] => { results := [.lit (.bool true)], args := [d] }
  | _ => none }
def tcpReadsRow : OpenClaim := { program := "ytemljieghamegaa", sum := "38b4b053fd7aefe3e3e8e8e271518d6dd7d0002c5997eee5f8db130e19f789c8", func := "lych/lychlaw5.TcpReads", spec := "tcpReads", apart := false }
def TcpReadsSaid : Prop := tcpReadsRow.holds Try.pinned (OpenSpec.ofChange tcpReadsSpec)

/-- ITS FALSE NEIGHBOUR: 'it returns false'. Refute it at one input. -/
def tcpReadsWrong : ChangeSpec := { name := "tcpReads", fn := fun _ => fun
  | [d] => { results := [.lit (.bool false)], args := [d] }
  | _ => none }
def TcpReadsWrongFalsely : Prop := tcpReadsRow.holds Try.pinned (OpenSpec.ofChange tcpReadsWrong)

/-- 'lychlaw5.TcpBack': WHATEVER THE INPUT: true; the input reads as it did. -/
def tcpBackSpec : ChangeSpec := { name := "tcpBack", fn := fun _ => fun
  | [d] => { results := [.lit (.bool true)], args := [d] }
  | _ => none }
def tcpBackRow : OpenClaim := { program := "ytemljieghamegaa", sum := "38b4b053fd7aefe3e3e8e8e271518d6dd7d0002c5997eee5f8db130e19f789c8", func := "lych/lychlaw5.TcpBack", spec := "tcpBack", apart := false }
def TcpBackSaid : Prop := tcpBackRow.holds Try.pinned (OpenSpec.ofChange tcpBackSpec)

/-- ITS FALSE NEIGHBOUR: 'it returns false'. Refute it at one input. -/
def tcpBackWrong : ChangeSpec := { name := "tcpBack", fn := fun _ => fun
  | [d] => { results := [.lit (.bool false)], args := [d] }
  | _ => none }
def TcpBackWrongFalsely : Prop := tcpBackRow.holds Try.pinned (OpenSpec.ofChange tcpBackWrong)

/-- 'lychlaw5.TcpSums': WHATEVER THE INPUT: true; the input reads as it did. -/
def tcpSumsSpec : ChangeSpec := { name := "tcpSums", fn := fun _ => fun
  | [d1, d2, d3, d4] => { results := [.lit (.bool true)], args := [d1, d2, d3, d4] }
  | _ => none }
def tcpSumsRow : OpenClaim := { program := "ytemljieghamegaa", sum := "38b4b053fd7aefe3e3e8e8e271518d6dd7d0002c5997eee5f8db130e19f789c8", func := "lych/lychlaw5.TcpSums", spec := "tcpSums", apart := false }
def TcpSumsSaid : Prop := tcpSumsRow.holds Try.pinned (OpenSpec.ofChange tcpSumsSpec)

/-- ITS FALSE NEIGHBOUR: 'it returns false'. Refute it at one input. -/
def tcpSumsWrong : ChangeSpec := { name := "tcpSums", fn := fun _ => fun
  | [d1, d2, d3, d4] => { results := [.lit (.bool false)], args := [d1, d2, d3, d4] }
  | _ => none }
def TcpSumsWrongFalsely : Prop := tcpSumsRow.holds Try.pinned (OpenSpec.ofChange tcpSumsWrong)

/-- 'lychlaw5.TcpGreat': WHATEVER THE INPUT: true; the input reads as it did. -/
def tcpGreatSpec : ChangeSpec := { name := "tcpGreat", fn := fun _ => fun
  | [d] => { results := [.lit (.bool true)], args := [d] }
  | _ => none }
def tcpGreatRow : OpenClaim := { program := "ytemljieghamegaa", sum := "38b4b053fd7aefe3e3e8e8e271518d6dd7d0002c5997eee5f8db130e19f789c8", func := "lych/lychlaw5.TcpGreat", spec := "tcpGreat", apart := false }
def TcpGreatSaid : Prop := tcpGreatRow.holds Try.pinned (OpenSpec.ofChange tcpGreatSpec)

/-- ITS FALSE NEIGHBOUR: 'it returns false'. Refute it at one input. -/
def tcpGreatWrong : ChangeSpec := { name := "tcpGreat", fn := fun _ => fun
  | [d] => { results := [.lit (.bool false)], args := [d] }
  | _ => none }
def TcpGreatWrongFalsely : Prop := tcpGreatRow.holds Try.pinned (OpenSpec.ofChange tcpGreatWrong)

/-- 'lychlaw5.TcpHeads': WHATEVER THE INPUT: true; the input reads as it did. -/
def tcpHeadsSpec : ChangeSpec := { name := "tcpHeads", fn := fun _ => fun
  | [d1, d2, d3] => { results := [.lit (.bool true)], args := [d1, d2, d3] }
  | _ => none }
def tcpHeadsRow : OpenClaim := { program := "ytemljieghamegaa", sum := "38b4b053fd7aefe3e3e8e8e271518d6dd7d0002c5997eee5f8db130e19f789c8", func := "lych/lychlaw5.TcpHeads", spec := "tcpHeads", apart := false }
def TcpHeadsSaid : Prop := tcpHeadsRow.holds Try.pinned (OpenSpec.ofChange tcpHeadsSpec)

/-- ITS FALSE NEIGHBOUR: 'it returns false'. Refute it at one input. -/
def tcpHeadsWrong : ChangeSpec := { name := "tcpHeads", fn := fun _ => fun
  | [d1, d2, d3] => { results := [.lit (.bool false)], args := [d1, d2, d3] }
  | _ => none }
def TcpHeadsWrongFalsely : Prop := tcpHeadsRow.holds Try.pinned (OpenSpec.ofChange tcpHeadsWrong)

/- THE SECOND FORM. 'bulk': how many values and letters a reading holds, each counted each time it is reached (what is shared counts as often as it is met; a slice's spare places count too). A statement '..UptoSaid' is the law's where the arguments, and the package variables that the reading takes, are together of bulk at most 1048576: NARROWER than '..Said'. Prove '..Said' where nothing that the law and all that it calls make is longer than what came in: it says more and counts as full. Else prove '..UptoSaid'. A law counts once. -/
mutual
def uptoBulk {H : Type} : DataW H → Nat
  | .lit (.string bytes) => bytes.length + 1
  | .lit _ => 1
  | .nil => 1
  | .ptr d => uptoBulk d + 1
  | .slice elems spare => uptoBulkAll elems + uptoBulkAll spare + 1
  | .agg parts => uptoBulkAll parts + 1
  | .iface _ d => uptoBulk d + 1
  | .map entries => uptoBulkEntries entries + 1
  | .held _ => 1
def uptoBulkAll {H : Type} : List (DataW H) → Nat
  | [] => 0
  | d :: r => uptoBulk d + uptoBulkAll r
def uptoBulkEntries {H : Type} : List (Lit × DataW H) → Nat
  | [] => 0
  | x :: r => uptoBulkEntry x + uptoBulkEntries r
def uptoBulkEntry {H : Type} : Lit × DataW H → Nat
  | (.string bytes, d) => bytes.length + uptoBulk d + 1
  | (_, d) => uptoBulk d + 1
 end
def uptoSmall : (H : Type) → List (DataW H) → Bool := fun _ ds => decide (uptoBulkAll ds ≤ 1048576)
def OpenSpec.upto (s : _root_.Go.ChangeSpec) : _root_.Go.OpenSpec := { _root_.Go.OpenSpec.ofChange s with cond := some uptoSmall }

/-- 'lychlaw5.TcpReads', WHERE WHAT IT READS IS OF BULK AT MOST 1048576: true; the input reads as it did. -/
def tcpReadsUptoRow : OpenClaim := { program := "ytemljieghamegaa", sum := "38b4b053fd7aefe3e3e8e8e271518d6dd7d0002c5997eee5f8db130e19f789c8", func := "lych/lychlaw5.TcpReads", spec := "tcpReads", apart := false, narrowed := true }
def TcpReadsUptoSaid : Prop := tcpReadsUptoRow.holds Try.pinned (OpenSpec.upto tcpReadsSpec)

/-- 'lychlaw5.TcpBack', WHERE WHAT IT READS IS OF BULK AT MOST 1048576: true; the input reads as it did. -/
def tcpBackUptoRow : OpenClaim := { program := "ytemljieghamegaa", sum := "38b4b053fd7aefe3e3e8e8e271518d6dd7d0002c5997eee5f8db130e19f789c8", func := "lych/lychlaw5.TcpBack", spec := "tcpBack", apart := false, narrowed := true }
def TcpBackUptoSaid : Prop := tcpBackUptoRow.holds Try.pinned (OpenSpec.upto tcpBackSpec)

/-- 'lychlaw5.TcpSums', WHERE WHAT IT READS IS OF BULK AT MOST 1048576: true; the input reads as it did. -/
def tcpSumsUptoRow : OpenClaim := { program := "ytemljieghamegaa", sum := "38b4b053fd7aefe3e3e8e8e271518d6dd7d0002c5997eee5f8db130e19f789c8", func := "lych/lychlaw5.TcpSums", spec := "tcpSums", apart := false, narrowed := true }
def TcpSumsUptoSaid : Prop := tcpSumsUptoRow.holds Try.pinned (OpenSpec.upto tcpSumsSpec)

/-- 'lychlaw5.TcpGreat', WHERE WHAT IT READS IS OF BULK AT MOST 1048576: true; the input reads as it did. -/
def tcpGreatUptoRow : OpenClaim := { program := "ytemljieghamegaa", sum := "38b4b053fd7aefe3e3e8e8e271518d6dd7d0002c5997eee5f8db130e19f789c8", func := "lych/lychlaw5.TcpGreat", spec := "tcpGreat", apart := false, narrowed := true }
def TcpGreatUptoSaid : Prop := tcpGreatUptoRow.holds Try.pinned (OpenSpec.upto tcpGreatSpec)

/-- 'lychlaw5.TcpHeads', WHERE WHAT IT READS IS OF BULK AT MOST 1048576: true; the input reads as it did. -/
def tcpHeadsUptoRow : OpenClaim := { program := "ytemljieghamegaa", sum := "38b4b053fd7aefe3e3e8e8e271518d6dd7d0002c5997eee5f8db130e19f789c8", func := "lych/lychlaw5.TcpHeads", spec := "tcpHeads", apart := false, narrowed := true }
def TcpHeadsUptoSaid : Prop := tcpHeadsUptoRow.holds Try.pinned (OpenSpec.upto tcpHeadsSpec)

end Rows
end Go.Proofs.Ytemljieghamegaa
