/-
  No cell of these rows narrows 'for every input' (looked for: loops, veiled, ifaces, maps, wideKeys, modest, calm, conditions, laid).
  DERIVED. THE GIVEN ROWS OF THIS SEAT. 3 by the template 'for every input the law returns true; each argument reads behind the call as it read before'; 0 by the template 'total and deterministic' (their statements: YtjalpbkfpjfigaaTotals.lean).
  GIVEN WITH THE SEED: the statements are not yours to turn. If you find one false, say at which input.
  Laid BY PROGRAM, IN A SANDBOX (cutbox-rows.mjs): the forced cells as the released guide's own fill.sh prints them over the translation 1f7bf45a4111b2b9… (all of the seat's roots in one cut). By AI agents, Wed Nov 11 2026. No macro, syntax, notation, axiom, sorry.
-/
import Derived.Test.YtjalpbkfpjfigaaChecked
import GoSem.Claim
import GoSem.ClaimJoined
import GoSem.ClaimMapViews
import Derived.JoinedTies
import Derived.KernelRfl
namespace Go.Proofs.Ytjalpbkfpjfigaa
/- THE CELL 'sum', in the pinned program and in every row, IS THE sha256 OF THE DUMP (.gsa) THAT YtjalpbkfpjfigaaProg.lean LOADS. Nothing in Lean hashes anything: it is a label: what it is worth is what the hold of that sum in a sandbox is worth. -/
noncomputable def Try.pinned : Pinned := { name := "ytjalpbkfpjfigaa", sum := "1f7bf45a4111b2b9614b6c1d1f527ca77b8f93fe1ebd5e2ccc5a886cc4a783b1", checked := Try.checked }
namespace Rows
def none {H : Type} : Left H := { results := [], args := [] }

/-- 'lychlaw8.RewriteHops': WHATEVER THE INPUT: true; the input reads as it did. -/
def rewriteHopsSpec : ChangeSpec := { name := "rewriteHops", fn := fun _ => fun
  | [d1, d2, d3] => { results := [.lit (.bool true)], args := [d1, d2, d3] }
  | _ => none }
def rewriteHopsRow : OpenClaim := { program := "ytjalpbkfpjfigaa", sum := "1f7bf45a4111b2b9614b6c1d1f527ca77b8f93fe1ebd5e2ccc5a886cc4a783b1", func := "lych/lychlaw8.RewriteHops", spec := "rewriteHops", unfollowed := true, recurses := true, apart := false }
def RewriteHopsSaid : Prop := rewriteHopsRow.holds Try.pinned (OpenSpec.ofChange rewriteHopsSpec)

/-- ITS FALSE NEIGHBOUR: 'it returns false'. Refute it at one input. -/
def rewriteHopsWrong : ChangeSpec := { name := "rewriteHops", fn := fun _ => fun
  | [d1, d2, d3] => { results := [.lit (.bool false)], args := [d1, d2, d3] }
  | _ => none }
def RewriteHopsWrongFalsely : Prop := rewriteHopsRow.holds Try.pinned (OpenSpec.ofChange rewriteHopsWrong)

/-- 'lychlaw8.RewriteBack': WHATEVER THE INPUT: true; the input reads as it did. -/
def rewriteBackSpec : ChangeSpec := { name := "rewriteBack", fn := fun _ => fun
  | [d1, d2, d3, d4] => { results := [.lit (.bool true)], args := [d1, d2, d3, d4] }
  | _ => none }
def rewriteBackRow : OpenClaim := { program := "ytjalpbkfpjfigaa", sum := "1f7bf45a4111b2b9614b6c1d1f527ca77b8f93fe1ebd5e2ccc5a886cc4a783b1", func := "lych/lychlaw8.RewriteBack", spec := "rewriteBack", unfollowed := true, recurses := true, apart := false }
def RewriteBackSaid : Prop := rewriteBackRow.holds Try.pinned (OpenSpec.ofChange rewriteBackSpec)

/-- ITS FALSE NEIGHBOUR: 'it returns false'. Refute it at one input. -/
def rewriteBackWrong : ChangeSpec := { name := "rewriteBack", fn := fun _ => fun
  | [d1, d2, d3, d4] => { results := [.lit (.bool false)], args := [d1, d2, d3, d4] }
  | _ => none }
def RewriteBackWrongFalsely : Prop := rewriteBackRow.holds Try.pinned (OpenSpec.ofChange rewriteBackWrong)

/-- 'lychlaw8.RewriteKeeps': WHATEVER THE INPUT: true; the input reads as it did. -/
def rewriteKeepsSpec : ChangeSpec := { name := "rewriteKeeps", fn := fun _ => fun
  | [d1, d2, d3, d4] => { results := [.lit (.bool true)], args := [d1, d2, d3, d4] }
  | _ => none }
def rewriteKeepsRow : OpenClaim := { program := "ytjalpbkfpjfigaa", sum := "1f7bf45a4111b2b9614b6c1d1f527ca77b8f93fe1ebd5e2ccc5a886cc4a783b1", func := "lych/lychlaw8.RewriteKeeps", spec := "rewriteKeeps", unfollowed := true, recurses := true, apart := false }
def RewriteKeepsSaid : Prop := rewriteKeepsRow.holds Try.pinned (OpenSpec.ofChange rewriteKeepsSpec)

/-- ITS FALSE NEIGHBOUR: 'it returns false'. Refute it at one input. -/
def rewriteKeepsWrong : ChangeSpec := { name := "rewriteKeeps", fn := fun _ => fun
  | [d1, d2, d3, d4] => { results := [.lit (.bool false)], args := [d1, d2, d3, d4] }
  | _ => none }
def RewriteKeepsWrongFalsely : Prop := rewriteKeepsRow.holds Try.pinned (OpenSpec.ofChange rewriteKeepsWrong)

/- THE SECOND FORM. 'bulk': how many values and letters a reading holds, each counted each time it is reached (what is shared counts as often as it is met; a slice's spare places count too). A statement '..UptoSaid' is the law's where the arguments, and the package variables that the reading takes, are together of bulk at most 1048576: NARROWER than '..Said'. Prove '..Said' where nothing that the law and all that it calls make is longer than what came in: it says more and counts as full. Else prove '..UptoSaid'. A law counts once. -/
mutual
def uptoBulk {H : Type} : DataW H → Nat
  | .lit (.string bytes) => bytes.length + 1
  | .lit _ => 1
  | .nil => 1
  | .ptr d => uptoBulk d + 1
  | .slice elems spare => uptoBulkAll elems + uptoBulkAll spare + 1
  | .agg parts => uptoBulkAll parts + 1
  | .iface _ d => uptoBulk d + 1
  | .map entries => uptoBulkEntries entries + 1
  | .held _ => 1
def uptoBulkAll {H : Type} : List (DataW H) → Nat
  | [] => 0
  | d :: r => uptoBulk d + uptoBulkAll r
def uptoBulkEntries {H : Type} : List (Lit × DataW H) → Nat
  | [] => 0
  | x :: r => uptoBulkEntry x + uptoBulkEntries r
def uptoBulkEntry {H : Type} : Lit × DataW H → Nat
  | (.string bytes, d) => bytes.length + uptoBulk d + 1
  | (_, d) => uptoBulk d + 1
 end
def uptoSmall : (H : Type) → List (DataW H) → Bool := fun _ ds => decide (uptoBulkAll ds ≤ 1048576)
def OpenSpec.upto (s : _root_.Go.ChangeSpec) : _root_.Go.OpenSpec := { _root_.Go.OpenSpec.ofChange s with cond := some uptoSmall }

/-- 'lychlaw8.RewriteHops', WHERE WHAT IT READS IS OF BULK AT MOST 1048576: true; the input reads as it did. -/
def rewriteHopsUptoRow : OpenClaim := { program := "ytjalpbkfpjfigaa", sum := "1f7bf45a4111b2b9614b6c1d1f527ca77b8f93fe1ebd5e2ccc5a886cc4a783b1", func := "lych/lychlaw8.RewriteHops", spec := "rewriteHops", unfollowed := true, recurses := true, apart := false, narrowed := true }
def RewriteHopsUptoSaid : Prop := rewriteHopsUptoRow.holds Try.pinned (OpenSpec.upto rewriteHopsSpec)

/-- 'lychlaw8.RewriteBack', WHERE WHAT IT READS IS OF BULK AT MOST 1048576: true; the input reads as it did. -/
def rewriteBackUptoRow : OpenClaim := { program := "ytjalpbkfpjfigaa", sum := "1f7bf45a4111b2b9614b6c1d1f527ca77b8f93fe1ebd5e2ccc5a886cc4a783b1", func := "lych/lychlaw8.RewriteBack", spec := "rewriteBack", unfollowed := true, recurses := true, apart := false, narrowed := true }
def RewriteBackUptoSaid : Prop := rewriteBackUptoRow.holds Try.pinned (OpenSpec.upto rewriteBackSpec)

/-- 'lychlaw8.RewriteKeeps', WHERE WHAT IT READS IS OF BULK AT MOST 1048576: true; the input reads as it did. -/
def rewriteKeepsUptoRow : OpenClaim := { program := "ytjalpbkfpjfigaa", sum := "1f7bf45a4111b2b9614b6c1d1f527ca77b8f93fe1ebd5e2ccc5a886cc4a783b1", func := "lych/lychlaw8.RewriteKeeps", spec := "rewriteKeeps", unfollowed := true, recurses := true, apart := false, narrowed := true }
def RewriteKeepsUptoSaid : Prop := rewriteKeepsUptoRow.holds Try.pinned (OpenSpec.upto rewriteKeepsSpec)

end Rows
end Go.Proofs.Ytjalpbkfpjfigaa
