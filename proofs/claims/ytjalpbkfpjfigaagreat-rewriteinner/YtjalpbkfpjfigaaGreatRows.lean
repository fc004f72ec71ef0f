/-
  No cell of these rows narrows 'for every input' (looked for: loops, veiled, ifaces, maps, wideKeys, modest, calm, conditions, laid).
  DERIVED. THE GIVEN ROWS OF THIS SEAT. 3 by the template 'for every input the law returns true; each argument reads behind the call as it read before'; 0 by the template 'total and deterministic' (their statements: YtjalpbkfpjfigaaGreatTotals.lean).
  GIVEN WITH THE SEED: the statements are not yours to turn. If you find one false, say at which input.
  Laid BY PROGRAM, IN A SANDBOX (cutbox-rows.mjs): the forced cells as the released guide's own fill.sh prints them over the translation 386fbb02eeb8bd93… (all of the seat's roots in one cut). By AI agents, Wed Nov 11 2026. No macro, syntax, notation, axiom, sorry.
-/
import Derived.Test.YtjalpbkfpjfigaaGreatChecked
import GoSem.Claim
import GoSem.ClaimJoined
import GoSem.ClaimMapViews
import Derived.JoinedTies
import Derived.KernelRfl
namespace Go.Proofs.YtjalpbkfpjfigaaGreat
/- THE CELL 'sum', in the pinned program and in every row, IS THE sha256 OF THE DUMP (.gsa) THAT YtjalpbkfpjfigaaGreatProg.lean LOADS. Nothing in Lean hashes anything: it is a label: what it is worth is what the hold of that sum in a sandbox is worth. -/
noncomputable def Tryz.pinned : Pinned := { name := "ytjalpbkfpjfigaagreat", sum := "386fbb02eeb8bd9383474b478233b6877f9507c7ac1fd249a271f8d89c59a161", checked := Tryz.checked }
namespace Rows
def none {H : Type} : Left H := { results := [], args := [] }

/-- 'lychlaw8.RewriteLooks': WHATEVER THE INPUT: true; the input reads as it did. -/
def rewriteLooksSpec : ChangeSpec := { name := "rewriteLooks", fn := fun _ => fun
  | [d1, d2, d3, d4] => { results := [.lit (.bool true)], args := [d1, d2, d3, d4] }
  | _ => none }
def rewriteLooksRow : OpenClaim := { program := "ytjalpbkfpjfigaagreat", sum := "386fbb02eeb8bd9383474b478233b6877f9507c7ac1fd249a271f8d89c59a161", func := "lych/lychlaw8.RewriteLooks", spec := "rewriteLooks", unfollowed := true, recurses := true, apart := false }
def RewriteLooksSaid : Prop := rewriteLooksRow.holds Tryz.pinned (OpenSpec.ofChange rewriteLooksSpec)

/-- ITS FALSE NEIGHBOUR: 'it returns false'. Refute it at one input. -/
def rewriteLooksWrong : ChangeSpec := { name := "rewriteLooks", fn := fun _ => fun
  | [d1, d2, d3, d4] => { results := [.lit (.bool false)], args := [d1, d2, d3, d4] }
  | _ => none }
def RewriteLooksWrongFalsely : Prop := rewriteLooksRow.holds Tryz.pinned (OpenSpec.ofChange rewriteLooksWrong)

/-- 'lychlaw8.RewriteChanges': WHATEVER THE INPUT: true; the input reads as it did. -/
def rewriteChangesSpec : ChangeSpec := { name := "rewriteChanges", fn := fun _ => fun
  | [d1, d2, d3, d4] => { results := [.lit (.bool true)], args := [d1, d2, d3, d4] }
  | _ => none }
def rewriteChangesRow : OpenClaim := { program := "ytjalpbkfpjfigaagreat", sum := "386fbb02eeb8bd9383474b478233b6877f9507c7ac1fd249a271f8d89c59a161", func := "lych/lychlaw8.RewriteChanges", spec := "rewriteChanges", unfollowed := true, recurses := true, apart := false }
def RewriteChangesSaid : Prop := rewriteChangesRow.holds Tryz.pinned (OpenSpec.ofChange rewriteChangesSpec)

/-- ITS FALSE NEIGHBOUR: 'it returns false'. Refute it at one input. -/
def rewriteChangesWrong : ChangeSpec := { name := "rewriteChanges", fn := fun _ => fun
  | [d1, d2, d3, d4] => { results := [.lit (.bool false)], args := [d1, d2, d3, d4] }
  | _ => none }
def RewriteChangesWrongFalsely : Prop := rewriteChangesRow.holds Tryz.pinned (OpenSpec.ofChange rewriteChangesWrong)

/-- 'lychlaw8.RewriteInner': WHATEVER THE INPUT: true; the input reads as it did. -/
def rewriteInnerSpec : ChangeSpec := { name := "rewriteInner", fn := fun _ => fun
  | [d1, d2, d3, d4, d5] => { results := [.lit (.bool true)], args := [d1, d2, d3, d4, d5] }
  | _ => none }
def rewriteInnerRow : OpenClaim := { program := "ytjalpbkfpjfigaagreat", sum := "386fbb02eeb8bd9383474b478233b6877f9507c7ac1fd249a271f8d89c59a161", func := "lych/lychlaw8.RewriteInner", spec := "rewriteInner", unfollowed := true, recurses := true, apart := false }
def RewriteInnerSaid : Prop := rewriteInnerRow.holds Tryz.pinned (OpenSpec.ofChange rewriteInnerSpec)

/-- ITS FALSE NEIGHBOUR: 'it returns false'. Refute it at one input. -/
def rewriteInnerWrong : ChangeSpec := { name := "rewriteInner", fn := fun _ => fun
  | [d1, d2, d3, d4, d5] => { results := [.lit (.bool false)], args := [d1, d2, d3, d4, d5] }
  | _ => none }
def RewriteInnerWrongFalsely : Prop := rewriteInnerRow.holds Tryz.pinned (OpenSpec.ofChange rewriteInnerWrong)

/- THE SECOND FORM. 'bulk': how many values and letters a reading holds, each counted each time it is reached (what is shared counts as often as it is met; a slice's spare places count too). A statement '..UptoSaid' is the law's where the arguments, and the package variables that the reading takes, are together of bulk at most 1048576: NARROWER than '..Said'. Prove '..Said' where nothing that the law and all that it calls make is longer than what came in: it says more and counts as full. Else prove '..UptoSaid'. A law counts once. -/
mutual
def uptoBulk {H : Type} : DataW H → Nat
  | .lit (.string bytes) => bytes.length + 1
  | .lit _ => 1
  | .nil => 1
  | .ptr d => uptoBulk d + 1
  | .slice elems spare => uptoBulkAll elems + uptoBulkAll spare + 1
  | .agg parts => uptoBulkAll parts + 1
  | .iface _ d => uptoBulk d + 1
  | .map entries => uptoBulkEntries entries + 1
  | .held _ => 1
def uptoBulkAll {H : Type} : List (DataW H) → Nat
  | [] => 0
  | d :: r => uptoBulk d + uptoBulkAll r
def uptoBulkEntries {H : Type} : List (Lit × DataW H) → Nat
  | [] => 0
  | x :: r => uptoBulkEntry x + uptoBulkEntries r
def uptoBulkEntry {H : Type} : Lit × DataW H → Nat
  | (.string bytes, d) => bytes.length + uptoBulk d + 1
  | (_, d) => uptoBulk d + 1
 end
def uptoSmall : (H : Type) → List (DataW H) → Bool := fun _ ds => decide (uptoBulkAll ds ≤ 1048576)
def OpenSpec.upto (s : _root_.Go.ChangeSpec) : _root_.Go.OpenSpec := { _root_.Go.OpenSpec.ofChange s with cond := some uptoSmall }

/-- 'lychlaw8.RewriteLooks', WHERE WHAT IT READS IS OF BULK AT MOST 1048576: true; the input reads as it did. -/
def rewriteLooksUptoRow : OpenClaim := { program := "ytjalpbkfpjfigaagreat", sum := "386fbb02eeb8bd9383474b478233b6877f9507c7ac1fd249a271f8d89c59a161", func := "lych/lychlaw8.RewriteLooks", spec := "rewriteLooks", unfollowed := true, recurses := true, apart := false, narrowed := true }
def RewriteLooksUptoSaid : Prop := rewriteLooksUptoRow.holds Tryz.pinned (OpenSpec.upto rewriteLooksSpec)

/-- 'lychlaw8.RewriteChanges', WHERE WHAT IT READS IS OF BULK AT MOST 1048576: true; the input reads as it did. -/
def rewriteChangesUptoRow : OpenClaim := { program := "ytjalpbkfpjfigaagreat", sum := "386fbb02eeb8bd9383474b478233b6877f9507c7ac1fd249a271f8d89c59a161", func := "lych/lychlaw8.RewriteChanges", spec := "rewriteChanges", unfollowed := true, recurses := true, apart := false, narrowed := true }
def RewriteChangesUptoSaid : Prop := rewriteChangesUptoRow.holds Tryz.pinned (OpenSpec.upto rewriteChangesSpec)

/-- 'lychlaw8.RewriteInner', WHERE WHAT IT READS IS OF BULK AT MOST 1048576: true; the input reads as it did. -/
def rewriteInnerUptoRow : OpenClaim := { program := "ytjalpbkfpjfigaagreat", sum := "386fbb02eeb8bd9383474b478233b6877f9507c7ac1fd249a271f8d89c59a161", func := "lych/lychlaw8.RewriteInner", spec := "rewriteInner", unfollowed := true, recurses := true, apart := false, narrowed := true }
def RewriteInnerUptoSaid : Prop := rewriteInnerUptoRow.holds Tryz.pinned (OpenSpec.upto rewriteInnerSpec)

end Rows
end Go.Proofs.YtjalpbkfpjfigaaGreat
