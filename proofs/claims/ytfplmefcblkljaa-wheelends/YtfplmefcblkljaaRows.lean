/-
  No cell of these rows narrows 'for every input' (looked for: loops, veiled, ifaces, maps, wideKeys, modest, calm, conditions, laid).
  DERIVED. THE GIVEN ROWS OF THIS SEAT. 4 by the template 'for every input the law returns true; each argument reads behind the call as it read before'; 0 by the template 'total and deterministic' (their statements: YtfplmefcblkljaaTotals.lean).
  GIVEN WITH THE SEED: the statements are not yours to turn. If you find one false, say at which input.
  Laid BY PROGRAM, IN A SANDBOX (cutbox-rows.mjs): the forced cells as the released guide's own fill.sh prints them over the translation e657acd9c19d7732… (all of the seat's roots in one cut). By AI agents, Wed Nov 11 2026. No macro, syntax, notation, axiom, sorry.
-/
import Derived.Test.YtfplmefcblkljaaChecked
import GoSem.Claim
import GoSem.ClaimJoined
import GoSem.ClaimMapViews
import Derived.JoinedTies
import Derived.KernelRfl
namespace Go.Proofs.Ytfplmefcblkljaa
/- THE CELL 'sum', in the pinned program and in every row, IS THE sha256 OF THE DUMP (.gsa) THAT YtfplmefcblkljaaProg.lean LOADS. Nothing in Lean hashes anything: it is a label: what it is worth is what the hold of that sum in a sandbox is worth. -/
noncomputable def Try.pinned : Pinned := { name := "ytfplmefcblkljaa", sum := "e657acd9c19d7732e94179052e775e7a8e1198976f3fca2bf5fcb546e5a78656", checked := Try.checked }
namespace Rows
def none {H : Type} : Left H := { results := [], args := [] }

/-- 'lychlaw18.WheelPlays': WHATEVER THE INPUT: true; the input reads as it did. -/
def wheelPlaysSpec : ChangeSpec := { name := "wheelPlays", fn := fun _ => fun
  | [d1, d2] => { results := [.lit (.bool true)], args := [d1, d2] }
  | _ => none }
def wheelPlaysRow : OpenClaim := { program := "ytfplmefcblkljaa", sum := "e657acd9c19d7732e94179052e775e7a8e1198976f3fca2bf5fcb546e5a78656", func := "lych/lychlaw18.WheelPlays", spec := "wheelPlays", unfollowed := true, recurses := true, apart := false }
def WheelPlaysSaid : Prop := wheelPlaysRow.holds Try.pinned (OpenSpec.ofChange wheelPlaysSpec)

/-- ITS FALSE NEIGHBOUR: 'it returns false'. Refute it at one input. -/
def wheelPlaysWrong : ChangeSpec := { name := "wheelPlays", fn := fun _ => fun
  | [d1, d2] => { results := [.lit (.bool false)], args := [d1, d2] }
  | _ => none }
def WheelPlaysWrongFalsely : Prop := wheelPlaysRow.holds Try.pinned (OpenSpec.ofChange wheelPlaysWrong)

/-- 'lychlaw18.WheelOnce': WHATEVER THE INPUT: true; the input reads as it did. -/
def wheelOnceSpec : ChangeSpec := { name := "wheelOnce", fn := fun _ => fun
  | [d1, d2] => { results := [.lit (.bool true)], args := [d1, d2] }
  | _ => none }
def wheelOnceRow : OpenClaim := { program := "ytfplmefcblkljaa", sum := "e657acd9c19d7732e94179052e775e7a8e1198976f3fca2bf5fcb546e5a78656", func := "lych/lychlaw18.WheelOnce", spec := "wheelOnce", unfollowed := true, recurses := true, apart := false }
def WheelOnceSaid : Prop := wheelOnceRow.holds Try.pinned (OpenSpec.ofChange wheelOnceSpec)

/-- ITS FALSE NEIGHBOUR: 'it returns false'. Refute it at one input. -/
def wheelOnceWrong : ChangeSpec := { name := "wheelOnce", fn := fun _ => fun
  | [d1, d2] => { results := [.lit (.bool false)], args := [d1, d2] }
  | _ => none }
def WheelOnceWrongFalsely : Prop := wheelOnceRow.holds Try.pinned (OpenSpec.ofChange wheelOnceWrong)

/-- 'lychlaw18.WheelEnds': WHATEVER THE INPUT: true; the input reads as it did. -/
def wheelEndsSpec : ChangeSpec := { name := "wheelEnds", fn := fun _ => fun
  | [d1, d2] => { results := [.lit (.bool true)], args := [d1, d2] }
  | _ => none }
def wheelEndsRow : OpenClaim := { program := "ytfplmefcblkljaa", sum := "e657acd9c19d7732e94179052e775e7a8e1198976f3fca2bf5fcb546e5a78656", func := "lych/lychlaw18.WheelEnds", spec := "wheelEnds", unfollowed := true, recurses := true, apart := false }
def WheelEndsSaid : Prop := wheelEndsRow.holds Try.pinned (OpenSpec.ofChange wheelEndsSpec)

/-- ITS FALSE NEIGHBOUR: 'it returns false'. Refute it at one input. -/
def wheelEndsWrong : ChangeSpec := { name := "wheelEnds", fn := fun _ => fun
  | [d1, d2] => { results := [.lit (.bool false)], args := [d1, d2] }
  | _ => none }
def WheelEndsWrongFalsely : Prop := wheelEndsRow.holds Try.pinned (OpenSpec.ofChange wheelEndsWrong)

/-- 'lychlaw18.WheelMoves': WHATEVER THE INPUT: true; the input reads as it did. -/
def wheelMovesSpec : ChangeSpec := { name := "wheelMoves", fn := fun _ => fun
  | [d1, d2] => { results := [.lit (.bool true)], args := [d1, d2] }
  | _ => none }
def wheelMovesRow : OpenClaim := { program := "ytfplmefcblkljaa", sum := "e657acd9c19d7732e94179052e775e7a8e1198976f3fca2bf5fcb546e5a78656", func := "lych/lychlaw18.WheelMoves", spec := "wheelMoves", unfollowed := true, recurses := true, apart := false }
def WheelMovesSaid : Prop := wheelMovesRow.holds Try.pinned (OpenSpec.ofChange wheelMovesSpec)

/-- ITS FALSE NEIGHBOUR: 'it returns false'. Refute it at one input. -/
def wheelMovesWrong : ChangeSpec := { name := "wheelMoves", fn := fun _ => fun
  | [d1, d2] => { results := [.lit (.bool false)], args := [d1, d2] }
  | _ => none }
def WheelMovesWrongFalsely : Prop := wheelMovesRow.holds Try.pinned (OpenSpec.ofChange wheelMovesWrong)

/- THE SECOND FORM. 'bulk': how many values and letters a reading holds, each counted each time it is reached (what is shared counts as often as it is met; a slice's spare places count too). A statement '..UptoSaid' is the law's where the arguments, and the package variables that the reading takes, are together of bulk at most 1048576: NARROWER than '..Said'. Prove '..Said' where nothing that the law and all that it calls make is longer than what came in: it says more and counts as full. Else prove '..UptoSaid'. A law counts once. -/
mutual
def uptoBulk {H : Type} : DataW H → Nat
  | .lit (.string bytes) => bytes.length + 1
  | .lit _ => 1
  | .nil => 1
  | .ptr d => uptoBulk d + 1
  | .slice elems spare => uptoBulkAll elems + uptoBulkAll spare + 1
  | .agg parts => uptoBulkAll parts + 1
  | .iface _ d => uptoBulk d + 1
  | .map entries => uptoBulkEntries entries + 1
  | .held _ => 1
def uptoBulkAll {H : Type} : List (DataW H) → Nat
  | [] => 0
  | d :: r => uptoBulk d + uptoBulkAll r
def uptoBulkEntries {H : Type} : List (Lit × DataW H) → Nat
  | [] => 0
  | x :: r => uptoBulkEntry x + uptoBulkEntries r
def uptoBulkEntry {H : Type} : Lit × DataW H → Nat
  | (.string bytes, d) => bytes.length + uptoBulk d + 1
  | (_, d) => uptoBulk d + 1
 end
def uptoSmall : (H : Type) → List (DataW H) → Bool := fun _ ds => decide (uptoBulkAll ds ≤ 1048576)
def OpenSpec.upto (s : _root_.Go.ChangeSpec) : _root_.Go.OpenSpec := { _root_.Go.OpenSpec.ofChange s with cond := some uptoSmall }

/-- 'lychlaw18.WheelPlays', WHERE WHAT IT READS IS OF BULK AT MOST 1048576: true; the input reads as it did. -/
def wheelPlaysUptoRow : OpenClaim := { program := "ytfplmefcblkljaa", sum := "e657acd9c19d7732e94179052e775e7a8e1198976f3fca2bf5fcb546e5a78656", func := "lych/lychlaw18.WheelPlays", spec := "wheelPlays", unfollowed := true, recurses := true, apart := false, narrowed := true }
def WheelPlaysUptoSaid : Prop := wheelPlaysUptoRow.holds Try.pinned (OpenSpec.upto wheelPlaysSpec)

/-- 'lychlaw18.WheelOnce', WHERE WHAT IT READS IS OF BULK AT MOST 1048576: true; the input reads as it did. -/
def wheelOnceUptoRow : OpenClaim := { program := "ytfplmefcblkljaa", sum := "e657acd9c19d7732e94179052e775e7a8e1198976f3fca2bf5fcb546e5a78656", func := "lych/lychlaw18.WheelOnce", spec := "wheelOnce", unfollowed := true, recurses := true, apart := false, narrowed := true }
def WheelOnceUptoSaid : Prop := wheelOnceUptoRow.holds Try.pinned (OpenSpec.upto wheelOnceSpec)

/-- 'lychlaw18.WheelEnds', WHERE WHAT IT READS IS OF BULK AT MOST 1048576: true; the input reads as it did. -/
def wheelEndsUptoRow : OpenClaim := { program := "ytfplmefcblkljaa", sum := "e657acd9c19d7732e94179052e775e7a8e1198976f3fca2bf5fcb546e5a78656", func := "lych/lychlaw18.WheelEnds", spec := "wheelEnds", unfollowed := true, recurses := true, apart := false, narrowed := true }
def WheelEndsUptoSaid : Prop := wheelEndsUptoRow.holds Try.pinned (OpenSpec.upto wheelEndsSpec)

/-- 'lychlaw18.WheelMoves', WHERE WHAT IT READS IS OF BULK AT MOST 1048576: true; the input reads as it did. -/
def wheelMovesUptoRow : OpenClaim := { program := "ytfplmefcblkljaa", sum := "e657acd9c19d7732e94179052e775e7a8e1198976f3fca2bf5fcb546e5a78656", func := "lych/lychlaw18.WheelMoves", spec := "wheelMoves", unfollowed := true, recurses := true, apart := false, narrowed := true }
def WheelMovesUptoSaid : Prop := wheelMovesUptoRow.holds Try.pinned (OpenSpec.upto wheelMovesSpec)

end Rows
end Go.Proofs.Ytfplmefcblkljaa
