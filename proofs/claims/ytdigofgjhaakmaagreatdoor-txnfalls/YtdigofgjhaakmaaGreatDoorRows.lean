/-
  NARROWER THAN 'FOR EVERY INPUT', by the rows' own cells (each row's printed sentence says how): TxnPlays: laid · TxnFalls: laid · TxnChecks: laid · TxnVersions: laid · TxnStages: laid.
  DERIVED. THE GIVEN ROWS OF THIS SEAT. 5 by the template 'for every input the law returns true; each argument reads behind the call as it read before'; 0 by the template 'total and deterministic' (their statements: YtdigofgjhaakmaaGreatDoorTotals.lean).
  GIVEN WITH THE SEED: the statements are not yours to turn. If you find one false, say at which input.
  Laid BY PROGRAM, IN A SANDBOX (cutbox-rows.mjs): the forced cells as the released guide's own fill.sh prints them over the translation d2e193055a3c1ace… (all of the seat's roots in one cut). By AI agents, Wed Nov 11 2026. No macro, syntax, notation, axiom, sorry.
-/
import Derived.Test.YtdigofgjhaakmaaGreatDoorChecked
import GoSem.PinnedTables
import GoSem.Claim
import GoSem.ClaimJoined
import GoSem.ClaimMapViews
import Derived.JoinedTies
import Derived.KernelRfl
namespace Go.Proofs.YtdigofgjhaakmaaGreatDoor
/- THE CELL 'sum', in the pinned program and in every row, IS THE sha256 OF THE DUMP (.gsa) THAT YtdigofgjhaakmaaGreatDoorProg.lean LOADS. Nothing in Lean hashes anything: it is a label: what it is worth is what the hold of that sum in a sandbox is worth. -/
noncomputable def Tryz.pinned : Pinned := { name := "ytdigofgjhaakmaagreatdoor", sum := "d2e193055a3c1ace0a270c080cd3561d272af3dbe5fb1b209329f06e23d0bba9", checked := Tryz.checked }
namespace Rows
def none {H : Type} : Left H := { results := [], args := [] }

/- WHAT THE LISTED PACKAGE-LEVEL VARIABLES READ AS WHEN THE CALL BEGINS. Each datum BY PROGRAM (the guide's laid-datum.mjs) off the statement by which the dump's own 'gosem.cut.vars' lays the variable. In a bare row this is a premise. The card (YtdigofgjhaakmaaGreatDoorCards.lean) ties it to the program's text. -/
def laid_unicode_utf8_acceptRanges {H : Type} : DataW H := .agg [.agg [.lit (.int .u8 128), .lit (.int .u8 191)], .agg [.lit (.int .u8 160), .lit (.int .u8 191)], .agg [.lit (.int .u8 128), .lit (.int .u8 159)], .agg [.lit (.int .u8 144), .lit (.int .u8 191)], .agg [.lit (.int .u8 128), .lit (.int .u8 143)], .agg [.lit (.int .u8 0), .lit (.int .u8 0)], .agg [.lit (.int .u8 0), .lit (.int .u8 0)], .agg [.lit (.int .u8 0), .lit (.int .u8 0)], .agg [.lit (.int .u8 0), .lit (.int .u8 0)], .agg [.lit (.int .u8 0), .lit (.int .u8 0)], .agg [.lit (.int .u8 0), .lit (.int .u8 0)], .agg [.lit (.int .u8 0), .lit (.int .u8 0)], .agg [.lit (.int .u8 0), .lit (.int .u8 0)], .agg [.lit (.int .u8 0), .lit (.int .u8 0)], .agg [.lit (.int .u8 0), .lit (.int .u8 0)], .agg [.lit (.int .u8 0), .lit (.int .u8 0)]]
def laid_errors_errorType {H : Type} : DataW H := .iface "internal/reflectlite.rtype" (.agg [.ptr (.lit (.string [101, 114, 114, 111, 114]))])
def laid_lych_log_errNotWhole {H : Type} : DataW H := .iface "*errors.errorString" (.ptr (.agg [.lit (.string [97, 32, 98, 108, 111, 99, 107, 32, 116, 104, 97, 116, 32, 105, 115, 110, 39, 116, 32, 119, 104, 111, 108, 101])]))
/-- One of Go's own tables, pinned by name: the form's constant. -/
def laid_unicode_utf8_first : DataW Unit := Go.Pinned.utf8First

/-- 'lychlaw16.TxnPlays': WHATEVER THE INPUT: true; the input reads as it did. -/
def txnPlaysSpec : ChangeSpec := { name := "txnPlays", fn := fun _ => fun
  | [d] => { results := [.lit (.bool true)], args := [d] }
  | _ => none }
def txnPlaysRow : OpenClaim := { program := "ytdigofgjhaakmaagreatdoor", sum := "d2e193055a3c1ace0a270c080cd3561d272af3dbe5fb1b209329f06e23d0bba9", func := "lych/lychlaw16.TxnPlays", spec := "txnPlays", inPlace := ["internal/reflectlite.TypeOf", "internal/reflectlite.ValueOf", "(internal/reflectlite.Value).Type", "(internal/reflectlite.Value).IsNil", "(internal/reflectlite.Value).Elem", "(internal/reflectlite.Value).Set"], unfollowed := true, recurses := true, named := ["lych/log.errNotWhole", "errors.errorType", "unicode/utf8.first", "unicode/utf8.acceptRanges"], apart := false, laid := [("unicode/utf8.acceptRanges", laid_unicode_utf8_acceptRanges), ("errors.errorType", laid_errors_errorType), ("lych/log.errNotWhole", laid_lych_log_errNotWhole), ("unicode/utf8.first", laid_unicode_utf8_first)] }
def TxnPlaysSaid : Prop := txnPlaysRow.holds Tryz.pinned (OpenSpec.ofChange txnPlaysSpec)

/-- ITS FALSE NEIGHBOUR: 'it returns false'. Refute it at one input. -/
def txnPlaysWrong : ChangeSpec := { name := "txnPlays", fn := fun _ => fun
  | [d] => { results := [.lit (.bool false)], args := [d] }
  | _ => none }
def TxnPlaysWrongFalsely : Prop := txnPlaysRow.holds Tryz.pinned (OpenSpec.ofChange txnPlaysWrong)

/-- 'lychlaw16.TxnFalls': WHATEVER THE INPUT: true; the input reads as it did. -/
def txnFallsSpec : ChangeSpec := { name := "txnFalls", fn := fun _ => fun
  | [d1, d2, d3] => { results := [.lit (.bool true)], args := [d1, d2, d3] }
  | _ => none }
def txnFallsRow : OpenClaim := { program := "ytdigofgjhaakmaagreatdoor", sum := "d2e193055a3c1ace0a270c080cd3561d272af3dbe5fb1b209329f06e23d0bba9", func := "lych/lychlaw16.TxnFalls", spec := "txnFalls", inPlace := ["internal/reflectlite.TypeOf", "internal/reflectlite.ValueOf", "(internal/reflectlite.Value).Type", "(internal/reflectlite.Value).IsNil", "(internal/reflectlite.Value).Elem", "(internal/reflectlite.Value).Set"], unfollowed := true, recurses := true, named := ["lych/log.errNotWhole", "errors.errorType", "unicode/utf8.first", "unicode/utf8.acceptRanges"], apart := false, laid := [("unicode/utf8.acceptRanges", laid_unicode_utf8_acceptRanges), ("errors.errorType", laid_errors_errorType), ("lych/log.errNotWhole", laid_lych_log_errNotWhole), ("unicode/utf8.first", laid_unicode_utf8_first)] }
def TxnFallsSaid : Prop := txnFallsRow.holds Tryz.pinned (OpenSpec.ofChange txnFallsSpec)

/-- ITS FALSE NEIGHBOUR: 'it returns false'. Refute it at one input. -/
def txnFallsWrong : ChangeSpec := { name := "txnFalls", fn := fun _ => fun
  | [d1, d2, d3] => { results := [.lit (.bool false)], args := [d1, d2, d3] }
  | _ => none }
def TxnFallsWrongFalsely : Prop := txnFallsRow.holds Tryz.pinned (OpenSpec.ofChange txnFallsWrong)

/-- 'lychlaw16.TxnChecks': WHATEVER THE INPUT: true; the input reads as it did. -/
def txnChecksSpec : ChangeSpec := { name := "txnChecks", fn := fun _ => fun
  | [d] => { results := [.lit (.bool true)], args := [d] }
  | _ => none }
def txnChecksRow : OpenClaim := { program := "ytdigofgjhaakmaagreatdoor", sum := "d2e193055a3c1ace0a270c080cd3561d272af3dbe5fb1b209329f06e23d0bba9", func := "lych/lychlaw16.TxnChecks", spec := "txnChecks", inPlace := ["internal/reflectlite.TypeOf", "internal/reflectlite.ValueOf", "(internal/reflectlite.Value).Type", "(internal/reflectlite.Value).IsNil", "(internal/reflectlite.Value).Elem", "(internal/reflectlite.Value).Set"], unfollowed := true, recurses := true, named := ["lych/log.errNotWhole", "errors.errorType", "unicode/utf8.first", "unicode/utf8.acceptRanges"], apart := false, laid := [("unicode/utf8.acceptRanges", laid_unicode_utf8_acceptRanges), ("errors.errorType", laid_errors_errorType), ("lych/log.errNotWhole", laid_lych_log_errNotWhole), ("unicode/utf8.first", laid_unicode_utf8_first)] }
def TxnChecksSaid : Prop := txnChecksRow.holds Tryz.pinned (OpenSpec.ofChange txnChecksSpec)

/-- ITS FALSE NEIGHBOUR: 'it returns false'. Refute it at one input. -/
def txnChecksWrong : ChangeSpec := { name := "txnChecks", fn := fun _ => fun
  | [d] => { results := [.lit (.bool false)], args := [d] }
  | _ => none }
def TxnChecksWrongFalsely : Prop := txnChecksRow.holds Tryz.pinned (OpenSpec.ofChange txnChecksWrong)

/-- 'lychlaw16.TxnVersions': WHATEVER THE INPUT: true; the input reads as it did. -/
def txnVersionsSpec : ChangeSpec := { name := "txnVersions", fn := fun _ => fun
  | [d1, d2] => { results := [.lit (.bool true)], args := [d1, d2] }
  | _ => none }
def txnVersionsRow : OpenClaim := { program := "ytdigofgjhaakmaagreatdoor", sum := "d2e193055a3c1ace0a270c080cd3561d272af3dbe5fb1b209329f06e23d0bba9", func := "lych/lychlaw16.TxnVersions", spec := "txnVersions", inPlace := ["internal/reflectlite.TypeOf", "internal/reflectlite.ValueOf", "(internal/reflectlite.Value).Type", "(internal/reflectlite.Value).IsNil", "(internal/reflectlite.Value).Elem", "(internal/reflectlite.Value).Set"], unfollowed := true, recurses := true, named := ["lych/log.errNotWhole", "errors.errorType", "unicode/utf8.first", "unicode/utf8.acceptRanges"], apart := false, laid := [("unicode/utf8.acceptRanges", laid_unicode_utf8_acceptRanges), ("errors.errorType", laid_errors_errorType), ("lych/log.errNotWhole", laid_lych_log_errNotWhole), ("unicode/utf8.first", laid_unicode_utf8_first)] }
def TxnVersionsSaid : Prop := txnVersionsRow.holds Tryz.pinned (OpenSpec.ofChange txnVersionsSpec)

/-- ITS FALSE NEIGHBOUR: 'it returns false'. Refute it at one input. -/
def txnVersionsWrong : ChangeSpec := { name := "txnVersions", fn := fun _ => fun
  | [d1, d2] => { results := [.lit (.bool false)], args := [d1, d2] }
  | _ => none }
def TxnVersionsWrongFalsely : Prop := txnVersionsRow.holds Tryz.pinned (OpenSpec.ofChange txnVersionsWrong)

/-- 'lychlaw16.TxnStages': WHATEVER THE INPUT: true; the input reads as it did. -/
def txnStagesSpec : ChangeSpec := { name := "txnStages", fn := fun _ => fun
  | [d1, d2] => { results := [.lit (.bool true)], args := [d1, d2] }
  | _ => none }
def txnStagesRow : OpenClaim := { program := "ytdigofgjhaakmaagreatdoor", sum := "d2e193055a3c1ace0a270c080cd3561d272af3dbe5fb1b209329f06e23d0bba9", func := "lych/lychlaw16.TxnStages", spec := "txnStages", inPlace := ["internal/reflectlite.TypeOf", "internal/reflectlite.ValueOf", "(internal/reflectlite.Value).Type", "(internal/reflectlite.Value).IsNil", "(internal/reflectlite.Value).Elem", "(internal/reflectlite.Value).Set"], unfollowed := true, recurses := true, named := ["lych/log.errNotWhole", "errors.errorType", "unicode/utf8.first", "unicode/utf8.acceptRanges"], apart := false, laid := [("unicode/utf8.acceptRanges", laid_unicode_utf8_acceptRanges), ("errors.errorType", laid_errors_errorType), ("lych/log.errNotWhole", laid_lych_log_errNotWhole), ("unicode/utf8.first", laid_unicode_utf8_first)] }
def TxnStagesSaid : Prop := txnStagesRow.holds Tryz.pinned (OpenSpec.ofChange txnStagesSpec)

/-- ITS FALSE NEIGHBOUR: 'it returns false'. Refute it at one input. -/
def txnStagesWrong : ChangeSpec := { name := "txnStages", fn := fun _ => fun
  | [d1, d2] => { results := [.lit (.bool false)], args := [d1, d2] }
  | _ => none }
def TxnStagesWrongFalsely : Prop := txnStagesRow.holds Tryz.pinned (OpenSpec.ofChange txnStagesWrong)

/- THE SECOND FORM. 'bulk': how many values and letters a reading holds, each counted each time it is reached (what is shared counts as often as it is met; a slice's spare places count too). A statement '..UptoSaid' is the law's where the arguments, and the package variables that the reading takes, are together of bulk at most 1048576: NARROWER than '..Said'. Prove '..Said' where nothing that the law and all that it calls make is longer than what came in: it says more and counts as full. Else prove '..UptoSaid'. A law counts once. -/
mutual
def uptoBulk {H : Type} : DataW H → Nat
  | .lit (.string bytes) => bytes.length + 1
  | .lit _ => 1
  | .nil => 1
  | .ptr d => uptoBulk d + 1
  | .slice elems spare => uptoBulkAll elems + uptoBulkAll spare + 1
  | .agg parts => uptoBulkAll parts + 1
  | .iface _ d => uptoBulk d + 1
  | .map entries => uptoBulkEntries entries + 1
  | .held _ => 1
def uptoBulkAll {H : Type} : List (DataW H) → Nat
  | [] => 0
  | d :: r => uptoBulk d + uptoBulkAll r
def uptoBulkEntries {H : Type} : List (Lit × DataW H) → Nat
  | [] => 0
  | x :: r => uptoBulkEntry x + uptoBulkEntries r
def uptoBulkEntry {H : Type} : Lit × DataW H → Nat
  | (.string bytes, d) => bytes.length + uptoBulk d + 1
  | (_, d) => uptoBulk d + 1
 end
def uptoSmall : (H : Type) → List (DataW H) → Bool := fun _ ds => decide (uptoBulkAll ds ≤ 1048576)
def OpenSpec.upto (s : _root_.Go.ChangeSpec) : _root_.Go.OpenSpec := { _root_.Go.OpenSpec.ofChange s with cond := some uptoSmall }

/-- 'lychlaw16.TxnPlays', WHERE WHAT IT READS IS OF BULK AT MOST 1048576: true; the input reads as it did. -/
def txnPlaysUptoRow : OpenClaim := { program := "ytdigofgjhaakmaagreatdoor", sum := "d2e193055a3c1ace0a270c080cd3561d272af3dbe5fb1b209329f06e23d0bba9", func := "lych/lychlaw16.TxnPlays", spec := "txnPlays", inPlace := ["internal/reflectlite.TypeOf", "internal/reflectlite.ValueOf", "(internal/reflectlite.Value).Type", "(internal/reflectlite.Value).IsNil", "(internal/reflectlite.Value).Elem", "(internal/reflectlite.Value).Set"], unfollowed := true, recurses := true, named := ["lych/log.errNotWhole", "errors.errorType", "unicode/utf8.first", "unicode/utf8.acceptRanges"], apart := false, laid := [("unicode/utf8.acceptRanges", laid_unicode_utf8_acceptRanges), ("errors.errorType", laid_errors_errorType), ("lych/log.errNotWhole", laid_lych_log_errNotWhole), ("unicode/utf8.first", laid_unicode_utf8_first)], narrowed := true }
def TxnPlaysUptoSaid : Prop := txnPlaysUptoRow.holds Tryz.pinned (OpenSpec.upto txnPlaysSpec)

/-- 'lychlaw16.TxnFalls', WHERE WHAT IT READS IS OF BULK AT MOST 1048576: true; the input reads as it did. -/
def txnFallsUptoRow : OpenClaim := { program := "ytdigofgjhaakmaagreatdoor", sum := "d2e193055a3c1ace0a270c080cd3561d272af3dbe5fb1b209329f06e23d0bba9", func := "lych/lychlaw16.TxnFalls", spec := "txnFalls", inPlace := ["internal/reflectlite.TypeOf", "internal/reflectlite.ValueOf", "(internal/reflectlite.Value).Type", "(internal/reflectlite.Value).IsNil", "(internal/reflectlite.Value).Elem", "(internal/reflectlite.Value).Set"], unfollowed := true, recurses := true, named := ["lych/log.errNotWhole", "errors.errorType", "unicode/utf8.first", "unicode/utf8.acceptRanges"], apart := false, laid := [("unicode/utf8.acceptRanges", laid_unicode_utf8_acceptRanges), ("errors.errorType", laid_errors_errorType), ("lych/log.errNotWhole", laid_lych_log_errNotWhole), ("unicode/utf8.first", laid_unicode_utf8_first)], narrowed := true }
def TxnFallsUptoSaid : Prop := txnFallsUptoRow.holds Tryz.pinned (OpenSpec.upto txnFallsSpec)

/-- 'lychlaw16.TxnChecks', WHERE WHAT IT READS IS OF BULK AT MOST 1048576: true; the input reads as it did. -/
def txnChecksUptoRow : OpenClaim := { program := "ytdigofgjhaakmaagreatdoor", sum := "d2e193055a3c1ace0a270c080cd3561d272af3dbe5fb1b209329f06e23d0bba9", func := "lych/lychlaw16.TxnChecks", spec := "txnChecks", inPlace := ["internal/reflectlite.TypeOf", "internal/reflectlite.ValueOf", "(internal/reflectlite.Value).Type", "(internal/reflectlite.Value).IsNil", "(internal/reflectlite.Value).Elem", "(internal/reflectlite.Value).Set"], unfollowed := true, recurses := true, named := ["lych/log.errNotWhole", "errors.errorType", "unicode/utf8.first", "unicode/utf8.acceptRanges"], apart := false, laid := [("unicode/utf8.acceptRanges", laid_unicode_utf8_acceptRanges), ("errors.errorType", laid_errors_errorType), ("lych/log.errNotWhole", laid_lych_log_errNotWhole), ("unicode/utf8.first", laid_unicode_utf8_first)], narrowed := true }
def TxnChecksUptoSaid : Prop := txnChecksUptoRow.holds Tryz.pinned (OpenSpec.upto txnChecksSpec)

/-- 'lychlaw16.TxnVersions', WHERE WHAT IT READS IS OF BULK AT MOST 1048576: true; the input reads as it did. -/
def txnVersionsUptoRow : OpenClaim := { program := "ytdigofgjhaakmaagreatdoor", sum := "d2e193055a3c1ace0a270c080cd3561d272af3dbe5fb1b209329f06e23d0bba9", func := "lych/lychlaw16.TxnVersions", spec := "txnVersions", inPlace := ["internal/reflectlite.TypeOf", "internal/reflectlite.ValueOf", "(internal/reflectlite.Value).Type", "(internal/reflectlite.Value).IsNil", "(internal/reflectlite.Value).Elem", "(internal/reflectlite.Value).Set"], unfollowed := true, recurses := true, named := ["lych/log.errNotWhole", "errors.errorType", "unicode/utf8.first", "unicode/utf8.acceptRanges"], apart := false, laid := [("unicode/utf8.acceptRanges", laid_unicode_utf8_acceptRanges), ("errors.errorType", laid_errors_errorType), ("lych/log.errNotWhole", laid_lych_log_errNotWhole), ("unicode/utf8.first", laid_unicode_utf8_first)], narrowed := true }
def TxnVersionsUptoSaid : Prop := txnVersionsUptoRow.holds Tryz.pinned (OpenSpec.upto txnVersionsSpec)

/-- 'lychlaw16.TxnStages', WHERE WHAT IT READS IS OF BULK AT MOST 1048576: true; the input reads as it did. -/
def txnStagesUptoRow : OpenClaim := { program := "ytdigofgjhaakmaagreatdoor", sum := "d2e193055a3c1ace0a270c080cd3561d272af3dbe5fb1b209329f06e23d0bba9", func := "lych/lychlaw16.TxnStages", spec := "txnStages", inPlace := ["internal/reflectlite.TypeOf", "internal/reflectlite.ValueOf", "(internal/reflectlite.Value).Type", "(internal/reflectlite.Value).IsNil", "(internal/reflectlite.Value).Elem", "(internal/reflectlite.Value).Set"], unfollowed := true, recurses := true, named := ["lych/log.errNotWhole", "errors.errorType", "unicode/utf8.first", "unicode/utf8.acceptRanges"], apart := false, laid := [("unicode/utf8.acceptRanges", laid_unicode_utf8_acceptRanges), ("errors.errorType", laid_errors_errorType), ("lych/log.errNotWhole", laid_lych_log_errNotWhole), ("unicode/utf8.first", laid_unicode_utf8_first)], narrowed := true }
def TxnStagesUptoSaid : Prop := txnStagesUptoRow.holds Tryz.pinned (OpenSpec.upto txnStagesSpec)

end Rows
end Go.Proofs.YtdigofgjhaakmaaGreatDoor
