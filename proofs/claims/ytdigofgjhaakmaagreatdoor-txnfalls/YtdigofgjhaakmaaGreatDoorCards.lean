/-
  DERIVED. GIVEN WITH THE SEED: THE CARDS: each row of YtdigofgjhaakmaaGreatDoorRows.lean that lists a variable, with what it lists TIED to the program's text (the seventh form; the later family's looks); each row that meets fmt, with fmt's text TOLD by the authors' own Lean function (tested against real Go, not proved from fmt's source: count such statements apart). THE CARD IS WHAT COUNTS. Prove the row's statement (the work); the ties are given (YtdigofgjhaakmaaGreatDoorTie.lean); close each card by the builder's one call (the guide's Derived/Test/ToyasCard.lean, 'card_holds'). Laid BY PROGRAM, IN A SANDBOX (cutbox-door.mjs). By AI agents, Wed Nov 11 2026. No macro, syntax, notation, axiom, sorry.
-/
import Derived.Test.YtdigofgjhaakmaaGreatDoorRows
import GoSem.ClaimSeven
namespace Go.Proofs.YtdigofgjhaakmaaGreatDoor
namespace Rows

/-- THE TIED CARD OF 'lychlaw16.TxnPlays'. -/
def txnPlaysCard : Claim7 := { stood := { row := txnPlaysRow, standIns := [], harness := (true, "c723ee94ad2af0f25e7fc411fc896c5399644c5468c85cfa589004154cf360ea"), looks := true }, kinds := [], alts := [], laidByText := true, laidKinds := [.data, .handle, .sentinel, .pinned], laidTests := true, laidLooks := .later }
def TxnPlaysCardSaid : Prop := Claim7.holds Tryz.pinned (.plain (OpenSpec.ofChange txnPlaysSpec)) txnPlaysCard

/-- THE TIED CARD OF 'lychlaw16.TxnFalls'. -/
def txnFallsCard : Claim7 := { stood := { row := txnFallsRow, standIns := [], harness := (true, "c723ee94ad2af0f25e7fc411fc896c5399644c5468c85cfa589004154cf360ea"), looks := true }, kinds := [], alts := [], laidByText := true, laidKinds := [.data, .handle, .sentinel, .pinned], laidTests := true, laidLooks := .later }
def TxnFallsCardSaid : Prop := Claim7.holds Tryz.pinned (.plain (OpenSpec.ofChange txnFallsSpec)) txnFallsCard

/-- THE TIED CARD OF 'lychlaw16.TxnChecks'. -/
def txnChecksCard : Claim7 := { stood := { row := txnChecksRow, standIns := [], harness := (true, "c723ee94ad2af0f25e7fc411fc896c5399644c5468c85cfa589004154cf360ea"), looks := true }, kinds := [], alts := [], laidByText := true, laidKinds := [.data, .handle, .sentinel, .pinned], laidTests := true, laidLooks := .later }
def TxnChecksCardSaid : Prop := Claim7.holds Tryz.pinned (.plain (OpenSpec.ofChange txnChecksSpec)) txnChecksCard

/-- THE TIED CARD OF 'lychlaw16.TxnVersions'. -/
def txnVersionsCard : Claim7 := { stood := { row := txnVersionsRow, standIns := [], harness := (true, "c723ee94ad2af0f25e7fc411fc896c5399644c5468c85cfa589004154cf360ea"), looks := true }, kinds := [], alts := [], laidByText := true, laidKinds := [.data, .handle, .sentinel, .pinned], laidTests := true, laidLooks := .later }
def TxnVersionsCardSaid : Prop := Claim7.holds Tryz.pinned (.plain (OpenSpec.ofChange txnVersionsSpec)) txnVersionsCard

/-- THE TIED CARD OF 'lychlaw16.TxnStages'. -/
def txnStagesCard : Claim7 := { stood := { row := txnStagesRow, standIns := [], harness := (true, "c723ee94ad2af0f25e7fc411fc896c5399644c5468c85cfa589004154cf360ea"), looks := true }, kinds := [], alts := [], laidByText := true, laidKinds := [.data, .handle, .sentinel, .pinned], laidTests := true, laidLooks := .later }
def TxnStagesCardSaid : Prop := Claim7.holds Tryz.pinned (.plain (OpenSpec.ofChange txnStagesSpec)) txnStagesCard

/-- THE SECOND FORM's CARD OF 'lychlaw16.TxnPlays'. -/
def txnPlaysUptoCard : Claim7 := { stood := { row := txnPlaysUptoRow, standIns := [], harness := (true, "c723ee94ad2af0f25e7fc411fc896c5399644c5468c85cfa589004154cf360ea"), looks := true }, kinds := [], alts := [], laidByText := true, laidKinds := [.data, .handle, .sentinel, .pinned], laidTests := true, laidLooks := .later }
def TxnPlaysUptoCardSaid : Prop := Claim7.holds Tryz.pinned (.plain (OpenSpec.upto txnPlaysSpec)) txnPlaysUptoCard

/-- THE SECOND FORM's CARD OF 'lychlaw16.TxnFalls'. -/
def txnFallsUptoCard : Claim7 := { stood := { row := txnFallsUptoRow, standIns := [], harness := (true, "c723ee94ad2af0f25e7fc411fc896c5399644c5468c85cfa589004154cf360ea"), looks := true }, kinds := [], alts := [], laidByText := true, laidKinds := [.data, .handle, .sentinel, .pinned], laidTests := true, laidLooks := .later }
def TxnFallsUptoCardSaid : Prop := Claim7.holds Tryz.pinned (.plain (OpenSpec.upto txnFallsSpec)) txnFallsUptoCard

/-- THE SECOND FORM's CARD OF 'lychlaw16.TxnChecks'. -/
def txnChecksUptoCard : Claim7 := { stood := { row := txnChecksUptoRow, standIns := [], harness := (true, "c723ee94ad2af0f25e7fc411fc896c5399644c5468c85cfa589004154cf360ea"), looks := true }, kinds := [], alts := [], laidByText := true, laidKinds := [.data, .handle, .sentinel, .pinned], laidTests := true, laidLooks := .later }
def TxnChecksUptoCardSaid : Prop := Claim7.holds Tryz.pinned (.plain (OpenSpec.upto txnChecksSpec)) txnChecksUptoCard

/-- THE SECOND FORM's CARD OF 'lychlaw16.TxnVersions'. -/
def txnVersionsUptoCard : Claim7 := { stood := { row := txnVersionsUptoRow, standIns := [], harness := (true, "c723ee94ad2af0f25e7fc411fc896c5399644c5468c85cfa589004154cf360ea"), looks := true }, kinds := [], alts := [], laidByText := true, laidKinds := [.data, .handle, .sentinel, .pinned], laidTests := true, laidLooks := .later }
def TxnVersionsUptoCardSaid : Prop := Claim7.holds Tryz.pinned (.plain (OpenSpec.upto txnVersionsSpec)) txnVersionsUptoCard

/-- THE SECOND FORM's CARD OF 'lychlaw16.TxnStages'. -/
def txnStagesUptoCard : Claim7 := { stood := { row := txnStagesUptoRow, standIns := [], harness := (true, "c723ee94ad2af0f25e7fc411fc896c5399644c5468c85cfa589004154cf360ea"), looks := true }, kinds := [], alts := [], laidByText := true, laidKinds := [.data, .handle, .sentinel, .pinned], laidTests := true, laidLooks := .later }
def TxnStagesUptoCardSaid : Prop := Claim7.holds Tryz.pinned (.plain (OpenSpec.upto txnStagesSpec)) txnStagesUptoCard
end Rows
end Go.Proofs.YtdigofgjhaakmaaGreatDoor
