/-
  DERIVED. GIVEN WITH THE SEED: THE CARDS: each row of YtbmpjlgfbiakoabDoorRows.lean that lists a variable, with what it lists TIED to the program's text (the seventh form; the later family's looks); each row that meets fmt, with fmt's text TOLD by the authors' own Lean function (tested against real Go, not proved from fmt's source: count such statements apart). THE CARD IS WHAT COUNTS. Prove the row's statement (the work); the ties are given (YtbmpjlgfbiakoabDoorTie.lean); close each card by the builder's one call (the guide's Derived/Test/ToyasCard.lean, 'card_holds'). Laid BY PROGRAM, IN A SANDBOX (cutbox-door.mjs). By AI agents, Wed Nov 11 2026. No macro, syntax, notation, axiom, sorry.
-/
import Derived.Test.YtbmpjlgfbiakoabDoorRows
import GoSem.ClaimSeven
namespace Go.Proofs.YtbmpjlgfbiakoabDoor
namespace Rows

/-- THE TIED CARD OF 'lychlaw10.LogRooms'. -/
def logRoomsCard : Claim7 := { stood := { row := logRoomsRow, standIns := [], harness := (true, "27fda43e290348f20c7e321b418e23fb73917a4e739e17ba4d3686ee58c106f0"), looks := true }, kinds := [], alts := [], laidByText := true, laidKinds := [.handle, .sentinel], laidTests := true, laidLooks := .later }
def LogRoomsCardSaid : Prop := Claim7.holds Tryd.pinned (.plain (OpenSpec.ofChange logRoomsSpec)) logRoomsCard

/-- THE SECOND FORM's CARD OF 'lychlaw10.LogRooms'. -/
def logRoomsUptoCard : Claim7 := { stood := { row := logRoomsUptoRow, standIns := [], harness := (true, "27fda43e290348f20c7e321b418e23fb73917a4e739e17ba4d3686ee58c106f0"), looks := true }, kinds := [], alts := [], laidByText := true, laidKinds := [.handle, .sentinel], laidTests := true, laidLooks := .later }
def LogRoomsUptoCardSaid : Prop := Claim7.holds Tryd.pinned (.plain (OpenSpec.upto logRoomsSpec)) logRoomsUptoCard
end Rows
end Go.Proofs.YtbmpjlgfbiakoabDoor
