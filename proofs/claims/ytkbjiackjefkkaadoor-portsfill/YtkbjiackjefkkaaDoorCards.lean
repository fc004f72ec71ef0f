/-
  DERIVED. GIVEN WITH THE SEED: THE CARDS: each row of YtkbjiackjefkkaaDoorRows.lean that lists a variable, with what it lists TIED to the program's text (the seventh form; the later family's looks); each row that meets fmt, with fmt's text TOLD by the authors' own Lean function (tested against real Go, not proved from fmt's source: count such statements apart). THE CARD IS WHAT COUNTS. Prove the row's statement (the work); the ties are given (YtkbjiackjefkkaaDoorTie.lean); close each card by the builder's one call (the guide's Derived/Test/ToyasCard.lean, 'card_holds'). Laid BY PROGRAM, IN A SANDBOX (cutbox-door.mjs). By AI agents, Wed Nov 11 2026. No macro, syntax, notation, axiom, sorry.
-/
import Derived.Test.YtkbjiackjefkkaaDoorRows
import GoSem.ClaimSeven
namespace Go.Proofs.YtkbjiackjefkkaaDoor
namespace Rows

/-- THE TIED CARD OF 'lychlaw17.PortsPlay'. -/
def portsPlayCard : Claim7 := { stood := { row := portsPlayRow, standIns := [], harness := (true, "73e2538c4073da257f1adfe1a379b32d18ae6e58de7a8b7933106999c23c0987"), looks := false }, kinds := [], alts := [], laidByText := true, laidKinds := [.data], laidTests := true, laidLooks := .later }
def PortsPlayCardSaid : Prop := Claim7.holds Tryd.pinned (.plain (OpenSpec.ofChange portsPlaySpec)) portsPlayCard

/-- THE TIED CARD OF 'lychlaw17.PortsFill'. -/
def portsFillCard : Claim7 := { stood := { row := portsFillRow, standIns := [], harness := (true, "73e2538c4073da257f1adfe1a379b32d18ae6e58de7a8b7933106999c23c0987"), looks := false }, kinds := [], alts := [], laidByText := true, laidKinds := [.data], laidTests := true, laidLooks := .later }
def PortsFillCardSaid : Prop := Claim7.holds Tryd.pinned (.plain (OpenSpec.ofChange portsFillSpec)) portsFillCard

/-- THE TIED CARD OF 'lychlaw17.PortsBack'. -/
def portsBackCard : Claim7 := { stood := { row := portsBackRow, standIns := [], harness := (true, "73e2538c4073da257f1adfe1a379b32d18ae6e58de7a8b7933106999c23c0987"), looks := false }, kinds := [], alts := [], laidByText := true, laidKinds := [.data], laidTests := true, laidLooks := .later }
def PortsBackCardSaid : Prop := Claim7.holds Tryd.pinned (.plain (OpenSpec.ofChange portsBackSpec)) portsBackCard

/-- THE TIED CARD OF 'lychlaw17.PortsHolds'. -/
def portsHoldsCard : Claim7 := { stood := { row := portsHoldsRow, standIns := [], harness := (true, "73e2538c4073da257f1adfe1a379b32d18ae6e58de7a8b7933106999c23c0987"), looks := false }, kinds := [], alts := [], laidByText := true, laidKinds := [.data], laidTests := true, laidLooks := .later }
def PortsHoldsCardSaid : Prop := Claim7.holds Tryd.pinned (.plain (OpenSpec.ofChange portsHoldsSpec)) portsHoldsCard

/-- THE SECOND FORM's CARD OF 'lychlaw17.PortsPlay'. -/
def portsPlayUptoCard : Claim7 := { stood := { row := portsPlayUptoRow, standIns := [], harness := (true, "73e2538c4073da257f1adfe1a379b32d18ae6e58de7a8b7933106999c23c0987"), looks := false }, kinds := [], alts := [], laidByText := true, laidKinds := [.data], laidTests := true, laidLooks := .later }
def PortsPlayUptoCardSaid : Prop := Claim7.holds Tryd.pinned (.plain (OpenSpec.upto portsPlaySpec)) portsPlayUptoCard

/-- THE SECOND FORM's CARD OF 'lychlaw17.PortsFill'. -/
def portsFillUptoCard : Claim7 := { stood := { row := portsFillUptoRow, standIns := [], harness := (true, "73e2538c4073da257f1adfe1a379b32d18ae6e58de7a8b7933106999c23c0987"), looks := false }, kinds := [], alts := [], laidByText := true, laidKinds := [.data], laidTests := true, laidLooks := .later }
def PortsFillUptoCardSaid : Prop := Claim7.holds Tryd.pinned (.plain (OpenSpec.upto portsFillSpec)) portsFillUptoCard

/-- THE SECOND FORM's CARD OF 'lychlaw17.PortsBack'. -/
def portsBackUptoCard : Claim7 := { stood := { row := portsBackUptoRow, standIns := [], harness := (true, "73e2538c4073da257f1adfe1a379b32d18ae6e58de7a8b7933106999c23c0987"), looks := false }, kinds := [], alts := [], laidByText := true, laidKinds := [.data], laidTests := true, laidLooks := .later }
def PortsBackUptoCardSaid : Prop := Claim7.holds Tryd.pinned (.plain (OpenSpec.upto portsBackSpec)) portsBackUptoCard

/-- THE SECOND FORM's CARD OF 'lychlaw17.PortsHolds'. -/
def portsHoldsUptoCard : Claim7 := { stood := { row := portsHoldsUptoRow, standIns := [], harness := (true, "73e2538c4073da257f1adfe1a379b32d18ae6e58de7a8b7933106999c23c0987"), looks := false }, kinds := [], alts := [], laidByText := true, laidKinds := [.data], laidTests := true, laidLooks := .later }
def PortsHoldsUptoCardSaid : Prop := Claim7.holds Tryd.pinned (.plain (OpenSpec.upto portsHoldsSpec)) portsHoldsUptoCard
end Rows
end Go.Proofs.YtkbjiackjefkkaaDoor
