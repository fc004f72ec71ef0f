/-
  Hardware addresses as text: the program's Mac, at every text.
  Settings as bytes: the field of a number (lych/api.Pair, uint32): what it writes, reads, holds to be the same.
  Settings as bytes: the field of a text (lych/api.Tenant).
  Settings as bytes: the field of a number (lych/api.Tenant, int): what it writes, reads, holds to be the same.
  Settings as bytes: the field of a number (lych/api.Config, uint32): what it writes, reads, holds to be the same.
-/
import Derived.Test.YtnddbklbgddblaaDoorPf03
import Derived.Test.YtnddbklbgddblaaDoorPf08
import Derived.Test.YtnddbklbgddblaaDoorPf07
namespace Go.Proofs.YtnddbklbgddblaaDoor
open Go.RowKit
open Ad
open Sm (IsBytes)
set_option linter.unusedVariables false

namespace Ad
/-- Parts of two digits each, put into a row from a place on. -/
def fill : Nat → List Int → List (List UInt8) → Option (List Int)
  | _, l, [] => some l
  | i, l, p :: r => match two p with
    | none => none
    | some x => fill (i + 1) (l.set i (x : Int)) r
def mac (s : List UInt8) : Option (List Int) := if (cut 58 s).length = 6 then fill 0 [0, 0, 0, 0, 0, 0] (cut 58 s) else none
end Ad
theorem Mem.add {w W : World} {L : List (Nat × Obj)} (h : Mem w W L) {g : Nat} {o : Obj} (hg : w.heap.size ≤ g) (ho : W.heap[g]? = some o) (hn : ∀ p ∈ L, p.1 ≠ g) : Mem w W ((g, o) :: L) := by
  refine ⟨h.below, fun p hp => ?_, fun p hp => ?_, ?_⟩
  · rcases List.mem_cons.1 hp with rfl | hp
    · exact hg
    · exact h.low p hp
  · rcases List.mem_cons.1 hp with rfl | hp
    · exact ho
    · exact h.at_ p hp
  · rw [List.map_cons, List.nodup_cons]
    refine ⟨fun hm => ?_, h.apart⟩
    obtain ⟨p, hp, e⟩ := List.mem_map.1 hm
    exact hn p hp e
end Go.Proofs.YtnddbklbgddblaaDoor

namespace Go.Proofs.YtnddbklbgddblaaDoor
open Go.RowKit
open Sm
open Cf
set_option linter.unusedVariables false
set_option maxRecDepth 20000

end Go.Proofs.YtnddbklbgddblaaDoor

namespace Go.Proofs.YtnddbklbgddblaaDoor
open Go.RowKit
open Sm
open Cf
set_option linter.unusedVariables false
set_option maxRecDepth 20000

end Go.Proofs.YtnddbklbgddblaaDoor

namespace Go.Proofs.YtnddbklbgddblaaDoor
open Go.RowKit
open Sm
open Cf
set_option linter.unusedVariables false
set_option maxRecDepth 20000

end Go.Proofs.YtnddbklbgddblaaDoor

namespace Go.Proofs.YtnddbklbgddblaaDoor
open Go.RowKit
open Sm
open Cf
set_option linter.unusedVariables false
set_option maxRecDepth 20000

end Go.Proofs.YtnddbklbgddblaaDoor

