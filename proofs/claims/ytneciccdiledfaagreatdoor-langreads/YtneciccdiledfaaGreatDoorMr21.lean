/-
  Settings as bytes: the program's Tenant and Same, at every tenant.
-/
import Derived.Test.YtneciccdiledfaaGreatDoorMr20
import Derived.Deep.MidRow
import Derived.Deep.WholeRow
namespace Go.Proofs.YtneciccdiledfaaGreatDoor
open Go.RowKit
open Sm
open Cf
set_option linter.unusedVariables false
set_option maxRecDepth 20000

/-- A value that is a tenant. -/
def TV (V : World) (v : Value) (t : Ten) : Prop := TLen t ∧ ∃ p s q, v = .agg (tc t p s q).toArray ∧ Rw V 1 p (ux t.pool) ∧ Rw V 2 s (px t.stat) ∧ Rw V 2 q (px t.twi)
def tenc (t : Ten) : List Int := spT.enc t
end Go.Proofs.YtneciccdiledfaaGreatDoor

