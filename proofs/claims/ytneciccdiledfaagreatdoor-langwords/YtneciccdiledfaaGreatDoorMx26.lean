/-
  Settings held against one another: lychhelp.Tenant, at any two tenants.
  Settings held against one another: lychhelp.Tenant, at any two tenants.
  Settings held against one another: lychhelp.Tenant, at any two tenants.
-/
import Derived.Test.YtneciccdiledfaaGreatDoorMx25
set_option linter.unusedVariables false
set_option maxRecDepth 20000
namespace Go.Proofs.YtneciccdiledfaaGreatDoor
open Go.RowKit
open Sm
open Cf
end Go.Proofs.YtneciccdiledfaaGreatDoor
namespace Go.Proofs.YtneciccdiledfaaGreatDoor
open Go.RowKit
open Sm
open Cf
end Go.Proofs.YtneciccdiledfaaGreatDoor
namespace Go.Proofs.YtneciccdiledfaaGreatDoor
open Go.RowKit
open Sm
open Cf
end Go.Proofs.YtneciccdiledfaaGreatDoor
