/-
  Settings held against one another: lychhelp.Tenant, at any two tenants.
  Settings held against one another: lychhelp.Tenant, at any two tenants.
  Settings held against one another: lychhelp.Tenant, at any two tenants.
-/
import Derived.Test.YtneciccdiledfaaGreatDoorMw24
namespace Go.Proofs.YtneciccdiledfaaGreatDoor
open Go.RowKit
open Sm
open Cf
set_option linter.unusedVariables false
set_option maxRecDepth 20000

end Go.Proofs.YtneciccdiledfaaGreatDoor

namespace Go.Proofs.YtneciccdiledfaaGreatDoor
open Go.RowKit
open Sm
open Cf
set_option linter.unusedVariables false
set_option maxRecDepth 20000

end Go.Proofs.YtneciccdiledfaaGreatDoor

namespace Go.Proofs.YtneciccdiledfaaGreatDoor
open Go.RowKit
open Sm
open Cf
set_option linter.unusedVariables false
set_option maxRecDepth 20000

end Go.Proofs.YtneciccdiledfaaGreatDoor

