/-
  Settings held against one another: lychhelp.Tenant, at any two tenants.
  Settings held against one another: lychhelp.Tenant, at any two tenants.
  Settings held against one another: lychhelp.Tenant, at any two tenants.
  Settings held against one another: lychhelp.Tenant, at any two tenants.
-/
import Derived.Test.YtnddbklbgddblaaDoorPf22
namespace Go.Proofs.YtnddbklbgddblaaDoor
open Go.RowKit
open Sm
open Cf
set_option linter.unusedVariables false
set_option maxRecDepth 20000

end Go.Proofs.YtnddbklbgddblaaDoor

namespace Go.Proofs.YtnddbklbgddblaaDoor
open Go.RowKit
open Sm
open Cf
set_option linter.unusedVariables false
set_option maxRecDepth 20000

end Go.Proofs.YtnddbklbgddblaaDoor

namespace Go.Proofs.YtnddbklbgddblaaDoor
open Go.RowKit
open Sm
open Cf
set_option linter.unusedVariables false
set_option maxRecDepth 20000

end Go.Proofs.YtnddbklbgddblaaDoor

namespace Go.Proofs.YtnddbklbgddblaaDoor
open Go.RowKit
open Sm
open Cf
set_option linter.unusedVariables false
set_option maxRecDepth 20000

end Go.Proofs.YtnddbklbgddblaaDoor

