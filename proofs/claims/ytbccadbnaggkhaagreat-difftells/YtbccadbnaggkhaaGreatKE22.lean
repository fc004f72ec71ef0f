/-
  Settings held against one another: lychhelp.Tenant, at any two tenants.
  Settings held against one another: lychhelp.Tenant, at any two tenants.
  Settings held against one another: lychhelp.Tenant, at any two tenants.
-/
import Derived.Test.YtbccadbnaggkhaaGreatKE19
namespace Go.Proofs.YtbccadbnaggkhaaGreat
open Go.RowKit
open Sm
open Cf
set_option linter.unusedVariables false
set_option maxRecDepth 20000

end Go.Proofs.YtbccadbnaggkhaaGreat

namespace Go.Proofs.YtbccadbnaggkhaaGreat
open Go.RowKit
open Sm
open Cf
set_option linter.unusedVariables false
set_option maxRecDepth 20000

end Go.Proofs.YtbccadbnaggkhaaGreat

namespace Go.Proofs.YtbccadbnaggkhaaGreat
open Go.RowKit
open Sm
open Cf
set_option linter.unusedVariables false
set_option maxRecDepth 20000

end Go.Proofs.YtbccadbnaggkhaaGreat

