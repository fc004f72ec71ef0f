/-
  Settings as bytes: the field of a list's elements (lych/api.Tenant, uint32).
  Settings as bytes: the field of a number keeps what is asked of a field (lych/api.Pair, uint32).
  Settings as bytes: the field of a text keeps what is asked of a field.
  Settings as bytes: fields one behind the other keep what is asked of a field (lych/api.Tenant).
  Settings as bytes: fields one behind the other keep what is asked of a field (lych/api.Config).
-/
import Derived.Test.YtnddbklbgddblaaDoorPf12
import Derived.Deep.MidRow
import Derived.Deep.WholeRow
import Derived.Test.YtnddbklbgddblaaDoorPf10
import Derived.Test.YtnddbklbgddblaaDoorPf11
namespace Go.Proofs.YtnddbklbgddblaaDoor
open Go.RowKit
open Sm
open Cf
set_option linter.unusedVariables false
set_option maxRecDepth 20000

end Go.Proofs.YtnddbklbgddblaaDoor

namespace Go.Proofs.YtnddbklbgddblaaDoor
open Go.RowKit
open Sm
open Cf
set_option linter.unusedVariables false
set_option maxRecDepth 20000

end Go.Proofs.YtnddbklbgddblaaDoor

namespace Go.Proofs.YtnddbklbgddblaaDoor
open Go.RowKit
open Sm
open Cf
set_option linter.unusedVariables false
set_option maxRecDepth 20000

end Go.Proofs.YtnddbklbgddblaaDoor

namespace Go.Proofs.YtnddbklbgddblaaDoor
open Go.RowKit
open Sm
open Cf
set_option linter.unusedVariables false
set_option maxRecDepth 20000

end Go.Proofs.YtnddbklbgddblaaDoor

namespace Go.Proofs.YtnddbklbgddblaaDoor
open Go.RowKit
open Sm
open Cf
set_option linter.unusedVariables false
set_option maxRecDepth 20000

end Go.Proofs.YtnddbklbgddblaaDoor

