/-
  Settings as bytes: the field of a list's length keeps what is asked of a field.
  Settings as bytes: the field of an array of bytes keeps what is asked of a field.
  Settings as bytes: the field of a number keeps what is asked of a field (lych/api.Tenant, int).
  Settings as bytes: the field of a number keeps what is asked of a field (lych/api.Config, uint32).
-/
import Derived.Test.YtnddbklbgddblaaDoorPf12
import Derived.Test.YtnddbklbgddblaaDoorPf09
import Derived.Test.YtnddbklbgddblaaDoorPf10
namespace Go.Proofs.YtnddbklbgddblaaDoor
open Go.RowKit
open Sm
open Cf
set_option linter.unusedVariables false
set_option maxRecDepth 20000

end Go.Proofs.YtnddbklbgddblaaDoor

namespace Go.Proofs.YtnddbklbgddblaaDoor
open Go.RowKit
open Sm
open Cf
set_option linter.unusedVariables false
set_option maxRecDepth 20000

end Go.Proofs.YtnddbklbgddblaaDoor

namespace Go.Proofs.YtnddbklbgddblaaDoor
open Go.RowKit
open Sm
open Cf
set_option linter.unusedVariables false
set_option maxRecDepth 20000

end Go.Proofs.YtnddbklbgddblaaDoor

namespace Go.Proofs.YtnddbklbgddblaaDoor
open Go.RowKit
open Sm
open Cf
set_option linter.unusedVariables false
set_option maxRecDepth 20000

end Go.Proofs.YtnddbklbgddblaaDoor

