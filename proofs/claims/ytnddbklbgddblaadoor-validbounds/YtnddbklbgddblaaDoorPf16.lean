/-
  Settings as bytes: the field of a number keeps what is asked of a field (uint32, uint32).
  Settings as bytes: the field of a list's length keeps what is asked of a field.
  Settings as bytes: the field of a number keeps what is asked of a field (lych/api.Tenant, uint16).
  Settings as bytes: the field of an array of bytes keeps what is asked of a field.
  Settings as bytes: the field of a text keeps what is asked of a field.
-/
import Derived.Test.YtnddbklbgddblaaDoorPf12
import Derived.Test.YtnddbklbgddblaaDoorPf11
import Derived.Test.YtnddbklbgddblaaDoorPf09
namespace Go.Proofs.YtnddbklbgddblaaDoor
open Go.RowKit
open Sm
open Cf
set_option linter.unusedVariables false
set_option maxRecDepth 20000

end Go.Proofs.YtnddbklbgddblaaDoor

namespace Go.Proofs.YtnddbklbgddblaaDoor
open Go.RowKit
open Sm
open Cf
set_option linter.unusedVariables false
set_option maxRecDepth 20000

end Go.Proofs.YtnddbklbgddblaaDoor

namespace Go.Proofs.YtnddbklbgddblaaDoor
open Go.RowKit
open Sm
open Cf
set_option linter.unusedVariables false
set_option maxRecDepth 20000

end Go.Proofs.YtnddbklbgddblaaDoor

namespace Go.Proofs.YtnddbklbgddblaaDoor
open Go.RowKit
open Sm
open Cf
set_option linter.unusedVariables false
set_option maxRecDepth 20000

end Go.Proofs.YtnddbklbgddblaaDoor

namespace Go.Proofs.YtnddbklbgddblaaDoor
open Go.RowKit
open Sm
open Cf
set_option linter.unusedVariables false
set_option maxRecDepth 20000

end Go.Proofs.YtnddbklbgddblaaDoor

