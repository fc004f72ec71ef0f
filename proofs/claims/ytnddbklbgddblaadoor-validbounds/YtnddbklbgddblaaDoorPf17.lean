/-
  Settings as bytes: whether two lists are the same (uint32).
  Settings as bytes: whether two lists are the same (lych/api.Pair).
  Settings as bytes: the field of a list's elements keeps what is asked of a field (lych/api.Tenant, uint32).
  Settings as bytes: the field of a list's elements keeps what is asked of a field (lych/api.Tenant, lych/api.Pair).
-/
import Derived.Test.YtnddbklbgddblaaDoorPf14
import Derived.Test.YtnddbklbgddblaaDoorPf15
import Derived.Test.YtnddbklbgddblaaDoorPf12
namespace Go.Proofs.YtnddbklbgddblaaDoor
open Go.RowKit
open Sm
open Cf
set_option linter.unusedVariables false
set_option maxRecDepth 20000

end Go.Proofs.YtnddbklbgddblaaDoor

namespace Go.Proofs.YtnddbklbgddblaaDoor
open Go.RowKit
open Sm
open Cf
set_option linter.unusedVariables false
set_option maxRecDepth 20000

end Go.Proofs.YtnddbklbgddblaaDoor

namespace Go.Proofs.YtnddbklbgddblaaDoor
open Go.RowKit
open Sm
open Cf
set_option linter.unusedVariables false
set_option maxRecDepth 20000

end Go.Proofs.YtnddbklbgddblaaDoor

namespace Go.Proofs.YtnddbklbgddblaaDoor
open Go.RowKit
open Sm
open Cf
set_option linter.unusedVariables false
set_option maxRecDepth 20000

end Go.Proofs.YtnddbklbgddblaaDoor

