/-
  Settings as bytes: the field of a text keeps what is asked of a field.
  Settings as bytes: the field of a list's length keeps what is asked of a field.
  Settings as bytes: the field of a list's elements (lych/api.Tenant, lych/api.Pair).
  Settings as bytes: fields one behind the other keep what is asked of a field (lych/api.Pair).
  Settings as bytes: the field of an array of bytes keeps what is asked of a field.
  Settings as bytes: fields one behind the other keep what is asked of a field (lych/api.Config).
-/
import Derived.Test.YtneciccdiledfaaGreatDoorMw12
import Derived.Test.YtneciccdiledfaaGreatDoorMw11
import Derived.Deep.MidRow
import Derived.Deep.WholeRow
import Derived.Test.YtneciccdiledfaaGreatDoorMw10
namespace Go.Proofs.YtneciccdiledfaaGreatDoor
open Go.RowKit
open Sm
open Cf
set_option linter.unusedVariables false
set_option maxRecDepth 20000

end Go.Proofs.YtneciccdiledfaaGreatDoor

namespace Go.Proofs.YtneciccdiledfaaGreatDoor
open Go.RowKit
open Sm
open Cf
set_option linter.unusedVariables false
set_option maxRecDepth 20000

end Go.Proofs.YtneciccdiledfaaGreatDoor

namespace Go.Proofs.YtneciccdiledfaaGreatDoor
open Go.RowKit
open Sm
open Cf
set_option linter.unusedVariables false
set_option maxRecDepth 20000

end Go.Proofs.YtneciccdiledfaaGreatDoor

namespace Go.Proofs.YtneciccdiledfaaGreatDoor
open Go.RowKit
open Sm
open Cf
set_option linter.unusedVariables false
set_option maxRecDepth 20000

end Go.Proofs.YtneciccdiledfaaGreatDoor

namespace Go.Proofs.YtneciccdiledfaaGreatDoor
open Go.RowKit
open Sm
open Cf
set_option linter.unusedVariables false
set_option maxRecDepth 20000

end Go.Proofs.YtneciccdiledfaaGreatDoor

namespace Go.Proofs.YtneciccdiledfaaGreatDoor
open Go.RowKit
open Sm
open Cf
set_option linter.unusedVariables false
set_option maxRecDepth 20000

end Go.Proofs.YtneciccdiledfaaGreatDoor

