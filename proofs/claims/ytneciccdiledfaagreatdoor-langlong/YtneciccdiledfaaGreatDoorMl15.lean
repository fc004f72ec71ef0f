/-
  Settings as bytes: the field of a number keeps what is asked of a field (uint32, uint32).
  Settings as bytes: the field of a number keeps what is asked of a field (lych/api.Tenant, uint16).
  Settings as bytes: the field of a list's elements (lych/api.Tenant, uint32).
  Settings as bytes: the field of a number keeps what is asked of a field (lych/api.Pair, uint32).
  Settings as bytes: the field of a list's length keeps what is asked of a field.
  Settings as bytes: the field of an array of bytes keeps what is asked of a field.
-/
import Derived.Test.YtneciccdiledfaaGreatDoorMl12
import Derived.Test.YtneciccdiledfaaGreatDoorMl11
import Derived.Deep.MidRow
import Derived.Deep.WholeRow
import Derived.Test.YtneciccdiledfaaGreatDoorMl10
namespace Go.Proofs.YtneciccdiledfaaGreatDoor
open Go.RowKit
open Sm
open Cf
set_option linter.unusedVariables false
set_option maxRecDepth 20000

end Go.Proofs.YtneciccdiledfaaGreatDoor

namespace Go.Proofs.YtneciccdiledfaaGreatDoor
open Go.RowKit
open Sm
open Cf
set_option linter.unusedVariables false
set_option maxRecDepth 20000

end Go.Proofs.YtneciccdiledfaaGreatDoor

namespace Go.Proofs.YtneciccdiledfaaGreatDoor
open Go.RowKit
open Sm
open Cf
set_option linter.unusedVariables false
set_option maxRecDepth 20000

end Go.Proofs.YtneciccdiledfaaGreatDoor

namespace Go.Proofs.YtneciccdiledfaaGreatDoor
open Go.RowKit
open Sm
open Cf
set_option linter.unusedVariables false
set_option maxRecDepth 20000

end Go.Proofs.YtneciccdiledfaaGreatDoor

namespace Go.Proofs.YtneciccdiledfaaGreatDoor
open Go.RowKit
open Sm
open Cf
set_option linter.unusedVariables false
set_option maxRecDepth 20000

end Go.Proofs.YtneciccdiledfaaGreatDoor

namespace Go.Proofs.YtneciccdiledfaaGreatDoor
open Go.RowKit
open Sm
open Cf
set_option linter.unusedVariables false
set_option maxRecDepth 20000

end Go.Proofs.YtneciccdiledfaaGreatDoor

