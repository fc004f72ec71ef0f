/-
  What the statements' helps answer on packets: lychref1.Get32, Put32, lychhelp.Ip.
-/
import Derived.Test.YtjalpbkfpjfigaaLong
import Derived.Test.YtjalpbkfpjfigaaIpRead
namespace Go.Proofs.Ytjalpbkfpjfigaa
open Go.RowKit
open Sm
set_option linter.unusedVariables false
set_option maxRecDepth 20000

end Go.Proofs.Ytjalpbkfpjfigaa
