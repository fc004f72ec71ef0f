/-
  What the statements' helps answer on packets: lychref1.Get32, Put32, lychhelp.Ip.
-/
import Derived.Test.YtjalpbkfpjfigabLong
import Derived.Test.YtjalpbkfpjfigabIpRead
namespace Go.Proofs.Ytjalpbkfpjfigab
open Go.RowKit
open Sm
set_option linter.unusedVariables false
set_option maxRecDepth 20000

end Go.Proofs.Ytjalpbkfpjfigab
