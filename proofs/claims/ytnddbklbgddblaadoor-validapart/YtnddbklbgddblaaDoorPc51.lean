/-
  Which settings may be: any settings, held against the document's own answers (ValidChecks).
-/
import Derived.Test.YtnddbklbgddblaaDoorPc50
import Derived.Test.YtnddbklbgddblaaDoorPc43
namespace Go.Proofs.YtnddbklbgddblaaDoor
open Go.RowKit
open Va
set_option linter.unusedVariables false
set_option linter.unusedSimpArgs false
set_option maxRecDepth 20000

end Go.Proofs.YtnddbklbgddblaaDoor

