/-
  Which settings may be: which addresses a tenant owns (ValidOwns).
-/
import Derived.Test.YtnddbklbgddblaaDoorPc49
import Derived.Test.YtnddbklbgddblaaDoorPc38
import Derived.Test.YtnddbklbgddblaaDoorPc03
namespace Go.Proofs.YtnddbklbgddblaaDoor
open Go.RowKit
open Va
set_option linter.unusedVariables false
set_option linter.unusedSimpArgs false
set_option maxRecDepth 20000


theorem lgt_sm {t : Ten} (h : Lgt t) : TSm t := ⟨by have := h.1; omega, by have := h.2.1; omega, by have := h.2.2.1; omega, by have := h.2.2.2; omega⟩
end Go.Proofs.YtnddbklbgddblaaDoor

