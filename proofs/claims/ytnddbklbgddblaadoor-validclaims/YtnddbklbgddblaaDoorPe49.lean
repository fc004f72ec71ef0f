/-
  Which settings may be: tenants stand in order of their names, each once (ValidOrder).
-/
import Derived.Test.YtnddbklbgddblaaDoorPe48
import Derived.Test.YtnddbklbgddblaaDoorPe09
namespace Go.Proofs.YtnddbklbgddblaaDoor
open Go.RowKit
open La (adr)
open Va
set_option linter.unusedVariables false
set_option linter.unusedSimpArgs false
set_option maxRecDepth 20000

namespace Va
end Va
theorem sq_sm {i : Nat} {t : Ten} (h : SQ i t) : TSm t := ⟨by rw [h.name]; show (1 : Nat) ≤ 1000000; omega, by have := h.len; omega, by have := h.len; omega, by have := h.len; omega⟩
end Go.Proofs.YtnddbklbgddblaaDoor

