/-
  Settings as bytes: what the document's reader reads of a tenant is what the program's fields read.
  Settings held against one another: lychhelp.Tenant and the program's Same tell the same.
  Settings as bytes: the program's whole (lych/api.Config): what all bytes are.
-/
import Derived.Test.YtbccadbnaggkhaaGreatKE23
import Derived.Test.YtbccadbnaggkhaaGreatKE19
import Derived.Test.YtbccadbnaggkhaaGreatKE22
import Derived.Test.YtbccadbnaggkhaaGreatKE20
import Derived.Test.YtbccadbnaggkhaaGreatKE21
import Derived.Test.YtbccadbnaggkhaaGreatKE17
namespace Go.Proofs.YtbccadbnaggkhaaGreat
open Go.RowKit
open Sm
open Cf
set_option linter.unusedVariables false
set_option linter.unusedSimpArgs false
set_option maxRecDepth 20000

end Go.Proofs.YtbccadbnaggkhaaGreat

namespace Go.Proofs.YtbccadbnaggkhaaGreat
open Go.RowKit
open Sm
open Cf
set_option linter.unusedVariables false
set_option maxRecDepth 20000

instance (t z : Ten) : Decidable (TSame t z) := by unfold TSame; infer_instance
theorem eq_same (t z : Ten) : spT.eq t z = decide (TSame t z) := by
  by_cases h : TSame t z
  · rw [decide_eq_true h]
    obtain ⟨h0, h1, h2, h3, h4, h5, h6, h7, h8, h9, h10, h11, h12, h13, h14, h15⟩ := h
    apply decide_eq_true
    intro i hi
    match i, hi with
    | 0, _ => exact decide_eq_true h0
    | 1, _ => exact decide_eq_true h1
    | 2, _ => exact decide_eq_true h2
    | 3, _ => exact decide_eq_true h3
    | 4, _ => exact decide_eq_true h4
    | 5, _ => exact decide_eq_true h5
    | 6, _ => exact decide_eq_true h7
    | 7, _ => exact decide_eq_true h8
    | 8, _ => exact decide_eq_true h9
    | 9, _ => exact decide_eq_true h12
    | 10, _ => exact decide_eq_true h13
    | 11, _ => exact decide_eq_true h14
    | 12, _ => exact decide_eq_true h15
    | 13, _ => exact decide_eq_true (congrArg List.length h6)
    | 14, _ => exact decide_eq_true (congrArg List.length h10)
    | 15, _ => exact decide_eq_true (congrArg List.length h11)
    | 16, _ => exact decide_eq_true h6
    | 17, _ => exact decide_eq_true h10
    | 18, _ => exact decide_eq_true h11
    | n + 19, h => exact absurd (show n + 19 < 19 from h) (by omega)
  · rw [decide_eq_false h]
    apply decide_eq_false
    intro hc
    apply h
    exact ⟨of_decide_eq_true (hc 0 (by decide)), of_decide_eq_true (hc 1 (by decide)), of_decide_eq_true (hc 2 (by decide)), of_decide_eq_true (hc 3 (by decide)), of_decide_eq_true (hc 4 (by decide)), of_decide_eq_true (hc 5 (by decide)), of_decide_eq_true (hc 16 (by decide)), of_decide_eq_true (hc 6 (by decide)), of_decide_eq_true (hc 7 (by decide)), of_decide_eq_true (hc 8 (by decide)), of_decide_eq_true (hc 17 (by decide)), of_decide_eq_true (hc 18 (by decide)), of_decide_eq_true (hc 9 (by decide)), of_decide_eq_true (hc 10 (by decide)), of_decide_eq_true (hc 11 (by decide)), of_decide_eq_true (hc 12 (by decide))⟩
theorem Rw.at_ {w V : World} {n : Nat} {v : Value} {xs : List (List Value)} (h : Rw w n v xs) (hne : ∀ x ∈ xs, x ≠ []) (hb : Below w.heap.size w V) : Rw V n v xs := h.below hne hb (Nat.le_refl _)
end Go.Proofs.YtbccadbnaggkhaaGreat

namespace Go.Proofs.YtbccadbnaggkhaaGreat
open Go.RowKit
open Sm
open Cf
set_option linter.unusedVariables false
set_option maxRecDepth 20000

end Go.Proofs.YtbccadbnaggkhaaGreat

