/-
  The statements' seat of settings: its settings.
-/
import Derived.Test.YtnddbklbgddblaaDoorPf42
import Derived.Test.YtnddbklbgddblaaDoorPf44
import Derived.Test.YtnddbklbgddblaaDoorPf34
namespace Go.Proofs.YtnddbklbgddblaaDoor
open Go.RowKit
open La
open Ad
open Sm (IsBytes)
set_option linter.unusedVariables false
set_option linter.unusedSimpArgs false
set_option maxRecDepth 20000

/-- Settings in box gc, their tenants the value u, beside a box of noughts. -/
def Cu (w V : World) (gc g4 : Nat) (c : Cgf) (u : Value) : Prop := ∃ (zs : List Tv) (B C : List (Nat × Obj)), zs.map Prod.fst = c.ten ∧ OwB 39 33 u zs.length (zs.map zc).flatten B ∧ (∀ z ∈ zs, ZB z C) ∧ CLen c ∧ Mem w V ((gc, .cells (cc c u).toArray 28 (0, 0)) :: (g4, .cells cz 28 (0, 0)) :: (B ++ C))
theorem Cu.after {w V V' : World} {gc g4 : Nat} {c : Cgf} {u : Value} (h : Cu w V gc g4 c u) (hb : Below V.heap.size V V') : Cu w V' gc g4 c u := by
  obtain ⟨zs, B, C, h1, h2, h3, h4, h5⟩ := h; exact ⟨zs, B, C, h1, h2, h3, h4, h5.after hb⟩
theorem Cu.below {w V : World} {gc g4 : Nat} {c : Cgf} {u : Value} (h : Cu w V gc g4 c u) : Below w.heap.size w V := by
  obtain ⟨zs, B, C, h1, h2, h3, h4, h5⟩ := h; exact h5.below
theorem Cu.cell {w V : World} {gc g4 : Nat} {c : Cgf} {u : Value} (h : Cu w V gc g4 c u) : V.cell? ⟨gc, 28, none⟩ = some u := by
  obtain ⟨zs, B, C, h1, h2, h3, h4, h5⟩ := h; exact (h5.cell 0 rfl 28).trans (cc_at28 h4 u)
theorem Cu.sl {w V : World} {gc g4 : Nat} {c : Cgf} {u : Value} (h : Cu w V gc g4 c u) : ∃ a m c', u = .slice a m c' := by
  obtain ⟨zs, B, C, h1, h2, h3, h4, h5⟩ := h; exact owb_slice h2
end Go.Proofs.YtnddbklbgddblaaDoor

