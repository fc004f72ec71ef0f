/-
  What the statements' own helps answer: lychhelp.Bytes over two rows of the same bytes, lychref1's Get16, cut and Put16.
-/
import Derived.Test.YteojfacalkklfaaCopy
import Derived.Laws.BytesArg
import Derived.Lib.BufferRead
namespace Go.Proofs.Yteojfacalkklfaa
open Go.RowKit
open Sm
set_option linter.unusedVariables false

/-- A new row of bytes, as its readers see it. -/
theorem own_read {w : World} {B n : Nat} {v : Value} {l : List Int} (h : w.ownsRow B 5 1 v n (l.map (Value.int .u8))) (hn : l.length = n) (hb : IsBytes l) (hl : l.length ≤ 140737488351232) :
    ∃ ao cap, v = .slice ao n cap ∧ Row w ao l ∧ (ao = none → cap = 0) ∧ (∀ x, ao = some x → B ≤ x.block) ∧ n ≤ cap := by
  subst hn
  obtain ⟨h1, h2⟩ := h
  rcases h2 with ⟨rfl, h3⟩ | ⟨g, cap, cur, rfl, hg, r⟩
  · have e : l = [] := List.length_eq_zero_iff.mp h3
    subst e
    exact ⟨none, 0, rfl, row_nil w, fun _ => rfl, fun x hx => (by cases hx), Nat.le_refl _⟩
  · have hob : OwnB w B g cap l := ⟨h1, Or.inr ⟨g, cap, cur, rfl, hg, r⟩⟩
    exact ⟨some ⟨g, 0, none⟩, cap, rfl, hob.row hb hl, fun h => (by cases h), fun x hx => (by cases hx; exact hg), r.2.1⟩

end Go.Proofs.Yteojfacalkklfaa
