/-
  Settings as bytes: the program's config(): all fields of settings, in their order.
  Settings as bytes: what the document's reader reads is what the program's fields read, number by number.
  Settings as bytes: the chapter's example, as the statements ask it.
  Settings as bytes: the document's own reader: tenant, its walk.
-/
import Derived.Test.YtbccadbnaggkhaaGreatKE21
import Derived.Test.YtbccadbnaggkhaaGreatKE17
namespace Go.Proofs.YtbccadbnaggkhaaGreat
open Go.RowKit
open Sm
open Cf
set_option linter.unusedVariables false
set_option maxRecDepth 20000

end Go.Proofs.YtbccadbnaggkhaaGreat

namespace Go.Proofs.YtbccadbnaggkhaaGreat
open Go.RowKit
open Sm
open Cf
set_option linter.unusedVariables false
set_option linter.unusedSimpArgs false
set_option maxRecDepth 20000

end Go.Proofs.YtbccadbnaggkhaaGreat

namespace Go.Proofs.YtbccadbnaggkhaaGreat
open Go.RowKit
open Sm
open Cf
set_option linter.unusedVariables false
set_option maxRecDepth 20000

theorem Out.sl {w W : World} {u : Value} {l : List Int} {K : List (Nat × Obj)} (h : Out w W u l K) (hl : l.length ≤ 1000000000) : ∃ a c, u = .slice a l.length c ∧ Sl W a l c := by
  obtain ⟨hb, h1, h2⟩ := h
  rcases h2 with ⟨rfl, e, hm⟩ | ⟨g, cap, cur, rfl, hm, hnc, hcm, hcs, htake⟩
  · have : l = [] := List.length_eq_zero_iff.mp e
    subst this
    exact ⟨Option.none, 0, rfl, ⟨row_empty W Option.none, Nat.le_refl _, by omega, fun _ => rfl⟩⟩
  · refine ⟨_, cap, rfl, ⟨⟨hb, by omega, Or.inr ⟨g, 0, rfl, fun i hi => ?_⟩⟩, hnc, by simpa [maxLen] using hcm, fun e => by cases e⟩⟩
    rw [Nat.zero_add, hm.cell 0 rfl]
    have := congrArg (fun x => x[i]?) htake
    simp only [List.getElem?_take, Nat.mul_one, if_pos hi, List.getElem?_map, List.getElem?_eq_getElem hi, Option.map_some, Array.getElem?_toList] at this
    rw [this, getD_eq hi]
end Go.Proofs.YtbccadbnaggkhaaGreat

namespace Go.Proofs.YtbccadbnaggkhaaGreat
open Go.RowKit
open Sm
open Cf
set_option linter.unusedVariables false
set_option linter.unusedSimpArgs false
set_option maxRecDepth 20000

end Go.Proofs.YtbccadbnaggkhaaGreat

