/-
  Settings as text: the text of settings, and that it is read back.
  Settings as bytes: what the document's reader reads is what the program's fields read, number by number.
  Settings as bytes: the document's own reader: tenant, its walk.
  Settings as bytes: the chapter's example, as the statements ask it.
  Settings as bytes: the program's config(): all fields of settings, in their order.
-/
import Derived.Test.YtnddbklbgddblaaDoorPf25
import Derived.Test.YtnddbklbgddblaaDoorPf26
import Derived.Test.YtnddbklbgddblaaDoorPf20
namespace Go.Proofs.YtnddbklbgddblaaDoor
open Go.RowKit
open Ad
set_option linter.unusedVariables false
set_option linter.unusedSimpArgs false
set_option maxRecDepth 20000
namespace La
/-- A line of these words is read as c, with one word more it isn't. -/
def Takes (o : Option Cgf) (xs : List (List UInt8)) (c : Cgf) : Prop := ∀ (ws : List Wd) (fin : Nat), wtx ws = xs → rdn o ⟨ws, fin, none⟩ = (c, ⟨[], fin, none⟩) ∧ ∀ z : Wd, ip z.1.data.toList = none → (done (rdn o ⟨ws ++ [z], fin, none⟩).2).bad = some z.2
inductive Reads : Option Cgf → List (List (List UInt8)) → Option Cgf → Prop
  | nil (o : Option Cgf) : Reads o [] o
  | cons {o o' : Option Cgf} {c : Cgf} {l : List (List UInt8)} {ls : List (List (List UInt8))} : Takes o l c → Reads (some c) ls o' → Reads o (l :: ls) o'
end La
end Go.Proofs.YtnddbklbgddblaaDoor

namespace Go.Proofs.YtnddbklbgddblaaDoor
open Go.RowKit
open Sm
open Cf
set_option linter.unusedVariables false
set_option linter.unusedSimpArgs false
set_option maxRecDepth 20000

end Go.Proofs.YtnddbklbgddblaaDoor

namespace Go.Proofs.YtnddbklbgddblaaDoor
open Go.RowKit
open Sm
open Cf
set_option linter.unusedVariables false
set_option linter.unusedSimpArgs false
set_option maxRecDepth 20000

end Go.Proofs.YtnddbklbgddblaaDoor

namespace Go.Proofs.YtnddbklbgddblaaDoor
open Go.RowKit
open Sm
open Cf
set_option linter.unusedVariables false
set_option maxRecDepth 20000

theorem Out.sl {w W : World} {u : Value} {l : List Int} {K : List (Nat × Obj)} (h : Out w W u l K) (hl : l.length ≤ 1000000000) : ∃ a c, u = .slice a l.length c ∧ Sl W a l c := by
  obtain ⟨hb, h1, h2⟩ := h
  rcases h2 with ⟨rfl, e, hm⟩ | ⟨g, cap, cur, rfl, hm, hnc, hcm, hcs, htake⟩
  · have : l = [] := List.length_eq_zero_iff.mp e
    subst this
    exact ⟨Option.none, 0, rfl, ⟨row_empty W Option.none, Nat.le_refl _, by omega, fun _ => rfl⟩⟩
  · refine ⟨_, cap, rfl, ⟨⟨hb, by omega, Or.inr ⟨g, 0, rfl, fun i hi => ?_⟩⟩, hnc, by simpa [maxLen] using hcm, fun e => by cases e⟩⟩
    rw [Nat.zero_add, hm.cell 0 rfl]
    have := congrArg (fun x => x[i]?) htake
    simp only [List.getElem?_take, Nat.mul_one, if_pos hi, List.getElem?_map, List.getElem?_eq_getElem hi, Option.map_some, Array.getElem?_toList] at this
    rw [this, getD_eq hi]
end Go.Proofs.YtnddbklbgddblaaDoor

namespace Go.Proofs.YtnddbklbgddblaaDoor
open Go.RowKit
open Sm
open Cf
set_option linter.unusedVariables false
set_option maxRecDepth 20000

end Go.Proofs.YtnddbklbgddblaaDoor

