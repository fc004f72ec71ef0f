/-
  Settings as text: the text of settings, and that it is read back.
  Settings as bytes: the program's OpenChange, at all bytes.
  Settings held against one another: lychhelp.Tenant, at any two tenants.
  Settings held against one another: lychhelp.Tenant, at any two tenants.
  Settings held against one another: lychhelp.Tenant, at any two tenants.
-/
import Derived.Test.YtnddbklbgddblaaDoorPf22
import Derived.Test.YtnddbklbgddblaaDoorPf21
import Derived.Test.YtnddbklbgddblaaDoorPf23
namespace Go.Proofs.YtnddbklbgddblaaDoor
open Go.RowKit
open Ad
set_option linter.unusedVariables false
set_option linter.unusedSimpArgs false
set_option maxRecDepth 20000
namespace La
def tend (ws : List (List UInt8)) (cur : List UInt8) : List (List UInt8) := if cur = [] then ws else ws ++ [cur]
def tln (ws : List (List UInt8)) : List (List (List UInt8)) := if ws = [] then [] else [ws]
def tk : List UInt8 → List (List UInt8) → List UInt8 → Bool → List (List (List UInt8))
  | [], ws, cur, _ => tln (tend ws cur)
  | b :: r, ws, cur, m =>
    if b = 10 then tln (tend ws cur) ++ tk r [] [] false
    else if m = true then tk r ws cur true
    else if b = 32 then tk r (tend ws cur) [] false
    else if b = 35 then tk r (tend ws cur) [] true
    else tk r ws (cur ++ [b]) false
def wtx (ws : List Wd) : List (List UInt8) := ws.map fun w => w.1.data.toList
/-- A line. -/
def spc (ws : List (List UInt8)) : List UInt8 := Lib.join ws [32] ++ [10]
end La
end Go.Proofs.YtnddbklbgddblaaDoor

namespace Go.Proofs.YtnddbklbgddblaaDoor
open Go.RowKit
open Sm
open Cf
set_option linter.unusedVariables false
set_option maxRecDepth 20000

theorem storeCells_row (V : World) (g : Nat) (old tl : Array Value) (t : TypeId) (hg : V.heap[g]? = some (.cells old t (0, 0))) (hs : old.size = tl.size) (h1 : tl.all (·.oneCell') = true) : (storeCells ⟨g, 0, none⟩ tl.toList).run Tryd.prog V = .ok () (V.setRow g tl) := by
  have := run_storeCells_at Tryd.prog g 0 t tl.toList 0 old V hg (by simp; omega) (fun u hu => by
    rw [Array.all_eq_true_iff_forall_mem] at h1
    exact h1 u (by simpa using hu))
  simp only [Nat.add_zero, List.take_zero, List.nil_append, Nat.zero_add, Array.length_toList] at this
  rw [List.drop_of_length_le (by simp; omega), List.append_nil] at this
  simpa using this
theorem rw_one {V : World} {n : Nat} {p : Value} {xs : List (List Value)} (h : Rw V n p xs) : p.oneCell' = true := by
  obtain ⟨a, c, rfl, _⟩ := h; rfl
theorem tc_one2 (t : Ten) {p s q : Value} (h1 : p.oneCell' = true) (h2 : s.oneCell' = true) (h3 : q.oneCell' = true) : (tc t p s q).toArray.all (·.oneCell') = true := by
  apply all_oneCell_toArray
  intro v hv
  simp only [tc, List.mem_cons, List.mem_append, List.mem_map, List.not_mem_nil, or_false] at hv
  rcases hv with rfl | rfl | ⟨x, _, rfl⟩ | rfl | ⟨x, _, rfl⟩ | ⟨x, _, rfl⟩ | rfl | rfl | rfl | rfl | rfl | rfl | rfl | rfl | rfl | rfl <;> first | rfl | assumption
end Go.Proofs.YtnddbklbgddblaaDoor

namespace Go.Proofs.YtnddbklbgddblaaDoor
open Go.RowKit
open Sm
open Cf
set_option linter.unusedVariables false
set_option maxRecDepth 20000

end Go.Proofs.YtnddbklbgddblaaDoor

namespace Go.Proofs.YtnddbklbgddblaaDoor
open Go.RowKit
open Sm
open Cf
set_option linter.unusedVariables false
set_option maxRecDepth 20000

end Go.Proofs.YtnddbklbgddblaaDoor

namespace Go.Proofs.YtnddbklbgddblaaDoor
open Go.RowKit
open Sm
open Cf
set_option linter.unusedVariables false
set_option maxRecDepth 20000

end Go.Proofs.YtnddbklbgddblaaDoor

