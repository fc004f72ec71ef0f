/-
  Settings as bytes: the program's tenant(): all fields of a tenant, in their order.
  Settings as bytes: the program's Tenant and Same, at every tenant.
-/
import Derived.Test.YtnddbklbgddblaaDoorPf18
import Derived.Deep.MidRow
import Derived.Deep.WholeRow
namespace Go.Proofs.YtnddbklbgddblaaDoor
open Go.RowKit
open Sm
open Cf
set_option linter.unusedVariables false
set_option maxRecDepth 20000

end Go.Proofs.YtnddbklbgddblaaDoor

namespace Go.Proofs.YtnddbklbgddblaaDoor
open Go.RowKit
open Sm
open Cf
set_option linter.unusedVariables false
set_option maxRecDepth 20000

/-- A value that is a tenant. -/
def TV (V : World) (v : Value) (t : Ten) : Prop := TLen t ∧ ∃ p s q, v = .agg (tc t p s q).toArray ∧ Rw V 1 p (ux t.pool) ∧ Rw V 2 s (px t.stat) ∧ Rw V 2 q (px t.twi)
theorem two_blocks' (w : World) (a b : Obj) : Mem w ((w.alloc a).alloc b) [(w.heap.size + 1, b), (w.heap.size, a)] := by
  have h := ((Mem.nil w).push w.heap.size a rfl).push (w.heap.size + 1) b (by simp)
  exact h.perm (List.Perm.swap _ _ _)
end Go.Proofs.YtnddbklbgddblaaDoor

