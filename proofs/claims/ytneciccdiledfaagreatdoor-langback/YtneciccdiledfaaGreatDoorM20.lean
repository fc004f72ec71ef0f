/-
  Settings as bytes: the program's Tenant and Same, at every tenant.
-/
import Derived.Test.YtneciccdiledfaaGreatDoorM19
import Derived.Deep.MidRow
import Derived.Deep.WholeRow
namespace Go.Proofs.YtneciccdiledfaaGreatDoor
open Go.RowKit
open Sm
open Cf
set_option linter.unusedVariables false
set_option maxRecDepth 20000

/-- A value that is a tenant. -/
def TV (V : World) (v : Value) (t : Ten) : Prop := TLen t ∧ ∃ p s q, v = .agg (tc t p s q).toArray ∧ Rw V 1 p (ux t.pool) ∧ Rw V 2 s (px t.stat) ∧ Rw V 2 q (px t.twi)
theorem IT_box {w : World} {t : Ten} {p s q : Value} (hi : TIn t) (h1 : Rw w 1 p (ux t.pool)) (h2 : Rw w 2 s (px t.stat)) (h3 : Rw w 2 q (px t.twi)) {g : Nat} {pre post : List Value} {T : TypeId} {K : List (Nat × Obj)} (hm : (g, .cells (pre ++ (tc t p s q ++ post)).toArray T (0, 0)) ∈ K) :
    ∀ V, Mem w V K → IT t (p, s, q) V g pre.length := by
  intro V hV
  refine ⟨hi, fun j v hj => ?_, hV.rw' h1 ux_ne, hV.rw' h2 px_ne, hV.rw' h3 px_ne⟩
  rw [mem_box hV hm]
  exact get_mid _ _ _ j v hj
def tenc (t : Ten) : List Int := spT.enc t
theorem two_blocks' (w : World) (a b : Obj) : Mem w ((w.alloc a).alloc b) [(w.heap.size + 1, b), (w.heap.size, a)] := by
  have h := ((Mem.nil w).push w.heap.size a rfl).push (w.heap.size + 1) b (by simp)
  exact h.perm (List.Perm.swap _ _ _)
end Go.Proofs.YtneciccdiledfaaGreatDoor

