/-
  The chapter's example; a bucket that is emptied fills.
-/
import Derived.Test.YteojfacalkklfaaLiOps
import Derived.LoopN
namespace Go.Proofs.Yteojfacalkklfaa
open Go.RowKit
open Sm
open Li
set_option linter.unusedVariables false
set_option linter.unusedSimpArgs false
set_option maxRecDepth 20000

namespace Li
theorem tik_in {r b l : Int} (hr : U r) (hb : U b) (hl : 0 ≤ l ∧ l ≤ b) : 0 ≤ tik r b l ∧ tik r b l ≤ b := by
  unfold U at *
  unfold tik
  split <;> omega
theorem lef_in {b l n : Int} (hn : U n) (hl : 0 ≤ l ∧ l ≤ b) : 0 ≤ lef l n ∧ lef l n ≤ b := by
  unfold U at *
  unfold lef
  split <;> omega
theorem sml_in {b' l : Int} (hb : U b') (hl : 0 ≤ l) : 0 ≤ sml l b' ∧ sml l b' ≤ b' := by
  unfold U at *
  unfold sml
  split <;> omega
set_option maxHeartbeats 8000000 in
theorem known20_any (W : World) : Calls Try.prog 6 #[] W fun e W' => e = .returned (.bool true) ∧ Below W.heap.size W W' := by
  have C1 := new_any 1 2 W
  go_enter Try.func6, Try.ntmps6
  go_wp2_with fail
  refine C1.mono ?_
  rintro e W1 ⟨p, rfl, m1⟩
  have C2 := take_any m1 (by unfold U; omega) 1 (by unfold U; omega)
  rw [show decide ((1 : Int) ≤ 2) = true from rfl, show lef 2 1 = 1 from rfl] at C2
  clear C1 m1
  go_wp2_with fail
  refine C2.mono ?_
  rintro e W2 ⟨rfl, m2⟩
  have C3 := take_any m2 (by unfold U; omega) 1 (by unfold U; omega)
  rw [show decide ((1 : Int) ≤ 1) = true from rfl, show lef 1 1 = 0 from rfl] at C3
  clear C2 m2
  go_wp2_with fail
  refine C3.mono ?_
  rintro e W3 ⟨rfl, m3⟩
  have C4 := take_any m3 (by unfold U; omega) 1 (by unfold U; omega)
  rw [show decide ((1 : Int) ≤ 0) = false from rfl, show lef 0 1 = 0 from rfl] at C4
  clear C3 m3
  go_wp2_with fail
  refine C4.mono ?_
  rintro e W4 ⟨rfl, m4⟩
  have C5 := tick_any m4 (by unfold U; omega) (by unfold U; omega) (by omega)
  rw [show tik 1 2 0 = 1 from rfl] at C5
  clear C4 m4
  go_wp2_with fail
  refine C5.mono ?_
  rintro e W5 ⟨rfl, m5⟩
  have C6 := take_any m5 (by unfold U; omega) 1 (by unfold U; omega)
  rw [show decide ((1 : Int) ≤ 1) = true from rfl, show lef 1 1 = 0 from rfl] at C6
  clear C5 m5
  go_wp2_with fail
  refine C6.mono ?_
  rintro e W6 ⟨rfl, m6⟩
  have C7 := level_any m6
  have HB : Hid (Below W.heap.size W W6) := m6.below
  clear C6 m6
  go_wp2_with fail
  refine C7.mono ?_
  rintro e W7 ⟨rfl, rfl⟩
  clear C7
  go_wp2_with fail
  go_ret
  exact ⟨rfl, HB.out⟩
end Li
end Go.Proofs.Yteojfacalkklfaa
