/-
  Sessions, the program's own: Step, Life.
-/
import Derived.Test.YtgeeijinhneoiaaSsStep
namespace Go.Proofs.Ytgeeijinhneoiaa
open Go.RowKit
open Sm
open Po
set_option linter.unusedVariables false
set_option linter.unusedSimpArgs false
set_option maxRecDepth 20000

namespace Ss
def std (s0 : Int) : Int := if s0 = 3 then 2 else s0
theorem standOf_any (st s0 : Int) (h : bits .and .i64 st 3 = s0) (hs : s0 = 0 ∨ s0 = 1 ∨ s0 = 2 ∨ s0 = 3) (W : World) : Calls Try.prog 42 #[.int .i64 st] W fun e W' => e = .returned (.int .i64 (std s0)) ∧ W = W' := by
  rcases hs with rfl | rfl | rfl | rfl <;>
  (go_enter Try.func42, Try.ntmps42
   go_wp2_with fail
   go_ret
   exact ⟨rfl, rfl⟩)
theorem endOf_any (inb : Bool) (W : World) : Calls Try.prog 43 #[.bool inb] W fun e W' => e = .returned (.int .i64 (if inb then 4 else 8)) ∧ W = W' := by
  cases inb <;>
  (go_enter Try.func43, Try.ntmps43
   go_wp2_with fail
   go_ret
   exact ⟨rfl, rfl⟩)
theorem lifeOf_any (s0 : Int) (hs : s0 = 0 ∨ s0 = 1 ∨ s0 = 2 ∨ s0 = 3) (W : World) : Calls Try.prog 44 #[.int .i64 (std s0)] W fun e W' => e = .returned (.int .u32 (if s0 = 0 then 4 else if s0 = 1 then 200 else 2)) ∧ W = W' := by
  rcases hs with rfl | rfl | rfl | rfl <;> simp only [std] <;>
  (go_enter Try.func44, Try.ntmps44
   go_wp2_with fail
   go_ret
   exact ⟨rfl, rfl⟩)
set_option maxHeartbeats 8000000 in
theorem step_tcp (s0 b r f : Int) (inb : Bool) (st fl : Int) (h1 : bits .and .i64 st 3 = s0) (h2 : bits .and .i64 st 12 = b) (h3 : bits .and .u8 fl 4 = r) (h4 : bits .and .u8 fl 1 = f) (hs : s0 = 0 ∨ s0 = 1 ∨ s0 = 2 ∨ s0 = 3) (hb : b = 0 ∨ b = 4 ∨ b = 8 ∨ b = 12) (hr : r = 0 ∨ r = 4) (hf : f = 0 ∨ f = 1) (W : World) :
    Calls Try.prog 27 #[.int .u8 6, .int .i64 st, .int .u8 fl, .bool inb] W fun e W' => e = .returned (.int .i64 (stq s0 b (decide (r = 4)) (decide (f = 1)) inb)) ∧ W = W' := by
  have C1 := standOf_any st s0 h1 hs W
  have C2 := endOf_any inb W
  rcases hr with rfl | rfl
  · rcases hf with rfl | rfl <;> rcases hs with rfl | rfl | rfl | rfl <;> rcases hb with rfl | rfl | rfl | rfl <;> cases inb <;>
    (simp only [std] at C1
     go_enter Try.func27, Try.ntmps27
     go_wp2_with fail
     with_reducible refine C1.mono ?_
     rintro e w1 ⟨rfl, rfl⟩
     first
     | (go_wp2_with fail
        go_ret
        exact ⟨rfl, rfl⟩)
     | (go_wp2_with fail
        with_reducible refine C2.mono ?_
        rintro e w1 ⟨rfl, rfl⟩
        go_wp2_with fail
        go_ret
        exact ⟨rfl, rfl⟩))
  · rcases hs with rfl | rfl | rfl | rfl <;> rcases hb with rfl | rfl | rfl | rfl <;>
    (simp only [std] at C1
     clear C2
     go_enter Try.func27, Try.ntmps27
     go_wp2_with fail
     with_reducible refine C1.mono ?_
     rintro e w1 ⟨rfl, rfl⟩
     go_wp2_with fail
     go_ret
     exact ⟨rfl, rfl⟩)
theorem step_any (pr st fl : Int) (inb : Bool) (hfl : 0 ≤ fl ∧ fl ≤ 255) (W : World) :
    Calls Try.prog 27 #[.int .u8 pr, .int .i64 st, .int .u8 fl, .bool inb] W fun e W' => e = .returned (.int .i64 (stp pr st fl inb)) ∧ W = W' := by
  by_cases h6 : pr = 6
  · subst h6
    obtain ⟨a1, a2⟩ := u8_and4 fl hfl
    have := step_tcp (st % 4) (st % 16 / 4 * 4) (fl / 4 % 2 * 4) (fl % 2) inb st fl (i64_and3 st) (i64_and12 st) a1 a2 (by omega) (by omega) (by omega) (by omega) W
    have e1 : (decide (fl / 4 % 2 * 4 = 4)) = decide (fl / 4 % 2 = 1) := by
      rw [decide_eq_decide]; omega
    rw [e1] at this
    unfold stp
    rw [if_pos rfl]
    exact this
  · have hne : (pr != 6) = true := by simp [h6]
    have hr : stp pr st fl inb = 1 := by unfold stp; rw [if_neg h6]
    rw [hr]
    clear hr hfl
    go_enter Try.func27, Try.ntmps27
    go_wp2_with fail
    go_ret
    exact ⟨rfl, rfl⟩
theorem life_any (pr st : Int) (W : World) : Calls Try.prog 29 #[.int .u8 pr, .int .i64 st] W fun e W' => e = .returned (.int .u32 (lif pr st)) ∧ W = W' := by
  have h3 := i64_and3 st
  have hs : st % 4 = 0 ∨ st % 4 = 1 ∨ st % 4 = 2 ∨ st % 4 = 3 := by omega
  have C1 := standOf_any st (st % 4) h3 hs W
  have C2 := lifeOf_any (st % 4) hs W
  unfold lif
  generalize st % 4 = s at *
  by_cases p1 : pr = 1
  · subst p1
    rw [if_pos rfl]
    clear C1 C2
    go_enter Try.func29, Try.ntmps29
    go_wp2_with fail
    go_ret
    exact ⟨rfl, rfl⟩
  · have q1 : (pr == 1) = false := by simp [p1]
    rw [if_neg p1]
    by_cases p2 : pr = 17
    · subst p2
      rw [if_pos rfl]
      clear C1 C2
      go_enter Try.func29, Try.ntmps29
      go_wp2_with fail
      go_ret
      exact ⟨rfl, rfl⟩
    · have q2 : (pr == 17) = false := by simp [p2]
      rw [if_neg p2]
      by_cases p3 : pr = 6
      · subst p3
        rw [if_pos rfl]
        generalize std s = s' at *
        generalize (if s = 0 then 4 else if s = 1 then 200 else 2 : Int) = v at *
        clear hs h3
        go_enter Try.func29, Try.ntmps29
        go_wp2_with fail
        with_reducible refine C1.mono ?_
        rintro e w1 ⟨rfl, rfl⟩
        go_wp2_with fail
        with_reducible refine C2.mono ?_
        rintro e w1 ⟨rfl, rfl⟩
        go_wp2_with fail
        go_ret
        exact ⟨rfl, rfl⟩
      · have q3 : (pr == 6) = false := by simp [p3]
        rw [if_neg p3]
        clear C1 C2
        go_enter Try.func29, Try.ntmps29
        go_wp2_with fail
        go_ret
        exact ⟨rfl, rfl⟩
end Ss
end Go.Proofs.Ytgeeijinhneoiaa
