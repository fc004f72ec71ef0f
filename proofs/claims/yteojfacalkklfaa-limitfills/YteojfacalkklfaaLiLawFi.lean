/-
  A bucket that is emptied is full again behind just as many ticks as its rate asks for.
-/
import Derived.Test.YteojfacalkklfaaLiKnown
namespace Go.Proofs.Yteojfacalkklfaa
open Go.RowKit
open Sm
open Li
set_option linter.unusedVariables false
set_option linter.unusedSimpArgs false
set_option maxRecDepth 20000

namespace Li
set_option maxHeartbeats 8000000 in
theorem fills20_law (W : World) (rate burst : Int) (hr0 : 0 ≤ rate ∧ rate ≤ 65535) (hb0 : 0 ≤ burst ∧ burst ≤ 65535) :
    Calls Try.prog 5 #[.int .u16 rate, .int .u16 burst] W fun e W' => e = .returned (.bool true) ∧ Below W.heap.size W W' := by
  have K1 := known20_any W
  have r1 : Int.tmod rate 50 = rate % 50 := Int.tmod_eq_emod_of_nonneg hr0.1
  have r2 : Int.tmod burst 1000 = burst % 1000 := Int.tmod_eq_emod_of_nonneg hb0.1
  have w1 : IntKind.u16.wrap (rate % 50) = rate % 50 := by rw [IntKind.wrap_u16]; omega
  have w2 : IntKind.u16.wrap (burst % 1000) = burst % 1000 := by rw [IntKind.wrap_u16]; omega
  have w3 : IntKind.u32.wrap (rate % 50) = rate % 50 := by rw [IntKind.wrap_u32]; omega
  have w4 : IntKind.u32.wrap (burst % 1000) = burst % 1000 := by rw [IntKind.wrap_u32]; omega
  have hr : 0 ≤ rate % 50 ∧ rate % 50 < 50 := by omega
  have hm : 0 ≤ burst % 1000 ∧ burst % 1000 < 1000 := by omega
  generalize rate % 50 = r at *
  generalize burst % 1000 = m at *
  have hrU : U r := by unfold U; omega
  have hmU : U m := by unfold U; omega
  go_enter Try.func5, Try.ntmps5
  go_wp2_with fail
  refine K1.mono ?_
  rintro e W1 ⟨rfl, hb1⟩
  have C1 := new_any r m W1
  clear K1
  go_wp2_with fail
  refine C1.mono ?_
  rintro e W2 ⟨p, rfl, m2⟩
  have m2' : Mem W W2 [Bk 43 p r m m] := by simpa using ((Mem.nil W).after hb1).join m2
  have C2 := take_any m2' hmU m hmU
  rw [decide_eq_true (Int.le_refl m), show lef m m = 0 by unfold lef; rw [if_pos (Int.le_refl m)]; omega] at C2
  clear C1 m2 m2' hb1
  go_wp2_with fail
  refine C2.mono ?_
  rintro e W3 ⟨rfl, m3⟩
  have C3 := level_any m3
  have HS0 : Hid (Mem W W3 [Bk 43 p r m 0]) := m3
  clear C2 m3
  go_wp2_with fail
  refine C3.mono ?_
  rintro e W4 ⟨rfl, rfl⟩
  clear C3
  go_wp2_with fail
  go_loopw [8, 9] (fun u8 u9 w' => ∃ (i : Nat) (l : Int), i ≤ 30 ∧ (0 ≤ l ∧ l ≤ m) ∧ u8 = .int .u32 l ∧ u9 = .int .i64 i ∧ Hid (Mem W w' [Bk 43 p r m l])) (fun u8 u9 w' => 30 - (intOf u9).toNat)
  case atStart => exact ⟨0, 0, Nat.zero_le _, by omega, rfl, rfl, HS0.out⟩
  case round =>
    obtain ⟨i, l, hi, hl, rfl, rfl, HS⟩ := hrel
    clear HS0
    by_cases hlt : i < 30
    · have k1 : (i : Int) < 30 := by omega
      have C4 := tick_any HS.out hrU hmU hl
      have hti := tik_in hrU hmU hl
      have v1 : IntKind.u32.wrap (l + r) = l + r := by rw [IntKind.wrap_u32]; omega
      have v2 : min (l + r) m = tik r m l := Int.min_def ..
      clear HS
      generalize tik r m l = t at *
      go_wp2_with fail
      refine C4.mono ?_
      rintro e W5 ⟨rfl, m5⟩
      have C5 := level_any m5
      have HS : Hid (Mem W W5 [Bk 43 p r m t]) := m5
      clear C4 m5
      go_wp2_with fail
      refine C5.mono ?_
      rintro e W6 ⟨rfl, rfl⟩
      have g1 : (t != t) = false := by simp
      clear C5
      go_wp2_with fail
      go_roundw
      case rel => exact ⟨i + 1, t, by omega, hti, by first | rfl | trivial, by go_num, HS.out⟩
      case measure => simp [intOf]; omega
    · obtain rfl : i = 30 := by omega
      have C4 := take_any HS.out (by unfold U; omega) l (by unfold U; omega)
      rw [decide_eq_true (Int.le_refl l), show lef l l = 0 by unfold lef; rw [if_pos (Int.le_refl l)]; omega] at C4
      clear HS
      go_wp2_with fail
      refine C4.mono ?_
      rintro e W5 ⟨rfl, m5⟩
      have C5 := level_any m5
      have C6 := take_any m5 (by unfold U; omega) 1 (by unfold U; omega)
      rw [show decide ((1 : Int) ≤ 0) = false from rfl] at C6
      clear C4 m5
      go_wp2_with fail
      refine C5.mono ?_
      rintro e W6 ⟨rfl, rfl⟩
      clear C5
      go_wp2_with fail
      refine C6.mono ?_
      rintro e W6 ⟨rfl, m6⟩
      have HB : Hid (Below W.heap.size W W6) := m6.below
      clear C6 m6
      go_wp2_with fail
      go_ret
      exact ⟨rfl, HB.out⟩
end Li
end Go.Proofs.Yteojfacalkklfaa
