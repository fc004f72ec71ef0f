/-
  lychlaw10.LogRooms.
-/
import Derived.Test.YtbmpjlgfbiakoabDoorLgKnown
namespace Go.Proofs.YtbmpjlgfbiakoabDoor
open Go.RowKit
open Sm
set_option linter.unusedVariables false

set_option maxRecDepth 20000 in
set_option maxHeartbeats 4000000 in
theorem rooms_any {w : World} {ga : Addr} (hG : Gl w ga) (x y : Int) (hx0 : -9223372036854775808 ≤ x) (hx1 : x ≤ 9223372036854775807) (hy0 : -9223372036854775808 ≤ y) (hy1 : y ≤ 9223372036854775807) :
    Calls Tryd.prog 3 #[.int .i64 x, .int .i64 y] w fun e w' => e = .returned (.bool true) ∧ Below w.heap.size w w' := by
  have hK := known_log hG
  have hpx := plc_range x 12 (by omega)
  have hpy := plc_range y 12000 (by omega)
  have hcx : ∀ W, Calls Tryd.prog 5 #[.int .i64 x, .int .i64 12] W (fun e w' => e = .returned (.int .i64 (plc x 12)) ∧ W = w') := fun W => place_any x 12 W hx0 hx1 (by omega) (by omega)
  have hcy : ∀ W, Calls Tryd.prog 5 #[.int .i64 y, .int .i64 12000] W (fun e w' => e = .returned (.int .i64 (plc y 12000)) ∧ W = w') := fun W => place_any y 12000 W hy0 hy1 (by omega) (by omega)
  generalize plc x 12 = X at hpx hcx
  generalize plc y 12000 = S at hpy hcy
  obtain ⟨N, hN⟩ : ∃ N : Nat, (1 : Int) + X = (N : Int) := ⟨(1 + X).toNat, by omega⟩
  obtain ⟨M, hM⟩ : ∃ M : Nat, (64 : Int) + S = (M : Int) := ⟨(64 + S).toNat, by omega⟩
  have hNb : 1 ≤ N ∧ N ≤ 12 := by omega
  have hMb : 64 ≤ M ∧ M ≤ 12063 := by omega
  have wN : IntKind.i64.wrap (N : Int) = N := by rw [IntKind.wrap_i64]; omega
  have wM : IntKind.i64.wrap (M : Int) = M := by rw [IntKind.wrap_i64]; omega
  have HG : Hid (Gl w ga) := hG
  have HNW : Hid (∀ W, Calls Tryd.prog 6 #[.int .i64 N, .int .i64 M] W fun e W' => ∃ p, e = .returned (.pointer (some ⟨p, 0, none⟩)) ∧ ∃ h, Sd W W' p h M N ⟨false, false, 0, 0⟩ 0 [] []) := fun W => sd_new (by unfold bd; omega) (by unfold bd; omega) W
  obtain ⟨R, hR⟩ : ∃ R, R = room N M := ⟨_, rfl⟩
  have HRR : Hid (R = room N M) := hR
  by_cases hok : 4 ≤ N ∧ 256 ≤ M
  · obtain ⟨Q, hQ⟩ : ∃ Q, Q = (N - 1) / 2 := ⟨_, rfl⟩
    obtain ⟨U, hU⟩ : ∃ U, U = M - 64 := ⟨_, rfl⟩
    obtain ⟨T, hT⟩ : ∃ T, T = Q * U := ⟨_, rfl⟩
    obtain ⟨N1, hN1⟩ : ∃ N1 : Nat, (N : Int) - 1 = (N1 : Int) := ⟨N - 1, by omega⟩
    have hQi : Int.tdiv (N1 : Int) 2 = (Q : Int) := by rw [Int.tdiv_eq_ediv_of_nonneg (by omega)]; omega
    have hUi : (M : Int) - 64 = (U : Int) := by omega
    have hTi : (Q : Int) * (U : Int) = (T : Int) := by rw [hT]; push_cast; rfl
    have hTl : T ≤ 5 * 12000 := by rw [hT]; exact Nat.mul_le_mul (by omega) (by omega)
    have wN1 : IntKind.i64.wrap (N1 : Int) = N1 := by rw [IntKind.wrap_i64]; omega
    have wQ : IntKind.i64.wrap (Q : Int) = Q := by rw [IntKind.wrap_i64]; omega
    have wU : IntKind.i64.wrap (U : Int) = U := by rw [IntKind.wrap_i64]; omega
    have wT : IntKind.i64.wrap (T : Int) = T := by rw [IntKind.wrap_i64]; omega
    have hRT : R = min T 16384 := by
      rw [hR, hT, hQ, hU]; unfold room; rw [if_pos hok]
      first | rfl | (unfold sbk; rfl)
    have q1 : ¬ (N : Int) < 4 := by omega
    have q2 : ¬ (M : Int) < 256 := by omega
    have q3 : (R : Int) ≤ 16384 := by omega
    have q4 : min (T : Int) 16384 ≤ (R : Int) := by omega
    have q3n : R ≤ 16384 := by omega
    have HX : Hid (4 ≤ N ∧ 256 ≤ M) := hok
    clear hG hR hRT hTl hT hU hQ hok
    go_enter Tryd.func3, Tryd.ntmps3
    go_wp2_with fail
    refine hK.mono ?_
    rintro e w1 ⟨rfl, K1, h1⟩
    have HG1 : Hid (Gl w1 ga) := HG.out.on h1
    have HB1 : Hid (Below w.heap.size w w1) := h1.below
    clear hK h1
    go_wp2_with fail
    refine (hcx _).mono ?_
    rintro e w' ⟨rfl, rfl⟩
    clear hcx
    go_wp2_with fail
    refine (hcy _).mono ?_
    rintro e w' ⟨rfl, rfl⟩
    clear hcy
    go_wp2_with fail
    refine (HNW.out w1).mono ?_
    rintro e w2 ⟨p, rfl, h, H2⟩
    have hO := sd_open H2 HG1.out rfl HX.out.1 HX.out.2 (by omega) (by omega)
    clear H2
    go_wp2_with fail
    refine hO.mono ?_
    rintro e w3 ⟨pl, v', rfl, got, Y, hRS, hE, H3⟩
    obtain ⟨rfl, rfl⟩ := rs_nil (by rw [ends_nil hE] at hRS; exact hRS)
    have hRM := sd_room H3.sd
    rw [← HRR.out] at hRM
    have HB3 : Hid (Below w.heap.size w w3) := HB1.out.trans (H3.sd.below.mono HB1.out.size)
    clear hO hRS hE H3
    go_wp2_with fail
    refine hRM.mono ?_
    rintro e w' ⟨rfl, rfl⟩
    clear hRM
    go_wp2
    all_goals first | (exfalso; omega) | (go_ret; exact ⟨by simp, HB3.out⟩)
  · have hR0 : R = 0 := by rw [hR]; unfold room; rw [if_neg hok]
    have HX : Hid (¬ (4 ≤ N ∧ 256 ≤ M)) := hok
    have e9 : ∀ W : World, W = W := fun _ => rfl
    subst hR0
    by_cases hn4 : N < 4
    · have q1 : (N : Int) < 4 := by omega
      clear hG hR hok
      go_enter Tryd.func3, Tryd.ntmps3
      go_wp2_with fail
      refine hK.mono ?_
      rintro e w1 ⟨rfl, K1, h1⟩
      have HB1 : Hid (Below w.heap.size w w1) := h1.below
      clear hK h1
      go_wp2_with fail
      refine (hcx _).mono ?_
      rintro e w' ⟨rfl, rfl⟩
      clear hcx
      go_wp2_with fail
      refine (hcy _).mono ?_
      rintro e w' ⟨rfl, rfl⟩
      clear hcy
      go_wp2_with fail
      refine (HNW.out w1).mono ?_
      rintro e w2 ⟨p, rfl, h, H2⟩
      have hO := sd_open_small H2 HX.out
      have hRM := sd_room H2
      rw [← HRR.out] at hRM
      have HB3 : Hid (Below w.heap.size w w2) := HB1.out.trans (H2.below.mono HB1.out.size)
      clear H2
      go_wp2_with fail
      refine hO.mono ?_
      rintro e w' ⟨rfl, rfl⟩
      clear hO
      go_wp2_with fail
      refine hRM.mono ?_
      rintro e w' ⟨rfl, rfl⟩
      clear hRM
      go_wp2
      go_ret
      exact ⟨by simp, HB3.out⟩
    · have q1 : ¬ (N : Int) < 4 := by omega
      have q2 : (M : Int) < 256 := by omega
      clear hG hR hok
      go_enter Tryd.func3, Tryd.ntmps3
      go_wp2_with fail
      refine hK.mono ?_
      rintro e w1 ⟨rfl, K1, h1⟩
      have HB1 : Hid (Below w.heap.size w w1) := h1.below
      clear hK h1
      go_wp2_with fail
      refine (hcx _).mono ?_
      rintro e w' ⟨rfl, rfl⟩
      clear hcx
      go_wp2_with fail
      refine (hcy _).mono ?_
      rintro e w' ⟨rfl, rfl⟩
      clear hcy
      go_wp2_with fail
      refine (HNW.out w1).mono ?_
      rintro e w2 ⟨p, rfl, h, H2⟩
      have hO := sd_open_small H2 HX.out
      have hRM := sd_room H2
      rw [← HRR.out] at hRM
      have HB3 : Hid (Below w.heap.size w w2) := HB1.out.trans (H2.below.mono HB1.out.size)
      clear H2
      go_wp2_with fail
      refine hO.mono ?_
      rintro e w' ⟨rfl, rfl⟩
      clear hO
      go_wp2_with fail
      refine hRM.mono ?_
      rintro e w' ⟨rfl, rfl⟩
      clear hRM
      go_wp2
      go_ret
      exact ⟨by simp, HB3.out⟩
end Go.Proofs.YtbmpjlgfbiakoabDoor
