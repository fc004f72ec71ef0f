/-
  Wheel, the program's own: slotOf, placeOf.
-/
import Derived.Test.YtfplmefcblkljaaWpSort
import Derived.Laws.BitsAllLaws
namespace Go.Proofs.Ytfplmefcblkljaa
open Go.RowKit
open Sm
open Po
open Wh
set_option linter.unusedVariables false
set_option linter.unusedSimpArgs false
set_option maxRecDepth 20000

namespace Wp
theorem slo_int (T : Int) (hT : 0 ≤ T) (l : Nat) : ((slo T.toNat l : Nat) : Int) = l * 16 + T / ((16 ^ l : Nat) : Int) % 16 := by
  obtain ⟨t, rfl⟩ : ∃ t : Nat, T = t := ⟨T.toNat, by omega⟩
  unfold slo dg
  rw [Int.toNat_natCast]
  push_cast
  rfl
theorem slotOf_0 (T : Int) (hT : 0 ≤ T ∧ T ≤ 4294967295) (W : World) : Calls Try.prog 27 #[.int .u32 T, .int .i64 0] W fun e w' => e = .returned (.int .i64 ((slo T.toNat 0 : Nat) : Int)) ∧ W = w' := by
  have h : ((slo T.toNat 0 : Nat) : Int) = T % 16 := by
    rw [slo_int T hT.1]
    omega
  rw [h]
  clear h
  go_enter Try.func27, Try.ntmps27
  go_wp2_with fail
  go_ret
  exact ⟨rfl, rfl⟩
theorem slotOf_1 (T : Int) (hT : 0 ≤ T ∧ T ≤ 4294967295) (W : World) : Calls Try.prog 27 #[.int .u32 T, .int .i64 1] W fun e w' => e = .returned (.int .i64 ((slo T.toNat 1 : Nat) : Int)) ∧ W = w' := by
  have h : ((slo T.toNat 1 : Nat) : Int) = 16 + T / 16 % 16 := by
    rw [slo_int T hT.1]
    omega
  rw [h]
  clear h
  go_enter Try.func27, Try.ntmps27
  go_wp2_with fail
  go_ret
  exact ⟨rfl, rfl⟩
theorem slotOf_2 (T : Int) (hT : 0 ≤ T ∧ T ≤ 4294967295) (W : World) : Calls Try.prog 27 #[.int .u32 T, .int .i64 2] W fun e w' => e = .returned (.int .i64 ((slo T.toNat 2 : Nat) : Int)) ∧ W = w' := by
  have h : ((slo T.toNat 2 : Nat) : Int) = 32 + T / 256 % 16 := by
    rw [slo_int T hT.1]
    omega
  rw [h]
  clear h
  go_enter Try.func27, Try.ntmps27
  go_wp2_with fail
  go_ret
  exact ⟨rfl, rfl⟩
theorem slotOf_3 (T : Int) (hT : 0 ≤ T ∧ T ≤ 4294967295) (W : World) : Calls Try.prog 27 #[.int .u32 T, .int .i64 3] W fun e w' => e = .returned (.int .i64 ((slo T.toNat 3 : Nat) : Int)) ∧ W = w' := by
  have h : ((slo T.toNat 3 : Nat) : Int) = 48 + T / 4096 % 16 := by
    rw [slo_int T hT.1]
    omega
  rw [h]
  clear h
  go_enter Try.func27, Try.ntmps27
  go_wp2_with fail
  go_ret
  exact ⟨rfl, rfl⟩
theorem slotOf_4 (T : Int) (hT : 0 ≤ T ∧ T ≤ 4294967295) (W : World) : Calls Try.prog 27 #[.int .u32 T, .int .i64 4] W fun e w' => e = .returned (.int .i64 ((slo T.toNat 4 : Nat) : Int)) ∧ W = w' := by
  have h : ((slo T.toNat 4 : Nat) : Int) = 64 + T / 65536 % 16 := by
    rw [slo_int T hT.1]
    omega
  rw [h]
  clear h
  go_enter Try.func27, Try.ntmps27
  go_wp2_with fail
  go_ret
  exact ⟨rfl, rfl⟩
theorem slotOf_5 (T : Int) (hT : 0 ≤ T ∧ T ≤ 4294967295) (W : World) : Calls Try.prog 27 #[.int .u32 T, .int .i64 5] W fun e w' => e = .returned (.int .i64 ((slo T.toNat 5 : Nat) : Int)) ∧ W = w' := by
  have h : ((slo T.toNat 5 : Nat) : Int) = 80 + T / 1048576 % 16 := by
    rw [slo_int T hT.1]
    omega
  rw [h]
  clear h
  go_enter Try.func27, Try.ntmps27
  go_wp2_with fail
  go_ret
  exact ⟨rfl, rfl⟩
theorem slotOf_6 (T : Int) (hT : 0 ≤ T ∧ T ≤ 4294967295) (W : World) : Calls Try.prog 27 #[.int .u32 T, .int .i64 6] W fun e w' => e = .returned (.int .i64 ((slo T.toNat 6 : Nat) : Int)) ∧ W = w' := by
  have h : ((slo T.toNat 6 : Nat) : Int) = 96 + T / 16777216 % 16 := by
    rw [slo_int T hT.1]
    omega
  rw [h]
  clear h
  go_enter Try.func27, Try.ntmps27
  go_wp2_with fail
  go_ret
  exact ⟨rfl, rfl⟩
theorem slotOf_7 (T : Int) (hT : 0 ≤ T ∧ T ≤ 4294967295) (W : World) : Calls Try.prog 27 #[.int .u32 T, .int .i64 7] W fun e w' => e = .returned (.int .i64 ((slo T.toNat 7 : Nat) : Int)) ∧ W = w' := by
  have h : ((slo T.toNat 7 : Nat) : Int) = 112 + T / 268435456 % 16 := by
    rw [slo_int T hT.1]
    omega
  rw [h]
  clear h
  go_enter Try.func27, Try.ntmps27
  go_wp2_with fail
  go_ret
  exact ⟨rfl, rfl⟩
theorem slotOf_any (T : Int) (hT : 0 ≤ T ∧ T ≤ 4294967295) (l : Nat) (hl : l ≤ 7) (W : World) : Calls Try.prog 27 #[.int .u32 T, .int .i64 l] W fun e w' => e = .returned (.int .i64 ((slo T.toNat l : Nat) : Int)) ∧ W = w' := by
  rcases (show l = 0 ∨ l = 1 ∨ l = 2 ∨ l = 3 ∨ l = 4 ∨ l = 5 ∨ l = 6 ∨ l = 7 by omega) with rfl | rfl | rfl | rfl | rfl | rfl | rfl | rfl
  · exact slotOf_0 T hT W
  · exact slotOf_1 T hT W
  · exact slotOf_2 T hT W
  · exact slotOf_3 T hT W
  · exact slotOf_4 T hT W
  · exact slotOf_5 T hT W
  · exact slotOf_6 T hT W
  · exact slotOf_7 T hT W
set_option maxHeartbeats 4000000 in
theorem placeOf_any (T N : Int) (hT : 0 ≤ T ∧ T ≤ 4294967295) (hN : 0 ≤ N ∧ N ≤ 4294967295) (W : World) : Calls Try.prog 20 #[.int .u32 T, .int .u32 N] W fun e w' => e = .returned (.int .i64 ((pl T.toNat N.toNat : Nat) : Int)) ∧ W = w' := by
  obtain ⟨t, rfl⟩ : ∃ t : Nat, T = t := ⟨T.toNat, by omega⟩
  obtain ⟨n, rfl⟩ : ∃ n : Nat, N = n := ⟨N.toNat, by omega⟩
  obtain ⟨b, hb⟩ : ∃ b, bump t n = b := ⟨_, rfl⟩
  have hbl : b < 4294967296 := by rw [← hb]; exact bump_lt (by omega)
  have hbn : b ≠ n := by rw [← hb]; exact bump_ne (by omega)
  obtain ⟨h1, h2, h3, -, -⟩ := lv_spec hbl (show n < 4294967296 by omega) hbn
  obtain ⟨r, hr⟩ : ∃ r, slo b (lv b n) = r := ⟨_, rfl⟩
  have hpl : pl (t : Int).toNat (n : Int).toNat = r := by
    rw [Int.toNat_natCast, Int.toNat_natCast]
    unfold pl
    rw [hb]
    exact hr
  rw [hpl]
  have hx := u32_xor_nat b n hbl (by omega)
  have hxl : b ^^^ n < 4294967296 := Nat.xor_lt_two_pow (n := 32) hbl (by omega)
  have C1 := Try.bits_Len32 ((b ^^^ n : Nat) : Int) W (by omega) (by omega)
  rw [Int.toNat_natCast] at C1
  have C2 := slotOf_any (b : Int) (by omega) (lv b n) h3 W
  rw [Int.toNat_natCast, hr] at C2
  have hlv : ((lv b n : Nat) : Int) = (((Lib.bitLen (b ^^^ n) : Nat) : Int) - 1) / 4 := by unfold lv; omega
  generalize lv b n = l at *
  generalize Lib.bitLen (b ^^^ n) = ln at *
  generalize b ^^^ n = x at *
  obtain ⟨B, hB⟩ : ∃ B : Int, (b : Int) = B := ⟨_, rfl⟩
  obtain ⟨NN, hNN⟩ : ∃ B : Int, (n : Int) = B := ⟨_, rfl⟩
  obtain ⟨TT, hTT⟩ : ∃ B : Int, (t : Int) = B := ⟨_, rfl⟩
  obtain ⟨XX, hXX⟩ : ∃ B : Int, (x : Int) = B := ⟨_, rfl⟩
  obtain ⟨LL, hLL⟩ : ∃ B : Int, (l : Int) = B := ⟨_, rfl⟩
  obtain ⟨LN, hLN⟩ : ∃ B : Int, (ln : Int) = B := ⟨_, rfl⟩
  obtain ⟨RR, hRR⟩ : ∃ B : Int, (r : Int) = B := ⟨_, rfl⟩
  rw [hB, hNN, hXX] at hx
  rw [hXX, hLN] at C1
  rw [hB, hLL, hRR] at C2
  rw [hRR, hTT, hNN]
  have e1 : IntKind.i64.wrap (LN - 1) = LN - 1 := by rw [IntKind.wrap_i64]; omega
  have e4 : IntKind.i64.wrap LL = LL := by rw [IntKind.wrap_i64]; omega
  have e2 : (LN - 1) / 4 = LL := by omega
  have e3 : Int.tdiv (LN - 1) 4 = LL := by rw [Int.tdiv_eq_ediv_of_nonneg (by omega)]; exact e2
  have hbb : (TT ≤ NN ∧ IntKind.u32.wrap (NN + 1) = B) ∨ (¬ TT ≤ NN ∧ TT = B) := by
    unfold bump at hb
    by_cases h : t ≤ n
    · rw [if_pos h] at hb
      refine Or.inl ⟨by omega, ?_⟩
      rw [show IntKind.u32.wrap (NN + 1) = (NN + 1) % 4294967296 by simp [IntKind.wrap, IntKind.bits, IntKind.signed]]
      omega
    · rw [if_neg h] at hb
      exact Or.inr ⟨by omega, by omega⟩
  clear hB hNN hTT hXX hLL hLN hRR hb hbl hbn hr hpl hlv hxl h1 h2 h3 hT hN e2
  rcases hbb with ⟨h, hw⟩ | ⟨h, rfl⟩
  · go_enter Try.func20, Try.ntmps20
    go_wp2_with fail
    with_reducible refine C1.mono ?_
    rintro e w' ⟨rfl, rfl⟩
    go_wp2_with fail
    with_reducible refine C2.mono ?_
    rintro e w' ⟨rfl, rfl⟩
    go_wp2_with fail
    go_ret
    exact ⟨rfl, rfl⟩
  · go_enter Try.func20, Try.ntmps20
    go_wp2_with fail
    with_reducible refine C1.mono ?_
    rintro e w' ⟨rfl, rfl⟩
    go_wp2_with fail
    with_reducible refine C2.mono ?_
    rintro e w' ⟨rfl, rfl⟩
    go_wp2_with fail
    go_ret
    exact ⟨rfl, rfl⟩
end Wp
end Go.Proofs.Ytfplmefcblkljaa
