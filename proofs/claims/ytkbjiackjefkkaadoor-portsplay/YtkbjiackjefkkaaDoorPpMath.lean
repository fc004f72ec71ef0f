/-
  Ports: words of bits.
-/
import Derived.Laws.BitsAllLaws
import Derived.Laws.Bits64b
import Derived.Lib.TrailingZeros
namespace Go.Proofs.YtkbjiackjefkkaaDoor
open Go
set_option linter.unusedVariables false
set_option linter.unusedSimpArgs false

namespace Po
/-- The word of n bits whose bit i is f i. -/
def mkw : Nat → (Nat → Bool) → Nat
  | 0, _ => 0
  | n + 1, f => (if f 0 then 1 else 0) + 2 * mkw n (fun b => f (b + 1))
theorem mkw_lt : ∀ (n : Nat) (f : Nat → Bool), mkw n f < 2 ^ n
  | 0, _ => by simp [mkw]
  | n + 1, f => by
    have := mkw_lt n (fun b => f (b + 1))
    unfold mkw
    rw [Nat.pow_succ]
    split <;> omega
theorem mkw_bit : ∀ (n : Nat) (f : Nat → Bool) (i : Nat), (mkw n f).testBit i = (decide (i < n) && f i)
  | 0, f, i => by simp [mkw]
  | n + 1, f, 0 => by
    unfold mkw
    rw [Nat.testBit_zero]
    cases h : f 0 <;> simp <;> omega
  | n + 1, f, i + 1 => by
    rw [Nat.testBit_succ]
    have e : mkw (n + 1) f / 2 = mkw n (fun b => f (b + 1)) := by
      conv => lhs; unfold mkw
      split <;> omega
    rw [e, mkw_bit n]
    simp
theorem eq_mkw {n x : Nat} {f : Nat → Bool} (hx : x < 2 ^ n) (h : ∀ i, i < n → x.testBit i = f i) : x = mkw n f := by
  apply Nat.eq_of_testBit_eq
  intro i
  rw [mkw_bit]
  by_cases hi : i < n
  · simp [hi, h i hi]
  · simp only [hi, decide_false, Bool.false_and]
    exact Nat.testBit_lt_two_pow (Nat.lt_of_lt_of_le hx (Nat.pow_le_pow_right (by decide) (by omega)))
theorem mkw_congr {n : Nat} {f g : Nat → Bool} (h : ∀ i, i < n → f i = g i) : mkw n f = mkw n g := eq_mkw (mkw_lt n f) fun i hi => by rw [mkw_bit]; simp [hi, h i hi]
theorem mkw_zero {n : Nat} {f : Nat → Bool} : mkw n f = 0 ↔ ∀ i, i < n → f i = false := by
  constructor
  · intro h i hi
    have := mkw_bit n f i
    rw [h] at this
    simpa [hi] using this.symm
  · intro h
    exact (eq_mkw (x := 0) (Nat.two_pow_pos n) fun i hi => by simp [h i hi]).symm
theorem p64 : (2 : Nat) ^ 64 = 18446744073709551616 := by decide
theorem mkw64 (f : Nat → Bool) : mkw 64 f < 18446744073709551616 := p64 ▸ mkw_lt 64 f
/-- The lowest bit that is set. -/
theorem ctz_low {x : Nat} (h0 : x ≠ 0) (hx : x < 18446744073709551616) : Lib.ctz 64 x < 64 ∧ x.testBit (Lib.ctz 64 x) = true ∧ ∀ j, j < Lib.ctz 64 x → x.testBit j = false := by
  unfold Lib.ctz
  rw [if_neg h0]
  obtain ⟨m, hm, hk⟩ := Lib.ctzFrom_spec 64 x (by omega) (by rw [p64]; exact hx)
  generalize Lib.ctzFrom 64 x = k at hm hk
  subst hm
  refine ⟨hk, ?_, fun j hj => ?_⟩
  · rw [Nat.mul_comm, Nat.testBit_mul_two_pow]
    simp [Nat.testBit_zero]
  · rw [Nat.mul_comm, Nat.testBit_mul_two_pow]
    simp
    omega
theorem ctz_mkw {f : Nat → Bool} (h0 : mkw 64 f ≠ 0) : Lib.ctz 64 (mkw 64 f) < 64 ∧ f (Lib.ctz 64 (mkw 64 f)) = true ∧ ∀ j, j < Lib.ctz 64 (mkw 64 f) → f j = false := by
  obtain ⟨h1, h2, h3⟩ := ctz_low h0 (mkw64 f)
  refine ⟨h1, ?_, fun j hj => ?_⟩
  · rw [mkw_bit] at h2
    simpa [h1] using h2
  · have := h3 j hj
    rw [mkw_bit] at this
    have hj' : j < 64 := by omega
    simpa [hj'] using this
/-- and, and not, as bits. -/
theorem and_mkw (f g : Nat → Bool) : bits .and .u64 (mkw 64 f : Nat) (mkw 64 g : Nat) = ((mkw 64 (fun i => f i && g i) : Nat) : Int) := by
  rw [u64_and_nat _ _ (mkw64 f) (mkw64 g)]
  refine congrArg (fun (x : Nat) => (x : Int)) ?_
  refine eq_mkw (Nat.lt_of_le_of_lt Nat.and_le_left (mkw_lt 64 f)) fun i hi => ?_
  rw [Nat.testBit_and, mkw_bit, mkw_bit]
  simp [hi]
theorem not_bit {x i : Nat} (hx : x < 18446744073709551616) (hi : i < 64) : (18446744073709551615 - x).testBit i = !x.testBit i := by
  have e : 18446744073709551615 - x = 2 ^ 64 - (x + 1) := by rw [p64]; omega
  rw [e, Nat.testBit_two_pow_sub_succ (by rw [p64]; exact hx)]
  simp [hi]
theorem andNot_mkw (f g : Nat → Bool) : bits .andNot .u64 (mkw 64 f : Nat) (mkw 64 g : Nat) = ((mkw 64 (fun i => f i && !g i) : Nat) : Int) := by
  rw [u64_andNot_nat _ _ (mkw64 f) (mkw64 g)]
  refine congrArg (fun (x : Nat) => (x : Int)) ?_
  refine eq_mkw (Nat.lt_of_le_of_lt Nat.and_le_left (mkw_lt 64 f)) fun i hi => ?_
  rw [Nat.testBit_and, mkw_bit, not_bit (mkw64 g) hi, mkw_bit]
  simp [hi]
theorem xor_mkw (f g : Nat → Bool) : bits .xor .u64 (mkw 64 f : Nat) (mkw 64 g : Nat) = ((mkw 64 (fun i => f i ^^ g i) : Nat) : Int) := by
  rw [u64_xor_nat _ _ (mkw64 f) (mkw64 g)]
  refine congrArg (fun (x : Nat) => (x : Int)) ?_
  refine eq_mkw (Nat.xor_lt_two_pow (mkw_lt 64 f) (mkw_lt 64 g)) fun i hi => ?_
  rw [Nat.testBit_xor, mkw_bit, mkw_bit]
  simp [hi]
/-- One bit. -/
theorem one_mkw {k : Nat} (hk : k < 64) : 2 ^ k = mkw 64 (fun i => decide (i = k)) := eq_mkw (Nat.pow_lt_pow_right (by decide) hk) fun i _ => by
  rw [Nat.testBit_two_pow]
  simp [eq_comm]
/-- All bits, moved. -/
theorem shl_mkw (a : Nat) : IntKind.u64.wrap (18446744073709551615 * 2 ^ (min a 64)) = ((mkw 64 (fun i => decide (a ≤ i)) : Nat) : Int) := by
  have e : IntKind.u64.wrap (18446744073709551615 * 2 ^ (min a 64)) = (((18446744073709551615 * 2 ^ (min a 64)) % 2 ^ 64 : Nat) : Int) := by
    rw [IntKind.wrap_u64]
    have hp : (2 : Int) ^ (min a 64) = ((2 ^ (min a 64) : Nat) : Int) := by simp
    rw [hp, p64]
    exact rfl
  rw [e]
  refine congrArg (fun (x : Nat) => (x : Int)) ?_
  refine eq_mkw (Nat.mod_lt _ (Nat.two_pow_pos 64)) fun i hi => ?_
  rw [Nat.testBit_mod_two_pow, Nat.testBit_mul_two_pow]
  have e2 : (18446744073709551615 : Nat) = 2 ^ 64 - 1 := by decide
  rw [e2, Nat.testBit_two_pow_sub_one]
  clear e
  simp only [hi, decide_true, Bool.true_and]
  rw [← Bool.decide_and, decide_eq_decide]
  omega
theorem shr_mkw (b : Nat) : (18446744073709551615 : Int).fdiv (2 ^ (min b 64)) = ((mkw 64 (fun i => decide (i + b < 64)) : Nat) : Int) := by
  have e : (18446744073709551615 : Int).fdiv (2 ^ (min b 64)) = ((18446744073709551615 / 2 ^ (min b 64) : Nat) : Int) := by
    have hp : (2 : Int) ^ (min b 64) = ((2 ^ (min b 64) : Nat) : Int) := by simp
    rw [hp]
    rw [Int.fdiv_eq_ediv_of_nonneg _ (Int.natCast_nonneg _)]
    rfl
  rw [e]
  refine congrArg (fun (x : Nat) => (x : Int)) ?_
  refine eq_mkw (Nat.lt_of_le_of_lt (Nat.div_le_self _ _) (by decide)) fun i hi => ?_
  rw [← Nat.shiftRight_eq_div_pow, Nat.testBit_shiftRight]
  have e2 : (18446744073709551615 : Nat) = 2 ^ 64 - 1 := by decide
  rw [e2, Nat.testBit_two_pow_sub_one]
  simp
  omega
end Po
end Go.Proofs.YtkbjiackjefkkaaDoor
