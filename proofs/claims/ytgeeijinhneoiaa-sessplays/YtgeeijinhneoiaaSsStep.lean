/-
  Sessions: bits of a state; the document's own Step and Life, as functions.
-/
import Derived.Test.YtgeeijinhneoiaaPoRef
import Derived.Laws.Bits128
import Derived.Laws.BitsAllLaws
namespace Go.Proofs.Ytgeeijinhneoiaa
open Go.RowKit
open Sm
open Po
set_option linter.unusedVariables false
set_option linter.unusedSimpArgs false
set_option maxRecDepth 20000

namespace Ss
theorem i64_and3 (n : Int) : bits .and .i64 n 3 = n % 4 := by
  have h3 : (BitVec.ofInt 64 3).toNat = 2 ^ 2 - 1 := by decide
  have key : (BitVec.ofInt 64 n &&& BitVec.ofInt 64 3).toNat = (n % ((2 ^ 64 : Nat) : Int)).toNat % 2 ^ 2 := by
    rw [BitVec.toNat_and, BitVec.toNat_ofInt, h3, Nat.and_two_pow_sub_one_eq_mod]
  show IntKind.i64.wrap ((BitVec.ofInt 64 n &&& BitVec.ofInt 64 3).toNat : Nat) = n % 4
  rw [key, IntKind.wrap_i64]
  omega
theorem and12_all : ∀ n : Fin 16, n.val &&& 12 = n.val / 4 * 4 := by decide +kernel
theorem nat_and12 (N : Nat) : N &&& 12 = N % 16 / 4 * 4 := by
  have h : N &&& 12 = (N % 16) &&& 12 := by
    have h15 : N % 16 = N &&& 15 := (Nat.and_two_pow_sub_one_eq_mod N 4).symm
    rw [h15, Nat.and_assoc]
    rfl
  rw [h]
  exact and12_all ⟨N % 16, Nat.mod_lt _ (by omega)⟩
theorem i64_and12 (n : Int) : bits .and .i64 n 12 = n % 16 / 4 * 4 := by
  have h12 : (BitVec.ofInt 64 12).toNat = 12 := by decide
  have key : (BitVec.ofInt 64 n &&& BitVec.ofInt 64 12).toNat = (n % ((2 ^ 64 : Nat) : Int)).toNat % 16 / 4 * 4 := by
    rw [BitVec.toNat_and, BitVec.toNat_ofInt, h12, nat_and12]
  show IntKind.i64.wrap ((BitVec.ofInt 64 n &&& BitVec.ofInt 64 12).toNat : Nat) = n % 16 / 4 * 4
  rw [key, IntKind.wrap_i64]
  omega
theorem u8_and4_all : ∀ n : Fin 256, bits .and .u8 (n.val : Int) 4 = (n.val : Int) / 4 % 2 * 4 ∧ bits .and .u8 (n.val : Int) 1 = (n.val : Int) % 2 := by decide +kernel
theorem u8_and4 (x : Int) (h : 0 ≤ x ∧ x ≤ 255) : bits .and .u8 x 4 = x / 4 % 2 * 4 ∧ bits .and .u8 x 1 = x % 2 := by
  have := u8_and4_all ⟨x.toNat, by omega⟩
  simp only [show ((x.toNat : Nat) : Int) = x by omega] at this
  exact this
/-- A state's next one: s0 its lowest two bits, b its ends. -/
def stq (s0 b : Int) (r f inb : Bool) : Int :=
  if r then 2 + b else
    (if (if f then (if inb then (if b = 0 then 4 else if b = 8 then 12 else b) else (if b = 0 then 8 else if b = 4 then 12 else b)) else b) = 12 then 2 else if (if s0 = 3 then 2 else s0) = 0 ∧ inb = false then 1 else if s0 = 3 then 2 else s0) +
    (if f then (if inb then (if b = 0 then 4 else if b = 8 then 12 else b) else (if b = 0 then 8 else if b = 4 then 12 else b)) else b)
def stp (pr st fl : Int) (inb : Bool) : Int := if pr = 6 then stq (st % 4) (st % 16 / 4 * 4) (decide (fl / 4 % 2 = 1)) (decide (fl % 2 = 1)) inb else 1
def lif (pr st : Int) : Int := if pr = 1 then 6 else if pr = 17 then 30 else if pr = 6 then (if st % 4 = 0 then 4 else if st % 4 = 1 then 200 else 2) else 0
set_option maxHeartbeats 4000000 in
theorem rstep_tcp (s0 b r f : Int) (inb : Bool) (st fl : Int) (h1 : bits .and .i64 st 3 = s0) (h2 : bits .and .i64 st 12 = b) (h3 : bits .and .u8 fl 4 = r) (h4 : bits .and .u8 fl 1 = f) (hs : s0 = 0 ∨ s0 = 1 ∨ s0 = 2 ∨ s0 = 3) (hb : b = 0 ∨ b = 4 ∨ b = 8 ∨ b = 12) (hr : r = 0 ∨ r = 4) (hf : f = 0 ∨ f = 1) (W : World) :
    Calls Try.prog 28 #[.int .u8 6, .int .i64 st, .int .u8 fl, .bool inb] W fun e W' => e = .returned (.int .i64 (stq s0 b (decide (r = 4)) (decide (f = 1)) inb)) ∧ W = W' := by
  rcases hr with rfl | rfl
  · rcases hf with rfl | rfl <;> rcases hs with rfl | rfl | rfl | rfl <;> rcases hb with rfl | rfl | rfl | rfl <;> cases inb <;>
    (go_enter Try.func28, Try.ntmps28
     go_wp2_with fail
     go_ret
     exact ⟨rfl, rfl⟩)
  · rcases hs with rfl | rfl | rfl | rfl <;> rcases hb with rfl | rfl | rfl | rfl <;>
    (go_enter Try.func28, Try.ntmps28
     go_wp2_with fail
     go_ret
     exact ⟨rfl, rfl⟩)
theorem rstep_any (pr st fl : Int) (inb : Bool) (hfl : 0 ≤ fl ∧ fl ≤ 255) (W : World) :
    Calls Try.prog 28 #[.int .u8 pr, .int .i64 st, .int .u8 fl, .bool inb] W fun e W' => e = .returned (.int .i64 (stp pr st fl inb)) ∧ W = W' := by
  by_cases h6 : pr = 6
  · subst h6
    obtain ⟨a1, a2⟩ := u8_and4 fl hfl
    have := rstep_tcp (st % 4) (st % 16 / 4 * 4) (fl / 4 % 2 * 4) (fl % 2) inb st fl (i64_and3 st) (i64_and12 st) a1 a2 (by omega) (by omega) (by omega) (by omega) W
    have e1 : (decide (fl / 4 % 2 * 4 = 4)) = decide (fl / 4 % 2 = 1) := by
      rw [decide_eq_decide]; omega
    rw [e1] at this
    unfold stp
    rw [if_pos rfl]
    exact this
  · have hne : (pr != 6) = true := by simp [h6]
    have hr : stp pr st fl inb = 1 := by unfold stp; rw [if_neg h6]
    rw [hr]
    clear hr hfl
    go_enter Try.func28, Try.ntmps28
    go_wp2_with fail
    go_ret
    exact ⟨rfl, rfl⟩
theorem rlife_any (pr st : Int) (W : World) : Calls Try.prog 30 #[.int .u8 pr, .int .i64 st] W fun e W' => e = .returned (.int .u32 (lif pr st)) ∧ W = W' := by
  have h3 := i64_and3 st
  unfold lif
  generalize st % 4 = s at *
  by_cases p1 : pr = 1
  · subst p1
    rw [if_pos rfl]
    go_enter Try.func30, Try.ntmps30
    go_wp2_with fail
    go_ret
    exact ⟨rfl, rfl⟩
  · have q1 : (pr == 1) = false := by simp [p1]
    rw [if_neg p1]
    by_cases p2 : pr = 17
    · subst p2
      rw [if_pos rfl]
      go_enter Try.func30, Try.ntmps30
      go_wp2_with fail
      go_ret
      exact ⟨rfl, rfl⟩
    · have q2 : (pr == 17) = false := by simp [p2]
      rw [if_neg p2]
      by_cases p3 : pr = 6
      · subst p3
        rw [if_pos rfl]
        by_cases s0 : s = 0
        · subst s0
          rw [if_pos rfl]
          go_enter Try.func30, Try.ntmps30
          go_wp2_with fail
          go_ret
          exact ⟨rfl, rfl⟩
        · have t0 : (s == 0) = false := by simp [s0]
          rw [if_neg s0]
          by_cases s1 : s = 1
          · subst s1
            rw [if_pos rfl]
            go_enter Try.func30, Try.ntmps30
            go_wp2_with fail
            go_ret
            exact ⟨rfl, rfl⟩
          · have t1 : (s == 1) = false := by simp [s1]
            rw [if_neg s1]
            go_enter Try.func30, Try.ntmps30
            go_wp2_with fail
            go_ret
            exact ⟨rfl, rfl⟩
      · have q3 : (pr == 6) = false := by simp [p3]
        rw [if_neg p3]
        go_enter Try.func30, Try.ntmps30
        go_wp2_with fail
        go_ret
        exact ⟨rfl, rfl⟩
end Ss
end Go.Proofs.Ytgeeijinhneoiaa
