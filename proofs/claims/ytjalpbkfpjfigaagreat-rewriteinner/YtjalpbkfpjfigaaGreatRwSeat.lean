/-
  The statements' seat: what lychseat.Addr, inside, outside, proto and port answer.
-/
import Derived.Test.YtjalpbkfpjfigaaGreatRwMath
namespace Go.Proofs.YtjalpbkfpjfigaaGreat
open Go.RowKit
open Sm
set_option linter.unusedVariables false
set_option maxRecDepth 20000

namespace Sm
def addr (a b c d : Int) : Int := a * 16777216 + b * 65536 + c * 256 + d
def insd (k : Int) : Int := if k % 6 = 5 then addr 10 0 0 9 else addr 10 0 0 (1 + k % 3)
def xor1 (n : Int) : Int := bits .xor .u8 n 1
def outsd (k n : Int) : Int :=
  if k % 9 = 0 ∨ k % 9 = 1 then addr 8 8 8 8 else if k % 9 = 2 then addr 8 8 4 4 else if k % 9 = 3 then addr 192 168 0 5 else if k % 9 = 4 then addr 192 168 0 6
  else if k % 9 = 5 ∨ k % 9 = 6 then addr 5 5 n 1 else if k % 9 = 7 then addr 5 6 n 9 else addr 5 5 (xor1 n) 1
def prt (k : Int) : Int := if k % 4 = 1 then 6 else if k % 4 = 2 then 1 else 17
def ports (k : Int) : Int := if k % 5 = 0 then 1000 + k / 16 else if k % 5 = 1 then 53 else 1020 + k / 8
theorem xor1_all : ∀ n : Fin 256, 0 ≤ bits .xor .u8 (n.val : Int) 1 ∧ bits .xor .u8 (n.val : Int) 1 ≤ 255 := by decide +kernel
theorem xor1_range {n : Int} (h0 : 0 ≤ n) (h1 : n ≤ 255) : 0 ≤ xor1 n ∧ xor1 n ≤ 255 := by
  have := xor1_all ⟨n.toNat, by omega⟩
  simp only at this
  rw [show ((n.toNat : Nat) : Int) = n by omega] at this
  exact this
theorem addr_range {a b c d : Int} (ha : 0 ≤ a ∧ a ≤ 255) (hb : 0 ≤ b ∧ b ≤ 255) (hc : 0 ≤ c ∧ c ≤ 255) (hd : 0 ≤ d ∧ d ≤ 255) : 0 ≤ addr a b c d ∧ addr a b c d ≤ 4294967295 := by unfold addr; omega
theorem insd_range {k : Int} (h0 : 0 ≤ k) : 0 ≤ insd k ∧ insd k ≤ 4294967295 := by
  unfold insd
  split
  · exact ⟨by decide, by decide⟩
  · exact addr_range (by omega) (by omega) (by omega) (by omega)
theorem outsd_range {k n : Int} (h0 : 0 ≤ n) (h1 : n ≤ 255) : 0 ≤ outsd k n ∧ outsd k n ≤ 4294967295 := by
  have := xor1_range h0 h1
  unfold outsd
  repeat' split
  all_goals exact addr_range (by omega) (by omega) (by omega) (by omega)
theorem ports_range {k : Int} (h0 : 0 ≤ k) (h1 : k ≤ 255) : 0 ≤ ports k ∧ ports k ≤ 65535 := by
  unfold ports
  repeat' split
  all_goals omega
theorem prt_kind (k : Int) : prt k = 17 ∨ prt k = 6 ∨ prt k = 1 := by
  unfold prt
  split
  · exact Or.inr (Or.inl rfl)
  · split
    · exact Or.inr (Or.inr rfl)
    · exact Or.inl rfl
end Sm

set_option maxHeartbeats 1000000 in
theorem addr_any (w : World) (a b c d : Int) (ha : 0 ≤ a ∧ a ≤ 255) (hb : 0 ≤ b ∧ b ≤ 255) (hc : 0 ≤ c ∧ c ≤ 255) (hd : 0 ≤ d ∧ d ≤ 255) :
    Calls Tryz.prog 51 #[.int .u8 a, .int .u8 b, .int .u8 c, .int .u8 d] w fun e w' => e = .returned (.int .u32 (addr a b c d)) ∧ w = w' := by
  have o1 : bits .or .u32 (a * 16777216) (b * 65536) = a * 16777216 + b * 65536 :=
    bits_join .u32 32 (by decide) wraps_u32 24 (a * 16777216) (b * 65536) (by omega) (by omega) (by omega) (by omega) (by omega) (by omega)
  have o2 : bits .or .u32 (a * 16777216 + b * 65536) (c * 256) = a * 16777216 + b * 65536 + c * 256 :=
    bits_join .u32 32 (by decide) wraps_u32 16 (a * 16777216 + b * 65536) (c * 256) (by omega) (by omega) (by omega) (by omega) (by omega) (by omega)
  have o3 : bits .or .u32 (a * 16777216 + b * 65536 + c * 256) d = a * 16777216 + b * 65536 + c * 256 + d :=
    bits_join .u32 32 (by decide) wraps_u32 8 (a * 16777216 + b * 65536 + c * 256) d (by omega) (by omega) (by omega) (by omega) (by omega) (by omega)
  have v1 := wrap32_small a ha.1 (by omega)
  have v2 := wrap32_small b hb.1 (by omega)
  have v3 := wrap32_small c hc.1 (by omega)
  have v4 := wrap32_small d hd.1 (by omega)
  have u1 := wrap32_small (a * 16777216) (by omega) (by omega)
  have u2 := wrap32_small (b * 65536) (by omega) (by omega)
  have u3 := wrap32_small (c * 256) (by omega) (by omega)
  clear ha hb hc hd
  go_enter Tryz.func51, Tryz.ntmps51
  go_wp2
  go_ret
  exact ⟨rfl, rfl⟩

set_option maxHeartbeats 1000000 in
theorem inside_any (w : World) (k : Int) (h0 : 0 ≤ k) (h1 : k ≤ 255) :
    Calls Tryz.prog 19 #[.int .u8 k] w fun e w' => e = .returned (.int .u32 (insd k)) ∧ w = w' := by
  by_cases h5 : k % 6 = 5
  · have HI : Hid (insd k = addr 10 0 0 9) := by show _ = _; unfold insd; rw [if_pos h5]
    have hA := addr_any w 10 0 0 9 (by decide) (by decide) (by decide) (by decide)
    generalize insd k = R at *
    generalize addr 10 0 0 9 = A at *
    go_enter Tryz.func19, Tryz.ntmps19
    go_wp2_with fail
    refine hA.mono ?_
    rintro e w' ⟨rfl, rfl⟩
    go_wp2_with fail
    go_ret
    exact ⟨by rw [HI.out] <;> rfl, rfl⟩
  · have HI : Hid (insd k = addr 10 0 0 (1 + k % 3)) := by show _ = _; unfold insd; rw [if_neg h5]
    have hA := addr_any w 10 0 0 (1 + k % 3) (by decide) (by decide) (by decide) (by omega)
    have hw : IntKind.u8.wrap (1 + k % 3) = 1 + k % 3 := wrap8_small _ (by omega) (by omega)
    generalize insd k = R at *
    generalize addr 10 0 0 (1 + k % 3) = A at *
    go_enter Tryz.func19, Tryz.ntmps19
    go_wp2_with fail
    refine hA.mono ?_
    rintro e w' ⟨rfl, rfl⟩
    go_wp2_with fail
    go_ret
    exact ⟨by rw [HI.out] <;> rfl, rfl⟩

set_option maxHeartbeats 2000000 in
theorem outside_any (w : World) (k n : Int) (h0 : 0 ≤ k) (h1 : k ≤ 255) (n0 : 0 ≤ n) (n1 : n ≤ 255) :
    Calls Tryz.prog 20 #[.int .u8 k, .int .u8 n] w fun e w' => e = .returned (.int .u32 (outsd k n)) ∧ w = w' := by
  have hx := xor1_range n0 n1
  have HD : Hid (outsd k n = if k % 9 = 0 ∨ k % 9 = 1 then addr 8 8 8 8 else if k % 9 = 2 then addr 8 8 4 4 else if k % 9 = 3 then addr 192 168 0 5 else if k % 9 = 4 then addr 192 168 0 6
    else if k % 9 = 5 ∨ k % 9 = 6 then addr 5 5 n 1 else if k % 9 = 7 then addr 5 6 n 9 else addr 5 5 (xor1 n) 1) := rfl
  have A0 := addr_any w 8 8 8 8 (by decide) (by decide) (by decide) (by decide)
  have A2 := addr_any w 8 8 4 4 (by decide) (by decide) (by decide) (by decide)
  have A3 := addr_any w 192 168 0 5 (by decide) (by decide) (by decide) (by decide)
  have A4 := addr_any w 192 168 0 6 (by decide) (by decide) (by decide) (by decide)
  have A5 := addr_any w 5 5 n 1 (by decide) (by decide) ⟨n0, n1⟩ (by decide)
  have A7 := addr_any w 5 6 n 9 (by decide) (by decide) ⟨n0, n1⟩ (by decide)
  have A8 := addr_any w 5 5 (xor1 n) 1 (by decide) (by decide) hx (by decide)
  have hxe : bits .xor .u8 n 1 = xor1 n := rfl
  generalize xor1 n = X at *
  generalize outsd k n = R at *
  generalize addr 8 8 8 8 = a0 at *
  generalize addr 8 8 4 4 = a2 at *
  generalize addr 192 168 0 5 = a3 at *
  generalize addr 192 168 0 6 = a4 at *
  generalize addr 5 5 n 1 = a5 at *
  generalize addr 5 6 n 9 = a7 at *
  generalize addr 5 5 X 1 = a8 at *
  have hk : k % 9 = 0 ∨ k % 9 = 1 ∨ k % 9 = 2 ∨ k % 9 = 3 ∨ k % 9 = 4 ∨ k % 9 = 5 ∨ k % 9 = 6 ∨ k % 9 = 7 ∨ k % 9 = 8 := by omega
  rcases hk with e | e | e | e | e | e | e | e | e <;> rw [e] at HD <;> simp at HD
  all_goals
    go_enter Tryz.func20, Tryz.ntmps20
    go_wp2_with fail
    first
      | with_reducible refine A0.mono ?_
      | with_reducible refine A2.mono ?_
      | with_reducible refine A3.mono ?_
      | with_reducible refine A4.mono ?_
      | with_reducible refine A5.mono ?_
      | with_reducible refine A7.mono ?_
      | with_reducible refine A8.mono ?_
    rintro e w' ⟨rfl, rfl⟩
    go_wp2_with fail
    go_ret
    exact ⟨by rw [HD.out] <;> rfl, rfl⟩

set_option maxHeartbeats 1000000 in
theorem port_any (w : World) (k : Int) (h0 : 0 ≤ k) (h1 : k ≤ 255) :
    Calls Tryz.prog 22 #[.int .u8 k] w fun e w' => e = .returned (.int .u16 (ports k)) ∧ w = w' := by
  have HD : Hid (ports k = if k % 5 = 0 then 1000 + k / 16 else if k % 5 = 1 then 53 else 1020 + k / 8) := rfl
  have v1 := wrap16_small (k / 16) (by omega) (by omega)
  have v2 := wrap16_small (k / 8) (by omega) (by omega)
  have v3 := wrap16_small (1000 + k / 16) (by omega) (by omega)
  have v4 := wrap16_small (1020 + k / 8) (by omega) (by omega)
  generalize ports k = R at *
  by_cases e0 : k % 5 = 0
  · rw [if_pos e0] at HD
    go_enter Tryz.func22, Tryz.ntmps22
    go_wp2
    go_ret
    exact ⟨by rw [HD.out] <;> rfl, rfl⟩
  · rw [if_neg e0] at HD
    by_cases e1 : k % 5 = 1
    · rw [if_pos e1] at HD
      go_enter Tryz.func22, Tryz.ntmps22
      go_wp2
      go_ret
      exact ⟨by rw [HD.out] <;> rfl, rfl⟩
    · rw [if_neg e1] at HD
      go_enter Tryz.func22, Tryz.ntmps22
      go_wp2
      go_ret
      exact ⟨by rw [HD.out] <;> rfl, rfl⟩

set_option maxHeartbeats 1000000 in
theorem proto_any (w : World) (k : Int) (h0 : 0 ≤ k) (h1 : k ≤ 255) :
    Calls Tryz.prog 21 #[.int .u8 k] w fun e w' => e = .returned (.int .u8 (prt k)) ∧ Below w.heap.size w w' := by
  have HD : Hid (prt k = if k % 4 = 1 then 6 else if k % 4 = 2 then 1 else 17) := rfl
  have HB : Hid (∀ o, Below w.heap.size w (w.alloc o)) := fun o => (Below.refl _ _).alloc (Nat.le_refl _) o
  generalize prt k = R at *
  have hk : k % 4 = 0 ∨ k % 4 = 1 ∨ k % 4 = 2 ∨ k % 4 = 3 := by omega
  rcases hk with e | e | e | e <;> rw [e] at HD <;> simp at HD
  all_goals
    go_enter Tryz.func21, Tryz.ntmps21
    go_wp2
    go_ret
    exact ⟨by rw [HD.out] <;> rfl, HB.out _⟩
end Go.Proofs.YtjalpbkfpjfigaaGreat
