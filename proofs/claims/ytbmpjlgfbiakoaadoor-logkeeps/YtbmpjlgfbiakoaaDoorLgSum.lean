/-
  What package log's Sum, put, get answer, and the statements' own crc.
-/
import Derived.Test.YtbmpjlgfbiakoaaDoorLgMath
import Derived.Test.YtbmpjlgfbiakoaaDoorDkOne
namespace Go.Proofs.YtbmpjlgfbiakoaaDoor
open Go.RowKit
open Sm
set_option linter.unusedVariables false

theorem and1_odd (s : Int) (h0 : 0 ≤ s) (h1 : s ≤ 4294967295) : bits .and .u32 s 1 = s % 2 :=
  bits_mask .u32 32 (by decide) wraps_u32 1 (by decide) s h0 (by omega)
theorem xor0_u32 (s : Int) (h0 : 0 ≤ s) (h1 : s ≤ 4294967295) : bits .xor .u32 s 0 = s := by
  rw [u32_xor s 0 h0 (by omega) (by decide) (by decide)]; simp; omega

set_option maxRecDepth 20000 in
theorem lsum_any {W : World} {a : Option Addr} {l : List Int} {n : Nat} (hn : l.length = n) (hr : Row W a l) (c : Nat) :
    Calls Tryd.prog 10 #[.slice a n c] W fun e W' => e = .returned (.int .u32 (crc l)) ∧ W = W' := by
  have hl := hr.len
  have HR : Hid (Row W a l) := hr
  rw [hn] at hl
  clear hr
  go_enter Tryd.func10, Tryd.ntmps10
  go_wp2_with fail
  go_loop [3, 9] (fun s v => ∃ k : Nat, v = .int .i64 k ∧ k ≤ n ∧ s = .int .u32 (crl 4294967295 (l.take k))) (fun _ v => n - (intOf v).toNat)
  case atStart => exact ⟨0, rfl, by omega, rfl⟩
  case round =>
    obtain ⟨k, rfl, hk, rfl⟩ := hrel
    by_cases hlt : k < n
    · obtain ⟨b, off, rfl, hc⟩ : ∃ b off, a = some ⟨b, off, none⟩ ∧ W.cell? ⟨b, off + k, none⟩ = some (.int .u8 (l.getD k 0)) := by
        rcases HR.out.cells with e | ⟨b, off, e, hc⟩
        · rw [e] at hn; simp at hn; omega
        · exact ⟨b, off, e, hc k (by omega)⟩
      have hx := HR.out.bytes k
      have hs := crl_range (l.take k) (by have := sl_bytes HR.out.bytes 0 k; simpa [sl] using this) 4294967295 (by decide) (by decide)
      have HN : Hid (crl 4294967295 (l.take (k + 1)) = cby (crl 4294967295 (l.take k)) (l.getD k 0)) := crl_take _ _ _ (by omega)
      generalize crl 4294967295 (l.take k) = S at *
      generalize l.getD k 0 = X at *
      obtain ⟨hx0, hx1⟩ := hx
      obtain ⟨hs0, hs1⟩ := hs
      have HY : Hid (cby S X = c8 8 (bits .xor .u32 S X)) := rfl
      have hy := xor32_range S X hs0 hs1 hx0 (by omega)
      go_wp2_with fail
      generalize bits .xor .u32 S X = Y at *
      go_loop [3, 17] (fun s v => ∃ j : Nat, v = .int .i64 j ∧ j ≤ 8 ∧ s = .int .u32 (c8 j Y)) (fun _ v => 8 - (intOf v).toNat)
      case atStart => exact ⟨0, rfl, by omega, rfl⟩
      case round =>
        obtain ⟨j, rfl, hj, rfl⟩ := hrel
        by_cases hlt2 : j < 8
        · have hz := c8_range j Y hy.1 hy.2
          have HZ : Hid (c8 (j + 1) Y = c1 (c8 j Y)) := c8_succ j Y
          generalize c8 j Y = Z at *
          obtain ⟨hz0, hz1⟩ := hz
          have ha := and1_odd Z hz0 hz1
          by_cases ho : Z % 2 = 1
          · rw [ho] at ha
            go_wp2
            go_round
            case rel => exact ⟨j + 1, by go_num, by omega, by rw [HZ.out, c1, if_pos ho]⟩
            case measure => simp [intOf]; omega
          · rw [show Z % 2 = 0 by omega] at ha
            have hx0 := xor0_u32 (Z / 2) (by omega) (by omega)
            go_wp2
            go_round
            case rel => exact ⟨j + 1, by go_num, by omega, by rw [HZ.out, c1, if_neg ho]⟩
            case measure => simp [intOf]; omega
        · have : j = 8 := by omega
          subst this
          go_wp2
          go_round
          case rel => exact ⟨k + 1, by go_num, by omega, by rw [HN.out, HY.out]⟩
          case measure => simp [intOf]; omega
    · have : k = n := by omega
      subst this
      have e : l.take k = l := List.take_of_length_le (by omega)
      rw [e]
      go_wp2
      go_ret
      exact ⟨rfl, rfl⟩
end Go.Proofs.YtbmpjlgfbiakoaaDoor
