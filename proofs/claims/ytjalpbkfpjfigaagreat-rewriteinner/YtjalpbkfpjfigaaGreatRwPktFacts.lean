/-
  The packet of few numbers is bytes.
-/
import Derived.Test.YtjalpbkfpjfigaaGreatRwPacketMath
import Derived.Laws.BitsAllLaws
namespace Go.Proofs.YtjalpbkfpjfigaaGreat
open Go.RowKit
open Sm
set_option linter.unusedVariables false
namespace Sm
theorem pktb_facts {P : Pa} (h : P.Ok) {side k : Int} (hk : 0 ≤ k ∧ k ≤ 255) : IsBytes (pktb P side k) ∧ (pktb P side k).length ≤ 65535 := by
  have hf := ipOut_bytes (pk2_ok (side := side) h hk)
  unfold pktb spoil
  split
  · refine ⟨?_, by rw [List.length_set]; exact hf.2⟩
    rename_i hc
    obtain ⟨-, h0⟩ := hc
    have g0 := Int.emod_nonneg P.sp (b := ((ipOut (pk2 P side k)).length : Int)) (by omega)
    have g1 := Int.emod_lt_of_pos P.sp (b := ((ipOut (pk2 P side k)).length : Int)) (by omega)
    intro j
    rw [getD_set _ _ _ _ (by omega)]
    split
    · have hm : (IntKind.u8.wrap (2 ^ (P.n % 8).toNat)) = ((2 ^ (P.n % 8).toNat % 256 : Nat) : Int) := by simp [IntKind.wrap, IntKind.bits, IntKind.signed]
      rw [hm]
      have r := hf.1 (P.sp % ((ipOut (pk2 P side k)).length : Int)).toNat
      obtain ⟨x, hx⟩ := Int.eq_ofNat_of_zero_le r.1
      rw [hx]
      rw [u8_xor_nat x _ (by omega) (by omega)]
      have hlt : x ^^^ (2 ^ (P.n % 8).toNat % 256) < 2 ^ 8 := Nat.xor_lt_two_pow (by omega) (by omega)
      omega
    · exact hf.1 j
  · exact hf
end Sm
end Go.Proofs.YtjalpbkfpjfigaaGreat
