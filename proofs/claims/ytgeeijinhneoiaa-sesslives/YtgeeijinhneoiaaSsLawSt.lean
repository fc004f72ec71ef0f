/-
  Sessions: SessSteps.
-/
import Derived.Test.YtgeeijinhneoiaaSsFace
namespace Go.Proofs.Ytgeeijinhneoiaa
open Go.RowKit
open Sm
open Po
open Wh
set_option linter.unusedVariables false
set_option linter.unusedSimpArgs false
set_option maxRecDepth 20000

namespace Ss
theorem stq_in (s0 b : Int) (r f inb : Bool) (hs : 0 ≤ s0 ∧ s0 ≤ 3) (hb : 0 ≤ b ∧ b ≤ 12) : 0 ≤ stq s0 b r f inb ∧ stq s0 b r f inb ≤ 15 := by
  unfold stq
  repeat' split
  all_goals omega
theorem stp_in (pr st fl : Int) (inb : Bool) : 0 ≤ stp pr st fl inb ∧ stp pr st fl inb ≤ 15 := by
  unfold stp
  split
  · exact stq_in _ _ _ _ _ (by omega) (by omega)
  · omega
section
variable {PS : List Sn → Nat → List (Nat × Obj) → Prop}
set_option maxHeartbeats 8000000 in
theorem steps19_law (W : World) (hc : SC W PS) (pr st fl : Int) (inb tcp : Bool) (hp : 0 ≤ pr ∧ pr ≤ 255) (hs : -9223372036854775808 ≤ st ∧ st ≤ 9223372036854775807) (hf : 0 ≤ fl ∧ fl ≤ 255) :
    Calls Try.prog 4 #[.int .u8 pr, .int .i64 st, .int .u8 fl, .bool inb, .bool tcp] W fun e W' => e = .returned (.bool true) ∧ Below W.heap.size W W' := by
  have K1 := known19_any W hc
  have HC : Hid (SC W PS) := hc
  clear hc
  go_enter Try.func4, Try.ntmps4
  go_wp2_with fail
  refine K1.mono ?_
  rintro e W1 ⟨rfl, hb1⟩
  have HB1 : Hid (Below W.heap.size W W1) := hb1
  clear K1 hb1
  have tail : ∀ q : Int, (0 ≤ q ∧ q ≤ 255) → Hid (∀ V, Below W.heap.size W V → Calls Try.prog 27 #[.int .u8 q, .int .i64 st, .int .u8 fl, .bool inb] V fun e W' => e = .returned (.int .i64 (stp q st fl inb)) ∧ Below V.heap.size V W') := fun q hq V hV => HC.out.step V hV q st fl inb hq hs hf
  cases tcp with
  | true =>
    have C1 := (tail 6 (by omega)).out W1 HB1.out
    clear tail
    go_wp2_with fail
    refine C1.mono ?_
    rintro e W2 ⟨rfl, hb2⟩
    have hB2 := HB1.out.trans (hb2.mono HB1.out.size)
    have HB2 : Hid (Below W.heap.size W W2) := hB2
    have hi := stp_in 6 st fl inb
    have C2 := rstep_any 6 st fl inb hf W2
    generalize stp 6 st fl inb = z at *
    have C3 := fun V hV => HC.out.life V hV 6 z (by omega) (by omega)
    have C4 := rlife_any 6 z
    have C5 := fun V hV => HC.out.life V hV 6 st (by omega) hs
    have C6 := rlife_any 6 st
    have hz : (z == z) = true := by simp
    have hl : (lif 6 z == lif 6 z) = true := by simp
    have hl2 : (lif 6 st == lif 6 st) = true := by simp
    clear hB2 hb2 HB1 C1
    generalize lif 6 z = l1 at *
    generalize lif 6 st = l2 at *
    go_wp2_with fail
    refine C2.mono ?_
    rintro e W3 ⟨rfl, rfl⟩
    clear C2
    go_wp2_with fail
    refine (C3 _ HB2.out).mono ?_
    rintro e W4 ⟨rfl, hb4⟩
    have HB4 : Hid (Below W.heap.size W W4) := HB2.out.trans (hb4.mono HB2.out.size)
    clear HB2 hb4 C3
    go_wp2_with fail
    refine (C4 _).mono ?_
    rintro e W5 ⟨rfl, rfl⟩
    clear C4
    go_wp2_with fail
    refine (C5 _ HB4.out).mono ?_
    rintro e W6 ⟨rfl, hb6⟩
    have HB6 : Hid (Below W.heap.size W W6) := HB4.out.trans (hb6.mono HB4.out.size)
    clear HB4 hb6 C5
    go_wp2_with fail
    refine (C6 _).mono ?_
    rintro e W7 ⟨rfl, rfl⟩
    clear C6
    go_wp2_with fail
    go_ret
    exact ⟨rfl, HB6.out⟩
  | false =>
    have C1 := (tail pr hp).out W1 HB1.out
    clear tail
    go_wp2_with fail
    refine C1.mono ?_
    rintro e W2 ⟨rfl, hb2⟩
    have hB2 := HB1.out.trans (hb2.mono HB1.out.size)
    have HB2 : Hid (Below W.heap.size W W2) := hB2
    have hi := stp_in pr st fl inb
    have C2 := rstep_any pr st fl inb hf W2
    generalize stp pr st fl inb = z at *
    have C3 := fun V hV => HC.out.life V hV pr z (by omega) (by omega)
    have C4 := rlife_any pr z
    have C5 := fun V hV => HC.out.life V hV pr st (by omega) hs
    have C6 := rlife_any pr st
    have hz : (z == z) = true := by simp
    have hl : (lif pr z == lif pr z) = true := by simp
    have hl2 : (lif pr st == lif pr st) = true := by simp
    clear hB2 hb2 HB1 C1
    generalize lif pr z = l1 at *
    generalize lif pr st = l2 at *
    go_wp2_with fail
    refine C2.mono ?_
    rintro e W3 ⟨rfl, rfl⟩
    clear C2
    go_wp2_with fail
    refine (C3 _ HB2.out).mono ?_
    rintro e W4 ⟨rfl, hb4⟩
    have HB4 : Hid (Below W.heap.size W W4) := HB2.out.trans (hb4.mono HB2.out.size)
    clear HB2 hb4 C3
    go_wp2_with fail
    refine (C4 _).mono ?_
    rintro e W5 ⟨rfl, rfl⟩
    clear C4
    go_wp2_with fail
    refine (C5 _ HB4.out).mono ?_
    rintro e W6 ⟨rfl, hb6⟩
    have HB6 : Hid (Below W.heap.size W W6) := HB4.out.trans (hb6.mono HB4.out.size)
    clear HB4 hb6 C5
    go_wp2_with fail
    refine (C6 _).mono ?_
    rintro e W7 ⟨rfl, rfl⟩
    clear C6
    go_wp2_with fail
    go_ret
    exact ⟨rfl, HB6.out⟩
end
end Ss
end Go.Proofs.Ytgeeijinhneoiaa
