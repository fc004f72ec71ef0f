/-
  What lychhelp.Eth answers over two frames that are the same.
-/
import Derived.Test.YtkkpjpelcnebeaaParse
import Derived.Test.YtkkpjpelcnebeaaHelp
import Derived.Laws.StructEq
namespace Go.Proofs.Ytkkpjpelcnebeaa
open Go.RowKit
open Sm
set_option linter.unusedVariables false

/-- Two addresses that are the same. -/
theorem mac_eq (x0 x1 x2 x3 x4 x5 : Int) (w : World) : (Op.equalIn 10000 26 (.agg #[.int .u8 x0, .int .u8 x1, .int .u8 x2, .int .u8 x3, .int .u8 x4, .int .u8 x5]) (.agg #[.int .u8 x0, .int .u8 x1, .int .u8 x2, .int .u8 x3, .int .u8 x4, .int .u8 x5])).run Try.prog w = .ok true w := by
  have u5 := Try.underlying5
  rw [show (10000 : Nat) = 9999 + 1 from rfl, Op.equalIn]
  simp only [Sem.run_bind, run_underlying Try.underlying26, Result.andThen_ok]
  simp only [Std.Legacy.Range.forIn_eq_forIn_range', Std.Legacy.Range.size, Nat.sub_zero, Nat.add_sub_cancel, Nat.div_one, List.range'_succ, List.range'_zero, List.forIn_cons, List.forIn_nil]
  go_simp

set_option maxHeartbeats 1000000 in
theorem heth_yes {w : World} {a b : Option Addr} {l : List Int} (ha : Row w a l) (hb : Row w b l) (n m : Nat) (hn : l.length = n) (hm : l.length = m) (ca cb : Nat) (x0 x1 x2 x3 x4 x5 x6 x7 x8 x9 x10 x11 t : Int) :
    Calls Try.prog 10 #[.agg (ethA x0 x1 x2 x3 x4 x5 x6 x7 x8 x9 x10 x11 t (.slice a n ca)), .agg (ethA x0 x1 x2 x3 x4 x5 x6 x7 x8 x9 x10 x11 t (.slice b m cb))] w fun e w' => e = .returned (.bool true) ∧ Below w.heap.size w w' := by
  have HA : Hid (Row w a l) := ha
  have HB : Hid (Row w b l) := hb
  have HN : Hid (l.length = n ∧ l.length = m) := ⟨hn, hm⟩
  clear ha hb hn hm
  have q0 := mac_eq x0 x1 x2 x3 x4 x5
  have q1 := mac_eq x6 x7 x8 x9 x10 x11
  go_enter Try.func10, Try.ntmps10
  go_wp2_with fail
  refine (hbytes_yes (l := l) (HA.out.below (((Below.refl _ _).alloc (Nat.le_refl _) _).alloc (by simp) _) (Nat.le_refl _)) (HB.out.below (((Below.refl _ _).alloc (Nat.le_refl _) _).alloc (by simp) _) (Nat.le_refl _)) n m HN.out.1 HN.out.2 ca cb).mono ?_
  rintro e w' ⟨rfl, rfl⟩
  go_wp2_with fail
  go_ret
  exact ⟨rfl, ((Below.refl _ _).alloc (Nat.le_refl _) _).alloc (by simp) _⟩
end Go.Proofs.Ytkkpjpelcnebeaa
