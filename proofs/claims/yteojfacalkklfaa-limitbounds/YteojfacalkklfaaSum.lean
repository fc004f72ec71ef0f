/-
  What each function of package sum (and each of the document's own, lychref1) answers, as contracts: whatever the arguments, in whatever memory.
-/
import Derived.Test.YteojfacalkklfaaBase
namespace Go.Proofs.Yteojfacalkklfaa
open Go.RowKit
open Sm
set_option linter.unusedVariables false

theorem wrap16 (n : Int) : IntKind.u16.wrap n = n % 65536 := by simp [IntKind.wrap, IntKind.bits, IntKind.signed]

theorem psv_other (src dst proto n : Int) (m : Int) (h : m = n % 65536) : psv src dst proto n = foldv (src / 65536 + src % 65536 + dst / 65536 + dst % 65536 + proto + m) := by
  unfold psv; rw [h]; congr 1; omega
theorem low_wrap (n : Int) : bits .and .u64 (IntKind.u64.wrap n) 65535 = n % 65536 := by
  have e : IntKind.u64.wrap n = n % 18446744073709551616 := by simp [IntKind.wrap, IntKind.bits, IntKind.signed]
  rw [e, sm_low64 _ (by omega) (by omega)]; omega

/-- Where Place falls, among n of them. -/
def plc (at_ n : Int) : Int := if at_.tmod n < 0 then at_.tmod n + n else at_.tmod n
theorem plc_range (a n : Int) (hn : 0 < n) : 0 ≤ plc a n ∧ plc a n < n := by
  have h1 := Int.tmod_lt_of_pos a hn
  have h2 : -n < a.tmod n := by
    have := Int.lt_tmod_of_pos a hn
    omega
  unfold plc; split <;> omega

end Go.Proofs.Yteojfacalkklfaa
