/-
  lychlaw10.LogSums.
-/
import Derived.Test.YtbmpjlgfbiakoaaDoorLgKnown
namespace Go.Proofs.YtbmpjlgfbiakoaaDoor
open Go.RowKit
open Sm
set_option linter.unusedVariables false

theorem sums_long {w : World} {ga : Addr} (hG : Gl w ga) (a : Option Addr) (n c : Nat) (hn : 5000 < n) :
    Calls Tryd.prog 3 #[.slice a n c] w fun e w' => e = .returned (.bool true) ∧ Below w.heap.size w w' := by
  have hK := known_log hG
  have q : (5000 : Int) < (n : Int) := by omega
  go_enter Tryd.func3, Tryd.ntmps3
  go_wp2_with fail
  refine hK.mono ?_
  rintro e w1 ⟨rfl, K, h1⟩
  go_wp2
  go_ret
  exact ⟨rfl, h1.below⟩
theorem sums_any {w : World} {ga : Addr} (hG : Gl w ga) {a : Option Addr} {l : List Int} {n : Nat} (hn : l.length = n) (hr : Row w a l) (c : Nat) (h5 : n ≤ 5000) :
    Calls Tryd.prog 3 #[.slice a n c] w fun e w' => e = .returned (.bool true) ∧ Below w.heap.size w w' := by
  have hK := known_log hG
  have q : ¬ (5000 : Int) < (n : Int) := by omega
  have HR : Hid (Row w a l) := hr
  clear hr
  go_enter Tryd.func3, Tryd.ntmps3
  go_wp2_with fail
  refine hK.mono ?_
  rintro e w1 ⟨rfl, K, h1⟩
  have s1 := lsum_any hn (h1.row HR.out) c
  have s2 := lcrc_any hn (h1.row HR.out) c
  have HB : Hid (Below w.heap.size w w1) := h1.below
  clear h1
  go_wp2_with fail
  refine s1.mono ?_
  rintro e w' ⟨rfl, rfl⟩
  go_wp2_with fail
  refine s2.mono ?_
  rintro e w' ⟨rfl, rfl⟩
  go_wp2
  go_ret
  exact ⟨by simp, HB.out⟩
end Go.Proofs.YtbmpjlgfbiakoaaDoor
