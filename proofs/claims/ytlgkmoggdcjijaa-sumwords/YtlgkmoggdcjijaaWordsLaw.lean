/-
  The walk of lychlaw1.SumWords where there are at most 3000 bytes: it answers true.
-/
import Derived.Test.YtlgkmoggdcjijaaRef
namespace Go.Proofs.Ytlgkmoggdcjijaa.sumWords
open Go.RowKit
open Sm
set_option linter.unusedVariables false

set_option maxHeartbeats 1000000 in
theorem core {w : World} {a : Option Addr} {l : List Int} {len0 : Nat} (h : Row w a l) (hlen : l.length = len0) (hhi : len0 ≤ 3000) (cap : Nat) (s : Int) (s0 : 0 ≤ s) (s1 : s ≤ 4294967295) :
    Calls Try.prog 3 #[.int .u32 s, .slice a len0 cap] w fun e w' => e = .returned (.bool true) ∧ Below w.heap.size w w' := by
  have hk := known_any w
  subst hlen
  have hn : cnt l.length ≤ 3000 := by unfold cnt; omega
  go_enter Try.func3, Try.ntmps3
  go_wp2_with fail
  refine hk.mono ?_
  rintro e w1 ⟨rfl, hbel⟩
  have hr1 := h.below hbel (Nat.le_refl _)
  go_wp2_with fail
  refine (words_any hr1 cap).mono ?_
  rintro e w2 ⟨rfl, hown2, hbel2⟩
  have hr2 := hr1.below hbel2 (Nat.le_refl _)
  go_wp2_with fail
  refine (rwords_any hr2 hhi cap).mono ?_
  rintro e w3 ⟨v, rfl, hown3, hbel3⟩
  obtain ⟨ao2, cp2, e2, hw2⟩ := wrow_own hown2
  obtain ⟨rfl, -, rfl⟩ : some ⟨w1.heap.size, 0, none⟩ = ao2 ∧ True ∧ cnt l.length = cp2 := by
    injection e2 with x1 x2 x3; exact ⟨x1, trivial, x3⟩
  have hw2' := hw2.below hbel3 (Nat.le_refl _)
  obtain ⟨ao3, cp3, rfl, hw3⟩ := wrow_own hown3
  have hr3 := hr2.below hbel3 (Nat.le_refl _)
  have hb3 : Below w.heap.size w w3 := hbel.trans ((hbel2.trans (hbel3.mono hbel2.size)).mono hbel.size)
  have c4 := hwords_any hw2' hw3 hn (cnt l.length) cp3
  clear hown2 hown3 hw2 hw2' hw3 e2 hr1 hr2 hbel hbel2 hbel3
  go_wp2_with fail
  refine c4.mono ?_
  rintro e w4 ⟨rfl, hbel4⟩
  have hr4 := hr3.below hbel4 (Nat.le_refl _)
  have hb4 : Below w.heap.size w w4 := hb3.trans (hbel4.mono hb3.size)
  clear c4 hr3 hb3 hbel4
  go_wp2_with fail
  refine (add_any hr4 cap s s0 s1).mono ?_
  rintro e w' ⟨rfl, rfl⟩
  go_wp2_with fail
  refine (radd_any hr4 hhi cap s s0 s1).mono ?_
  rintro e w5 ⟨rfl, hbel5⟩
  have hr5 := hr4.below hbel5 (Nat.le_refl _)
  have hb5 : Below w.heap.size w w5 := hb4.trans (hbel5.mono hb4.size)
  clear hr4 hb4 hbel5
  go_wp2_with fail
  refine (of_any hr5 cap).mono ?_
  rintro e w' ⟨rfl, rfl⟩
  go_wp2_with fail
  refine (rof_any hr5 hhi cap).mono ?_
  rintro e w6 ⟨rfl, hbel6⟩
  have hb6 : Below w.heap.size w w6 := hb5.trans (hbel6.mono hb5.size)
  clear hr5 hb5 hbel6
  go_wp2_with fail
  refine (fold_any s _ s0 s1).mono ?_
  rintro e w' ⟨rfl, rfl⟩
  go_wp2_with fail
  refine (rfold_any s _ s0 s1).mono ?_
  rintro e w' ⟨rfl, rfl⟩
  go_wp2_with fail
  go_ret
  exact ⟨rfl, hb6⟩
end Go.Proofs.Ytlgkmoggdcjijaa.sumWords
