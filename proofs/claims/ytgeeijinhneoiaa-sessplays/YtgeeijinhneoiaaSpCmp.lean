/-
  Sessions, the program's own: keys held against each other.
-/
import Derived.Test.YtgeeijinhneoiaaSpColl
import Derived.Test.YtgeeijinhneoiaaShelf
namespace Go.Proofs.Ytgeeijinhneoiaa
open Go.RowKit
open Sm
open Po
open Wh
open Go.Sort Go.Shelf
set_option linter.unusedVariables false
set_option linter.unusedSimpArgs false
set_option maxRecDepth 20000

namespace Ss
theorem isNaNb_any (x : Int) (W : World) : Calls Try.prog 61 #[.int .u8 x] W fun e w' => e = .returned (.bool false) ∧ W = w' := by
  have h : (x != x) = false := by simp
  go_enter Try.func61, Try.ntmps61
  go_wp2_with fail
  go_ret
  exact ⟨rfl, rfl⟩
theorem cmpb_any (x y : Int) (W : World) : Calls Try.prog 53 #[.int .u8 x, .int .u8 y] W fun e w' => e = .returned (.int .i64 (Lib.compareInt x y)) ∧ W = w' := by
  have C1 := isNaNb_any x W
  have C2 := isNaNb_any y W
  have hc : Lib.compareInt x y = if x < y then -1 else if y < x then 1 else 0 := rfl
  by_cases h1 : x < y
  · have hr : Lib.compareInt x y = -1 := by rw [hc, if_pos h1]
    have h3 : ¬ y < x := by omega
    rw [hr]
    clear hc hr
    go_enter Try.func53, Try.ntmps53
    go_wp2_with fail
    refine C1.mono ?_
    rintro e w' ⟨rfl, rfl⟩
    go_wp2_with fail
    refine C2.mono ?_
    rintro e w' ⟨rfl, rfl⟩
    go_wp2_with fail
    go_ret
    exact ⟨rfl, rfl⟩
  · by_cases h2 : y < x
    · have hr : Lib.compareInt x y = 1 := by rw [hc, if_neg h1, if_pos h2]
      rw [hr]
      clear hc hr
      go_enter Try.func53, Try.ntmps53
      go_wp2_with fail
      refine C1.mono ?_
      rintro e w' ⟨rfl, rfl⟩
      go_wp2_with fail
      refine C2.mono ?_
      rintro e w' ⟨rfl, rfl⟩
      go_wp2_with fail
      go_ret
      exact ⟨rfl, rfl⟩
    · have hr : Lib.compareInt x y = 0 := by rw [hc, if_neg h1, if_neg h2]
      rw [hr]
      clear hc hr
      go_enter Try.func53, Try.ntmps53
      go_wp2_with fail
      refine C1.mono ?_
      rintro e w' ⟨rfl, rfl⟩
      go_wp2_with fail
      refine C2.mono ?_
      rintro e w' ⟨rfl, rfl⟩
      go_wp2_with fail
      go_ret
      exact ⟨rfl, rfl⟩
theorem isNaNu_any (x : Int) (W : World) : Calls Try.prog 62 #[.int .u32 x] W fun e w' => e = .returned (.bool false) ∧ W = w' := by
  have h : (x != x) = false := by simp
  go_enter Try.func62, Try.ntmps62
  go_wp2_with fail
  go_ret
  exact ⟨rfl, rfl⟩
theorem cmpu_any (x y : Int) (W : World) : Calls Try.prog 54 #[.int .u32 x, .int .u32 y] W fun e w' => e = .returned (.int .i64 (Lib.compareInt x y)) ∧ W = w' := by
  have C1 := isNaNu_any x W
  have C2 := isNaNu_any y W
  have hc : Lib.compareInt x y = if x < y then -1 else if y < x then 1 else 0 := rfl
  by_cases h1 : x < y
  · have hr : Lib.compareInt x y = -1 := by rw [hc, if_pos h1]
    have h3 : ¬ y < x := by omega
    rw [hr]
    clear hc hr
    go_enter Try.func54, Try.ntmps54
    go_wp2_with fail
    refine C1.mono ?_
    rintro e w' ⟨rfl, rfl⟩
    go_wp2_with fail
    refine C2.mono ?_
    rintro e w' ⟨rfl, rfl⟩
    go_wp2_with fail
    go_ret
    exact ⟨rfl, rfl⟩
  · by_cases h2 : y < x
    · have hr : Lib.compareInt x y = 1 := by rw [hc, if_neg h1, if_pos h2]
      rw [hr]
      clear hc hr
      go_enter Try.func54, Try.ntmps54
      go_wp2_with fail
      refine C1.mono ?_
      rintro e w' ⟨rfl, rfl⟩
      go_wp2_with fail
      refine C2.mono ?_
      rintro e w' ⟨rfl, rfl⟩
      go_wp2_with fail
      go_ret
      exact ⟨rfl, rfl⟩
    · have hr : Lib.compareInt x y = 0 := by rw [hc, if_neg h1, if_neg h2]
      rw [hr]
      clear hc hr
      go_enter Try.func54, Try.ntmps54
      go_wp2_with fail
      refine C1.mono ?_
      rintro e w' ⟨rfl, rfl⟩
      go_wp2_with fail
      refine C2.mono ?_
      rintro e w' ⟨rfl, rfl⟩
      go_wp2_with fail
      go_ret
      exact ⟨rfl, rfl⟩
theorem isNaNh_any (x : Int) (W : World) : Calls Try.prog 63 #[.int .u16 x] W fun e w' => e = .returned (.bool false) ∧ W = w' := by
  have h : (x != x) = false := by simp
  go_enter Try.func63, Try.ntmps63
  go_wp2_with fail
  go_ret
  exact ⟨rfl, rfl⟩
theorem cmph_any (x y : Int) (W : World) : Calls Try.prog 55 #[.int .u16 x, .int .u16 y] W fun e w' => e = .returned (.int .i64 (Lib.compareInt x y)) ∧ W = w' := by
  have C1 := isNaNh_any x W
  have C2 := isNaNh_any y W
  have hc : Lib.compareInt x y = if x < y then -1 else if y < x then 1 else 0 := rfl
  by_cases h1 : x < y
  · have hr : Lib.compareInt x y = -1 := by rw [hc, if_pos h1]
    have h3 : ¬ y < x := by omega
    rw [hr]
    clear hc hr
    go_enter Try.func55, Try.ntmps55
    go_wp2_with fail
    refine C1.mono ?_
    rintro e w' ⟨rfl, rfl⟩
    go_wp2_with fail
    refine C2.mono ?_
    rintro e w' ⟨rfl, rfl⟩
    go_wp2_with fail
    go_ret
    exact ⟨rfl, rfl⟩
  · by_cases h2 : y < x
    · have hr : Lib.compareInt x y = 1 := by rw [hc, if_neg h1, if_pos h2]
      rw [hr]
      clear hc hr
      go_enter Try.func55, Try.ntmps55
      go_wp2_with fail
      refine C1.mono ?_
      rintro e w' ⟨rfl, rfl⟩
      go_wp2_with fail
      refine C2.mono ?_
      rintro e w' ⟨rfl, rfl⟩
      go_wp2_with fail
      go_ret
      exact ⟨rfl, rfl⟩
    · have hr : Lib.compareInt x y = 0 := by rw [hc, if_neg h1, if_neg h2]
      rw [hr]
      clear hc hr
      go_enter Try.func55, Try.ntmps55
      go_wp2_with fail
      refine C1.mono ?_
      rintro e w' ⟨rfl, rfl⟩
      go_wp2_with fail
      refine C2.mono ?_
      rintro e w' ⟨rfl, rfl⟩
      go_wp2_with fail
      go_ret
      exact ⟨rfl, rfl⟩
def orv (a b c : Int) : Int := if a = 0 then (if b = 0 then c else b) else a
set_option maxHeartbeats 2000000 in
theorem or_any (a b c : Int) (g : Nat) (W : World) (h0 : W.cell? ⟨g, 0, none⟩ = some (.int .i64 a)) (h1 : W.cell? ⟨g, 1, none⟩ = some (.int .i64 b)) (h2 : W.cell? ⟨g, 2, none⟩ = some (.int .i64 c)) :
    Calls Try.prog 52 #[.slice (some ⟨g, 0, none⟩) 3 3] W fun e w' => e = .returned (.int .i64 (orv a b c)) ∧ W = w' := by
  unfold orv
  by_cases ha : a = 0
  · subst ha
    rw [if_pos rfl]
    by_cases hb : b = 0
    · subst hb
      rw [if_pos rfl]
      by_cases hc : c = 0
      · subst hc
        go_enter Try.func52, Try.ntmps52
        go_wp2_with fail
        refine wp_loop_rounds 4 ?_
        rw [rounds_succ]
        go_wp2_with fail
        rw [rounds_succ]
        go_wp2_with fail
        rw [rounds_succ]
        go_wp2_with fail
        rw [rounds_succ]
        go_wp2_with fail
        go_ret
        exact ⟨rfl, rfl⟩
      · have hc1 : (c != 0) = true := by simp [hc]
        go_enter Try.func52, Try.ntmps52
        go_wp2_with fail
        refine wp_loop_rounds 3 ?_
        rw [rounds_succ]
        go_wp2_with fail
        rw [rounds_succ]
        go_wp2_with fail
        rw [rounds_succ]
        go_wp2_with fail
        go_ret
        exact ⟨rfl, rfl⟩
    · rw [if_neg hb]
      have hb1 : (b != 0) = true := by simp [hb]
      go_enter Try.func52, Try.ntmps52
      go_wp2_with fail
      refine wp_loop_rounds 2 ?_
      rw [rounds_succ]
      go_wp2_with fail
      rw [rounds_succ]
      go_wp2_with fail
      go_ret
      exact ⟨rfl, rfl⟩
  · rw [if_neg ha]
    have ha1 : (a != 0) = true := by simp [ha]
    go_enter Try.func52, Try.ntmps52
    go_wp2_with fail
    refine wp_loop_rounds 1 ?_
    rw [rounds_succ]
    go_wp2_with fail
    go_ret
    exact ⟨rfl, rfl⟩
def cfk (x y : Ky) : Int := orv (Lib.compareInt x.1 y.1) (Lib.compareInt x.2.1 y.2.1) (Lib.compareInt x.2.2 y.2.2)
theorem cmi_lt (x y : Int) : Lib.compareInt x y < 0 ↔ x < y := by unfold Lib.compareInt; repeat' split; all_goals omega
theorem cmi_eq (x y : Int) : Lib.compareInt x y = 0 ↔ x = y := by unfold Lib.compareInt; repeat' split; all_goals omega
theorem cfk_lt (x y : Ky) : ltOf cfk x y = decide (klt x y) := by
  unfold ltOf cfk orv
  rw [decide_eq_decide]
  unfold klt
  have a1 := cmi_lt x.1 y.1
  have a2 := cmi_eq x.1 y.1
  have b1 := cmi_lt x.2.1 y.2.1
  have b2 := cmi_eq x.2.1 y.2.1
  have c1 := cmi_lt x.2.2 y.2.2
  have c2 := cmi_eq x.2.2 y.2.2
  repeat' split
  all_goals omega
theorem cfk_swo : SWO (ltOf cfk) where
  irrefl x := by rw [cfk_lt, decide_eq_false_iff_not]; exact klt_irrefl x
  trans x y z h1 h2 := by rw [cfk_lt, decide_eq_true_iff] at *; exact klt_trans h1 h2
  ntrans x y z h1 h2 := by rw [cfk_lt, decide_eq_false_iff_not] at *; unfold klt at *; omega
theorem cfk_tot (x y : Ky) (h1 : ltOf cfk x y = false) (h2 : ltOf cfk y x = false) : x = y := by
  rw [cfk_lt, decide_eq_false_iff_not] at *
  exact klt_tot h1 h2
theorem step_bslW {ops : Array Oper} {o : Oper} {a : Act} {W : World} {K : Act → World → Prop} {Q : Exit → Act → World → Prop} {E : Prop} (hgd : o.guard = none) (ty : TypeId) (n : Nat) (parts : Array (Nat × Operand)) (ho : o.op = .buildSlice ty n parts) {vs : Array (Nat × Value)} {v : Value} {w' : World}
    (hr : (Instr.buildSlice ty n vs).run Try.prog W = .ok v w') (hv : (parts.map fun (i, x) => (i, a.eval x)) = vs) (h : K (a.put o.dst v) w') : if Region.wanted o (yielded ops a.tmps) = true then Oper.wp Try.prog o a W K Q else E := by
  have hw : Region.wanted o (yielded ops a.tmps) = true := by simp [Region.wanted, hgd]
  rw [if_pos hw]
  subst hv
  unfold Oper.wp execOp
  simp only [ho, Sem.run_bind, hr, Result.andThen_ok, Sem.run_pure]
  exact h
theorem bsl_three (A B C : Int) (X : World) : (Instr.buildSlice 100 3 #[(0, .int .i64 A), (1, .int .i64 B), (2, .int .i64 C)]).run Try.prog X = .ok (.slice (some ⟨X.heap.size, 0, none⟩) 3 3) (X.alloc (.cells #[.int .i64 A, .int .i64 B, .int .i64 C] 3)) := by kernel_rfl
theorem grown3 (W : World) (a b c : Obj) : (((W.alloc a).alloc b).alloc c).drew = grow (W.drewN 1) #[a, b, c] := by
  rw [alloc_eq_grow, alloc_eq_grow, alloc_eq_grow, grow_grow, grow_grow]
  rfl
set_option maxHeartbeats 4000000 in
theorem inOrder_any (x y : Ky) (W : World) : Calls Try.prog 41 #[.agg #[.int .u8 x.1, .int .u32 x.2.1, .int .u16 x.2.2], .agg #[.int .u8 y.1, .int .u32 y.2.1, .int .u16 y.2.2]] W fun e w' => e = .returned (.int .i64 (cfk x y)) ∧ ∃ q os', w' = grow (W.drewN q) os' := by
  obtain ⟨xa, xb, xc⟩ := x
  obtain ⟨ya, yb, yc⟩ := y
  simp only
  obtain ⟨g, hg⟩ : ∃ g, W.heap.size = g := ⟨_, rfl⟩
  obtain ⟨V, hV⟩ : ∃ V, (W.alloc (.cells #[.int .u8 xa, .int .u32 xb, .int .u16 xc] 36)).alloc (.cells #[.int .u8 ya, .int .u32 yb, .int .u16 yc] 36) = V := ⟨_, rfl⟩
  have hr : cfk (xa, xb, xc) (ya, yb, yc) = orv (Lib.compareInt xa ya) (Lib.compareInt xb yb) (Lib.compareInt xc yc) := rfl
  rw [hr]
  have C1 := cmpb_any xa ya
  have C2 := cmpu_any xb yb
  have C3 := cmph_any xc yc
  generalize Lib.compareInt xa ya = A at *
  generalize Lib.compareInt xb yb = B at *
  generalize Lib.compareInt xc yc = C at *
  clear hr
  have hm : Mem W V [(g, .cells #[.int .u8 xa, .int .u32 xb, .int .u16 xc] 36 (0, 0)), (g + 1, .cells #[.int .u8 ya, .int .u32 yb, .int .u16 yc] 36 (0, 0))] := by
    rw [← hV]
    exact ((Mem.nil W).push1 hg.symm).push2 (by rw [World.size_alloc, hg])
  have hVs : V.heap.size = g + 2 := by rw [← hV, ← hg]; simp
  have HM : Hid (Mem W V [(g, .cells #[.int .u8 xa, .int .u32 xb, .int .u16 xc] 36 (0, 0)), (g + 1, .cells #[.int .u8 ya, .int .u32 yb, .int .u16 yc] 36 (0, 0))]) := hm
  have HS : Hid (∀ (X : World) {L : List (Nat × Obj)}, Mem W X ((g, .cells #[.int .u8 xa, .int .u32 xb, .int .u16 xc] 36 (0, 0)) :: (g + 1, .cells #[.int .u8 ya, .int .u32 yb, .int .u16 yc] 36 (0, 0)) :: L) → (fun X : World => X.cell? ⟨g, 0, none⟩ = some (.int .u8 xa) ∧ X.cell? ⟨g, 1, none⟩ = some (.int .u32 xb) ∧ X.cell? ⟨g, 2, none⟩ = some (.int .u16 xc) ∧ X.cell? ⟨g + 1, 0, none⟩ = some (.int .u8 ya) ∧ X.cell? ⟨g + 1, 1, none⟩ = some (.int .u32 yb) ∧ X.cell? ⟨g + 1, 2, none⟩ = some (.int .u16 yc)) X) := fun X L h => ⟨h.cell 0 rfl 0, h.cell 0 rfl 1, h.cell 0 rfl 2, h.cell 1 rfl 0, h.cell 1 rfl 1, h.cell 1 rfl 2⟩
  have HM2 : Hid (Mem W ((V.alloc (.cells #[.int .i64 A, .int .i64 B, .int .i64 C] 3)).drew) [(g, .cells #[.int .u8 xa, .int .u32 xb, .int .u16 xc] 36 (0, 0)), (g + 1, .cells #[.int .u8 ya, .int .u32 yb, .int .u16 yc] 36 (0, 0)), (g + 2, .cells #[.int .i64 A, .int .i64 B, .int .i64 C] 3 (0, 0))]) := (hm.push (g + 2) _ hVs.symm).drew
  have hbs : (Instr.buildSlice 100 3 #[(0, .int .i64 A), (1, .int .i64 B), (2, .int .i64 C)]).run Try.prog V.drew = .ok (.slice (some ⟨g + 2, 0, none⟩) 3 3) ((V.alloc (.cells #[.int .i64 A, .int .i64 B, .int .i64 C] 3)).drew) := by
    have h1 := bsl_three A B C V.drew
    rw [show V.drew.heap.size = g + 2 from hVs] at h1
    exact h1
  have C4 := or_any A B C (g + 2) _ (HM2.out.cell 2 rfl 0) (HM2.out.cell 2 rfl 1) (HM2.out.cell 2 rfl 2)
  have HE : Hid (∃ q os', (V.alloc (.cells #[.int .i64 A, .int .i64 B, .int .i64 C] 3)).drew = grow (W.drewN q) os') := ⟨1, _, by rw [← hV]; exact grown3 W _ _ _⟩
  generalize (V.alloc (.cells #[.int .i64 A, .int .i64 B, .int .i64 C] 3)).drew = V2 at *
  generalize orv A B C = R at C4 ⊢
  clear hm
  go_enter Try.func41, Try.ntmps41
  go_upto_region 1 with fail
  refine wp_region_held_drew (S := (fun X : World => X.cell? ⟨g, 0, none⟩ = some (.int .u8 xa) ∧ X.cell? ⟨g, 1, none⟩ = some (.int .u32 xb) ∧ X.cell? ⟨g, 2, none⟩ = some (.int .u16 xc) ∧ X.cell? ⟨g + 1, 0, none⟩ = some (.int .u8 ya) ∧ X.cell? ⟨g + 1, 1, none⟩ = some (.int .u32 yb) ∧ X.cell? ⟨g + 1, 2, none⟩ = some (.int .u16 yc))) (by kernel_rfl) (HS.out _ HM.out.drew) (fun hHeld => ?_)
  refine wpAnyH_take (i := 0) (v := ?_) rfl (by kernel_rfl) (by kernel_rfl) (by kernel_rfl) (fun _ _ _ h => h) (Or.inl ⟨by rfl, ?z1⟩) (by assumption) ?_
  case z1 =>
   intro w hSw
   (try dsimp only at hSw)
   go_simp
   all_goals with_reducible rfl
  try simp only [List.getElem_toArray, List.getElem_cons_zero, List.getElem_cons_succ, Act.put, List.setIfInBounds_toArray, List.set_cons_zero, List.set_cons_succ]
  refine wpAnyH_take (i := 2) (v := ?_) rfl (by kernel_rfl) (by kernel_rfl) (by kernel_rfl) (fun _ _ _ h => h) (Or.inl ⟨by rfl, ?z2⟩) (by assumption) ?_
  case z2 =>
   intro w hSw
   (try dsimp only at hSw)
   go_simp
   all_goals with_reducible rfl
  try simp only [List.getElem_toArray, List.getElem_cons_zero, List.getElem_cons_succ, Act.put, List.setIfInBounds_toArray, List.set_cons_zero, List.set_cons_succ]
  refine wpAnyH_take (i := 5) (v := ?_) rfl (by kernel_rfl) (by kernel_rfl) (by kernel_rfl) (fun _ _ _ h => h) (Or.inl ⟨by rfl, ?z3⟩) (by assumption) ?_
  case z3 =>
   intro w hSw
   (try dsimp only at hSw)
   go_simp
   all_goals with_reducible rfl
  try simp only [List.getElem_toArray, List.getElem_cons_zero, List.getElem_cons_succ, Act.put, List.setIfInBounds_toArray, List.set_cons_zero, List.set_cons_succ]
  refine wpAnyH_take (i := 6) (v := ?_) rfl (by kernel_rfl) (by kernel_rfl) (by kernel_rfl) (fun _ _ _ h => h) (Or.inl ⟨by rfl, ?z4⟩) (by assumption) ?_
  case z4 =>
   intro w hSw
   (try dsimp only at hSw)
   go_simp
   all_goals with_reducible rfl
  try simp only [List.getElem_toArray, List.getElem_cons_zero, List.getElem_cons_succ, Act.put, List.setIfInBounds_toArray, List.set_cons_zero, List.set_cons_succ]
  refine wpAnyH_take (i := 8) (v := ?_) rfl (by kernel_rfl) (by kernel_rfl) (by kernel_rfl) (fun _ _ _ h => h) (Or.inl ⟨by rfl, ?z5⟩) (by assumption) ?_
  case z5 =>
   intro w hSw
   (try dsimp only at hSw)
   go_simp
   all_goals with_reducible rfl
  try simp only [List.getElem_toArray, List.getElem_cons_zero, List.getElem_cons_succ, Act.put, List.setIfInBounds_toArray, List.set_cons_zero, List.set_cons_succ]
  refine wpAnyH_take (i := 9) (v := ?_) rfl (by kernel_rfl) (by kernel_rfl) (by kernel_rfl) (fun _ _ _ h => h) (Or.inl ⟨by rfl, ?z6⟩) (by assumption) ?_
  case z6 =>
   intro w hSw
   (try dsimp only at hSw)
   go_simp
   all_goals with_reducible rfl
  try simp only [List.getElem_toArray, List.getElem_cons_zero, List.getElem_cons_succ, Act.put, List.setIfInBounds_toArray, List.set_cons_zero, List.set_cons_succ]
  refine wpAnyH_take (i := 12) (v := ?_) rfl (by kernel_rfl) (by kernel_rfl) (by kernel_rfl) (fun _ _ _ h => h) (Or.inl ⟨by rfl, ?z7⟩) (by assumption) ?_
  case z7 =>
   intro w hSw
   (try dsimp only at hSw)
   go_simp
   all_goals with_reducible rfl
  try simp only [List.getElem_toArray, List.getElem_cons_zero, List.getElem_cons_succ, Act.put, List.setIfInBounds_toArray, List.set_cons_zero, List.set_cons_succ]
  refine wpAnyH_take (i := 13) (v := ?_) rfl (by kernel_rfl) (by kernel_rfl) (by kernel_rfl) (fun _ _ _ h => h) (Or.inl ⟨by rfl, ?z8⟩) (by assumption) ?_
  case z8 =>
   intro w hSw
   (try dsimp only at hSw)
   go_simp
   all_goals with_reducible rfl
  try simp only [List.getElem_toArray, List.getElem_cons_zero, List.getElem_cons_succ, Act.put, List.setIfInBounds_toArray, List.set_cons_zero, List.set_cons_succ]
  refine wpAnyH_take (i := 15) (v := ?_) rfl (by kernel_rfl) (by kernel_rfl) (by kernel_rfl) (fun _ _ _ h => h) (Or.inl ⟨by rfl, ?z9⟩) (by assumption) ?_
  case z9 =>
   intro w hSw
   (try dsimp only at hSw)
   go_simp
   all_goals with_reducible rfl
  try simp only [List.getElem_toArray, List.getElem_cons_zero, List.getElem_cons_succ, Act.put, List.setIfInBounds_toArray, List.set_cons_zero, List.set_cons_succ]
  refine wpAnyH_take (i := 16) (v := ?_) rfl (by kernel_rfl) (by kernel_rfl) (by kernel_rfl) (fun _ _ _ h => h) (Or.inl ⟨by rfl, ?z10⟩) (by assumption) ?_
  case z10 =>
   intro w hSw
   (try dsimp only at hSw)
   go_simp
   all_goals with_reducible rfl
  try simp only [List.getElem_toArray, List.getElem_cons_zero, List.getElem_cons_succ, Act.put, List.setIfInBounds_toArray, List.set_cons_zero, List.set_cons_succ]
  refine wpAnyH_take (i := 1) (v := ?_) rfl (by kernel_rfl) (by kernel_rfl) (by kernel_rfl) (fun _ _ _ h => h) (Or.inl ⟨by rfl, ?z11⟩) (by assumption) ?_
  case z11 =>
   intro w hSw
   (try dsimp only at hSw)
   go_simp
   all_goals with_reducible rfl
  try simp only [List.getElem_toArray, List.getElem_cons_zero, List.getElem_cons_succ, Act.put, List.setIfInBounds_toArray, List.set_cons_zero, List.set_cons_succ]
  refine wpAnyH_take (i := 3) (v := ?_) rfl (by kernel_rfl) (by kernel_rfl) (by kernel_rfl) (fun _ _ _ h => h) (Or.inl ⟨by rfl, ?z12⟩) (by assumption) ?_
  case z12 =>
   intro w hSw
   (try dsimp only at hSw)
   go_simp
   all_goals with_reducible rfl
  try simp only [List.getElem_toArray, List.getElem_cons_zero, List.getElem_cons_succ, Act.put, List.setIfInBounds_toArray, List.set_cons_zero, List.set_cons_succ]
  refine wpAnyH_take (i := 7) (v := ?_) rfl (by kernel_rfl) (by kernel_rfl) (by kernel_rfl) (fun _ _ _ h => h) (Or.inl ⟨by rfl, ?z13⟩) (by assumption) ?_
  case z13 =>
   intro w hSw
   (try dsimp only at hSw)
   go_simp
   all_goals with_reducible rfl
  try simp only [List.getElem_toArray, List.getElem_cons_zero, List.getElem_cons_succ, Act.put, List.setIfInBounds_toArray, List.set_cons_zero, List.set_cons_succ]
  refine wpAnyH_take (i := 10) (v := ?_) rfl (by kernel_rfl) (by kernel_rfl) (by kernel_rfl) (fun _ _ _ h => h) (Or.inl ⟨by rfl, ?z14⟩) (by assumption) ?_
  case z14 =>
   intro w hSw
   (try dsimp only at hSw)
   go_simp
   all_goals with_reducible rfl
  try simp only [List.getElem_toArray, List.getElem_cons_zero, List.getElem_cons_succ, Act.put, List.setIfInBounds_toArray, List.set_cons_zero, List.set_cons_succ]
  refine wpAnyH_take (i := 14) (v := ?_) rfl (by kernel_rfl) (by kernel_rfl) (by kernel_rfl) (fun _ _ _ h => h) (Or.inl ⟨by rfl, ?z15⟩) (by assumption) ?_
  case z15 =>
   intro w hSw
   (try dsimp only at hSw)
   go_simp
   all_goals with_reducible rfl
  try simp only [List.getElem_toArray, List.getElem_cons_zero, List.getElem_cons_succ, Act.put, List.setIfInBounds_toArray, List.set_cons_zero, List.set_cons_succ]
  refine wpAnyH_take (i := 17) (v := ?_) rfl (by kernel_rfl) (by kernel_rfl) (by kernel_rfl) (fun _ _ _ h => h) (Or.inl ⟨by rfl, ?z16⟩) (by assumption) ?_
  case z16 =>
   intro w hSw
   (try dsimp only at hSw)
   go_simp
   all_goals with_reducible rfl
  try simp only [List.getElem_toArray, List.getElem_cons_zero, List.getElem_cons_succ, Act.put, List.setIfInBounds_toArray, List.set_cons_zero, List.set_cons_succ]
  refine wpAnyH_ready (rs := [4]) (by kernel_rfl) (by simp) ?_
  refine AllReadyH.cons rfl (fun K hK => ?_) AllReadyH.nil
  go_simp
  with_reducible refine (C1 _).mono ?_
  rintro e w1 ⟨rfl, rfl⟩
  try go_wp2_with fail
  refine hK.out _ _ (HS.out _ HM.out.drew) (fun hHeld => ?_)
  clear hK K
  try simp only [List.getElem_toArray, List.getElem_cons_zero, List.getElem_cons_succ, Act.put, List.setIfInBounds_toArray, List.set_cons_zero, List.set_cons_succ]
  refine wpAnyH_ready (rs := [11]) (by kernel_rfl) (by simp) ?_
  refine AllReadyH.cons rfl (fun K hK => ?_) AllReadyH.nil
  go_simp
  with_reducible refine (C2 _).mono ?_
  rintro e w1 ⟨rfl, rfl⟩
  try go_wp2_with fail
  refine hK.out _ _ (HS.out _ HM.out.drew) (fun hHeld => ?_)
  clear hK K
  try simp only [List.getElem_toArray, List.getElem_cons_zero, List.getElem_cons_succ, Act.put, List.setIfInBounds_toArray, List.set_cons_zero, List.set_cons_succ]
  refine wpAnyH_ready (rs := [18]) (by kernel_rfl) (by simp) ?_
  refine AllReadyH.cons rfl (fun K hK => ?_) AllReadyH.nil
  go_simp
  with_reducible refine (C3 _).mono ?_
  rintro e w1 ⟨rfl, rfl⟩
  try go_wp2_with fail
  refine hK.out _ _ (HS.out _ HM.out.drew) (fun hHeld => ?_)
  clear hK K
  try simp only [List.getElem_toArray, List.getElem_cons_zero, List.getElem_cons_succ, Act.put, List.setIfInBounds_toArray, List.set_cons_zero, List.set_cons_succ]
  refine wpAnyH_ready (rs := [19]) (by kernel_rfl) (by simp) ?_
  refine AllReadyH.cons rfl (fun K hK => ?_) AllReadyH.nil
  refine step_bslW rfl 100 3 _ rfl hbs (by simp [Act.eval]) ?_
  refine hK.out _ _ (HS.out _ HM2.out) (fun hHeld => ?_)
  clear hK K
  try simp only [List.getElem_toArray, List.getElem_cons_zero, List.getElem_cons_succ, Act.put, List.setIfInBounds_toArray, List.set_cons_zero, List.set_cons_succ]
  refine wpAnyH_ready (rs := [20]) (by kernel_rfl) (by simp) ?_
  refine AllReadyH.cons rfl (fun K hK => ?_) AllReadyH.nil
  go_simp
  with_reducible refine (C4).mono ?_
  rintro e w1 ⟨rfl, rfl⟩
  try go_wp2_with fail
  refine hK.out _ _ (HS.out _ HM2.out) (fun hHeld => ?_)
  clear hK K
  try simp only [List.getElem_toArray, List.getElem_cons_zero, List.getElem_cons_succ, Act.put, List.setIfInBounds_toArray, List.set_cons_zero, List.set_cons_succ]
  refine wpAnyH_ready (rs := [21]) (by kernel_rfl) (by simp) ?_
  refine AllReadyH.cons rfl (fun K hK => ?_) AllReadyH.nil
  go_simp
  refine hK.out _ _ (HS.out _ HM2.out) (fun hHeld => ?_)
  clear hK K
  try simp only [List.getElem_toArray, List.getElem_cons_zero, List.getElem_cons_succ, Act.put, List.setIfInBounds_toArray, List.set_cons_zero, List.set_cons_succ]
  refine wpAnyH_done (by kernel_rfl) ?_ _
  go_wp2_with fail
  go_ret
  exact ⟨rfl, HE.out⟩
end Ss
end Go.Proofs.Ytgeeijinhneoiaa
