/-
  Wheel, the program's own: what is due, held against each other; sorted.
-/
import Derived.Test.YtfplmefcblkljaaWpNum
import Derived.Test.YtfplmefcblkljaaShelf
namespace Go.Proofs.Ytfplmefcblkljaa
open Go.RowKit
open Sm
open Wh
open Go.Sort Go.Shelf
set_option linter.unusedVariables false
set_option linter.unusedSimpArgs false
set_option maxRecDepth 20000

namespace Wp
theorem isNaNu_any (x : Int) (W : World) : Calls Try.prog 42 #[.int .u32 x] W fun e w' => e = .returned (.bool false) ∧ W = w' := by
  have h : (x != x) = false := by simp
  go_enter Try.func42, Try.ntmps42
  go_wp2_with fail
  go_ret
  exact ⟨rfl, rfl⟩
theorem cmpu_any (x y : Int) (W : World) : Calls Try.prog 31 #[.int .u32 x, .int .u32 y] W fun e w' => e = .returned (.int .i64 (Lib.compareInt x y)) ∧ W = w' := by
  have C1 := isNaNu_any x W
  have C2 := isNaNu_any y W
  have hc : Lib.compareInt x y = if x < y then -1 else if y < x then 1 else 0 := rfl
  by_cases h1 : x < y
  · have hr : Lib.compareInt x y = -1 := by rw [hc, if_pos h1]
    have h3 : ¬ y < x := by omega
    rw [hr]
    clear hc hr
    go_enter Try.func31, Try.ntmps31
    go_wp2_with fail
    refine C1.mono ?_
    rintro e w' ⟨rfl, rfl⟩
    go_wp2_with fail
    refine C2.mono ?_
    rintro e w' ⟨rfl, rfl⟩
    go_wp2_with fail
    go_ret
    exact ⟨rfl, rfl⟩
  · by_cases h2 : y < x
    · have hr : Lib.compareInt x y = 1 := by rw [hc, if_neg h1, if_pos h2]
      rw [hr]
      clear hc hr
      go_enter Try.func31, Try.ntmps31
      go_wp2_with fail
      refine C1.mono ?_
      rintro e w' ⟨rfl, rfl⟩
      go_wp2_with fail
      refine C2.mono ?_
      rintro e w' ⟨rfl, rfl⟩
      go_wp2_with fail
      go_ret
      exact ⟨rfl, rfl⟩
    · have hr : Lib.compareInt x y = 0 := by rw [hc, if_neg h1, if_neg h2]
      rw [hr]
      clear hc hr
      go_enter Try.func31, Try.ntmps31
      go_wp2_with fail
      refine C1.mono ?_
      rintro e w' ⟨rfl, rfl⟩
      go_wp2_with fail
      refine C2.mono ?_
      rintro e w' ⟨rfl, rfl⟩
      go_wp2_with fail
      go_ret
      exact ⟨rfl, rfl⟩
theorem or_any (a b : Int) (g : Nat) (W : World) (h0 : W.cell? ⟨g, 0, none⟩ = some (.int .i64 a)) (h1 : W.cell? ⟨g, 1, none⟩ = some (.int .i64 b)) :
    Calls Try.prog 30 #[.slice (some ⟨g, 0, none⟩) 2 2] W fun e w' => e = .returned (.int .i64 (if a = 0 then b else a)) ∧ W = w' := by
  by_cases ha : a = 0
  · subst ha
    rw [if_pos rfl]
    by_cases hb : b = 0
    · subst hb
      go_enter Try.func30, Try.ntmps30
      go_wp2_with fail
      refine wp_loop_rounds 3 ?_
      rw [rounds_succ]
      go_wp2_with fail
      rw [rounds_succ]
      go_wp2_with fail
      rw [rounds_succ]
      go_wp2_with fail
      go_ret
      exact ⟨rfl, rfl⟩
    · have hb1 : (b != 0) = true := by simp [hb]
      go_enter Try.func30, Try.ntmps30
      go_wp2_with fail
      refine wp_loop_rounds 2 ?_
      rw [rounds_succ]
      go_wp2_with fail
      rw [rounds_succ]
      go_wp2_with fail
      go_ret
      exact ⟨rfl, rfl⟩
  · rw [if_neg ha]
    have ha1 : (a != 0) = true := by simp [ha]
    go_enter Try.func30, Try.ntmps30
    go_wp2_with fail
    refine wp_loop_rounds 1 ?_
    rw [rounds_succ]
    go_wp2_with fail
    go_ret
    exact ⟨rfl, rfl⟩
/-- What is due, as its two cells; in which order. -/
def encD (d : Du) : List Value := [.int .u32 d.2, .int .i64 d.1]
def cfo (x y : Du) : Int := if Lib.compareInt x.2 y.2 = 0 then Lib.compareInt x.1 y.1 else Lib.compareInt x.2 y.2
theorem cfo_lt (x y : Du) : ltOf cfo x y = decide (dlt x y) := by
  unfold ltOf cfo Lib.compareInt
  rw [decide_eq_decide]
  unfold dlt
  repeat' split
  all_goals omega
theorem cfo_swo : SWO (ltOf cfo) where
  irrefl x := by rw [cfo_lt, decide_eq_false_iff_not]; unfold dlt; omega
  trans x y z h1 h2 := by rw [cfo_lt, decide_eq_true_iff] at *; unfold dlt at *; omega
  ntrans x y z h1 h2 := by rw [cfo_lt, decide_eq_false_iff_not] at *; unfold dlt at *; omega
theorem cfo_tot (x y : Du) (h1 : ltOf cfo x y = false) (h2 : ltOf cfo y x = false) : x = y := by
  rw [cfo_lt, decide_eq_false_iff_not] at *
  unfold dlt at *
  obtain ⟨a, b⟩ := x
  obtain ⟨c, d⟩ := y
  simp only at *
  have : a = c ∧ b = d := by omega
  rw [this.1, this.2]
theorem step_bslW {ops : Array Oper} {o : Oper} {a : Act} {W : World} {K : Act → World → Prop} {Q : Exit → Act → World → Prop} {E : Prop} (hgd : o.guard = none) (ty : TypeId) (n : Nat) (parts : Array (Nat × Operand)) (ho : o.op = .buildSlice ty n parts) {vs : Array (Nat × Value)} {v : Value} {w' : World}
    (hr : (Instr.buildSlice ty n vs).run Try.prog W = .ok v w') (hv : (parts.map fun (i, x) => (i, a.eval x)) = vs) (h : K (a.put o.dst v) w') : if Region.wanted o (yielded ops a.tmps) = true then Oper.wp Try.prog o a W K Q else E := by
  have hw : Region.wanted o (yielded ops a.tmps) = true := by simp [Region.wanted, hgd]
  rw [if_pos hw]
  subst hv
  unfold Oper.wp execOp
  simp only [ho, Sem.run_bind, hr, Result.andThen_ok, Sem.run_pure]
  exact h
theorem bsl_two (A B : Int) (X : World) : (Instr.buildSlice 36 2 #[(0, .int .i64 A), (1, .int .i64 B)]).run Try.prog X = .ok (.slice (some ⟨X.heap.size, 0, none⟩) 2 2) (X.alloc (.cells #[.int .i64 A, .int .i64 B] 3)) := by kernel_rfl
theorem grown3 (W : World) (a b c : Obj) : (((W.alloc a).alloc b).alloc c).drew = grow (W.drewN 1) #[a, b, c] := by
  rw [alloc_eq_grow, alloc_eq_grow, alloc_eq_grow, grow_grow, grow_grow]
  rfl
set_option maxHeartbeats 4000000 in
theorem inOrder_any (x y : Du) (W : World) : Calls Try.prog 25 #[.agg #[.int .u32 x.2, .int .i64 x.1], .agg #[.int .u32 y.2, .int .i64 y.1]] W fun e w' => e = .returned (.int .i64 (cfo x y)) ∧ ∃ q os', w' = grow (W.drewN q) os' := by
  obtain ⟨xi, xa⟩ := x
  obtain ⟨yi, ya⟩ := y
  simp only
  obtain ⟨g, hg⟩ : ∃ g, W.heap.size = g := ⟨_, rfl⟩
  obtain ⟨V, hV⟩ : ∃ V, (W.alloc (.cells #[.int .u32 xa, .int .i64 xi] 64)).alloc (.cells #[.int .u32 ya, .int .i64 yi] 64) = V := ⟨_, rfl⟩
  have hr : cfo (xi, xa) (yi, ya) = if Lib.compareInt xa ya = 0 then Lib.compareInt xi yi else Lib.compareInt xa ya := rfl
  rw [hr]
  have C1 := cmpu_any xa ya
  have C2 := fun V => Try.cmp_Compare_int xi yi V
  generalize Lib.compareInt xa ya = A at *
  generalize Lib.compareInt xi yi = B at *
  clear hr
  have hm : Mem W V [(g, .cells #[.int .u32 xa, .int .i64 xi] 64 (0, 0)), (g + 1, .cells #[.int .u32 ya, .int .i64 yi] 64 (0, 0))] := by
    rw [← hV]
    exact ((Mem.nil W).push1 hg.symm).push2 (by rw [World.size_alloc, hg])
  have hVs : V.heap.size = g + 2 := by rw [← hV, ← hg]; simp
  have HM : Hid (Mem W V [(g, .cells #[.int .u32 xa, .int .i64 xi] 64 (0, 0)), (g + 1, .cells #[.int .u32 ya, .int .i64 yi] 64 (0, 0))]) := hm
  have HS : Hid (∀ (X : World) {L : List (Nat × Obj)}, Mem W X ((g, .cells #[.int .u32 xa, .int .i64 xi] 64 (0, 0)) :: (g + 1, .cells #[.int .u32 ya, .int .i64 yi] 64 (0, 0)) :: L) → (fun X : World => X.cell? ⟨g, 0, none⟩ = some (.int .u32 xa) ∧ X.cell? ⟨g, 1, none⟩ = some (.int .i64 xi) ∧ X.cell? ⟨g + 1, 0, none⟩ = some (.int .u32 ya) ∧ X.cell? ⟨g + 1, 1, none⟩ = some (.int .i64 yi)) X) := fun X L h => ⟨h.cell 0 rfl 0, h.cell 0 rfl 1, h.cell 1 rfl 0, h.cell 1 rfl 1⟩
  have HM2 : Hid (Mem W ((V.alloc (.cells #[.int .i64 A, .int .i64 B] 3)).drew) [(g, .cells #[.int .u32 xa, .int .i64 xi] 64 (0, 0)), (g + 1, .cells #[.int .u32 ya, .int .i64 yi] 64 (0, 0)), (g + 2, .cells #[.int .i64 A, .int .i64 B] 3 (0, 0))]) := (hm.push (g + 2) _ hVs.symm).drew
  have hbs : (Instr.buildSlice 36 2 #[(0, .int .i64 A), (1, .int .i64 B)]).run Try.prog V.drew = .ok (.slice (some ⟨g + 2, 0, none⟩) 2 2) ((V.alloc (.cells #[.int .i64 A, .int .i64 B] 3)).drew) := by
    have h1 := bsl_two A B V.drew
    rw [show V.drew.heap.size = g + 2 from hVs] at h1
    exact h1
  have C3 := or_any A B (g + 2) _ (HM2.out.cell 2 rfl 0) (HM2.out.cell 2 rfl 1)
  have HE : Hid (∃ q os', (V.alloc (.cells #[.int .i64 A, .int .i64 B] 3)).drew = grow (W.drewN q) os') := ⟨1, _, by rw [← hV]; exact grown3 W _ _ _⟩
  generalize (V.alloc (.cells #[.int .i64 A, .int .i64 B] 3)).drew = V2 at *
  generalize (if A = 0 then B else A) = R at C3 ⊢
  clear hm
  go_enter Try.func25, Try.ntmps25
  go_upto_region 1 with fail
  refine wp_region_held_drew (S := (fun X => X.cell? ⟨g, 0, none⟩ = some (.int .u32 xa) ∧ X.cell? ⟨g, 1, none⟩ = some (.int .i64 xi) ∧ X.cell? ⟨g + 1, 0, none⟩ = some (.int .u32 ya) ∧ X.cell? ⟨g + 1, 1, none⟩ = some (.int .i64 yi))) (by kernel_rfl) (HS.out _ HM.out.drew) (fun hHeld => ?_)
  refine wpAnyH_take (i := 0) (v := ?_) rfl (by kernel_rfl) (by kernel_rfl) (by kernel_rfl) (fun _ _ _ h => h) (Or.inl ⟨by rfl, ?z1⟩) (by assumption) ?_
  case z1 =>
   intro w hSw
   (try dsimp only at hSw)
   go_simp
   all_goals with_reducible rfl
  try simp only [List.getElem_toArray, List.getElem_cons_zero, List.getElem_cons_succ, Act.put, List.setIfInBounds_toArray, List.set_cons_zero, List.set_cons_succ]
  refine wpAnyH_take (i := 2) (v := ?_) rfl (by kernel_rfl) (by kernel_rfl) (by kernel_rfl) (fun _ _ _ h => h) (Or.inl ⟨by rfl, ?z2⟩) (by assumption) ?_
  case z2 =>
   intro w hSw
   (try dsimp only at hSw)
   go_simp
   all_goals with_reducible rfl
  try simp only [List.getElem_toArray, List.getElem_cons_zero, List.getElem_cons_succ, Act.put, List.setIfInBounds_toArray, List.set_cons_zero, List.set_cons_succ]
  refine wpAnyH_take (i := 5) (v := ?_) rfl (by kernel_rfl) (by kernel_rfl) (by kernel_rfl) (fun _ _ _ h => h) (Or.inl ⟨by rfl, ?z3⟩) (by assumption) ?_
  case z3 =>
   intro w hSw
   (try dsimp only at hSw)
   go_simp
   all_goals with_reducible rfl
  try simp only [List.getElem_toArray, List.getElem_cons_zero, List.getElem_cons_succ, Act.put, List.setIfInBounds_toArray, List.set_cons_zero, List.set_cons_succ]
  refine wpAnyH_take (i := 7) (v := ?_) rfl (by kernel_rfl) (by kernel_rfl) (by kernel_rfl) (fun _ _ _ h => h) (Or.inl ⟨by rfl, ?z4⟩) (by assumption) ?_
  case z4 =>
   intro w hSw
   (try dsimp only at hSw)
   go_simp
   all_goals with_reducible rfl
  try simp only [List.getElem_toArray, List.getElem_cons_zero, List.getElem_cons_succ, Act.put, List.setIfInBounds_toArray, List.set_cons_zero, List.set_cons_succ]
  refine wpAnyH_take (i := 1) (v := ?_) rfl (by kernel_rfl) (by kernel_rfl) (by kernel_rfl) (fun _ _ _ h => h) (Or.inl ⟨by rfl, ?z5⟩) (by assumption) ?_
  case z5 =>
   intro w hSw
   (try dsimp only at hSw)
   go_simp
   all_goals with_reducible rfl
  try simp only [List.getElem_toArray, List.getElem_cons_zero, List.getElem_cons_succ, Act.put, List.setIfInBounds_toArray, List.set_cons_zero, List.set_cons_succ]
  refine wpAnyH_take (i := 3) (v := ?_) rfl (by kernel_rfl) (by kernel_rfl) (by kernel_rfl) (fun _ _ _ h => h) (Or.inl ⟨by rfl, ?z6⟩) (by assumption) ?_
  case z6 =>
   intro w hSw
   (try dsimp only at hSw)
   go_simp
   all_goals with_reducible rfl
  try simp only [List.getElem_toArray, List.getElem_cons_zero, List.getElem_cons_succ, Act.put, List.setIfInBounds_toArray, List.set_cons_zero, List.set_cons_succ]
  refine wpAnyH_take (i := 6) (v := ?_) rfl (by kernel_rfl) (by kernel_rfl) (by kernel_rfl) (fun _ _ _ h => h) (Or.inl ⟨by rfl, ?z7⟩) (by assumption) ?_
  case z7 =>
   intro w hSw
   (try dsimp only at hSw)
   go_simp
   all_goals with_reducible rfl
  try simp only [List.getElem_toArray, List.getElem_cons_zero, List.getElem_cons_succ, Act.put, List.setIfInBounds_toArray, List.set_cons_zero, List.set_cons_succ]
  refine wpAnyH_take (i := 8) (v := ?_) rfl (by kernel_rfl) (by kernel_rfl) (by kernel_rfl) (fun _ _ _ h => h) (Or.inl ⟨by rfl, ?z8⟩) (by assumption) ?_
  case z8 =>
   intro w hSw
   (try dsimp only at hSw)
   go_simp
   all_goals with_reducible rfl
  try simp only [List.getElem_toArray, List.getElem_cons_zero, List.getElem_cons_succ, Act.put, List.setIfInBounds_toArray, List.set_cons_zero, List.set_cons_succ]
  refine wpAnyH_ready (rs := [4]) (by kernel_rfl) (by simp) ?_
  refine AllReadyH.cons rfl (fun K hK => ?_) AllReadyH.nil
  go_simp
  with_reducible refine (C1 _).mono ?_
  rintro e w1 ⟨rfl, rfl⟩
  try go_wp2_with fail
  refine hK.out _ _ (HS.out _ HM.out.drew) (fun hHeld => ?_)
  clear hK K
  try simp only [List.getElem_toArray, List.getElem_cons_zero, List.getElem_cons_succ, Act.put, List.setIfInBounds_toArray, List.set_cons_zero, List.set_cons_succ]
  refine wpAnyH_ready (rs := [9]) (by kernel_rfl) (by simp) ?_
  refine AllReadyH.cons rfl (fun K hK => ?_) AllReadyH.nil
  go_simp
  with_reducible refine (C2 _).mono ?_
  rintro e w1 ⟨rfl, rfl⟩
  try go_wp2_with fail
  refine hK.out _ _ (HS.out _ HM.out.drew) (fun hHeld => ?_)
  clear hK K
  try simp only [List.getElem_toArray, List.getElem_cons_zero, List.getElem_cons_succ, Act.put, List.setIfInBounds_toArray, List.set_cons_zero, List.set_cons_succ]
  refine wpAnyH_ready (rs := [10]) (by kernel_rfl) (by simp) ?_
  refine AllReadyH.cons rfl (fun K hK => ?_) AllReadyH.nil
  refine step_bslW rfl 36 2 _ rfl hbs (by simp [Act.eval]) ?_
  refine hK.out _ _ (HS.out _ HM2.out) (fun hHeld => ?_)
  clear hK K
  try simp only [List.getElem_toArray, List.getElem_cons_zero, List.getElem_cons_succ, Act.put, List.setIfInBounds_toArray, List.set_cons_zero, List.set_cons_succ]
  refine wpAnyH_ready (rs := [11]) (by kernel_rfl) (by simp) ?_
  refine AllReadyH.cons rfl (fun K hK => ?_) AllReadyH.nil
  go_simp
  with_reducible refine (C3).mono ?_
  rintro e w1 ⟨rfl, rfl⟩
  try go_wp2_with fail
  refine hK.out _ _ (HS.out _ HM2.out) (fun hHeld => ?_)
  clear hK K
  try simp only [List.getElem_toArray, List.getElem_cons_zero, List.getElem_cons_succ, Act.put, List.setIfInBounds_toArray, List.set_cons_zero, List.set_cons_succ]
  refine wpAnyH_ready (rs := [12]) (by kernel_rfl) (by simp) ?_
  refine AllReadyH.cons rfl (fun K hK => ?_) AllReadyH.nil
  go_simp
  refine hK.out _ _ (HS.out _ HM2.out) (fun hHeld => ?_)
  clear hK K
  try simp only [List.getElem_toArray, List.getElem_cons_zero, List.getElem_cons_succ, Act.put, List.setIfInBounds_toArray, List.set_cons_zero, List.set_cons_succ]
  refine wpAnyH_done (by kernel_rfl) ?_ _
  go_wp2_with fail
  go_ret

  exact ⟨rfl, HE.out⟩
end Wp
end Go.Proofs.Ytfplmefcblkljaa
