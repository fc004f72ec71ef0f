/-
  Settings as text: the document's own reader of a line behind the first: a tenant's.
  Settings as text: the document's own reader of a line behind the first: static.
  Settings as text: the document's own reader of a line behind the first: quota.
  Settings as text: the program's reader: a whole text.
-/
import Derived.Test.YtneciccdiledfaaGreatDoorMx46
import Derived.Test.YtneciccdiledfaaGreatDoorMx05
import Derived.Test.YtneciccdiledfaaGreatDoorMx45
import Derived.Test.YtneciccdiledfaaGreatDoorMx27
set_option linter.unusedVariables false
set_option linter.unusedSimpArgs false
set_option maxRecDepth 20000
namespace Go.Proofs.YtneciccdiledfaaGreatDoor
open Go.RowKit
open List (getElem_toArray getElem_cons_zero getElem_cons_succ setIfInBounds_toArray set_cons_zero set_cons_succ)
open La
open Ad
set_option maxHeartbeats 16000000 in
theorem dl_tenant {w V : World} {g : Nat} {σ : Sg} {W K L : List (Nat × Obj)} {gc : Nat} {c : Cgf} (h : Lg w V g σ W (L ++ K)) (hC : CfI gc c L) (hV : Vs w) (hn : c.ten.length ≤ 900000) (hx : wt σ = wTenant) :
  Calls Tryz.prog 28 #[.pointer (some ⟨g, 0, none⟩), .pointer (some ⟨gc, 0, none⟩)] V (RL w g W K gc (ln c σ)) := by
 have C := rword_any h
 have hln : ln c σ = ({ c with ten := c.ten ++ [tnT (nxt σ)] }, tnS (nxt σ)) := ln_tenant hx
 rw [hln]
 have hx1 : (La.wd σ).1 = ⟨#[116, 101, 110, 97, 110, 116]⟩ := by rw [show (La.wd σ).1 = ⟨(La.wd σ).1.data.toList.toArray⟩ from rfl, show (La.wd σ).1.data.toList = wTenant from hx]; rfl
 rw [hx1] at C
 have HC : Hid (CfI gc c L) := hC
 clear h hx hln hx1 hC
 generalize (La.wd σ).2 = x2 at C
 generalize nxt σ = τ at *
 have hlt0 : TLen (tnT τ) := tnT_len τ
 have hpt0 : (tnT τ).pool = [] ∧ (tnT τ).stat = [] ∧ (tnT τ).twi = [] := tnT_nil τ
 obtain ⟨t, ht⟩ : ∃ t, tnT τ = t := ⟨_, rfl⟩
 rw [ht] at hlt0 hpt0
 simp only [ht]
 have HTT : Hid (tnT τ = t) := ht
 have HTL : Hid (TLen t ∧ t.pool = [] ∧ t.stat = [] ∧ t.twi = []) := ⟨hlt0, hpt0⟩
 clear ht hlt0 hpt0
 go_enter Tryz.func28, Tryz.ntmps28
 go_wp2_with fail
 refine C.mono ?_
 rintro e Va ⟨rfl, hL⟩
 obtain ⟨gw, hgw⟩ : ∃ gw, Va.heap.size = gw := ⟨_, rfl⟩
 have HL : Hid (Lg w (Va.alloc (.cells #[.string ⟨#[116, 101, 110, 97, 110, 116]⟩, .int .i64 x2] 79)) g τ W ((gw, .cells #[.string ⟨#[116, 101, 110, 97, 110, 116]⟩, .int .i64 x2] 79) :: (L ++ K))) := hL.push _ hgw.symm
 clear C hL
 go_upto_region 2 with fail
 refine wp_letter (fun X => Lg w X g τ W ((gw, .cells #[.string ⟨#[116, 101, 110, 97, 110, 116]⟩, .int .i64 x2] 79) :: (L ++ K))) (by exact HL.out) ?_
 intro Vb hR
 try simp only [hgw]
 clear hgw HL
 obtain ⟨gb, hgb⟩ : ∃ gb, Vb.heap.size = gb := ⟨_, rfl⟩
 have HL : Hid (Lg w (Vb.alloc (.cells tz 45)) g τ W ((gb, .cells tz 45) :: (L ++ K))) := hR.drop1.push _ hgb.symm
 clear hR
 go_upto_region 3 with fail
 refine wp_letter (fun X => Lg w X g τ W ((gb, .cells tz 45) :: (L ++ K))) (by exact HL.out) ?_
 intro Vc hR
 try simp only [hgb]
 clear hgb HL
 have C := rword_any hR
 have hsz := hR.small
 obtain ⟨x1, hx1⟩ : ∃ y, (La.wd τ).1 = y := ⟨_, rfl⟩
 obtain ⟨y2, hy2⟩ : ∃ y, (La.wd τ).2 = y := ⟨_, rfl⟩
 obtain ⟨υ, hυ⟩ : ∃ y, nxt τ = y := ⟨_, rfl⟩
 have ht1 : La.t1 τ = if (La.nm x1.data.toList).isSome then υ else υ.fail y2 := by rw [← hx1, ← hy2, ← hυ]; rfl
 have HE1 : Hid ((La.wd τ).1 = x1) := hx1
 rw [hx1] at hsz
 rw [hx1, hy2, hυ] at C
 clear hR hx1 hy2 hυ
 go_wp2_with fail
 refine C.mono ?_
 rintro e Vd ⟨rfl, hL⟩
 obtain ⟨g6, hg6⟩ : ∃ g6, Vd.heap.size = g6 := ⟨_, rfl⟩
 have HL : Hid (Lg w (Vd.alloc (.cells #[.string x1, .int .i64 y2] 79)) g υ W ((g6, .cells #[.string x1, .int .i64 y2] 79) :: (gb, .cells tz 45) :: (L ++ K))) := hL.push _ hg6.symm
 clear C hL
 go_upto_region 4 with fail
 refine wp_letter (fun X => Lg w X g υ W ((g6, .cells #[.string x1, .int .i64 y2] 79) :: (gb, .cells tz 45) :: (L ++ K))) (by exact HL.out) ?_
 intro Ve hR
 try simp only [hg6]
 clear hg6 HL
 have d4 : Ve.cell? ⟨g, 4, none⟩ = some (.bool υ.bad.isSome) := by
  obtain ⟨-, v, all, i, at_, -, -, -, -, -, hM⟩ := hR
  exact hM.cell 0 rfl 4
 have e0 : Ve.cell? ⟨g6, 0, none⟩ = some (.string x1) := hR.cellK (i := 0) rfl 0
 have e1 : Ve.cell? ⟨g6, 1, none⟩ = some (.int .i64 y2) := hR.cellK (i := 0) rfl 1
 have AFT : Hid (∀ Vx, Lg w Vx g (La.t1 τ) W ((g6, .cells #[.string x1, .int .i64 y2] 79) :: (gb, .cells tz 45) :: (L ++ K)) → Vx.cell? ⟨g6, 0, none⟩ = some (.string x1) ∧ Vx.cell? ⟨gb, 0, none⟩ = some (.string ⟨#[]⟩) ∧ (∀ j, Vx.frozen? ⟨gb, j, none⟩ = false) ∧ Lg w (Vx.setCell ⟨gb, 0, none⟩ (.string x1)) g (La.t1 τ) W ((gb, .cells (tc { ten0 with name := x1 } nilV nilV nilV).toArray 45) :: (L ++ K))) := by
  intro Vx hx
  refine ⟨hx.cellK (i := 0) rfl 0, hx.cellK (i := 1) rfl 0, hx.freeK (i := 1) rfl, ?_⟩
  have h2 := (hx.set (i := 1) rfl 0 (.string x1)).drop1
  exact h2
 have HRe : Hid (Lg w Ve g υ W ((g6, .cells #[.string x1, .int .i64 y2] 79) :: (gb, .cells tz 45) :: (L ++ K))) := hR
 have HVe : Hid (Vs Ve) := hV.below hR.mem.below
 have hVe := HVe.out
 have CN := rname_any hVe x1 (by omega)
 have CND : ∀ q, Calls Tryz.prog 56 #[.string x1] (Ve.drewN q) fun e w' => e = .returned (.bool (nam x1.data.toList)) ∧ Below (Ve.drewN q).heap.size (Ve.drewN q) w' := fun q => rname_any (hVe.below (below_drewN' (Below.refl _ _) q)) x1 (by omega)
 obtain ⟨BB, hBB⟩ : ∃ b, (!υ.bad.isSome && !nam x1.data.toList) = b := ⟨_, rfl⟩
 have HBB : Hid ((!υ.bad.isSome && !nam x1.data.toList) = BB) := hBB
 have HT1 : Hid (La.t1 τ = if BB = true then υ.fail y2 else υ) := by
  show La.t1 τ = _
  rw [ht1, ← hBB]
  unfold La.nm
  cases hb : υ.bad with
  | some a => cases hm : nam x1.data.toList <;> simp [fail_same hb]
  | none => cases hm : nam x1.data.toList <;> simp
 clear ht1 hBB hR hVe HVe hsz
 go_cut [28] from 11 (fun v Vx => v = .bool BB ∧ Hid (Lg w Vx g υ W ((g6, .cells #[.string x1, .int .i64 y2] 79) :: (gb, .cells tz 45) :: (L ++ K))))
 case first =>
  have hBB := HBB.out
  cases hb : υ.bad with
  | some a =>
   rw [hb] at hBB d4
   simp only [Option.isSome_some, Bool.not_true, Bool.false_and] at hBB d4
   subst hBB
   clear CN CND hb
   go_wp2_with fail
   go_meet
   case rel => exact ⟨rfl, HRe⟩
  | none =>
   rw [hb] at hBB d4
   simp only [Option.isSome_none, Bool.not_false, Bool.true_and] at hBB d4
   clear hb
   obtain ⟨nb, hnb⟩ : ∃ b, nam x1.data.toList = b := ⟨_, rfl⟩
   rw [hnb] at hBB CN
   clear hnb
   subst hBB
   go_wp2_with fail
   refine CN.mono ?_
   rintro e Vf ⟨rfl, hbf⟩
   have HRf : Hid (Lg w Vf g υ W ((g6, .cells #[.string x1, .int .i64 y2] 79) :: (gb, .cells tz 45) :: (L ++ K))) := HRe.out.after hbf
   clear CN CND hbf
   go_wp2_with fail
   go_meet
   case rel => exact ⟨rfl, HRf⟩
 case rest =>
  clear HRe e0 e1 d4 CN CND HBB
  obtain ⟨rfl, HRf⟩ := hcut
  have e1 : wc.cell? ⟨g6, 1, none⟩ = some (.int .i64 y2) := HRf.out.cellK (i := 0) rfl 1
  go_upto_if 28 with fail
  go_cut [] from 11 (fun Vx => Hid (Lg w Vx g (La.t1 τ) W ((g6, .cells #[.string x1, .int .i64 y2] 79) :: (gb, .cells tz 45) :: (L ++ K))))
  case first =>
   have ht1 := HT1.out
   cases BB with
   | false =>
    simp only [Bool.false_eq_true, if_false] at ht1
    have HT2 : Hid (La.t1 τ = υ) := ht1
    clear ht1 HT1
    go_wp2_with fail
    go_meet
    case rel => rw [HT2.out]; exact HRf
   | true =>
    simp only [if_true] at ht1
    have HT2 : Hid (La.t1 τ = υ.fail y2) := ht1
    clear ht1 HT1
    have CF := rfail_any HRf.out y2
    clear HRf
    go_wp2_with fail
    refine CF.mono ?_
    rintro e Vg ⟨rfl, hM⟩
    have HM : Hid (Lg w Vg g (υ.fail y2) W ((g6, .cells #[.string x1, .int .i64 y2] 79) :: (gb, .cells tz 45) :: (L ++ K))) := hM
    clear hM CF
    go_wp2_with fail
    go_meet
    case rel => rw [HT2.out]; exact HM
  case rest =>
   clear HRf HT1 e1
   have HRg : Hid (Lg w wc g (La.t1 τ) W ((g6, .cells #[.string x1, .int .i64 y2] 79) :: (gb, .cells tz 45) :: (L ++ K))) := hcut
   clear hcut
   obtain ⟨e0, f0, fr, hR6⟩ := AFT.out _ HRg.out
   have HN : Hid (Lg w (wc.setCell ⟨gb, 0, none⟩ (.string x1)) g (La.t1 τ) W ((gb, .cells (tc { ten0 with name := x1 } nilV nilV nilV).toArray 45) :: (L ++ K))) := hR6
   clear hR6 AFT HRg
   go_upto_region 7 with fail
   refine wp_letter (fun V => Lg w V g (La.t1 τ) W ((gb, Obj.cells (tc { ten0 with name := x1 } nilV nilV nilV).toArray 45) :: (L ++ K))) (by exact HN.out) ?_
   intro V1b hR
   clear HN e0 f0 fr
   obtain ⟨t1, ht1⟩ : ∃ t, ({ ten0 with name := x1 } : Ten) = t := ⟨_, rfl⟩
   have HL1 : Hid (TLen t1) := by rw [← ht1]; exact ⟨ten0_len.key, ten0_len.vmac, ten0_len.host⟩
   have HX1 : Hid (t1 = ⟨x1, 0, [0, 0, 0, 0, 0, 0, 0, 0], 0, [0, 0, 0, 0, 0, 0], [0, 0, 0, 0, 0, 0], [], 0, 0, 0, [], [], 0, 0, 0, 0⟩) := ht1.symm
   rw [ht1] at hR
   have HR : Hid (Lg w V1b g (La.t1 τ) W ((gb, .cells (tc t1 nilV nilV nilV).toArray 45) :: (L ++ K))) := hR
   clear hR ht1
   have C2 : Calls Tryz.prog 23 #[.pointer (some ⟨g, 0, none⟩), .string ⟨#[118, 110, 105]⟩] V1b fun e V' => e = .returned (.tuple #[]) ∧ Lg w V' g (La.t2 τ) W ((gb, .cells (tc t1 nilV nilV nilV).toArray 45) :: (L ++ K)) := rmust_any HR.out wVni
   go_wp2_with fail
   refine C2.mono ?_
   rintro e V2 ⟨rfl, hR⟩
   have HR' : Hid (Lg w V2 g (La.t2 τ) W ((gb, .cells (tc t1 nilV nilV nilV).toArray 45) :: (L ++ K))) := hR
   clear C2 hR HR
   have HR := HR'
   clear HR'
   obtain ⟨t2, HT2⟩ : ∃ t, Hid (t1 = t) := ⟨_, rfl⟩
   rw [HT2.out] at HR
   have HL2 : Hid (TLen t2) := by rw [← HT2.out]; exact HL1.out
   have HX2 : Hid (t2 = ⟨x1, 0, [0, 0, 0, 0, 0, 0, 0, 0], 0, [0, 0, 0, 0, 0, 0], [0, 0, 0, 0, 0, 0], [], 0, 0, 0, [], [], 0, 0, 0, 0⟩) := by rw [← HT2.out]; exact HX1.out
   clear HL1 HX1 HT2
   obtain ⟨x3, hx3⟩ : ∃ x, nv (val n24 (La.t2 τ)) = x := ⟨_, rfl⟩
   have HE3 : Hid (nv (val n24 (La.t2 τ)) = x3) := hx3
   have C3 : Calls Tryz.prog 27 _ V2 fun e V' => e = .returned (.int .u32 (nv (val n24 (La.t2 τ)))) ∧ Lg w V' g (La.t3 τ) W ((gb, .cells (tc t2 nilV nilV nilV).toArray 45) :: (L ++ K)) := rlnum_any HR.out 16777215 (by omega)
   rw [hx3] at C3
   clear HR hx3
   go_wp2_with fail
   refine C3.mono ?_
   rintro e V3 ⟨rfl, hR⟩
   obtain ⟨v0, cc3⟩ : ∃ v0, V3.cell? ⟨gb, 1, none⟩ = some v0 := Option.isSome_iff_exists.mp (hR.there (i := 0) rfl 1 1 (by rw [List.size_toArray, tc_len HL2.out]; omega) 0 (by omega)).1
   have fr3 : ∀ j, V3.frozen? ⟨gb, j, none⟩ = false := hR.freeK (i := 0) rfl
   have hR2 := hR.set (i := 0) rfl 1 (.int .u32 x3)
   rw [List.set_cons_zero, tc_put (t' := { t2 with vni := x3 }) (p' := nilV) (s' := nilV) (q' := nilV) HL2.out (by rintro n vn a b c d f g x y vt a1 b1 c1 d1 f1 g1 a2 b2 c2 d2 f2 g2 po lo hi fi st tw se qu ra bu rfl; rfl)] at hR2
   have HN : Hid (Lg w (V3.setCell ⟨gb, 1, none⟩ (.int .u32 x3)) g (La.t3 τ) W ((gb, .cells (tc { t2 with vni := x3 } nilV nilV nilV).toArray 45) :: (L ++ K))) := hR2
   clear C3 hR hR2
   go_upto_region 9 with fail
   refine wp_letter (fun V => Lg w V g (La.t3 τ) W ((gb, Obj.cells (tc { t2 with vni := x3 } nilV nilV nilV).toArray 45) :: (L ++ K))) (by exact HN.out) ?_
   intro V3b hR
   obtain ⟨t3, ht3⟩ : ∃ t, { t2 with vni := x3 } = t := ⟨_, rfl⟩
   have HL3 : Hid (TLen t3) := by rw [← ht3]; exact ⟨HL2.out.key, HL2.out.vmac, HL2.out.host⟩
   have HX3 : Hid (t3 = ⟨x1, x3, [0, 0, 0, 0, 0, 0, 0, 0], 0, [0, 0, 0, 0, 0, 0], [0, 0, 0, 0, 0, 0], [], 0, 0, 0, [], [], 0, 0, 0, 0⟩) := by rw [← ht3, HX2.out]; exact rfl
   rw [ht3] at hR
   have HR : Hid (Lg w V3b g (La.t3 τ) W ((gb, .cells (tc t3 nilV nilV nilV).toArray 45) :: (L ++ K))) := hR
   clear hR HN ht3 HL2 HX2 cc3 fr3
   have C4 : Calls Tryz.prog 23 #[.pointer (some ⟨g, 0, none⟩), .string ⟨#[107, 101, 121]⟩] V3b fun e V' => e = .returned (.tuple #[]) ∧ Lg w V' g (La.t4 τ) W ((gb, .cells (tc t3 nilV nilV nilV).toArray 45) :: (L ++ K)) := rmust_any HR.out wKey
   go_wp2_with fail
   refine C4.mono ?_
   rintro e V4 ⟨rfl, hR⟩
   have HR' : Hid (Lg w V4 g (La.t4 τ) W ((gb, .cells (tc t3 nilV nilV nilV).toArray 45) :: (L ++ K))) := hR
   clear C4 hR HR
   have HR := HR'
   clear HR'
   obtain ⟨t4, HT4⟩ : ∃ t, Hid (t3 = t) := ⟨_, rfl⟩
   rw [HT4.out] at HR
   have HL4 : Hid (TLen t4) := by rw [← HT4.out]; exact HL3.out
   have HX4 : Hid (t4 = ⟨x1, x3, [0, 0, 0, 0, 0, 0, 0, 0], 0, [0, 0, 0, 0, 0, 0], [0, 0, 0, 0, 0, 0], [], 0, 0, 0, [], [], 0, 0, 0, 0⟩) := by rw [← HT4.out]; exact HX3.out
   clear HL3 HX3 HT4
   have l5 : (k8 (val key (La.t4 τ))).length = 8 := k8_len _
   obtain ⟨x5, hx5⟩ : ∃ x, k8 (val key (La.t4 τ)) = x := ⟨_, rfl⟩
   have HE5 : Hid (k8 (val key (La.t4 τ)) = x5) := hx5
   have C5 : Calls Tryz.prog 26 _ V4 fun e V' => e = .returned (.agg (ab (k8 (val key (La.t4 τ))))) ∧ Lg w V' g (La.t5 τ) W ((gb, .cells (tc t4 nilV nilV nilV).toArray 45) :: (L ++ K)) := rlkey_any HR.out
   rw [hx5] at C5 l5
   obtain ⟨A5, hA5⟩ : ∃ A, ab x5 = A := ⟨_, rfl⟩
   rw [hA5] at C5
   have HA5 : Hid (ab x5 = A5) := hA5
   have hAL5 : A5.toList = x5.map (Value.int .u8) := by rw [← hA5]
   have HAL5 : Hid (A5.toList = x5.map (Value.int .u8)) := hAL5
   have sz5 : A5.size = 8 := by rw [← Array.length_toList, hAL5, List.length_map, l5]
   have on5 : A5.all (·.oneCell') = true := by rw [← hA5]; exact all_oneCell_toArray (ints_oneCell _ _)
   have ii5 : (Tryz.prog.info? 26).map (·.size) = some A5.size := by rw [sz5]; kernel_rfl
   have HLx5 : Hid (x5.length = 8) := l5
   clear hA5 hAL5 HR hx5 l5
   go_wp2_with fail
   refine C5.mono ?_
   rintro e V5 ⟨rfl, hR⟩
   have th5 := hR.there (i := 0) rfl 2 A5.size (by rw [sz5, List.size_toArray, tc_len HL4.out]; omega)
   have hR2 := Lg.setCells A5.toList 2 hR (i := 0) rfl
   rw [List.set_cons_zero, HAL5.out, tc_key t4 _ _ _ _ HL4.out HLx5.out] at hR2
   have HN : Hid (Lg w (V5.setCells gb 2 A5.toList) g (La.t5 τ) W ((gb, .cells (tc { t4 with key := x5 } nilV nilV nilV).toArray 45) :: (L ++ K))) := by rw [HAL5.out]; exact hR2
   clear C5 hR hR2
   go_upto_region 11 with (refine wpList_store_mid rfl 26 (.tmp 45) (.tmp 44) (by with_reducible rfl) gb 2 A5 (by first | rfl | simp [Act.eval]) (by first | rfl | simp [Act.eval]) th5 ii5 on5 ?_)
   refine wp_letter (fun V => Lg w V g (La.t5 τ) W ((gb, Obj.cells (tc { t4 with key := x5 } nilV nilV nilV).toArray 45) :: (L ++ K))) (by exact HN.out) ?_
   intro V5b hR
   obtain ⟨t5, ht5⟩ : ∃ t, { t4 with key := x5 } = t := ⟨_, rfl⟩
   have HL5 : Hid (TLen t5) := by rw [← ht5]; exact ⟨HLx5.out, HL4.out.vmac, HL4.out.host⟩
   have HX5 : Hid (t5 = ⟨x1, x3, x5, 0, [0, 0, 0, 0, 0, 0], [0, 0, 0, 0, 0, 0], [], 0, 0, 0, [], [], 0, 0, 0, 0⟩) := by rw [← ht5, HX4.out]; exact rfl
   rw [ht5] at hR
   have HR : Hid (Lg w V5b g (La.t5 τ) W ((gb, .cells (tc t5 nilV nilV nilV).toArray 45) :: (L ++ K))) := hR
   clear hR HN ht5 HL4 HX4 th5 HA5 sz5 on5 ii5 HAL5 HLx5
   have C6 : Calls Tryz.prog 23 #[.pointer (some ⟨g, 0, none⟩), .string ⟨#[118, 116, 101, 112]⟩] V5b fun e V' => e = .returned (.tuple #[]) ∧ Lg w V' g (La.t6 τ) W ((gb, .cells (tc t5 nilV nilV nilV).toArray 45) :: (L ++ K)) := rmust_any HR.out wVtep
   go_wp2_with fail
   refine C6.mono ?_
   rintro e V6 ⟨rfl, hR⟩
   have HR' : Hid (Lg w V6 g (La.t6 τ) W ((gb, .cells (tc t5 nilV nilV nilV).toArray 45) :: (L ++ K))) := hR
   clear C6 hR HR
   have HR := HR'
   clear HR'
   obtain ⟨t6, HT6⟩ : ∃ t, Hid (t5 = t) := ⟨_, rfl⟩
   rw [HT6.out] at HR
   have HL6 : Hid (TLen t6) := by rw [← HT6.out]; exact HL5.out
   have HX6 : Hid (t6 = ⟨x1, x3, x5, 0, [0, 0, 0, 0, 0, 0], [0, 0, 0, 0, 0, 0], [], 0, 0, 0, [], [], 0, 0, 0, 0⟩) := by rw [← HT6.out]; exact HX5.out
   clear HL5 HX5 HT6
   obtain ⟨x7, hx7⟩ : ∃ x, nv (val ip (La.t6 τ)) = x := ⟨_, rfl⟩
   have HE7 : Hid (nv (val ip (La.t6 τ)) = x7) := hx7
   have C7 : Calls Tryz.prog 24 _ V6 fun e V' => e = .returned (.int .u32 (nv (val ip (La.t6 τ)))) ∧ Lg w V' g (La.t7 τ) W ((gb, .cells (tc t6 nilV nilV nilV).toArray 45) :: (L ++ K)) := rlip_any HR.out
   rw [hx7] at C7
   clear HR hx7
   go_wp2_with fail
   refine C7.mono ?_
   rintro e V7 ⟨rfl, hR⟩
   obtain ⟨v0, cc7⟩ : ∃ v0, V7.cell? ⟨gb, 10, none⟩ = some v0 := Option.isSome_iff_exists.mp (hR.there (i := 0) rfl 10 1 (by rw [List.size_toArray, tc_len HL6.out]; omega) 0 (by omega)).1
   have fr7 : ∀ j, V7.frozen? ⟨gb, j, none⟩ = false := hR.freeK (i := 0) rfl
   have hR2 := hR.set (i := 0) rfl 10 (.int .u32 x7)
   rw [List.set_cons_zero, tc_put (t' := { t6 with vtep := x7 }) (p' := nilV) (s' := nilV) (q' := nilV) HL6.out (by rintro n vn a b c d f g x y vt a1 b1 c1 d1 f1 g1 a2 b2 c2 d2 f2 g2 po lo hi fi st tw se qu ra bu rfl; rfl)] at hR2
   have HN : Hid (Lg w (V7.setCell ⟨gb, 10, none⟩ (.int .u32 x7)) g (La.t7 τ) W ((gb, .cells (tc { t6 with vtep := x7 } nilV nilV nilV).toArray 45) :: (L ++ K))) := hR2
   clear C7 hR hR2
   go_upto_region 13 with fail
   refine wp_letter (fun V => Lg w V g (La.t7 τ) W ((gb, Obj.cells (tc { t6 with vtep := x7 } nilV nilV nilV).toArray 45) :: (L ++ K))) (by exact HN.out) ?_
   intro V7b hR
   obtain ⟨t7, ht7⟩ : ∃ t, { t6 with vtep := x7 } = t := ⟨_, rfl⟩
   have HL7 : Hid (TLen t7) := by rw [← ht7]; exact ⟨HL6.out.key, HL6.out.vmac, HL6.out.host⟩
   have HX7 : Hid (t7 = ⟨x1, x3, x5, x7, [0, 0, 0, 0, 0, 0], [0, 0, 0, 0, 0, 0], [], 0, 0, 0, [], [], 0, 0, 0, 0⟩) := by rw [← ht7, HX6.out]; exact rfl
   rw [ht7] at hR
   have HR : Hid (Lg w V7b g (La.t7 τ) W ((gb, .cells (tc t7 nilV nilV nilV).toArray 45) :: (L ++ K))) := hR
   clear hR HN ht7 HL6 HX6 cc7 fr7
   have l8 : (m6 (val mac (La.t7 τ))).length = 6 := m6_len _
   obtain ⟨x8, hx8⟩ : ∃ x, m6 (val mac (La.t7 τ)) = x := ⟨_, rfl⟩
   have HE8 : Hid (m6 (val mac (La.t7 τ)) = x8) := hx8
   have C8 : Calls Tryz.prog 25 _ V7b fun e V' => e = .returned (.agg (ab (m6 (val mac (La.t7 τ))))) ∧ Lg w V' g (La.t8 τ) W ((gb, .cells (tc t7 nilV nilV nilV).toArray 45) :: (L ++ K)) := rlmac_any HR.out
   rw [hx8] at C8 l8
   obtain ⟨A8, hA8⟩ : ∃ A, ab x8 = A := ⟨_, rfl⟩
   rw [hA8] at C8
   have HA8 : Hid (ab x8 = A8) := hA8
   have hAL8 : A8.toList = x8.map (Value.int .u8) := by rw [← hA8]
   have HAL8 : Hid (A8.toList = x8.map (Value.int .u8)) := hAL8
   have sz8 : A8.size = 6 := by rw [← Array.length_toList, hAL8, List.length_map, l8]
   have on8 : A8.all (·.oneCell') = true := by rw [← hA8]; exact all_oneCell_toArray (ints_oneCell _ _)
   have ii8 : (Tryz.prog.info? 25).map (·.size) = some A8.size := by rw [sz8]; kernel_rfl
   have HLx8 : Hid (x8.length = 6) := l8
   clear hA8 hAL8 HR hx8 l8
   go_wp2_with fail
   refine C8.mono ?_
   rintro e V8 ⟨rfl, hR⟩
   have th8 := hR.there (i := 0) rfl 11 A8.size (by rw [sz8, List.size_toArray, tc_len HL7.out]; omega)
   have hR2 := Lg.setCells A8.toList 11 hR (i := 0) rfl
   rw [List.set_cons_zero, HAL8.out, tc_vmac t7 _ _ _ _ HL7.out HLx8.out] at hR2
   have HN : Hid (Lg w (V8.setCells gb 11 A8.toList) g (La.t8 τ) W ((gb, .cells (tc { t7 with vmac := x8 } nilV nilV nilV).toArray 45) :: (L ++ K))) := by rw [HAL8.out]; exact hR2
   clear C8 hR hR2
   go_upto_region 14 with (refine wpList_store_mid rfl 25 (.tmp 53) (.tmp 52) (by with_reducible rfl) gb 11 A8 (by first | rfl | simp [Act.eval]) (by first | rfl | simp [Act.eval]) th8 ii8 on8 ?_)
   refine wp_letter (fun V => Lg w V g (La.t8 τ) W ((gb, Obj.cells (tc { t7 with vmac := x8 } nilV nilV nilV).toArray 45) :: (L ++ K))) (by exact HN.out) ?_
   intro V8b hR
   obtain ⟨t8, ht8⟩ : ∃ t, { t7 with vmac := x8 } = t := ⟨_, rfl⟩
   have HL8 : Hid (TLen t8) := by rw [← ht8]; exact ⟨HL7.out.key, HLx8.out, HL7.out.host⟩
   have HX8 : Hid (t8 = ⟨x1, x3, x5, x7, x8, [0, 0, 0, 0, 0, 0], [], 0, 0, 0, [], [], 0, 0, 0, 0⟩) := by rw [← ht8, HX7.out]; exact rfl
   rw [ht8] at hR
   have HR : Hid (Lg w V8b g (La.t8 τ) W ((gb, .cells (tc t8 nilV nilV nilV).toArray 45) :: (L ++ K))) := hR
   clear hR HN ht8 HL7 HX7 th8 HA8 sz8 on8 ii8 HAL8 HLx8
   have C9 : Calls Tryz.prog 23 #[.pointer (some ⟨g, 0, none⟩), .string ⟨#[104, 111, 115, 116]⟩] V8b fun e V' => e = .returned (.tuple #[]) ∧ Lg w V' g (La.t9 τ) W ((gb, .cells (tc t8 nilV nilV nilV).toArray 45) :: (L ++ K)) := rmust_any HR.out wHost
   go_wp2_with fail
   refine C9.mono ?_
   rintro e V9 ⟨rfl, hR⟩
   have HR' : Hid (Lg w V9 g (La.t9 τ) W ((gb, .cells (tc t8 nilV nilV nilV).toArray 45) :: (L ++ K))) := hR
   clear C9 hR HR
   have HR := HR'
   clear HR'
   obtain ⟨t9, HT9⟩ : ∃ t, Hid (t8 = t) := ⟨_, rfl⟩
   rw [HT9.out] at HR
   have HL9 : Hid (TLen t9) := by rw [← HT9.out]; exact HL8.out
   have HX9 : Hid (t9 = ⟨x1, x3, x5, x7, x8, [0, 0, 0, 0, 0, 0], [], 0, 0, 0, [], [], 0, 0, 0, 0⟩) := by rw [← HT9.out]; exact HX8.out
   clear HL8 HX8 HT9
   have l10 : (m6 (val mac (La.t9 τ))).length = 6 := m6_len _
   obtain ⟨x10, hx10⟩ : ∃ x, m6 (val mac (La.t9 τ)) = x := ⟨_, rfl⟩
   have HE10 : Hid (m6 (val mac (La.t9 τ)) = x10) := hx10
   have C10 : Calls Tryz.prog 25 _ V9 fun e V' => e = .returned (.agg (ab (m6 (val mac (La.t9 τ))))) ∧ Lg w V' g (tnS τ) W ((gb, .cells (tc t9 nilV nilV nilV).toArray 45) :: (L ++ K)) := rlmac_any HR.out
   rw [hx10] at C10 l10
   obtain ⟨A10, hA10⟩ : ∃ A, ab x10 = A := ⟨_, rfl⟩
   rw [hA10] at C10
   have HA10 : Hid (ab x10 = A10) := hA10
   have hAL10 : A10.toList = x10.map (Value.int .u8) := by rw [← hA10]
   have HAL10 : Hid (A10.toList = x10.map (Value.int .u8)) := hAL10
   have sz10 : A10.size = 6 := by rw [← Array.length_toList, hAL10, List.length_map, l10]
   have on10 : A10.all (·.oneCell') = true := by rw [← hA10]; exact all_oneCell_toArray (ints_oneCell _ _)
   have ii10 : (Tryz.prog.info? 25).map (·.size) = some A10.size := by rw [sz10]; kernel_rfl
   have HLx10 : Hid (x10.length = 6) := l10
   clear hA10 hAL10 HR hx10 l10
   go_wp2_with fail
   refine C10.mono ?_
   rintro e V10 ⟨rfl, hR⟩
   have th10 := hR.there (i := 0) rfl 17 A10.size (by rw [sz10, List.size_toArray, tc_len HL9.out]; omega)
   have hR2 := Lg.setCells A10.toList 17 hR (i := 0) rfl
   rw [List.set_cons_zero, HAL10.out, tc_host t9 _ _ _ _ HL9.out HLx10.out] at hR2
   have HN : Hid (Lg w (V10.setCells gb 17 A10.toList) g (tnS τ) W ((gb, .cells (tc { t9 with host := x10 } nilV nilV nilV).toArray 45) :: (L ++ K))) := by rw [HAL10.out]; exact hR2
   clear C10 hR hR2
   go_upto_region 16 with (refine wpList_store_mid rfl 25 (.tmp 58) (.tmp 57) (by with_reducible rfl) gb 17 A10 (by first | rfl | simp [Act.eval]) (by first | rfl | simp [Act.eval]) th10 ii10 on10 ?_)
   refine wp_letter (fun V => Lg w V g (tnS τ) W ((gb, Obj.cells (tc { t9 with host := x10 } nilV nilV nilV).toArray 45) :: (L ++ K))) (by exact HN.out) ?_
   intro V10b hR
   obtain ⟨t10, ht10⟩ : ∃ t, { t9 with host := x10 } = t := ⟨_, rfl⟩
   have HL10 : Hid (TLen t10) := by rw [← ht10]; exact ⟨HL9.out.key, HL9.out.vmac, HLx10.out⟩
   have HX10 : Hid (t10 = ⟨x1, x3, x5, x7, x8, x10, [], 0, 0, 0, [], [], 0, 0, 0, 0⟩) := by rw [← ht10, HX9.out]; exact rfl
   rw [ht10] at hR
   have HR : Hid (Lg w V10b g (tnS τ) W ((gb, .cells (tc t10 nilV nilV nilV).toArray 45) :: (L ++ K))) := hR
   clear hR HN ht10 HL9 HX9 th10 HA10 sz10 on10 ii10 HAL10 HLx10
   obtain ⟨A, hA⟩ : ∃ A, (tc t10 nilV nilV nilV).toArray = A := ⟨_, rfl⟩
   have hR := HR.out
   rw [hA] at hR
   have htt : t = t10 := by
    rw [HX10.out, ← HTT.out]
    unfold tnT
    rw [HE1.out, HE3.out, HE5.out, HE7.out, HE8.out, HE10.out]
    rfl
   have hlt : TLen t10 := HL10.out
   have hpt := HTL.out.2
   have HFT : Hid (t = t10) := htt
   rw [htt] at hpt
   clear HR HE1 HE3 HE5 HE7 HE8 HE10 HX10 HL10 htt
   obtain ⟨u, zs, B, C0, ez, hB, hz, hperm⟩ := cfi_tsb HC.out
   have hcl := HC.out.1
   have hzl : zs.length = c.ten.length := by rw [← ez, List.length_map]
   obtain ⟨pa, pm, pc, rfl⟩ := owb_slice hB
   have hR2 : Lg w V10b g (tnS τ) W ((gc, .cells (cc c (.slice pa pm pc)).toArray 29) :: (B ++ (C0 ++ ((gb, .cells A 45) :: K)))) := (hR.perm ((hperm.append_right K).cons _)).perm (by classical rw [List.perm_iff_count]; intro z; simp only [List.count_append, List.count_cons]; omega)
   have hbs := bsliceT (t10, nilV, nilV, nilV) hlt
   rw [show (zc (t10, nilV, nilV, nilV)).toArray = A from hA] at hbs
   have hsz : A.size = 33 := by rw [← hA, List.size_toArray]; exact tc_len hlt _ _ _
   have i33 : (Tryz.prog.info? 45).map (·.size) = some A.toList.length := by rw [Array.length_toList, hsz]; kernel_rfl
   have hon : ∀ v ∈ tc t10 nilV nilV nilV, v.oneCell' = true := by
    have := tc_one3 t10 (p := nilV) (s := nilV) (q := nilV) rfl rfl rfl
    rw [Array.all_eq_true_iff_forall_mem] at this
    intro v hv
    exact this v (by simpa using hv)
   have HG : Hid (∀ X σ' R1 R2, Lg w X g σ' W (R1 ++ ((gb, .cells A 45) :: R2)) → X.rangeAt gb 0 A.toList) := by
    intro X σ' R1 R2 hX
    have h2 := hX.perm (K' := (gb, .cells A 45) :: (R1 ++ R2)) (by classical rw [List.perm_iff_count]; intro z; simp only [List.count_append, List.count_cons]; omega)
    intro j v hj
    rw [h2.cellK (i := 0) rfl, Nat.zero_add, ← Array.getElem?_toList]
    exact hj
   have HG2 : Hid (∀ X σ', Lg w X g σ' W ((gc, .cells (cc c (.slice pa pm pc)).toArray 29) :: (B ++ (C0 ++ ((gb, .cells A 45) :: K)))) → X.rangeAt gb 0 A.toList ∧ X.cell? ⟨gc, 28, none⟩ = some (.slice pa pm pc)) := by
    intro X σ' hX
    refine ⟨HG.out X σ' ((gc, .cells (cc c (.slice pa pm pc)).toArray 29) :: (B ++ C0)) K (hX.perm (by classical rw [List.perm_iff_count]; intro z; simp only [List.count_append, List.count_cons]; omega)), (hX.cellK (i := 0) rfl 28).trans (cc_at28 hcl _)⟩
   have STEP : Hid (∀ V2, Lg w V2 g (tnS τ) W ((gc, .cells (cc c (.slice pa pm pc)).toArray 29) :: (B ++ (C0 ++ ((gb, .cells A 45) :: K)))) → ∃ v4 V4, (Builtin.append_ #[27, 27] 27 #[.slice pa pm pc, .slice (some ⟨V2.heap.size, 0, none⟩) 1 1]).run Tryz.prog (V2.alloc (.cells A 45)) = .ok v4 V4 ∧ (∃ a m c, v4 = .slice a m c) ∧ (∃ v0, V4.cell? ⟨gc, 28, none⟩ = some v0) ∧ (∀ j, V4.frozen? ⟨gc, j, none⟩ = false) ∧ V4.rangeAt gb 0 A.toList ∧
     ∀ a m c', v4 = .slice a m c' → (V4.setCell ⟨gc, 28, none⟩ v4).rangeAt gb 0 A.toList ∧ ∃ L', CfI gc { c with ten := c.ten ++ [t10] } L' ∧ Lg w (V4.setCell ⟨gc, 28, none⟩ v4) g (tnS τ) W (L' ++ K)) := by
    intro V2 h2
    have h3 := h2.after ((Below.refl V2.heap.size V2).alloc (Nat.le_refl _) (.cells A 45))
    obtain ⟨ob, hMo, hback⟩ := h3.frame
    obtain ⟨v4, V4, B4, hrun, hM4, hB4⟩ := mem_append (t := 27) (ty := 27) Tryz.underlying27 infoT (by kernel_rfl) (by omega) (K := (g, ob) :: (gc, .cells (cc c (.slice pa pm pc)).toArray 29) :: (C0 ++ (((gb, .cells A 45) :: K) ++ W))) (hMo.perm (by classical rw [List.perm_iff_count]; intro z; simp only [List.count_append, List.count_cons]; omega)) hB ⟨V2.heap.size, 0, none⟩ (tc t10 nilV nilV nilV) (tc_len hlt _ _ _) (fun j u hj => by
     rw [addr_mid, Nat.zero_add, World.cell?_alloc_new, ← hA]
     simpa using hj) hon (by omega) (by omega)
    have h4 : Lg w V4 g (tnS τ) W ((gc, .cells (cc c (.slice pa pm pc)).toArray 29) :: (B4 ++ (C0 ++ ((gb, .cells A 45) :: K)))) := hback _ _ (hM4.perm (by classical rw [List.perm_iff_count]; intro z; simp only [List.count_append, List.count_cons]; omega))
    refine ⟨v4, V4, hrun, owb_slice hB4, ⟨_, (h4.cellK (i := 0) rfl 28).trans (cc_at28 hcl _)⟩, h4.freeK (i := 0) rfl, HG.out V4 _ ((gc, .cells (cc c (.slice pa pm pc)).toArray 29) :: (B4 ++ C0)) K (h4.perm (by classical rw [List.perm_iff_count]; intro z; simp only [List.count_append, List.count_cons]; omega)), fun a m c' e => ?_⟩
    subst e
    have h5 := h4.set (i := 0) rfl 28 (.slice a m c')
    rw [List.set_cons_zero, cc_ten c _ (.slice a m c') hcl] at h5
    refine ⟨HG.out _ _ ((gc, .cells (cc c (.slice a m c')).toArray 29) :: (B4 ++ C0)) K (h5.perm (by classical rw [List.perm_iff_count]; intro z; simp only [List.count_append, List.count_cons]; omega)), _, tsb_cfi (gc := gc) hcl hlt hpt ez hz hB4, ?_⟩
    have h6 := h5.perm (K' := (gb, .cells A 45) :: (((gc, .cells (cc c (.slice a m c')).toArray 29) :: (B4 ++ C0)) ++ K)) (by classical rw [List.perm_iff_count]; intro z; simp only [List.count_append, List.count_cons]; omega)
    exact h6.drop1
   have hRd := hR2.after ((Below.refl _ _).drew)
   obtain ⟨s0, p0⟩ := HG2.out _ _ hRd
   have hRa := hRd.after ((Below.refl V10b.drew.heap.size V10b.drew).alloc (Nat.le_refl _) (.cells A 45))
   obtain ⟨s1, p1⟩ := HG2.out _ _ hRa
   have p2 := (HG2.out _ _ (hR2.after ((Below.refl V10b.heap.size V10b).alloc (Nat.le_refl _) (.cells A 45)))).2
   have hbs1 := hbs V10b.drew
   obtain ⟨v4, V4, hrun, ⟨qa, qm, qc, rfl⟩, ⟨v0, cv0⟩, fr4, s4, hH⟩ := STEP.out _ hRd
   obtain ⟨s5, L', hT', hN'⟩ := hH qa qm qc rfl
   have HH : Hid (CfI gc { c with ten := c.ten ++ [t10] } L' ∧ Lg w (V4.setCell ⟨gc, 28, none⟩ (.slice qa qm qc)) g (tnS τ) W (L' ++ K)) := ⟨hT', hN'⟩
   clear hR hR2 hRd hRa hperm hB HC ez hz hzl hcl hlt hpt hA hon hsz STEP HG HG2 hH hT' hN' hbs
   refine wp_region_held_drew (S := fun X => X.rangeAt gb 0 A.toList) (by kernel_rfl) s0 (fun hHeld => ?_)
   refine wpAnyH_take (i := 0) (v := ?_) rfl (by kernel_rfl) (by kernel_rfl) (by kernel_rfl) (fun _ _ _ h => h) (Or.inl ⟨by rfl, ?ray0⟩) (by assumption) ?rar0
   case ray0 => intro w hSw; (try dsimp only at hSw); go_simp; all_goals with_reducible rfl
   try simp only [getElem_toArray, getElem_cons_zero, getElem_cons_succ, Act.put, setIfInBounds_toArray, set_cons_zero, set_cons_succ]
   refine wpAnyH_take (i := 1) (v := ?_) rfl (by kernel_rfl) (by kernel_rfl) (by kernel_rfl) (fun _ _ _ h => h) (Or.inl ⟨by rfl, ?ray1⟩) (by assumption) ?rar1
   case ray1 => intro w hSw; (try dsimp only at hSw); go_simp; all_goals with_reducible rfl
   try simp only [getElem_toArray, getElem_cons_zero, getElem_cons_succ, Act.put, setIfInBounds_toArray, set_cons_zero, set_cons_succ]
   refine wpAnyH_take (i := 2) (v := ?_) rfl (by kernel_rfl) (by kernel_rfl) (by kernel_rfl) (fun _ _ _ h => h) (Or.inl ⟨by rfl, ?ray2⟩) (by assumption) ?rar2
   case ray2 => intro w hSw; (try dsimp only at hSw); go_simp; all_goals with_reducible rfl
   try simp only [getElem_toArray, getElem_cons_zero, getElem_cons_succ, Act.put, setIfInBounds_toArray, set_cons_zero, set_cons_succ]
   refine wpAnyH_take (i := 3) (v := ?_) rfl (by kernel_rfl) (by kernel_rfl) (by kernel_rfl) (fun _ _ _ h => h) (Or.inl ⟨by rfl, ?ray3⟩) (by assumption) ?rar3
   case ray3 => intro w hSw; (try dsimp only at hSw); go_simp; all_goals with_reducible rfl
   try simp only [getElem_toArray, getElem_cons_zero, getElem_cons_succ, Act.put, setIfInBounds_toArray, set_cons_zero, set_cons_succ]
   refine wpAnyH_take (i := 5) (v := _) rfl (by kernel_rfl) (by kernel_rfl) (by kernel_rfl) (fun _ _ _ h => h) (yieldsIf_load_mid (by rfl) _ _ rfl _ _ rfl _ _ ?ras5 Tryz.underlying45 rfl i33) (by assumption) ?rar5
   case ras5 =>
    intro w hSw
    (try dsimp only at hSw)
    go_split_ands
    assumption
   try simp only [getElem_toArray, getElem_cons_zero, getElem_cons_succ, Act.put, setIfInBounds_toArray, set_cons_zero, set_cons_succ]
   refine wpAnyH_ready (rs := [4, 6]) (by kernel_rfl) (by simp) ?_
   refine AllReadyH.cons rfl (fun KK hK => ?_) (AllReadyH.cons rfl (fun KK hK => ?_) AllReadyH.nil)
   ·go_simp
    refine hK.out _ _ s0 (fun hHeld => ?_)
    clear hK KK
    try simp only [getElem_toArray, getElem_cons_zero, getElem_cons_succ, Act.put, setIfInBounds_toArray, set_cons_zero, set_cons_succ]
    refine wpAnyH_ready (rs := [6]) (by kernel_rfl) (by simp) ?_
    refine AllReadyH.cons rfl (fun KK hK => ?_) AllReadyH.nil
    refine step_bsl rfl 27 1 _ rfl hbs1 (by simp [Act.eval]) ?_
    refine hK.out _ _ s1 (fun hHeld => ?_)
    clear hK KK
    try simp only [getElem_toArray, getElem_cons_zero, getElem_cons_succ, Act.put, setIfInBounds_toArray, set_cons_zero, set_cons_succ]
    refine wpAnyH_ready (rs := [7]) (by kernel_rfl) (by simp) ?_
    refine AllReadyH.cons rfl (fun KK hK => ?_) AllReadyH.nil
    refine step_append_run rfl (.tmp 63) (.tmp 65) 27 27 rfl (by simp [Act.eval]) (by simp [Act.eval]) hrun ?_
    refine hK.out _ _ s4 (fun hHeld => ?_)
    clear hK KK
    try simp only [getElem_toArray, getElem_cons_zero, getElem_cons_succ, Act.put, setIfInBounds_toArray, set_cons_zero, set_cons_succ]
    refine wpAnyH_take (i := 8) (v := ?_) rfl (by kernel_rfl) (by kernel_rfl) (by kernel_rfl) (fun _ _ _ h => h) (Or.inl ⟨by rfl, ?rby8⟩) (by assumption) ?rbr8
    case rby8 => intro w hSw; (try dsimp only at hSw); go_simp; all_goals with_reducible rfl
    try simp only [getElem_toArray, getElem_cons_zero, getElem_cons_succ, Act.put, setIfInBounds_toArray, set_cons_zero, set_cons_succ]
    refine wpAnyH_take (i := 9) (v := ?_) rfl (by kernel_rfl) (by kernel_rfl) (by kernel_rfl) (fun _ _ _ h => h) (Or.inl ⟨by rfl, ?rby9⟩) (by assumption) ?rbr9
    case rby9 => intro w hSw; (try dsimp only at hSw); go_simp; all_goals with_reducible rfl
    try simp only [getElem_toArray, getElem_cons_zero, getElem_cons_succ, Act.put, setIfInBounds_toArray, set_cons_zero, set_cons_succ]
    refine wpAnyH_ready (rs := [10]) (by kernel_rfl) (by simp) ?_
    refine AllReadyH.cons rfl (fun KK hK => ?_) AllReadyH.nil
    go_simp
    refine hK.out _ _ s5 (fun hHeld => ?_)
    clear hK KK
    try simp only [getElem_toArray, getElem_cons_zero, getElem_cons_succ, Act.put, setIfInBounds_toArray, set_cons_zero, set_cons_succ]
    refine wpAnyH_done (by kernel_rfl) ?_ _
    go_wp2_with fail
    go_end0
    refine ⟨rfl, L', ?_, ?_⟩
    ·rw [HFT.out]
     dsimp only
     exact HH.out.1
    ·dsimp only
     exact HH.out.2
   ·refine step_bsl rfl 27 1 _ rfl hbs1 (by simp [Act.eval]) ?_
    refine hK.out _ _ s1 (fun hHeld => ?_)
    clear hK KK
    try simp only [getElem_toArray, getElem_cons_zero, getElem_cons_succ, Act.put, setIfInBounds_toArray, set_cons_zero, set_cons_succ]
    refine wpAnyH_ready (rs := [4]) (by kernel_rfl) (by simp) ?_
    refine AllReadyH.cons rfl (fun KK hK => ?_) AllReadyH.nil
    go_simp
    refine hK.out _ _ s1 (fun hHeld => ?_)
    clear hK KK
    try simp only [getElem_toArray, getElem_cons_zero, getElem_cons_succ, Act.put, setIfInBounds_toArray, set_cons_zero, set_cons_succ]
    refine wpAnyH_ready (rs := [7]) (by kernel_rfl) (by simp) ?_
    refine AllReadyH.cons rfl (fun KK hK => ?_) AllReadyH.nil
    refine step_append_run rfl (.tmp 63) (.tmp 65) 27 27 rfl (by simp [Act.eval]) (by simp [Act.eval]) hrun ?_
    refine hK.out _ _ s4 (fun hHeld => ?_)
    clear hK KK
    try simp only [getElem_toArray, getElem_cons_zero, getElem_cons_succ, Act.put, setIfInBounds_toArray, set_cons_zero, set_cons_succ]
    refine wpAnyH_take (i := 8) (v := ?_) rfl (by kernel_rfl) (by kernel_rfl) (by kernel_rfl) (fun _ _ _ h => h) (Or.inl ⟨by rfl, ?rcy8⟩) (by assumption) ?rcr8
    case rcy8 => intro w hSw; (try dsimp only at hSw); go_simp; all_goals with_reducible rfl
    try simp only [getElem_toArray, getElem_cons_zero, getElem_cons_succ, Act.put, setIfInBounds_toArray, set_cons_zero, set_cons_succ]
    refine wpAnyH_take (i := 9) (v := ?_) rfl (by kernel_rfl) (by kernel_rfl) (by kernel_rfl) (fun _ _ _ h => h) (Or.inl ⟨by rfl, ?rcy9⟩) (by assumption) ?rcr9
    case rcy9 => intro w hSw; (try dsimp only at hSw); go_simp; all_goals with_reducible rfl
    try simp only [getElem_toArray, getElem_cons_zero, getElem_cons_succ, Act.put, setIfInBounds_toArray, set_cons_zero, set_cons_succ]
    refine wpAnyH_ready (rs := [10]) (by kernel_rfl) (by simp) ?_
    refine AllReadyH.cons rfl (fun KK hK => ?_) AllReadyH.nil
    go_simp
    refine hK.out _ _ s5 (fun hHeld => ?_)
    clear hK KK
    try simp only [getElem_toArray, getElem_cons_zero, getElem_cons_succ, Act.put, setIfInBounds_toArray, set_cons_zero, set_cons_succ]
    refine wpAnyH_done (by kernel_rfl) ?_ _
    go_wp2_with fail
    go_end0
    refine ⟨rfl, L', ?_, ?_⟩
    ·rw [HFT.out]
     dsimp only
     exact HH.out.1
    ·dsimp only
     exact HH.out.2
end Go.Proofs.YtneciccdiledfaaGreatDoor
namespace Go.Proofs.YtneciccdiledfaaGreatDoor
open Go.RowKit
open La
open Ad
set_option maxHeartbeats 16000000 in
theorem dl_static {w V : World} {g : Nat} {σ : Sg} {W K L : List (Nat × Obj)} {gc : Nat} {c : Cgf} (h : Lg w V g σ W (L ++ K)) (hC : CfI gc c L) (hne : c.ten ≠ []) (hlen : ∀ t ∈ c.ten, t.pool.length + σ.ws.length ≤ 900000 ∧ t.stat.length ≤ 900000 ∧ t.twi.length ≤ 900000) (hx : wt σ = wStatic) :
  Calls Tryz.prog 28 #[.pointer (some ⟨g, 0, none⟩), .pointer (some ⟨gc, 0, none⟩)] V (RL w g W K gc (ln c σ)) := by
 have hwt : wt σ ≠ wTenant := by rw [hx]; decide
 have C := rword_any h
 obtain ⟨hcl, hh⟩ := hC
 rcases hh with ⟨e, -⟩ | ⟨zs, t, gt, cap, post, C0, L1, e, hz, hT, hc1, hc2, hc3, rfl⟩
 ·exact absurd e hne
 have hp : La.part (La.wd σ) t (nxt σ) = ({ t with stat := t.stat ++ [(nv (val ip (nxt σ)), nv (val ip (vnx ip (nxt σ))))] }, two2 ip (nxt σ)) := by
  have hb : (La.wd σ).1.data.toList = wStatic := hx
  unfold La.part; rw [if_neg (by rw [hb]; decide)]; rw [if_neg (by rw [hb]; decide)]; rw [if_neg (by rw [hb]; decide)]; rw [if_pos hb]
 have hln : ln c σ = ({ c with ten := zs.map Prod.fst ++ [(La.part (La.wd σ) t (nxt σ)).1] }, (La.part (La.wd σ) t (nxt σ)).2) := ln_some hwt e
 rw [hp] at hln
 rw [hln]
 have hlen := (hlen t (by rw [e]; simp)).2
 have hx1 : (La.wd σ).1 = ⟨#[115, 116, 97, 116, 105, 99]⟩ := by rw [show (La.wd σ).1 = ⟨(La.wd σ).1.data.toList.toArray⟩ from rfl, show (La.wd σ).1.data.toList = wStatic from hx]; rfl
 rw [hx1] at C
 have hpl : (zs.map zc).flatten.length = zs.length * 33 := zcs_len hz
 obtain ⟨N, hN⟩ : ∃ N, zs.length = N := ⟨_, rfl⟩
 rw [hN] at hpl hc1 hc3
 have HT : Hid (TAt gt (zs.map zc).flatten post 45 t L1) := hT
 have HZ : Hid (zs.length = N ∧ (zs.map zc).flatten.length = N * 33 ∧ CLen c ∧ (∀ z ∈ zs, ZB z C0) ∧ N + 1 ≤ cap ∧ cap ≤ maxLen ∧ (N + 1) * 33 + post.length = cap * 33) := ⟨hN, hpl, hcl, hz, hc1, hc2, hc3⟩
 rw [hN] at h C
 have wz : IntKind.i64.wrap (((N + 1 : Nat) : Int) - 1) = (N : Int) := by rw [wrap64 (by unfold maxLen at hc2; omega) (by unfold maxLen at hc2; omega)]; omega
 have lz0 : (0 : Int) ≤ (N : Int) := by omega
 have lz2 : (N : Int) < ((N + 1 : Nat) : Int) := by omega
 have lz3 : (((N + 1 : Nat) : Int) == 0) = false := by rw [beq_eq_false_iff_ne]; omega
 clear h hx hwt hln hcl hz hT hc1 hc2 hc3 hne e hpl hp hx1
 obtain ⟨M, hM1⟩ : ∃ M, N + 1 = M := ⟨_, rfl⟩
 rw [hM1] at C wz lz2 lz3
 have HM1 : Hid (N + 1 = M) := hM1
 clear hM1
 generalize (La.wd σ).2 = x2 at C ⊢
 generalize nxt σ = τ at *
 obtain ⟨n, hn⟩ : ∃ n, N * 33 = n := ⟨_, rfl⟩
 have HN : Hid ((zs.map zc).flatten.length = n) := by rw [← hn]; exact HZ.out.2.1
 go_enter Tryz.func28, Tryz.ntmps28
 go_wp2_with fail
 refine C.mono ?_
 rintro e V1 ⟨rfl, hL⟩
 obtain ⟨gw, hgw⟩ : ∃ gw, V1.heap.size = gw := ⟨_, rfl⟩
 have HL : Hid (Lg w (V1.alloc (.cells #[.string ⟨#[115, 116, 97, 116, 105, 99]⟩, .int .i64 x2] 79)) g τ W (L1 ++ ((gw, .cells #[.string ⟨#[115, 116, 97, 116, 105, 99]⟩, .int .i64 x2] 79) :: (gc, .cells (cc c (.slice (some ⟨gt, 0, none⟩) M cap)).toArray 29) :: (C0 ++ K)))) := (hL.push _ hgw.symm).perm (by classical rw [List.perm_iff_count]; intro z; simp only [List.count_append, List.count_cons]; omega)
 clear C hL
 go_upto_region 17 with fail
 refine wp_letter (fun X => Lg w X g τ W (L1 ++ ((gw, .cells #[.string ⟨#[115, 116, 97, 116, 105, 99]⟩, .int .i64 x2] 79) :: (gc, .cells (cc c (.slice (some ⟨gt, 0, none⟩) M cap)).toArray 29) :: (C0 ++ K)))) (by exact HL.out) ?_
 intro V2 hR
 try simp only [hgw]
 clear hgw HL
 have c2 := (rl_cells HZ.out.2.2.1 hR).2.2
 have HL : Hid (Lg w V2 g τ W (L1 ++ ((gw, .cells #[.string ⟨#[115, 116, 97, 116, 105, 99]⟩, .int .i64 x2] 79) :: (gc, .cells (cc c (.slice (some ⟨gt, 0, none⟩) M cap)).toArray 29) :: (C0 ++ K)))) := hR
 clear hR
 go_upto_region 19 with fail
 go_quiet (fail)
 go_upto_region 20 with fail
 refine wp_letter (fun X => Lg w X g τ W (L1 ++ ((gw, .cells #[.string ⟨#[115, 116, 97, 116, 105, 99]⟩, .int .i64 x2] 79) :: (gc, .cells (cc c (.slice (some ⟨gt, 0, none⟩) M cap)).toArray 29) :: (C0 ++ K)))) (by first | exact HL.out.drewN _ | exact HL.out) ?_
 intro V0 hR
 try simp only [hn]
 obtain ⟨c0, c1, -⟩ := rl_cells HZ.out.2.2.1 hR
 have HR : Hid (Lg w V0 g τ W (L1 ++ ((gw, .cells #[.string ⟨#[115, 116, 97, 116, 105, 99]⟩, .int .i64 x2] 79) :: (gc, .cells (cc c (.slice (some ⟨gt, 0, none⟩) M cap)).toArray 29) :: (C0 ++ K)))) := hR
 clear hR HL c2 hn
 obtain ⟨x, hx⟩ : ∃ x, nv (val ip τ) = x := ⟨_, rfl⟩
 obtain ⟨y, hy⟩ : ∃ y, nv (val ip (vnx ip τ)) = y := ⟨_, rfl⟩
 have HE : Hid (nv (val ip τ) = x ∧ nv (val ip (vnx ip τ)) = y) := ⟨hx, hy⟩
 have C1 := rlip_any HR.out
 rw [hx] at C1
 clear HR hx
 go_wp2_with fail
 refine C1.mono ?_
 rintro e V1 ⟨rfl, hR⟩
 have C2 : Calls Tryz.prog 24 #[.pointer (some ⟨g, 0, none⟩)] V1 fun e V' => e = .returned (.int .u32 (nv (val ip (vnx ip τ)))) ∧ Lg w V' g (two2 ip τ) W (L1 ++ ((gw, .cells #[.string ⟨#[115, 116, 97, 116, 105, 99]⟩, .int .i64 x2] 79) :: (gc, .cells (cc c (.slice (some ⟨gt, 0, none⟩) M cap)).toArray 29) :: (C0 ++ K))) := rlip_any hR
 rw [hy] at C2
 clear C1 hR hy c0 c1
 go_wp2_with fail
 refine C2.mono ?_
 rintro e V2 ⟨rfl, hR⟩
 obtain ⟨c0, c1, -⟩ := rl_cells HZ.out.2.2.1 hR
 obtain ⟨A, p, B, R, hperm, hpA, hB, hlt, hnew⟩ := (tat_list HT.out w []).2.1
 rw [HN.out] at hpA hlt hnew
 have hR2 : Lg w V2 g (two2 ip τ) W ((gt, .cells A 45) :: (B ++ (R ++ ((gw, .cells #[.string ⟨#[115, 116, 97, 116, 105, 99]⟩, .int .i64 x2] 79) :: (gc, .cells (cc c (.slice (some ⟨gt, 0, none⟩) M cap)).toArray 29) :: (C0 ++ K))))) := (hR.perm (hperm.append_right _)).perm (by classical rw [List.perm_iff_count]; intro z; simp only [List.count_append, List.count_cons]; omega)
 have p0 : V2.cell? ⟨gt, n + 27, none⟩ = some p := (hR2.cellK (i := 0) rfl (n + 27)).trans hpA
 obtain ⟨pa, pm, pc, rfl⟩ := owb_slice hB
 have h3 := hR2.after ((Below.refl V2.heap.size V2).alloc (Nat.le_refl _) (.cells #[.int .u32 x, .int .u32 y] 96))
 obtain ⟨ob, hMo, hback⟩ := h3.frame
 obtain ⟨v4, V4, B4, hrun, hM4, hB4⟩ := mem_append (t := 43) (ty := 43) Tryz.underlying43 infoP rfl (by decide) (K := (g, ob) :: (gt, .cells A 45) :: (R ++ (((gw, .cells #[.string ⟨#[115, 116, 97, 116, 105, 99]⟩, .int .i64 x2] 79) :: (gc, .cells (cc c (.slice (some ⟨gt, 0, none⟩) M cap)).toArray 29) :: (C0 ++ K)) ++ W))) (hMo.perm (by classical rw [List.perm_iff_count]; intro z; simp only [List.count_append, List.count_cons]; omega)) hB ⟨V2.heap.size, 0, none⟩ [.int .u32 x, .int .u32 y] rfl (fun j u hj => by
    rw [addr_mid, Nat.zero_add, World.cell?_alloc_new]
    simpa using hj) (by simp; exact ⟨rfl, rfl⟩) (by omega) (by omega)
 have h4 : Lg w V4 g (two2 ip τ) W ((gt, .cells A 45) :: (B4 ++ (R ++ ((gw, .cells #[.string ⟨#[115, 116, 97, 116, 105, 99]⟩, .int .i64 x2] 79) :: (gc, .cells (cc c (.slice (some ⟨gt, 0, none⟩) M cap)).toArray 29) :: (C0 ++ K))))) := hback _ _ (hM4.perm (by classical rw [List.perm_iff_count]; intro z; simp only [List.count_append, List.count_cons]; omega))
 obtain ⟨qa, qm, qc, rfl⟩ := owb_slice hB4
 obtain ⟨v0, cv0⟩ : ∃ v0, V4.cell? ⟨gt, n + 27, none⟩ = some v0 := ⟨_, (h4.cellK (i := 0) rfl (n + 27)).trans hpA⟩
 have fr4 : ∀ j, V4.frozen? ⟨gt, j, none⟩ = false := h4.freeK (i := 0) rfl
 obtain ⟨L', hL', hT'⟩ := hnew x y qa qm qc B4 hB4
 have HH : Hid (TAt gt (zs.map zc).flatten post 45 { t with stat := t.stat ++ [(x, y)] } L' ∧ Lg w (V4.setCell ⟨gt, n + 27, none⟩ (.slice qa qm qc)) g (two2 ip τ) W (L' ++ ((gw, .cells #[.string ⟨#[115, 116, 97, 116, 105, 99]⟩, .int .i64 x2] 79) :: (gc, .cells (cc c (.slice (some ⟨gt, 0, none⟩) M cap)).toArray 29) :: (C0 ++ K)))) := by
  refine ⟨hT', (h4.set (i := 0) rfl (n + 27) (.slice qa qm qc)).perm ?_⟩
  rw [List.set_cons_zero]
  refine List.Perm.trans ?_ (hL'.symm.append_right _)
  exact (by classical rw [List.perm_iff_count]; intro z; simp only [List.count_append, List.count_cons]; omega)
 clear hR hR2 hperm hpA hB hlt hnew h3 hMo hback hM4 hB4 h4 hT' hL' C2 HT hlen
 go_wp2_with (at_builtin; refine wpList_append_run (.tmp 179) (.tmp 183) 43 43 (by with_reducible rfl) hrun rfl rfl (by simp [Act.eval]) (by simp [Act.eval]) ?_)
 go_end0
 exact ⟨rfl, rl_of HZ.out HM1.out (by rw [HE.out.1, HE.out.2]; exact HH.out.1) HH.out.2⟩
end Go.Proofs.YtneciccdiledfaaGreatDoor
namespace Go.Proofs.YtneciccdiledfaaGreatDoor
open Go.RowKit
open La
open Ad
set_option maxHeartbeats 16000000 in
theorem dl_quota {w V : World} {g : Nat} {σ : Sg} {W K L : List (Nat × Obj)} {gc : Nat} {c : Cgf} (h : Lg w V g σ W (L ++ K)) (hC : CfI gc c L) (hne : c.ten ≠ []) (hx : wt σ = wQuota) :
  Calls Tryz.prog 28 #[.pointer (some ⟨g, 0, none⟩), .pointer (some ⟨gc, 0, none⟩)] V (RL w g W K gc (ln c σ)) := by
 have hwt : wt σ ≠ wTenant := by rw [hx]; decide
 have C := rword_any h
 obtain ⟨hcl, hh⟩ := hC
 rcases hh with ⟨e, -⟩ | ⟨zs, t, gt, cap, post, C0, L1, e, hz, hT, hc1, hc2, hc3, rfl⟩
 ·exact absurd e hne
 have hp : La.part (La.wd σ) t (nxt σ) = ({ t with sess := nv (val n16 (nxt σ)), queue := nv (val n16 (vnx n16 (nxt σ))) }, two2 n16 (nxt σ)) := by
  have hb : (La.wd σ).1.data.toList = wQuota := hx
  unfold La.part; rw [if_neg (by rw [hb]; decide)]; rw [if_neg (by rw [hb]; decide)]; rw [if_neg (by rw [hb]; decide)]; rw [if_neg (by rw [hb]; decide)]; rw [if_neg (by rw [hb]; decide)]; rw [if_pos hb]
 have hln : ln c σ = ({ c with ten := zs.map Prod.fst ++ [(La.part (La.wd σ) t (nxt σ)).1] }, (La.part (La.wd σ) t (nxt σ)).2) := ln_some hwt e
 rw [hp] at hln
 rw [hln]
 have hx1 : (La.wd σ).1 = ⟨#[113, 117, 111, 116, 97]⟩ := by rw [show (La.wd σ).1 = ⟨(La.wd σ).1.data.toList.toArray⟩ from rfl, show (La.wd σ).1.data.toList = wQuota from hx]; rfl
 rw [hx1] at C
 have hpl : (zs.map zc).flatten.length = zs.length * 33 := zcs_len hz
 obtain ⟨N, hN⟩ : ∃ N, zs.length = N := ⟨_, rfl⟩
 rw [hN] at hpl hc1 hc3
 have HT : Hid (TAt gt (zs.map zc).flatten post 45 t L1) := hT
 have HZ : Hid (zs.length = N ∧ (zs.map zc).flatten.length = N * 33 ∧ CLen c ∧ (∀ z ∈ zs, ZB z C0) ∧ N + 1 ≤ cap ∧ cap ≤ maxLen ∧ (N + 1) * 33 + post.length = cap * 33) := ⟨hN, hpl, hcl, hz, hc1, hc2, hc3⟩
 rw [hN] at h C
 have wz : IntKind.i64.wrap (((N + 1 : Nat) : Int) - 1) = (N : Int) := by rw [wrap64 (by unfold maxLen at hc2; omega) (by unfold maxLen at hc2; omega)]; omega
 have lz0 : (0 : Int) ≤ (N : Int) := by omega
 have lz2 : (N : Int) < ((N + 1 : Nat) : Int) := by omega
 have lz3 : (((N + 1 : Nat) : Int) == 0) = false := by rw [beq_eq_false_iff_ne]; omega
 clear h hx hwt hln hcl hz hT hc1 hc2 hc3 hne e hpl hp hx1
 obtain ⟨M, hM1⟩ : ∃ M, N + 1 = M := ⟨_, rfl⟩
 rw [hM1] at C wz lz2 lz3
 have HM1 : Hid (N + 1 = M) := hM1
 clear hM1
 generalize (La.wd σ).2 = x2 at C ⊢
 generalize nxt σ = τ at *
 obtain ⟨n, hn⟩ : ∃ n, N * 33 = n := ⟨_, rfl⟩
 have HN : Hid ((zs.map zc).flatten.length = n) := by rw [← hn]; exact HZ.out.2.1
 go_enter Tryz.func28, Tryz.ntmps28
 go_wp2_with fail
 refine C.mono ?_
 rintro e V1 ⟨rfl, hL⟩
 obtain ⟨gw, hgw⟩ : ∃ gw, V1.heap.size = gw := ⟨_, rfl⟩
 have HL : Hid (Lg w (V1.alloc (.cells #[.string ⟨#[113, 117, 111, 116, 97]⟩, .int .i64 x2] 79)) g τ W (L1 ++ ((gw, .cells #[.string ⟨#[113, 117, 111, 116, 97]⟩, .int .i64 x2] 79) :: (gc, .cells (cc c (.slice (some ⟨gt, 0, none⟩) M cap)).toArray 29) :: (C0 ++ K)))) := (hL.push _ hgw.symm).perm (by classical rw [List.perm_iff_count]; intro z; simp only [List.count_append, List.count_cons]; omega)
 clear C hL
 go_upto_region 17 with fail
 refine wp_letter (fun X => Lg w X g τ W (L1 ++ ((gw, .cells #[.string ⟨#[113, 117, 111, 116, 97]⟩, .int .i64 x2] 79) :: (gc, .cells (cc c (.slice (some ⟨gt, 0, none⟩) M cap)).toArray 29) :: (C0 ++ K)))) (by exact HL.out) ?_
 intro V2 hR
 try simp only [hgw]
 clear hgw HL
 have c2 := (rl_cells HZ.out.2.2.1 hR).2.2
 have HL : Hid (Lg w V2 g τ W (L1 ++ ((gw, .cells #[.string ⟨#[113, 117, 111, 116, 97]⟩, .int .i64 x2] 79) :: (gc, .cells (cc c (.slice (some ⟨gt, 0, none⟩) M cap)).toArray 29) :: (C0 ++ K)))) := hR
 clear hR
 go_upto_region 19 with fail
 go_quiet (fail)
 go_upto_region 20 with fail
 refine wp_letter (fun X => Lg w X g τ W (L1 ++ ((gw, .cells #[.string ⟨#[113, 117, 111, 116, 97]⟩, .int .i64 x2] 79) :: (gc, .cells (cc c (.slice (some ⟨gt, 0, none⟩) M cap)).toArray 29) :: (C0 ++ K)))) (by first | exact HL.out.drewN _ | exact HL.out) ?_
 intro V0 hR
 try simp only [hn]
 obtain ⟨c0, c1, -⟩ := rl_cells HZ.out.2.2.1 hR
 have HR : Hid (Lg w V0 g τ W (L1 ++ ((gw, .cells #[.string ⟨#[113, 117, 111, 116, 97]⟩, .int .i64 x2] 79) :: (gc, .cells (cc c (.slice (some ⟨gt, 0, none⟩) M cap)).toArray 29) :: (C0 ++ K)))) := hR
 clear hR HL c2 hn
 have bd1 := nv_le τ 65535
 obtain ⟨y1, hx1⟩ : ∃ y, nv (val n16 τ) = y := ⟨_, rfl⟩
 have HE1 : Hid (nv (val n16 τ) = y1) := hx1
 rw [show nv (val (fun s => num s 65535) τ) = y1 from hx1] at bd1
 obtain ⟨bl1, bh1⟩ := bd1
 have cw1 : IntKind.i64.wrap y1 = y1 := wrap64 (by omega) (by omega)
 have C : Calls Tryz.prog 27 #[.pointer (some ⟨g, 0, none⟩), .int .u32 65535] V0 fun e V' => e = .returned (.int .u32 (nv (val n16 τ))) ∧ Lg w V' g (vnx n16 τ) W (L1 ++ ((gw, .cells #[.string ⟨#[113, 117, 111, 116, 97]⟩, .int .i64 x2] 79) :: (gc, .cells (cc c (.slice (some ⟨gt, 0, none⟩) M cap)).toArray 29) :: (C0 ++ K))) := rlnum_any HR.out 65535 (by omega)
 rw [hx1] at C
 clear HR hx1
 go_wp2_with fail
 refine C.mono ?_
 rintro e V1 ⟨rfl, hR⟩
 obtain ⟨A1, R1, rfl, hlt1, hT1⟩ := tat_sess HT.out y1
 rw [HN.out] at hlt1 hT1
 obtain ⟨v0, cc1⟩ : ∃ v0, V1.cell? ⟨gt, n + 29, none⟩ = some v0 := ⟨_, (hR.cellK (i := 0) rfl (n + 29)).trans (Array.getElem?_eq_getElem hlt1)⟩
 have fr1 : ∀ j, V1.frozen? ⟨gt, j, none⟩ = false := hR.freeK (i := 0) rfl
 have hR2 := hR.set (i := 0) rfl (n + 29) (.int .i64 y1)
 obtain ⟨Lq, hL1⟩ : ∃ L', (gt, Obj.cells (A1.setIfInBounds (n + 29) (.int .i64 y1)) 45) :: R1 = L' := ⟨_, rfl⟩
 rw [hL1] at hT1
 have HNx : Hid (Lg w (V1.setCell ⟨gt, n + 29, none⟩ (.int .i64 y1)) g (vnx n16 τ) W (Lq ++ ((gw, .cells #[.string ⟨#[113, 117, 111, 116, 97]⟩, .int .i64 x2] 79) :: (gc, .cells (cc c (.slice (some ⟨gt, 0, none⟩) M cap)).toArray 29) :: (C0 ++ K)))) := by rw [← hL1]; exact hR2
 have HT' : Hid (TAt gt (zs.map zc).flatten post 45 { t with sess := y1 } Lq) := hT1
 clear HT hT1 hL1 hR2 hR C hlt1
 have HT := HT'
 clear HT'
 go_upto_region 47 with fail
 refine wp_letter (fun X => Lg w X g (vnx n16 τ) W (Lq ++ ((gw, .cells #[.string ⟨#[113, 117, 111, 116, 97]⟩, .int .i64 x2] 79) :: (gc, .cells (cc c (.slice (some ⟨gt, 0, none⟩) M cap)).toArray 29) :: (C0 ++ K)))) (by exact HNx.out) ?_
 intro V1b hR
 have HR : Hid (Lg w V1b g (vnx n16 τ) W (Lq ++ ((gw, .cells #[.string ⟨#[113, 117, 111, 116, 97]⟩, .int .i64 x2] 79) :: (gc, .cells (cc c (.slice (some ⟨gt, 0, none⟩) M cap)).toArray 29) :: (C0 ++ K)))) := hR
 clear hR HNx cc1 fr1 c0 c1
 have bd2 := nv_le (vnx n16 τ) 65535
 obtain ⟨y2, hx2⟩ : ∃ y, nv (val n16 (vnx n16 τ)) = y := ⟨_, rfl⟩
 have HE2 : Hid (nv (val n16 (vnx n16 τ)) = y2) := hx2
 rw [show nv (val (fun s => num s 65535) (vnx n16 τ)) = y2 from hx2] at bd2
 obtain ⟨bl2, bh2⟩ := bd2
 have cw2 : IntKind.i64.wrap y2 = y2 := wrap64 (by omega) (by omega)
 have C : Calls Tryz.prog 27 #[.pointer (some ⟨g, 0, none⟩), .int .u32 65535] V1b fun e V' => e = .returned (.int .u32 (nv (val n16 (vnx n16 τ)))) ∧ Lg w V' g (two2 n16 τ) W (Lq ++ ((gw, .cells #[.string ⟨#[113, 117, 111, 116, 97]⟩, .int .i64 x2] 79) :: (gc, .cells (cc c (.slice (some ⟨gt, 0, none⟩) M cap)).toArray 29) :: (C0 ++ K))) := rlnum_any HR.out 65535 (by omega)
 rw [hx2] at C
 clear HR hx2
 go_wp2_with fail
 refine C.mono ?_
 rintro e V2 ⟨rfl, hR⟩
 obtain ⟨A2, R2, rfl, hlt2, hT2⟩ := tat_queue HT.out y2
 rw [HN.out] at hlt2 hT2
 obtain ⟨v0, cc2⟩ : ∃ v0, V2.cell? ⟨gt, n + 30, none⟩ = some v0 := ⟨_, (hR.cellK (i := 0) rfl (n + 30)).trans (Array.getElem?_eq_getElem hlt2)⟩
 have fr2 : ∀ j, V2.frozen? ⟨gt, j, none⟩ = false := hR.freeK (i := 0) rfl
 have hR2 := hR.set (i := 0) rfl (n + 30) (.int .i64 y2)
 obtain ⟨L2, hL2⟩ : ∃ L', (gt, Obj.cells (A2.setIfInBounds (n + 30) (.int .i64 y2)) 45) :: R2 = L' := ⟨_, rfl⟩
 rw [hL2] at hT2
 have HNx : Hid (Lg w (V2.setCell ⟨gt, n + 30, none⟩ (.int .i64 y2)) g (two2 n16 τ) W (L2 ++ ((gw, .cells #[.string ⟨#[113, 117, 111, 116, 97]⟩, .int .i64 x2] 79) :: (gc, .cells (cc c (.slice (some ⟨gt, 0, none⟩) M cap)).toArray 29) :: (C0 ++ K)))) := by rw [← hL2]; exact hR2
 have HT' : Hid (TAt gt (zs.map zc).flatten post 45 { { t with sess := y1 } with queue := y2 } L2) := hT2
 clear HT hT2 hL2 hR2 hR C hlt2
 have HT := HT'
 clear HT'
 go_wp2_with fail
 go_end0
 exact ⟨rfl, rl_of HZ.out HM1.out (by rw [HE1.out, HE2.out]; exact HT.out) HNx.out⟩
end Go.Proofs.YtneciccdiledfaaGreatDoor
namespace Go.Proofs.YtneciccdiledfaaGreatDoor
open Go.RowKit
open La
open Ad
theorem into_any {w V : World} {g : Nat} {lp : List Value} {lt : TypeId} {σ : Sg} {W K L : List (Nat × Obj)} {gc : Nat} {c : Cgf} (hV : Vs w) (hF : FW w) (h : LnS w V g lp lt σ W (L ++ K)) (hC : CfI gc c L) (hn : c.ten.length ≤ 900000) (hl : ∀ t ∈ c.ten, t.pool.length + σ.ws.length ≤ 900000 ∧ t.stat.length ≤ 900000 ∧ t.twi.length ≤ 900000) (hne : σ.ws ≠ []) :
  Calls Tryz.prog 46 #[.pointer (some ⟨g, 0, none⟩), .pointer (some ⟨gc, 0, none⟩)] V (VP w (done (ln c σ).2) fun e V' => e = .returned (.tuple #[]) ∧ ∃ L', CfI gc (ln c σ).1 L' ∧ LnS w V' g lp lt (done (ln c σ).2) W (L' ++ K)) := by
 cases hws : σ.ws with
 | nil => exact absurd hws hne
 | cons x r =>
  by_cases hx : x.1.data.toList = wTenant
  ·exact into_tenant hV hF h hC hn hws hx
  ·by_cases ht : c.ten = []
   ·exact into_none hV hF h hC ht hws hx
   ·exact into_part hV hF h hC hl ht hws hx
def CMm (w V : World) (v : Value) (c : Cgf) : Prop := CLen c ∧ ∃ (u : Value) (zs : List Tv) (B C : List (Nat × Obj)), v = .agg (cc c u).toArray ∧ zs.map Prod.fst = c.ten ∧ OwB 45 33 u zs.length (zs.map zc).flatten B ∧ (∀ z ∈ zs, ZB z C) ∧ Mem w V (B ++ C)
def RdP (w : World) (r : Except Nat Cgf) (e : Ending) (V : World) : Prop := match r with
 | .error a => Pan w a e V
 | .ok c => Below w.heap.size w V ∧ ∃ v, e = .returned v ∧ CVs w.heap.size V v c ∧ CMm w V v c
theorem rdp_err {w V : World} {a : Nat} {e : Ending} (h : Pan w a e V) : RdP w (.error a) e V := h
theorem gwC_len (σ : Sg) : CLen (gwC σ) := by
 have h1 := m6_len (g2 σ)
 have h2 := m6_len (g3 σ)
 have h3 := m6_len (g4 σ)
 have h4 := k8_len (g5 σ)
 unfold gwC
 generalize m6 (val mac (g2 σ)) = a at *
 generalize m6 (val mac (g3 σ)) = b at *
 generalize m6 (val mac (g4 σ)) = c at *
 generalize k8 (val key (g5 σ)) = d at *
 exact ⟨h1, h2, h3, h4⟩
theorem gwC_ten (σ : Sg) : (gwC σ).ten = [] := by
 unfold gwC
 generalize m6 (val mac (g2 σ)) = a
 generalize m6 (val mac (g3 σ)) = b
 generalize m6 (val mac (g4 σ)) = c
 generalize k8 (val key (g5 σ)) = d
 rfl
theorem lcs_at (zs : List Lz) (Y : List Value) : ∀ (i : Nat) (z : Lz), zs[i]? = some z → ((zs.map lcs).flatten ++ Y)[2 * i]? = some z.1 ∧ ((zs.map lcs).flatten ++ Y)[2 * i + 1]? = some (.int .i64 z.2.2) := by
 induction zs with
 | nil => intro i z h; simp at h
 | cons y l ih =>
  intro i z h
  cases i with
  | zero => simp at h; subst h; simp [lcs]
  | succ i =>
   have := ih i z (by simpa using h)
   rw [List.map_cons, List.flatten_cons]
   simp only [lcs, List.cons_append, List.nil_append]
   rw [show 2 * (i + 1) = 2 * i + 1 + 1 by omega]
   simpa using this
set_option maxHeartbeats 4000000 in
theorem read_long {w : World} (s : ByteArray) (hs : 32768 < s.size) : Calls Tryz.prog 20 #[.string s] w (RdP w (parse s)) := by
 have hp : parse s = .error 32768 := by unfold parse; rw [if_pos hs]
 rw [hp]
 have hz : (32768 : Int) < s.size := by omega
 have CF := fail_any ((Mem.nil w).after ((Below.refl _ _).alloc (Nat.le_refl _) (.cells cz 29))) 32768
 clear hp
 go_enter Tryz.func20, Tryz.ntmps20
 go_wp2_with fail
 refine CF.mono ?_
 rintro e V3 ⟨g', rfl, hM⟩
 exact ⟨rfl, rdp_err ⟨g', rfl, hM⟩⟩
end Go.Proofs.YtneciccdiledfaaGreatDoor
