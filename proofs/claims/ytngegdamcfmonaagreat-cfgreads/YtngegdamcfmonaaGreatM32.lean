/-
  Settings as bytes: the document's own reader: tenant, its walk.
-/
import Derived.Test.YtngegdamcfmonaaGreatM31
import Derived.Test.YtngegdamcfmonaaGreatM23
namespace Go.Proofs.YtngegdamcfmonaaGreat
open Go.RowKit
open Sm
open Cf
set_option linter.unusedVariables false
set_option linter.unusedSimpArgs false
set_option maxRecDepth 20000

set_option maxHeartbeats 16000000 in
theorem rten_any {w V : World} {gr : Nat} {a : Option Addr} {l : List Int} {c : Nat} {σ : Option (List Int)} {K : List (Nat × Obj)} (h : Rd w V gr a l c σ K) (hS : Sl w a l c) (hl : l.length ≤ 1000000) :
    Calls Tryz.prog 42 #[.pointer (some ⟨gr, 0, none⟩)] V fun e V' => ∃ v, e = .returned v ∧ ∃ B, Rd w V' gr a l c (rt σ).2 (B ++ K) ∧ TBk v (rt σ).1 B := by
  obtain ⟨g, hg⟩ : ∃ g, V.heap.size = g := ⟨_, rfl⟩
  have h2 := (h.add (.cells tz 33 (0, 0)) hg.symm).add (.cells tz 33 (0, 0)) (g := g + 1) (by simp; omega)
  have HS : Hid (Sl w a l c ∧ l.length ≤ 1000000) := ⟨hS, hl⟩
  have HR0 : Hid (Rd w ((V.alloc (.cells tz 33 (0, 0))).alloc (.cells tz 33 (0, 0))) gr a l c σ ((g + 1, .cells (tc ten0 nilV nilV nilV).toArray 33 (0, 0)) :: (g, .cells tz 33 (0, 0)) :: K)) := h2
  clear h h2 hS hl
  go_enter Tryz.func42, Tryz.ntmps42
  go_upto_region 2 with fail
  refine wp_letter (fun V => Rd w V gr a l c σ ((g + 1, .cells (tc ten0 nilV nilV nilV).toArray 33 (0, 0)) :: (g, .cells tz 33 (0, 0)) :: K)) HR0.out ?_
  intro V0 hR
  have HR : Hid (Rd w V0 gr a l c σ ((g + 1, .cells (tc ten0 nilV nilV nilV).toArray 33 (0, 0)) :: (g, .cells tz 33 (0, 0)) :: K)) := hR
  try simp only [hg]
  clear HR0 hR hg
  obtain ⟨t0, ht0⟩ : ∃ t, ten0 = t := ⟨_, rfl⟩
  have HL0 : Hid (TLen t0) := by rw [← ht0]; exact ten0_len
  have HT0 : Hid (ten0 = t0) := ht0
  rw [ht0] at HR
  clear ht0
  obtain ⟨σ0, hσ0⟩ : ∃ s, σ = s := ⟨_, rfl⟩
  have HE0 : Hid (σ = σ0) := hσ0
  rw [hσ0] at HR
  clear hσ0
  have C1 := rname2_any HR.out HS.out.1 HS.out.2
  obtain ⟨x1, hx1⟩ : ∃ x, rnm σ0 = x := ⟨_, rfl⟩
  obtain ⟨σ1, hσ1⟩ : ∃ x, rnx σ0 = x := ⟨_, rfl⟩
  rw [hx1, hσ1] at C1
  have HE1 : Hid (rnm σ0 = x1 ∧ rnx σ0 = σ1) := ⟨hx1, hσ1⟩
  clear hx1 hσ1
  go_wp2_with fail
  refine C1.mono ?_
  rintro e V1 ⟨rfl, hR⟩
  have cc1 : ∃ v0, V1.cell? ⟨g + 1, 0, none⟩ = some v0 := by
    have h := (tc_there hR 0 1 (by rw [List.size_toArray, tc_len HL0.out]; omega) 0 (by omega)).1
    exact Option.isSome_iff_exists.mp h
  obtain ⟨v0, cc1⟩ := cc1
  have fr1 : ∀ j, V1.frozen? ⟨g + 1, j, none⟩ = false := by obtain ⟨i, -, hm, -⟩ := hR; exact hm.free 1 rfl
  have hR2 := hR.set 0 rfl 0 (.string x1)
  rw [tc_put (t' := { t0 with name := x1 }) HL0.out (by rintro n vn a b c d f g x y vt a1 b1 c1 d1 f1 g1 a2 b2 c2 d2 f2 g2 po lo hi fi st tw se qu ra bu rfl; rfl)] at hR2
  have HN : Hid (Rd w (V1.setCell ⟨g + 1, 0, none⟩ (.string x1)) gr a l c σ1 ((g + 1, .cells (tc { t0 with name := x1 } nilV nilV nilV).toArray 33 (0, 0)) :: (g, .cells tz 33 (0, 0)) :: K)) := hR2
  clear C1 HR hR hR2
  go_upto_region 3 with fail
  refine wp_letter (fun V => Rd w V gr a l c σ1 ((g + 1, .cells (tc { t0 with name := x1 } nilV nilV nilV).toArray 33 (0, 0)) :: (g, .cells tz 33 (0, 0)) :: K)) HN.out ?_
  intro V1b hR
  obtain ⟨t1, ht1⟩ : ∃ t, { t0 with name := x1 } = t := ⟨_, rfl⟩
  have HL1 : Hid (TLen t1) := by rw [← ht1]; exact ⟨HL0.out.key, HL0.out.vmac, HL0.out.host⟩
  have HT1 : Hid ({ t0 with name := x1 } = t1) := ht1
  rw [ht1] at hR
  have HR : Hid (Rd w V1b gr a l c σ1 ((g + 1, .cells (tc t1 nilV nilV nilV).toArray 33 (0, 0)) :: (g, .cells tz 33 (0, 0)) :: K)) := hR
  clear hR HN ht1 HL0 cc1 fr1
  have C2 := rn_any HR.out HS.out.1 4 (by omega) HS.out.2
  have b2 := tkn 4 (HR.out.bytes HS.out.1)
  obtain ⟨x2, hx2⟩ : ∃ x, num (tk 4 σ1) = x := ⟨_, rfl⟩
  obtain ⟨σ2, hσ2⟩ : ∃ x, nx 4 σ1 = x := ⟨_, rfl⟩
  rw [hx2, hσ2] at C2
  rw [hx2] at b2
  rw [show (256 : Int) ^ 4 = 4294967296 by decide] at b2
  have w2 : IntKind.u32.wrap x2 = x2 := wraps_u32 _ b2.1 (by omega)
  have m2 : x2 % 4294967296 = x2 := by omega
  simp only [Int.cast_ofNat_Int] at C2
  have HE2 : Hid (num (tk 4 σ1) = x2 ∧ nx 4 σ1 = σ2) := ⟨hx2, hσ2⟩
  clear hx2 hσ2
  go_wp2_with fail
  refine C2.mono ?_
  rintro e V2 ⟨rfl, hR⟩
  have cc2 : ∃ v0, V2.cell? ⟨g + 1, 1, none⟩ = some v0 := by
    have h := (tc_there hR 1 1 (by rw [List.size_toArray, tc_len HL1.out]; omega) 0 (by omega)).1
    exact Option.isSome_iff_exists.mp h
  obtain ⟨v0, cc2⟩ := cc2
  have fr2 : ∀ j, V2.frozen? ⟨g + 1, j, none⟩ = false := by obtain ⟨i, -, hm, -⟩ := hR; exact hm.free 1 rfl
  have hR2 := hR.set 0 rfl 1 (.int .u32 x2)
  rw [tc_put (t' := { t1 with vni := x2 }) HL1.out (by rintro n vn a b c d f g x y vt a1 b1 c1 d1 f1 g1 a2 b2 c2 d2 f2 g2 po lo hi fi st tw se qu ra bu rfl; rfl)] at hR2
  have HN : Hid (Rd w (V2.setCell ⟨g + 1, 1, none⟩ (.int .u32 x2)) gr a l c σ2 ((g + 1, .cells (tc { t1 with vni := x2 } nilV nilV nilV).toArray 33 (0, 0)) :: (g, .cells tz 33 (0, 0)) :: K)) := hR2
  clear C2 HR hR hR2
  go_upto_region 4 with fail
  refine wp_letter (fun V => Rd w V gr a l c σ2 ((g + 1, .cells (tc { t1 with vni := x2 } nilV nilV nilV).toArray 33 (0, 0)) :: (g, .cells tz 33 (0, 0)) :: K)) HN.out ?_
  intro V2b hR
  obtain ⟨t2, ht2⟩ : ∃ t, { t1 with vni := x2 } = t := ⟨_, rfl⟩
  have HL2 : Hid (TLen t2) := by rw [← ht2]; exact ⟨HL1.out.key, HL1.out.vmac, HL1.out.host⟩
  have HT2 : Hid ({ t1 with vni := x2 } = t2) := ht2
  rw [ht2] at hR
  have HR : Hid (Rd w V2b gr a l c σ2 ((g + 1, .cells (tc t2 nilV nilV nilV).toArray 33 (0, 0)) :: (g, .cells tz 33 (0, 0)) :: K)) := hR
  clear hR HN ht2 HL1 cc2 fr2
  have C3 := rkey_any HR.out HS.out.1 HS.out.2
  have l3 := tk_len 8 σ2
  obtain ⟨x3, hx3⟩ : ∃ x, tk 8 σ2 = x := ⟨_, rfl⟩
  obtain ⟨σ3, hσ3⟩ : ∃ x, nx 8 σ2 = x := ⟨_, rfl⟩
  rw [hx3, hσ3] at C3
  rw [hx3] at l3
  have HE3 : Hid (tk 8 σ2 = x3 ∧ nx 8 σ2 = σ3) := ⟨hx3, hσ3⟩
  clear hx3 hσ3
  obtain ⟨A3, hA3⟩ : ∃ A, (x3.map (Value.int .u8)).toArray = A := ⟨_, rfl⟩
  rw [hA3] at C3
  have HA3 : Hid ((x3.map (Value.int .u8)).toArray = A3) := hA3
  have sz3 : A3.size = 8 := by rw [← hA3]; simp [l3]
  have on3 : A3.all (·.oneCell') = true := by rw [← hA3]; exact all_oneCell_toArray (ints_oneCell _ _)
  have ii3 : (Tryz.prog.info? 25).map (·.size) = some A3.size := by rw [sz3]; kernel_rfl
  clear hA3
  go_wp2_with fail
  refine C3.mono ?_
  rintro e V3 ⟨rfl, hR⟩
  have th3 := tc_there hR 2 A3.size (by rw [sz3, List.size_toArray, tc_len HL2.out]; omega)
  have hR2 := hR.setCells A3.toList 2
  rw [show A3.toList = x3.map (Value.int .u8) by rw [← HA3.out], tc_key t2 _ _ _ _ HL2.out l3] at hR2
  have HN : Hid (Rd w (V3.setCells (g + 1) 2 A3.toList) gr a l c σ3 ((g + 1, .cells (tc { t2 with key := x3 } nilV nilV nilV).toArray 33 (0, 0)) :: (g, .cells tz 33 (0, 0)) :: K)) := by rw [show A3.toList = x3.map (Value.int .u8) by rw [← HA3.out]]; exact hR2
  clear C3 HR hR hR2
  go_upto_region 5 with (refine wpList_store_mid rfl 25 (.tmp 17) (.tmp 16) (by with_reducible rfl) (g + 1) 2 A3 (by first | rfl | simp [Act.eval]) (by first | rfl | simp [Act.eval]) th3 ii3 on3 ?_)
  refine wp_letter (fun V => Rd w V gr a l c σ3 ((g + 1, .cells (tc { t2 with key := x3 } nilV nilV nilV).toArray 33 (0, 0)) :: (g, .cells tz 33 (0, 0)) :: K)) HN.out ?_
  intro V3b hR
  obtain ⟨t3, ht3⟩ : ∃ t, { t2 with key := x3 } = t := ⟨_, rfl⟩
  have HL3 : Hid (TLen t3) := by rw [← ht3]; exact ⟨l3, HL2.out.vmac, HL2.out.host⟩
  have HT3 : Hid ({ t2 with key := x3 } = t3) := ht3
  rw [ht3] at hR
  have HR : Hid (Rd w V3b gr a l c σ3 ((g + 1, .cells (tc t3 nilV nilV nilV).toArray 33 (0, 0)) :: (g, .cells tz 33 (0, 0)) :: K)) := hR
  clear hR HN ht3 HL2 th3 HA3 sz3 on3 ii3
  have C4 := rn_any HR.out HS.out.1 4 (by omega) HS.out.2
  have b4 := tkn 4 (HR.out.bytes HS.out.1)
  obtain ⟨x4, hx4⟩ : ∃ x, num (tk 4 σ3) = x := ⟨_, rfl⟩
  obtain ⟨σ4, hσ4⟩ : ∃ x, nx 4 σ3 = x := ⟨_, rfl⟩
  rw [hx4, hσ4] at C4
  rw [hx4] at b4
  rw [show (256 : Int) ^ 4 = 4294967296 by decide] at b4
  have w4 : IntKind.u32.wrap x4 = x4 := wraps_u32 _ b4.1 (by omega)
  have m4 : x4 % 4294967296 = x4 := by omega
  simp only [Int.cast_ofNat_Int] at C4
  have HE4 : Hid (num (tk 4 σ3) = x4 ∧ nx 4 σ3 = σ4) := ⟨hx4, hσ4⟩
  clear hx4 hσ4
  go_wp2_with fail
  refine C4.mono ?_
  rintro e V4 ⟨rfl, hR⟩
  have cc4 : ∃ v0, V4.cell? ⟨g + 1, 10, none⟩ = some v0 := by
    have h := (tc_there hR 10 1 (by rw [List.size_toArray, tc_len HL3.out]; omega) 0 (by omega)).1
    exact Option.isSome_iff_exists.mp h
  obtain ⟨v0, cc4⟩ := cc4
  have fr4 : ∀ j, V4.frozen? ⟨g + 1, j, none⟩ = false := by obtain ⟨i, -, hm, -⟩ := hR; exact hm.free 1 rfl
  have hR2 := hR.set 0 rfl 10 (.int .u32 x4)
  rw [tc_put (t' := { t3 with vtep := x4 }) HL3.out (by rintro n vn a b c d f g x y vt a1 b1 c1 d1 f1 g1 a2 b2 c2 d2 f2 g2 po lo hi fi st tw se qu ra bu rfl; rfl)] at hR2
  have HN : Hid (Rd w (V4.setCell ⟨g + 1, 10, none⟩ (.int .u32 x4)) gr a l c σ4 ((g + 1, .cells (tc { t3 with vtep := x4 } nilV nilV nilV).toArray 33 (0, 0)) :: (g, .cells tz 33 (0, 0)) :: K)) := hR2
  clear C4 HR hR hR2
  go_upto_region 6 with fail
  refine wp_letter (fun V => Rd w V gr a l c σ4 ((g + 1, .cells (tc { t3 with vtep := x4 } nilV nilV nilV).toArray 33 (0, 0)) :: (g, .cells tz 33 (0, 0)) :: K)) HN.out ?_
  intro V4b hR
  obtain ⟨t4, ht4⟩ : ∃ t, { t3 with vtep := x4 } = t := ⟨_, rfl⟩
  have HL4 : Hid (TLen t4) := by rw [← ht4]; exact ⟨HL3.out.key, HL3.out.vmac, HL3.out.host⟩
  have HT4 : Hid ({ t3 with vtep := x4 } = t4) := ht4
  rw [ht4] at hR
  have HR : Hid (Rd w V4b gr a l c σ4 ((g + 1, .cells (tc t4 nilV nilV nilV).toArray 33 (0, 0)) :: (g, .cells tz 33 (0, 0)) :: K)) := hR
  clear hR HN ht4 HL3 cc4 fr4
  have C5 := rmac_any HR.out HS.out.1 HS.out.2
  have l5 := tk_len 6 σ4
  obtain ⟨x5, hx5⟩ : ∃ x, tk 6 σ4 = x := ⟨_, rfl⟩
  obtain ⟨σ5, hσ5⟩ : ∃ x, nx 6 σ4 = x := ⟨_, rfl⟩
  rw [hx5, hσ5] at C5
  rw [hx5] at l5
  have HE5 : Hid (tk 6 σ4 = x5 ∧ nx 6 σ4 = σ5) := ⟨hx5, hσ5⟩
  clear hx5 hσ5
  obtain ⟨A5, hA5⟩ : ∃ A, (x5.map (Value.int .u8)).toArray = A := ⟨_, rfl⟩
  rw [hA5] at C5
  have HA5 : Hid ((x5.map (Value.int .u8)).toArray = A5) := hA5
  have sz5 : A5.size = 6 := by rw [← hA5]; simp [l5]
  have on5 : A5.all (·.oneCell') = true := by rw [← hA5]; exact all_oneCell_toArray (ints_oneCell _ _)
  have ii5 : (Tryz.prog.info? 24).map (·.size) = some A5.size := by rw [sz5]; kernel_rfl
  clear hA5
  go_wp2_with fail
  refine C5.mono ?_
  rintro e V5 ⟨rfl, hR⟩
  have th5 := tc_there hR 11 A5.size (by rw [sz5, List.size_toArray, tc_len HL4.out]; omega)
  have hR2 := hR.setCells A5.toList 11
  rw [show A5.toList = x5.map (Value.int .u8) by rw [← HA5.out], tc_vmac t4 _ _ _ _ HL4.out l5] at hR2
  have HN : Hid (Rd w (V5.setCells (g + 1) 11 A5.toList) gr a l c σ5 ((g + 1, .cells (tc { t4 with vmac := x5 } nilV nilV nilV).toArray 33 (0, 0)) :: (g, .cells tz 33 (0, 0)) :: K)) := by rw [show A5.toList = x5.map (Value.int .u8) by rw [← HA5.out]]; exact hR2
  clear C5 HR hR hR2
  go_upto_region 7 with (refine wpList_store_mid rfl 24 (.tmp 24) (.tmp 23) (by with_reducible rfl) (g + 1) 11 A5 (by first | rfl | simp [Act.eval]) (by first | rfl | simp [Act.eval]) th5 ii5 on5 ?_)
  refine wp_letter (fun V => Rd w V gr a l c σ5 ((g + 1, .cells (tc { t4 with vmac := x5 } nilV nilV nilV).toArray 33 (0, 0)) :: (g, .cells tz 33 (0, 0)) :: K)) HN.out ?_
  intro V5b hR
  obtain ⟨t5, ht5⟩ : ∃ t, { t4 with vmac := x5 } = t := ⟨_, rfl⟩
  have HL5 : Hid (TLen t5) := by rw [← ht5]; exact ⟨HL4.out.key, l5, HL4.out.host⟩
  have HT5 : Hid ({ t4 with vmac := x5 } = t5) := ht5
  rw [ht5] at hR
  have HR : Hid (Rd w V5b gr a l c σ5 ((g + 1, .cells (tc t5 nilV nilV nilV).toArray 33 (0, 0)) :: (g, .cells tz 33 (0, 0)) :: K)) := hR
  clear hR HN ht5 HL4 th5 HA5 sz5 on5 ii5
  have C6 := rmac_any HR.out HS.out.1 HS.out.2
  have l6 := tk_len 6 σ5
  obtain ⟨x6, hx6⟩ : ∃ x, tk 6 σ5 = x := ⟨_, rfl⟩
  obtain ⟨σ6, hσ6⟩ : ∃ x, nx 6 σ5 = x := ⟨_, rfl⟩
  rw [hx6, hσ6] at C6
  rw [hx6] at l6
  have HE6 : Hid (tk 6 σ5 = x6 ∧ nx 6 σ5 = σ6) := ⟨hx6, hσ6⟩
  clear hx6 hσ6
  obtain ⟨A6, hA6⟩ : ∃ A, (x6.map (Value.int .u8)).toArray = A := ⟨_, rfl⟩
  rw [hA6] at C6
  have HA6 : Hid ((x6.map (Value.int .u8)).toArray = A6) := hA6
  have sz6 : A6.size = 6 := by rw [← hA6]; simp [l6]
  have on6 : A6.all (·.oneCell') = true := by rw [← hA6]; exact all_oneCell_toArray (ints_oneCell _ _)
  have ii6 : (Tryz.prog.info? 24).map (·.size) = some A6.size := by rw [sz6]; kernel_rfl
  clear hA6
  go_wp2_with fail
  refine C6.mono ?_
  rintro e V6 ⟨rfl, hR⟩
  have th6 := tc_there hR 17 A6.size (by rw [sz6, List.size_toArray, tc_len HL5.out]; omega)
  have hR2 := hR.setCells A6.toList 17
  rw [show A6.toList = x6.map (Value.int .u8) by rw [← HA6.out], tc_host t5 _ _ _ _ HL5.out l6] at hR2
  have HN : Hid (Rd w (V6.setCells (g + 1) 17 A6.toList) gr a l c σ6 ((g + 1, .cells (tc { t5 with host := x6 } nilV nilV nilV).toArray 33 (0, 0)) :: (g, .cells tz 33 (0, 0)) :: K)) := by rw [show A6.toList = x6.map (Value.int .u8) by rw [← HA6.out]]; exact hR2
  clear C6 HR hR hR2
  go_upto_region 8 with (refine wpList_store_mid rfl 24 (.tmp 27) (.tmp 26) (by with_reducible rfl) (g + 1) 17 A6 (by first | rfl | simp [Act.eval]) (by first | rfl | simp [Act.eval]) th6 ii6 on6 ?_)
  refine wp_letter (fun V => Rd w V gr a l c σ6 ((g + 1, .cells (tc { t5 with host := x6 } nilV nilV nilV).toArray 33 (0, 0)) :: (g, .cells tz 33 (0, 0)) :: K)) HN.out ?_
  intro V6b hR
  obtain ⟨t6, ht6⟩ : ∃ t, { t5 with host := x6 } = t := ⟨_, rfl⟩
  have HL6 : Hid (TLen t6) := by rw [← ht6]; exact ⟨HL5.out.key, HL5.out.vmac, l6⟩
  have HT6 : Hid ({ t5 with host := x6 } = t6) := ht6
  rw [ht6] at hR
  have HR : Hid (Rd w V6b gr a l c σ6 ((g + 1, .cells (tc t6 nilV nilV nilV).toArray 33 (0, 0)) :: (g, .cells tz 33 (0, 0)) :: K)) := hR
  clear hR HN ht6 HL5 th6 HA6 sz6 on6 ii6
  have C7 := rn_any HR.out HS.out.1 2 (by omega) HS.out.2
  have b7 := tkn 2 (HR.out.bytes HS.out.1)
  obtain ⟨x7, hx7⟩ : ∃ x, num (tk 2 σ6) = x := ⟨_, rfl⟩
  obtain ⟨σ7, hσ7⟩ : ∃ x, nx 2 σ6 = x := ⟨_, rfl⟩
  rw [hx7, hσ7] at C7
  rw [hx7] at b7
  rw [show (256 : Int) ^ 2 = 65536 by decide] at b7
  have w7 : IntKind.u16.wrap x7 = x7 := wrap16_small _ b7.1 (by omega)
  have m7 : x7 % 65536 = x7 := by omega
  simp only [Int.cast_ofNat_Int] at C7
  have HE7 : Hid (num (tk 2 σ6) = x7 ∧ nx 2 σ6 = σ7) := ⟨hx7, hσ7⟩
  clear hx7 hσ7
  go_wp2_with fail
  refine C7.mono ?_
  rintro e V7 ⟨rfl, hR⟩
  have cc7 : ∃ v0, V7.cell? ⟨g + 1, 24, none⟩ = some v0 := by
    have h := (tc_there hR 24 1 (by rw [List.size_toArray, tc_len HL6.out]; omega) 0 (by omega)).1
    exact Option.isSome_iff_exists.mp h
  obtain ⟨v0, cc7⟩ := cc7
  have fr7 : ∀ j, V7.frozen? ⟨g + 1, j, none⟩ = false := by obtain ⟨i, -, hm, -⟩ := hR; exact hm.free 1 rfl
  have hR2 := hR.set 0 rfl 24 (.int .u16 x7)
  rw [tc_put (t' := { t6 with lo := x7 }) HL6.out (by rintro n vn a b c d f g x y vt a1 b1 c1 d1 f1 g1 a2 b2 c2 d2 f2 g2 po lo hi fi st tw se qu ra bu rfl; rfl)] at hR2
  have HN : Hid (Rd w (V7.setCell ⟨g + 1, 24, none⟩ (.int .u16 x7)) gr a l c σ7 ((g + 1, .cells (tc { t6 with lo := x7 } nilV nilV nilV).toArray 33 (0, 0)) :: (g, .cells tz 33 (0, 0)) :: K)) := hR2
  clear C7 HR hR hR2
  go_upto_region 9 with fail
  refine wp_letter (fun V => Rd w V gr a l c σ7 ((g + 1, .cells (tc { t6 with lo := x7 } nilV nilV nilV).toArray 33 (0, 0)) :: (g, .cells tz 33 (0, 0)) :: K)) HN.out ?_
  intro V7b hR
  obtain ⟨t7, ht7⟩ : ∃ t, { t6 with lo := x7 } = t := ⟨_, rfl⟩
  have HL7 : Hid (TLen t7) := by rw [← ht7]; exact ⟨HL6.out.key, HL6.out.vmac, HL6.out.host⟩
  have HT7 : Hid ({ t6 with lo := x7 } = t7) := ht7
  rw [ht7] at hR
  have HR : Hid (Rd w V7b gr a l c σ7 ((g + 1, .cells (tc t7 nilV nilV nilV).toArray 33 (0, 0)) :: (g, .cells tz 33 (0, 0)) :: K)) := hR
  clear hR HN ht7 HL6 cc7 fr7
  have C8 := rn_any HR.out HS.out.1 2 (by omega) HS.out.2
  have b8 := tkn 2 (HR.out.bytes HS.out.1)
  obtain ⟨x8, hx8⟩ : ∃ x, num (tk 2 σ7) = x := ⟨_, rfl⟩
  obtain ⟨σ8, hσ8⟩ : ∃ x, nx 2 σ7 = x := ⟨_, rfl⟩
  rw [hx8, hσ8] at C8
  rw [hx8] at b8
  rw [show (256 : Int) ^ 2 = 65536 by decide] at b8
  have w8 : IntKind.u16.wrap x8 = x8 := wrap16_small _ b8.1 (by omega)
  have m8 : x8 % 65536 = x8 := by omega
  simp only [Int.cast_ofNat_Int] at C8
  have HE8 : Hid (num (tk 2 σ7) = x8 ∧ nx 2 σ7 = σ8) := ⟨hx8, hσ8⟩
  clear hx8 hσ8
  go_wp2_with fail
  refine C8.mono ?_
  rintro e V8 ⟨rfl, hR⟩
  have cc8 : ∃ v0, V8.cell? ⟨g + 1, 25, none⟩ = some v0 := by
    have h := (tc_there hR 25 1 (by rw [List.size_toArray, tc_len HL7.out]; omega) 0 (by omega)).1
    exact Option.isSome_iff_exists.mp h
  obtain ⟨v0, cc8⟩ := cc8
  have fr8 : ∀ j, V8.frozen? ⟨g + 1, j, none⟩ = false := by obtain ⟨i, -, hm, -⟩ := hR; exact hm.free 1 rfl
  have hR2 := hR.set 0 rfl 25 (.int .u16 x8)
  rw [tc_put (t' := { t7 with hi := x8 }) HL7.out (by rintro n vn a b c d f g x y vt a1 b1 c1 d1 f1 g1 a2 b2 c2 d2 f2 g2 po lo hi fi st tw se qu ra bu rfl; rfl)] at hR2
  have HN : Hid (Rd w (V8.setCell ⟨g + 1, 25, none⟩ (.int .u16 x8)) gr a l c σ8 ((g + 1, .cells (tc { t7 with hi := x8 } nilV nilV nilV).toArray 33 (0, 0)) :: (g, .cells tz 33 (0, 0)) :: K)) := hR2
  clear C8 HR hR hR2
  go_upto_region 10 with fail
  refine wp_letter (fun V => Rd w V gr a l c σ8 ((g + 1, .cells (tc { t7 with hi := x8 } nilV nilV nilV).toArray 33 (0, 0)) :: (g, .cells tz 33 (0, 0)) :: K)) HN.out ?_
  intro V8b hR
  obtain ⟨t8, ht8⟩ : ∃ t, { t7 with hi := x8 } = t := ⟨_, rfl⟩
  have HL8 : Hid (TLen t8) := by rw [← ht8]; exact ⟨HL7.out.key, HL7.out.vmac, HL7.out.host⟩
  have HT8 : Hid ({ t7 with hi := x8 } = t8) := ht8
  rw [ht8] at hR
  have HR : Hid (Rd w V8b gr a l c σ8 ((g + 1, .cells (tc t8 nilV nilV nilV).toArray 33 (0, 0)) :: (g, .cells tz 33 (0, 0)) :: K)) := hR
  clear hR HN ht8 HL7 cc8 fr8
  have C9 := rn_any HR.out HS.out.1 1 (by omega) HS.out.2
  have b9 := tkn 1 (HR.out.bytes HS.out.1)
  obtain ⟨x9, hx9⟩ : ∃ x, num (tk 1 σ8) = x := ⟨_, rfl⟩
  obtain ⟨σ9, hσ9⟩ : ∃ x, nx 1 σ8 = x := ⟨_, rfl⟩
  rw [hx9, hσ9] at C9
  rw [hx9] at b9
  rw [show (256 : Int) ^ 1 = 256 by decide] at b9
  have w9 : IntKind.i64.wrap x9 = x9 := wrap64n (by omega) (by omega)
  skip
  simp only [Int.cast_ofNat_Int] at C9
  have HE9 : Hid (num (tk 1 σ8) = x9 ∧ nx 1 σ8 = σ9) := ⟨hx9, hσ9⟩
  clear hx9 hσ9
  go_wp2_with fail
  refine C9.mono ?_
  rintro e V9 ⟨rfl, hR⟩
  have cc9 : ∃ v0, V9.cell? ⟨g + 1, 26, none⟩ = some v0 := by
    have h := (tc_there hR 26 1 (by rw [List.size_toArray, tc_len HL8.out]; omega) 0 (by omega)).1
    exact Option.isSome_iff_exists.mp h
  obtain ⟨v0, cc9⟩ := cc9
  have fr9 : ∀ j, V9.frozen? ⟨g + 1, j, none⟩ = false := by obtain ⟨i, -, hm, -⟩ := hR; exact hm.free 1 rfl
  have hR2 := hR.set 0 rfl 26 (.int .i64 x9)
  rw [tc_put (t' := { t8 with filter := x9 }) HL8.out (by rintro n vn a b c d f g x y vt a1 b1 c1 d1 f1 g1 a2 b2 c2 d2 f2 g2 po lo hi fi st tw se qu ra bu rfl; rfl)] at hR2
  have HN : Hid (Rd w (V9.setCell ⟨g + 1, 26, none⟩ (.int .i64 x9)) gr a l c σ9 ((g + 1, .cells (tc { t8 with filter := x9 } nilV nilV nilV).toArray 33 (0, 0)) :: (g, .cells tz 33 (0, 0)) :: K)) := hR2
  clear C9 HR hR hR2
  go_upto_region 11 with fail
  refine wp_letter (fun V => Rd w V gr a l c σ9 ((g + 1, .cells (tc { t8 with filter := x9 } nilV nilV nilV).toArray 33 (0, 0)) :: (g, .cells tz 33 (0, 0)) :: K)) HN.out ?_
  intro V9b hR
  obtain ⟨t9, ht9⟩ : ∃ t, { t8 with filter := x9 } = t := ⟨_, rfl⟩
  have HL9 : Hid (TLen t9) := by rw [← ht9]; exact ⟨HL8.out.key, HL8.out.vmac, HL8.out.host⟩
  have HT9 : Hid ({ t8 with filter := x9 } = t9) := ht9
  rw [ht9] at hR
  have HR : Hid (Rd w V9b gr a l c σ9 ((g + 1, .cells (tc t9 nilV nilV nilV).toArray 33 (0, 0)) :: (g, .cells tz 33 (0, 0)) :: K)) := hR
  clear hR HN ht9 HL8 cc9 fr9
  have C10 := rn_any HR.out HS.out.1 2 (by omega) HS.out.2
  have b10 := tkn 2 (HR.out.bytes HS.out.1)
  obtain ⟨x10, hx10⟩ : ∃ x, num (tk 2 σ9) = x := ⟨_, rfl⟩
  obtain ⟨σ10, hσ10⟩ : ∃ x, nx 2 σ9 = x := ⟨_, rfl⟩
  rw [hx10, hσ10] at C10
  rw [hx10] at b10
  rw [show (256 : Int) ^ 2 = 65536 by decide] at b10
  have w10 : IntKind.i64.wrap x10 = x10 := wrap64n (by omega) (by omega)
  skip
  simp only [Int.cast_ofNat_Int] at C10
  have HE10 : Hid (num (tk 2 σ9) = x10 ∧ nx 2 σ9 = σ10) := ⟨hx10, hσ10⟩
  clear hx10 hσ10
  go_wp2_with fail
  refine C10.mono ?_
  rintro e V10 ⟨rfl, hR⟩
  have cc10 : ∃ v0, V10.cell? ⟨g + 1, 29, none⟩ = some v0 := by
    have h := (tc_there hR 29 1 (by rw [List.size_toArray, tc_len HL9.out]; omega) 0 (by omega)).1
    exact Option.isSome_iff_exists.mp h
  obtain ⟨v0, cc10⟩ := cc10
  have fr10 : ∀ j, V10.frozen? ⟨g + 1, j, none⟩ = false := by obtain ⟨i, -, hm, -⟩ := hR; exact hm.free 1 rfl
  have hR2 := hR.set 0 rfl 29 (.int .i64 x10)
  rw [tc_put (t' := { t9 with sess := x10 }) HL9.out (by rintro n vn a b c d f g x y vt a1 b1 c1 d1 f1 g1 a2 b2 c2 d2 f2 g2 po lo hi fi st tw se qu ra bu rfl; rfl)] at hR2
  have HN : Hid (Rd w (V10.setCell ⟨g + 1, 29, none⟩ (.int .i64 x10)) gr a l c σ10 ((g + 1, .cells (tc { t9 with sess := x10 } nilV nilV nilV).toArray 33 (0, 0)) :: (g, .cells tz 33 (0, 0)) :: K)) := hR2
  clear C10 HR hR hR2
  go_upto_region 12 with fail
  refine wp_letter (fun V => Rd w V gr a l c σ10 ((g + 1, .cells (tc { t9 with sess := x10 } nilV nilV nilV).toArray 33 (0, 0)) :: (g, .cells tz 33 (0, 0)) :: K)) HN.out ?_
  intro V10b hR
  obtain ⟨t10, ht10⟩ : ∃ t, { t9 with sess := x10 } = t := ⟨_, rfl⟩
  have HL10 : Hid (TLen t10) := by rw [← ht10]; exact ⟨HL9.out.key, HL9.out.vmac, HL9.out.host⟩
  have HT10 : Hid ({ t9 with sess := x10 } = t10) := ht10
  rw [ht10] at hR
  have HR : Hid (Rd w V10b gr a l c σ10 ((g + 1, .cells (tc t10 nilV nilV nilV).toArray 33 (0, 0)) :: (g, .cells tz 33 (0, 0)) :: K)) := hR
  clear hR HN ht10 HL9 cc10 fr10
  have C11 := rn_any HR.out HS.out.1 2 (by omega) HS.out.2
  have b11 := tkn 2 (HR.out.bytes HS.out.1)
  obtain ⟨x11, hx11⟩ : ∃ x, num (tk 2 σ10) = x := ⟨_, rfl⟩
  obtain ⟨σ11, hσ11⟩ : ∃ x, nx 2 σ10 = x := ⟨_, rfl⟩
  rw [hx11, hσ11] at C11
  rw [hx11] at b11
  rw [show (256 : Int) ^ 2 = 65536 by decide] at b11
  have w11 : IntKind.i64.wrap x11 = x11 := wrap64n (by omega) (by omega)
  skip
  simp only [Int.cast_ofNat_Int] at C11
  have HE11 : Hid (num (tk 2 σ10) = x11 ∧ nx 2 σ10 = σ11) := ⟨hx11, hσ11⟩
  clear hx11 hσ11
  go_wp2_with fail
  refine C11.mono ?_
  rintro e V11 ⟨rfl, hR⟩
  have cc11 : ∃ v0, V11.cell? ⟨g + 1, 30, none⟩ = some v0 := by
    have h := (tc_there hR 30 1 (by rw [List.size_toArray, tc_len HL10.out]; omega) 0 (by omega)).1
    exact Option.isSome_iff_exists.mp h
  obtain ⟨v0, cc11⟩ := cc11
  have fr11 : ∀ j, V11.frozen? ⟨g + 1, j, none⟩ = false := by obtain ⟨i, -, hm, -⟩ := hR; exact hm.free 1 rfl
  have hR2 := hR.set 0 rfl 30 (.int .i64 x11)
  rw [tc_put (t' := { t10 with queue := x11 }) HL10.out (by rintro n vn a b c d f g x y vt a1 b1 c1 d1 f1 g1 a2 b2 c2 d2 f2 g2 po lo hi fi st tw se qu ra bu rfl; rfl)] at hR2
  have HN : Hid (Rd w (V11.setCell ⟨g + 1, 30, none⟩ (.int .i64 x11)) gr a l c σ11 ((g + 1, .cells (tc { t10 with queue := x11 } nilV nilV nilV).toArray 33 (0, 0)) :: (g, .cells tz 33 (0, 0)) :: K)) := hR2
  clear C11 HR hR hR2
  go_upto_region 13 with fail
  refine wp_letter (fun V => Rd w V gr a l c σ11 ((g + 1, .cells (tc { t10 with queue := x11 } nilV nilV nilV).toArray 33 (0, 0)) :: (g, .cells tz 33 (0, 0)) :: K)) HN.out ?_
  intro V11b hR
  obtain ⟨t11, ht11⟩ : ∃ t, { t10 with queue := x11 } = t := ⟨_, rfl⟩
  have HL11 : Hid (TLen t11) := by rw [← ht11]; exact ⟨HL10.out.key, HL10.out.vmac, HL10.out.host⟩
  have HT11 : Hid ({ t10 with queue := x11 } = t11) := ht11
  rw [ht11] at hR
  have HR : Hid (Rd w V11b gr a l c σ11 ((g + 1, .cells (tc t11 nilV nilV nilV).toArray 33 (0, 0)) :: (g, .cells tz 33 (0, 0)) :: K)) := hR
  clear hR HN ht11 HL10 cc11 fr11
  have C12 := rn_any HR.out HS.out.1 4 (by omega) HS.out.2
  have b12 := tkn 4 (HR.out.bytes HS.out.1)
  obtain ⟨x12, hx12⟩ : ∃ x, num (tk 4 σ11) = x := ⟨_, rfl⟩
  obtain ⟨σ12, hσ12⟩ : ∃ x, nx 4 σ11 = x := ⟨_, rfl⟩
  rw [hx12, hσ12] at C12
  rw [hx12] at b12
  rw [show (256 : Int) ^ 4 = 4294967296 by decide] at b12
  have w12 : IntKind.u32.wrap x12 = x12 := wraps_u32 _ b12.1 (by omega)
  have m12 : x12 % 4294967296 = x12 := by omega
  simp only [Int.cast_ofNat_Int] at C12
  have HE12 : Hid (num (tk 4 σ11) = x12 ∧ nx 4 σ11 = σ12) := ⟨hx12, hσ12⟩
  clear hx12 hσ12
  go_wp2_with fail
  refine C12.mono ?_
  rintro e V12 ⟨rfl, hR⟩
  have cc12 : ∃ v0, V12.cell? ⟨g + 1, 31, none⟩ = some v0 := by
    have h := (tc_there hR 31 1 (by rw [List.size_toArray, tc_len HL11.out]; omega) 0 (by omega)).1
    exact Option.isSome_iff_exists.mp h
  obtain ⟨v0, cc12⟩ := cc12
  have fr12 : ∀ j, V12.frozen? ⟨g + 1, j, none⟩ = false := by obtain ⟨i, -, hm, -⟩ := hR; exact hm.free 1 rfl
  have hR2 := hR.set 0 rfl 31 (.int .u32 x12)
  rw [tc_put (t' := { t11 with rate := x12 }) HL11.out (by rintro n vn a b c d f g x y vt a1 b1 c1 d1 f1 g1 a2 b2 c2 d2 f2 g2 po lo hi fi st tw se qu ra bu rfl; rfl)] at hR2
  have HN : Hid (Rd w (V12.setCell ⟨g + 1, 31, none⟩ (.int .u32 x12)) gr a l c σ12 ((g + 1, .cells (tc { t11 with rate := x12 } nilV nilV nilV).toArray 33 (0, 0)) :: (g, .cells tz 33 (0, 0)) :: K)) := hR2
  clear C12 HR hR hR2
  go_upto_region 14 with fail
  refine wp_letter (fun V => Rd w V gr a l c σ12 ((g + 1, .cells (tc { t11 with rate := x12 } nilV nilV nilV).toArray 33 (0, 0)) :: (g, .cells tz 33 (0, 0)) :: K)) HN.out ?_
  intro V12b hR
  obtain ⟨t12, ht12⟩ : ∃ t, { t11 with rate := x12 } = t := ⟨_, rfl⟩
  have HL12 : Hid (TLen t12) := by rw [← ht12]; exact ⟨HL11.out.key, HL11.out.vmac, HL11.out.host⟩
  have HT12 : Hid ({ t11 with rate := x12 } = t12) := ht12
  rw [ht12] at hR
  have HR : Hid (Rd w V12b gr a l c σ12 ((g + 1, .cells (tc t12 nilV nilV nilV).toArray 33 (0, 0)) :: (g, .cells tz 33 (0, 0)) :: K)) := hR
  clear hR HN ht12 HL11 cc12 fr12
  have C13 := rn_any HR.out HS.out.1 4 (by omega) HS.out.2
  have b13 := tkn 4 (HR.out.bytes HS.out.1)
  obtain ⟨x13, hx13⟩ : ∃ x, num (tk 4 σ12) = x := ⟨_, rfl⟩
  obtain ⟨σ13, hσ13⟩ : ∃ x, nx 4 σ12 = x := ⟨_, rfl⟩
  rw [hx13, hσ13] at C13
  rw [hx13] at b13
  rw [show (256 : Int) ^ 4 = 4294967296 by decide] at b13
  have w13 : IntKind.u32.wrap x13 = x13 := wraps_u32 _ b13.1 (by omega)
  have m13 : x13 % 4294967296 = x13 := by omega
  simp only [Int.cast_ofNat_Int] at C13
  have HE13 : Hid (num (tk 4 σ12) = x13 ∧ nx 4 σ12 = σ13) := ⟨hx13, hσ13⟩
  clear hx13 hσ13
  go_wp2_with fail
  refine C13.mono ?_
  rintro e V13 ⟨rfl, hR⟩
  have cc13 : ∃ v0, V13.cell? ⟨g + 1, 32, none⟩ = some v0 := by
    have h := (tc_there hR 32 1 (by rw [List.size_toArray, tc_len HL12.out]; omega) 0 (by omega)).1
    exact Option.isSome_iff_exists.mp h
  obtain ⟨v0, cc13⟩ := cc13
  have fr13 : ∀ j, V13.frozen? ⟨g + 1, j, none⟩ = false := by obtain ⟨i, -, hm, -⟩ := hR; exact hm.free 1 rfl
  have hR2 := hR.set 0 rfl 32 (.int .u32 x13)
  rw [tc_put (t' := { t12 with burst := x13 }) HL12.out (by rintro n vn a b c d f g x y vt a1 b1 c1 d1 f1 g1 a2 b2 c2 d2 f2 g2 po lo hi fi st tw se qu ra bu rfl; rfl)] at hR2
  have HN : Hid (Rd w (V13.setCell ⟨g + 1, 32, none⟩ (.int .u32 x13)) gr a l c σ13 ((g + 1, .cells (tc { t12 with burst := x13 } nilV nilV nilV).toArray 33 (0, 0)) :: (g, .cells tz 33 (0, 0)) :: K)) := hR2
  clear C13 HR hR hR2
  go_upto_region 15 with fail
  refine wp_letter (fun V => Rd w V gr a l c σ13 ((g + 1, .cells (tc { t12 with burst := x13 } nilV nilV nilV).toArray 33 (0, 0)) :: (g, .cells tz 33 (0, 0)) :: K)) HN.out ?_
  intro V13b hR
  obtain ⟨t13, ht13⟩ : ∃ t, { t12 with burst := x13 } = t := ⟨_, rfl⟩
  have HL13 : Hid (TLen t13) := by rw [← ht13]; exact ⟨HL12.out.key, HL12.out.vmac, HL12.out.host⟩
  have HT13 : Hid ({ t12 with burst := x13 } = t13) := ht13
  rw [ht13] at hR
  have HR : Hid (Rd w V13b gr a l c σ13 ((g + 1, .cells (tc t13 nilV nilV nilV).toArray 33 (0, 0)) :: (g, .cells tz 33 (0, 0)) :: K)) := hR
  clear hR HN ht13 HL12 cc13 fr13
  have C14 := rn_any HR.out HS.out.1 1 (by omega) HS.out.2
  have b14 := tkn 1 (HR.out.bytes HS.out.1)
  obtain ⟨x14, hx14⟩ : ∃ x, num (tk 1 σ13) = x := ⟨_, rfl⟩
  obtain ⟨σ14, hσ14⟩ : ∃ x, nx 1 σ13 = x := ⟨_, rfl⟩
  rw [hx14, hσ14] at C14
  rw [hx14] at b14
  rw [show (256 : Int) ^ 1 = 256 by decide] at b14
  have w14 : IntKind.i64.wrap x14 = x14 := wrap64n (by omega) (by omega)
  skip
  simp only [Int.cast_ofNat_Int] at C14
  have HE14 : Hid (num (tk 1 σ13) = x14 ∧ nx 1 σ13 = σ14) := ⟨hx14, hσ14⟩
  clear hx14 hσ14
  go_wp2_with fail
  refine C14.mono ?_
  rintro e V14 ⟨rfl, hR⟩
  have HR14 : Hid (Rd w V14 gr a l c σ14 ((g + 1, .cells (tc t13 nilV nilV nilV).toArray 33 (0, 0)) :: (g, .cells tz 33 (0, 0)) :: K)) := hR
  clear C14 HR hR
  have HR := HR14
  clear HR14
  go_upto_region 16 with fail
  have C15 := rn_any HR.out HS.out.1 1 (by omega) HS.out.2
  have b15 := tkn 1 (HR.out.bytes HS.out.1)
  obtain ⟨x15, hx15⟩ : ∃ x, num (tk 1 σ14) = x := ⟨_, rfl⟩
  obtain ⟨σ15, hσ15⟩ : ∃ x, nx 1 σ14 = x := ⟨_, rfl⟩
  rw [hx15, hσ15] at C15
  rw [hx15] at b15
  rw [show (256 : Int) ^ 1 = 256 by decide] at b15
  have w15 : IntKind.i64.wrap x15 = x15 := wrap64n (by omega) (by omega)
  skip
  simp only [Int.cast_ofNat_Int] at C15
  have HE15 : Hid (num (tk 1 σ14) = x15 ∧ nx 1 σ14 = σ15) := ⟨hx15, hσ15⟩
  clear hx15 hσ15
  go_wp2_with fail
  refine C15.mono ?_
  rintro e V15 ⟨rfl, hR⟩
  have HR15 : Hid (Rd w V15 gr a l c σ15 ((g + 1, .cells (tc t13 nilV nilV nilV).toArray 33 (0, 0)) :: (g, .cells tz 33 (0, 0)) :: K)) := hR
  clear C15 HR hR
  have HR := HR15
  clear HR15
  go_upto_region 17 with fail
  have C16 := rn_any HR.out HS.out.1 1 (by omega) HS.out.2
  have b16 := tkn 1 (HR.out.bytes HS.out.1)
  obtain ⟨x16, hx16⟩ : ∃ x, num (tk 1 σ15) = x := ⟨_, rfl⟩
  obtain ⟨σ16, hσ16⟩ : ∃ x, nx 1 σ15 = x := ⟨_, rfl⟩
  rw [hx16, hσ16] at C16
  rw [hx16] at b16
  rw [show (256 : Int) ^ 1 = 256 by decide] at b16
  have w16 : IntKind.i64.wrap x16 = x16 := wrap64n (by omega) (by omega)
  skip
  simp only [Int.cast_ofNat_Int] at C16
  have HE16 : Hid (num (tk 1 σ15) = x16 ∧ nx 1 σ15 = σ16) := ⟨hx16, hσ16⟩
  clear hx16 hσ16
  go_wp2_with fail
  refine C16.mono ?_
  rintro e V16 ⟨rfl, hR⟩
  have HR16 : Hid (Rd w V16 gr a l c σ16 ((g + 1, .cells (tc t13 nilV nilV nilV).toArray 33 (0, 0)) :: (g, .cells tz 33 (0, 0)) :: K)) := hR
  clear C16 HR hR
  have HR := HR16
  clear HR16
  go_upto_region 18 with fail
  obtain ⟨X, hX⟩ : ∃ X : Nat, x14.toNat = X := ⟨_, rfl⟩
  obtain ⟨Y, hY⟩ : ∃ X : Nat, x15.toNat = X := ⟨_, rfl⟩
  obtain ⟨Z, hZ⟩ : ∃ X : Nat, x16.toNat = X := ⟨_, rfl⟩
  obtain rfl : x14 = (X : Int) := by omega
  obtain rfl : x15 = (Y : Int) := by omega
  obtain rfl : x16 = (Z : Int) := by omega
  have hXb : X ≤ 255 := by omega
  have hYb : Y ≤ 255 := by omega
  have hZb : Z ≤ 255 := by omega
  have EQ : Hid (rhd σ = t13 ∧ s16 σ = σ16 ∧ rx σ = X ∧ ry σ = Y ∧ rz σ = Z) := by
    have e0 := HE0.out
    subst e0
    obtain ⟨a1, a2⟩ := HE1.out
    subst a1; subst a2
    obtain ⟨a1, a2⟩ := HE2.out
    subst a1; subst a2
    obtain ⟨a1, a2⟩ := HE3.out
    subst a1; subst a2
    obtain ⟨a1, a2⟩ := HE4.out
    subst a1; subst a2
    obtain ⟨a1, a2⟩ := HE5.out
    subst a1; subst a2
    obtain ⟨a1, a2⟩ := HE6.out
    subst a1; subst a2
    obtain ⟨a1, a2⟩ := HE7.out
    subst a1; subst a2
    obtain ⟨a1, a2⟩ := HE8.out
    subst a1; subst a2
    obtain ⟨a1, a2⟩ := HE9.out
    subst a1; subst a2
    obtain ⟨a1, a2⟩ := HE10.out
    subst a1; subst a2
    obtain ⟨a1, a2⟩ := HE11.out
    subst a1; subst a2
    obtain ⟨a1, a2⟩ := HE12.out
    subst a1; subst a2
    obtain ⟨a1, a2⟩ := HE13.out
    subst a1; subst a2
    obtain ⟨b14, a2⟩ := HE14.out
    subst a2
    obtain ⟨b15, a2⟩ := HE15.out
    subst a2
    obtain ⟨b16, a2⟩ := HE16.out
    subst a2
    refine ⟨?_, rfl, ?_, ?_, ?_⟩
    · rw [← HT13.out, ← HT12.out, ← HT11.out, ← HT10.out, ← HT9.out, ← HT8.out, ← HT7.out, ← HT6.out, ← HT5.out, ← HT4.out, ← HT3.out, ← HT2.out, ← HT1.out, ← HT0.out]
      rfl
    · exact congrArg Int.toNat b14
    · exact congrArg Int.toNat b15
    · exact congrArg Int.toNat b16
  clear HE0 HE1 HE2 HE3 HE4 HE5 HE6 HE7 HE8 HE9 HE10 HE11 HE12 HE13 HE14 HE15 HE16 HT0 HT1 HT2 HT3 HT4 HT5 HT6 HT7 HT8 HT9 HT10 HT11 HT12 HT13 hX hY hZ b14 b15 b16 w14 w15 w16
  obtain ⟨R1, hR1⟩ : ∃ R, (pls X σ16).1 = R := ⟨_, rfl⟩
  obtain ⟨R2, hR2⟩ : ∃ R, (pls X σ16).2 = R := ⟨_, rfl⟩
  have H0 : Hid (∃ B, Rd w V16 gr a l c σ16 ((g + 1, .cells (tc t13 nilV nilV nilV).toArray 33 (0, 0)) :: (g, .cells tz 33 (0, 0)) :: (B ++ K)) ∧ OwB 22 1 nilV ([] : List Int).length (ux []).flatten B ∧ ([] : List Int).length = 0 ∧ [] ++ (pls (X - 0) σ16).1 = R1 ∧ (pls (X - 0) σ16).2 = R2) := ⟨[], HR.out, OwB.nil _ _, rfl, by simpa using hR1, by simpa using hR2⟩
  have HRR : Hid ((pls X σ16).1 = R1 ∧ (pls X σ16).2 = R2) := ⟨hR1, hR2⟩
  clear HR hR1 hR2
  go_wp2_with fail
  go_loopw [7] (fun u7 w' => ∃ (i : Nat) (acc : List Int) (τ : Option (List Int)), i ≤ X ∧ u7 = .int .i64 i ∧ ∃ pv, Hid (∃ B, Rd w w' gr a l c τ ((g + 1, .cells (tc t13 pv nilV nilV).toArray 33 (0, 0)) :: (g, .cells tz 33 (0, 0)) :: (B ++ K)) ∧ OwB 22 1 pv acc.length (ux acc).flatten B ∧ acc.length = i ∧ acc ++ (pls (X - i) τ).1 = R1 ∧ (pls (X - i) τ).2 = R2)) (fun u7 w' => X - (intOf u7).toNat)
  case atStart => exact ⟨0, [], σ16, Nat.zero_le _, rfl, nilV, H0⟩
  case round =>
    obtain ⟨i, acc, τ, hi, rfl, pv, HR⟩ := hrel
    clear H0
    obtain ⟨B, hRd, hB, hacc, hp1, hp2⟩ := HR.out
    have cbad : wr.cell? ⟨gr, 2, none⟩ = some (.bool τ.isNone) := by
      obtain ⟨j, -, hm, -⟩ := hRd
      exact hm.cell 0 rfl 2
    by_cases hlt : i < X
    · have h1 : (i : Int) < X := by omega
      cases τ with
      | none =>
        simp only [Option.isNone_none] at cbad
        have e : X - i = (X - i - 1) + 1 := by omega
        rw [e, pls] at hp1 hp2
        simp only [List.append_nil] at hp1 hp2
        subst hp1
        subst hp2
        have HX : Hid (Rd w wr gr a l c none ((g + 1, .cells (tc t13 pv nilV nilV).toArray 33 (0, 0)) :: (g, .cells tz 33 (0, 0)) :: (B ++ K)) ∧ OwB 22 1 pv acc.length (ux acc).flatten B) := ⟨hRd, hB⟩
        clear HR hRd hB hacc
        obtain ⟨pa, pm, pc, rfl⟩ := owb_slice HX.out.2
        have CS := rpairs2_any HX.out.1 HS.out.1 HS.out.2 Y hYb
        obtain ⟨S1, hS1⟩ : ∃ x, (prs Y none).1 = x := ⟨_, rfl⟩
        obtain ⟨S2, hS2⟩ : ∃ x, (prs Y none).2 = x := ⟨_, rfl⟩
        obtain ⟨T1, hT1⟩ : ∃ x, (prs Z S2).1 = x := ⟨_, rfl⟩
        obtain ⟨T2, hT2⟩ : ∃ x, (prs Z S2).2 = x := ⟨_, rfl⟩
        rw [hS1, hS2] at CS
        have HE : Hid (rt σ = ({ t13 with pool := acc, stat := S1, twi := T1 }, T2)) := by
          unfold Hid
          rw [rt, EQ.out.1, EQ.out.2.1, EQ.out.2.2.1, EQ.out.2.2.2.1, EQ.out.2.2.2.2, HRR.out.1, HRR.out.2, hS1, hS2, hT1, hT2]
        have HTT : Hid ((prs Z S2).1 = T1 ∧ (prs Z S2).2 = T2) := ⟨hT1, hT2⟩
        have HB1 : Hid (OwB 22 1 (.slice pa pm pc) acc.length (ux acc).flatten B) := HX.out.2
        clear HX hS1 hS2 hT1 hT2 EQ HRR
        go_wp2_with fail
        refine CS.mono ?_
        rintro e V20 ⟨sv, rfl, B2, hR, hB2⟩
        obtain ⟨sa, sm, sc, rfl⟩ := owb_slice hB2
        have HB2 : Hid (OwB 142 2 (.slice sa sm sc) S1.length (px S1).flatten B2) := hB2
        have hR2 := hR.perm (K' := (g + 1, .cells (tc t13 (.slice pa pm pc) nilV nilV).toArray 33 (0, 0)) :: (g, .cells tz 33 (0, 0)) :: (B2 ++ (B ++ K))) (by
          classical
          rw [List.perm_iff_count]
          intro q
          simp only [List.count_append, List.count_cons]
          omega)
        obtain ⟨v0, cv0⟩ := Option.isSome_iff_exists.mp (tc_there hR2 27 1 (by rw [List.size_toArray, tc_len HL13.out]; omega) 0 (by omega)).1
        have fr0 : ∀ j, V20.frozen? ⟨g + 1, j, none⟩ = false := by obtain ⟨j, -, hm, -⟩ := hR2; exact hm.free 1 rfl
        have hR3 := hR2.set 0 rfl 27 (.slice sa sm sc)
        rw [tc_put (t' := t13) (p' := .slice pa pm pc) (s' := .slice sa sm sc) (q' := nilV) HL13.out (by rintro n vn a b c d f g x y vt a1 b1 c1 d1 f1 g1 a2 b2 c2 d2 f2 g2 po lo hi fi st tw se qu ra bu rfl; rfl)] at hR3
        have HN : Hid (Rd w (V20.setCell ⟨g + 1, 27, none⟩ (.slice sa sm sc)) gr a l c S2 ((g + 1, .cells (tc t13 (.slice pa pm pc) (.slice sa sm sc) nilV).toArray 33 (0, 0)) :: (g, .cells tz 33 (0, 0)) :: (B2 ++ (B ++ K)))) := hR3
        clear CS hR hR2 hR3 hB2
        go_upto_region 23 with fail
        refine wp_letter (fun V => Rd w V gr a l c S2 ((g + 1, .cells (tc t13 (.slice pa pm pc) (.slice sa sm sc) nilV).toArray 33 (0, 0)) :: (g, .cells tz 33 (0, 0)) :: (B2 ++ (B ++ K)))) HN.out ?_
        intro V21 hR
        have CQ := rpairs2_any hR HS.out.1 HS.out.2 Z hZb
        rw [HTT.out.1, HTT.out.2] at CQ
        clear hR HN cv0 fr0
        go_wp2_with fail
        refine CQ.mono ?_
        rintro e V22 ⟨qv, rfl, B3, hR, hB3⟩
        obtain ⟨qa, qm, qc, rfl⟩ := owb_slice hB3
        have HB3 : Hid (OwB 142 2 (.slice qa qm qc) T1.length (px T1).flatten B3) := hB3
        have hR2 := hR.perm (K' := (g + 1, .cells (tc t13 (.slice pa pm pc) (.slice sa sm sc) nilV).toArray 33 (0, 0)) :: (g, .cells tz 33 (0, 0)) :: (B3 ++ (B2 ++ (B ++ K)))) (by
          classical
          rw [List.perm_iff_count]
          intro q
          simp only [List.count_append, List.count_cons]
          omega)
        obtain ⟨v0, cv0⟩ := Option.isSome_iff_exists.mp (tc_there hR2 28 1 (by rw [List.size_toArray, tc_len HL13.out]; omega) 0 (by omega)).1
        have fr0 : ∀ j, V22.frozen? ⟨g + 1, j, none⟩ = false := by obtain ⟨j, -, hm, -⟩ := hR2; exact hm.free 1 rfl
        have hR3 := hR2.set 0 rfl 28 (.slice qa qm qc)
        rw [tc_put (t' := t13) (p' := .slice pa pm pc) (s' := .slice sa sm sc) (q' := .slice qa qm qc) HL13.out (by rintro n vn a b c d f g x y vt a1 b1 c1 d1 f1 g1 a2 b2 c2 d2 f2 g2 po lo hi fi st tw se qu ra bu rfl; rfl)] at hR3
        have HN : Hid (Rd w (V22.setCell ⟨g + 1, 28, none⟩ (.slice qa qm qc)) gr a l c T2 ((g + 1, .cells (tc t13 (.slice pa pm pc) (.slice sa sm sc) (.slice qa qm qc)).toArray 33 (0, 0)) :: (g, .cells tz 33 (0, 0)) :: (B3 ++ (B2 ++ (B ++ K))))) := hR3
        clear CQ hR hR2 hR3 hB3
        go_upto_region 24 with fail
        refine wp_letter (fun V => Rd w V gr a l c T2 ((g + 1, .cells (tc t13 (.slice pa pm pc) (.slice sa sm sc) (.slice qa qm qc)).toArray 33 (0, 0)) :: (g, .cells tz 33 (0, 0)) :: (B3 ++ (B2 ++ (B ++ K))))) HN.out ?_
        intro V23 hR
        clear HN cv0 fr0
        obtain ⟨A, hA⟩ : ∃ A, (tc t13 (.slice pa pm pc) (.slice sa sm sc) (.slice qa qm qc)).toArray = A := ⟨_, rfl⟩
        have hone : A.all (·.oneCell') = true := by rw [← hA]; exact tc_one3 t13 rfl rfl rfl
        have hsz : A.size = 33 := by rw [← hA, List.size_toArray, tc_len HL13.out]
        rw [hA] at hR
        have k1 : V23.heap[g + 1]? = some (.cells A 33 (0, 0)) := by obtain ⟨j, -, hm, -⟩ := hR; exact hm.get 1 rfl
        have k0 : V23.heap[g]? = some (.cells tz 33 (0, 0)) := by obtain ⟨j, -, hm, -⟩ := hR; exact hm.get 2 rfl
        have i1 : (Tryz.prog.info? 33).map (·.size) = some A.size := by rw [hsz]; kernel_rfl
        have HR5 : Hid (Rd w (V23.setRow g A) gr a l c T2 (B3 ++ (B2 ++ (B ++ K))) ∧ (V23.setRow g A).heap[g]? = some (.cells A 33 (0, 0))) := by
          have h := hR.wrote 1 rfl (wrote_setRow V23 g _ A _ k0)
          refine ⟨h.subl ((List.sublist_cons_self _ _).trans (List.sublist_cons_self _ _)), ?_⟩
          obtain ⟨j, -, hm, -⟩ := h
          exact hm.get 2 rfl
        have HF : Hid (∃ B, Rd w (V23.setRow g A) gr a l c (rt σ).2 (B ++ K) ∧ TBk (.agg A) (rt σ).1 B) := by
          refine ⟨B3 ++ (B2 ++ B), ?_, ?_⟩
          · rw [HE.out]
            simpa only [List.append_assoc] using HR5.out.1
          · rw [HE.out]
            exact ⟨⟨HL13.out.key, HL13.out.vmac, HL13.out.host⟩, _, _, _, B, B2, B3, by rw [← hA]; rfl, rfl, HB1.out, HB2.out, HB3.out⟩
        clear hR hA HE HTT HB1 HB2 HB3
        go_wp2_with (first | (refine wpList_load_row rfl 33 (.tmp 3) (by with_reducible rfl) (g + 1) rfl 33 A (0, 0) _ k1 Tryz.underlying33 rfl i1 ?_) | (refine wpList_store_row rfl 33 (.tmp 2) (.tmp 93) (by with_reducible rfl) g A (by first | rfl | simp [Act.eval]) (by first | rfl | simp [Act.eval]) 33 _ k0 i1 (by rw [hsz]; rfl) hone ?_))
        refine bodyPost_ret (v := .agg A) ?_ rfl ⟨_, rfl, HF.out⟩
        exact results_cell_row (p := 2) (ty := 33) rfl _ _ g 33 _ (0, 0) _ rfl HR5.out.2 Tryz.underlying33 rfl i1
      | some r =>
        simp only [Option.isNone_some] at cbad
        have e : X - i = (X - (i + 1)) + 1 := by omega
        rw [e, pls] at hp1 hp2
        simp only at hp1 hp2
        have b1 := tk4 (hRd.bytes HS.out.1)
        have c23 : ∀ V σ, Rd w V gr a l c σ ((g + 1, .cells (tc t13 pv nilV nilV).toArray 33 (0, 0)) :: (g, .cells tz 33 (0, 0)) :: (B ++ K)) → V.cell? ⟨g + 1, 23, none⟩ = some pv := by
          rintro V σ ⟨j, -, hm, -⟩
          rw [hm.cell 1 rfl, List.getElem?_toArray]
          exact tget HL13.out (by rintro n vn a b c d f g x y vt a1 b1 c1 d1 f1 g1 a2 b2 c2 d2 f2 g2 po lo hi fi st tw se qu ra bu rfl; rfl)
        have CN := rn_any (hRd.after ((Below.refl _ _).drew)) HS.out.1 4 (by omega) HS.out.2
        obtain ⟨x, hx⟩ : ∃ x, num (tk 4 (some r)) = x := ⟨_, rfl⟩
        obtain ⟨τ2, hτ⟩ : ∃ y, nx 4 (some r) = y := ⟨_, rfl⟩
        rw [hx, hτ] at hp1 CN
        rw [hτ] at hp2
        rw [hx] at b1
        simp only [Int.cast_ofNat_Int] at CN
        have HP : Hid (acc.length = i ∧ acc ++ (x :: (pls (X - (i + 1)) τ2).1) = R1 ∧ (pls (X - (i + 1)) τ2).2 = R2) := ⟨hacc, hp1, hp2⟩
        have HB : Hid (OwB 22 1 pv acc.length (ux acc).flatten B) := hB
        have w1 : IntKind.u32.wrap x = x := wraps_u32 x b1.1 (by omega)
        have w3 : x % 4294967296 = x := by omega
        have p0 := c23 _ _ (hRd.after ((Below.refl _ _).drew))
        have HC : Hid (∀ V σ, Rd w V gr a l c σ ((g + 1, .cells (tc t13 pv nilV nilV).toArray 33 (0, 0)) :: (g, .cells tz 33 (0, 0)) :: (B ++ K)) → V.cell? ⟨g + 1, 23, none⟩ = some pv) := c23
        obtain ⟨pa, pm, pc, rfl⟩ := owb_slice hB
        have STEP : Hid (∀ V2, Rd w V2 gr a l c τ2 ((g + 1, .cells (tc t13 (.slice pa pm pc) nilV nilV).toArray 33 (0, 0)) :: (g, .cells tz 33 (0, 0)) :: (B ++ K)) → ∃ v4 V4, (Builtin.append_ #[29, 29] 29 #[.slice pa pm pc, .slice (some ⟨V2.heap.size, 0, none⟩) 1 1]).run Tryz.prog (V2.alloc (.cells #[.int .u32 x] 22)) = .ok v4 V4 ∧ (∃ a m c, v4 = .slice a m c) ∧ (∃ v0, V4.cell? ⟨g + 1, 23, none⟩ = some v0) ∧ (∀ j, V4.frozen? ⟨g + 1, j, none⟩ = false) ∧ ∃ B4, Rd w (V4.setCell ⟨g + 1, 23, none⟩ v4) gr a l c τ2 ((g + 1, .cells (tc t13 v4 nilV nilV).toArray 33 (0, 0)) :: (g, .cells tz 33 (0, 0)) :: (B4 ++ K)) ∧ OwB 22 1 v4 (acc ++ [x]).length (ux (acc ++ [x])).flatten B4 ∧ (acc ++ [x]).length = i + 1 ∧ (acc ++ [x]) ++ (pls (X - (i + 1)) τ2).1 = R1 ∧ (pls (X - (i + 1)) τ2).2 = R2) := by
          intro V2 hR2
          have hR3 := (hR2.after ((Below.refl V2.heap.size V2).alloc (Nat.le_refl _) (.cells #[.int .u32 x] 22 (0, 0)))).perm (K' := B ++ ((g + 1, .cells (tc t13 (.slice pa pm pc) nilV nilV).toArray 33 (0, 0)) :: (g, .cells tz 33 (0, 0)) :: K)) (by
            classical
            rw [List.perm_iff_count]
            intro q
            simp only [List.count_append, List.count_cons]
            omega)
          obtain ⟨v4, V4, B4, hrun, hR4, hB4⟩ := rd_append (t := 29) (ty := 29) Tryz.underlying29 infoU rfl (by decide) hR3 HB.out ⟨V2.heap.size, 0, none⟩ [.int .u32 x] rfl (fun j u hj => by
            rw [addr_mid, Nat.zero_add, World.cell?_alloc_new]
            simpa using hj) (by simp; rfl) (by have := HP.out.1; omega) (by have := HP.out.1; omega)
          have hR5 := hR4.perm (K' := (g + 1, .cells (tc t13 (.slice pa pm pc) nilV nilV).toArray 33 (0, 0)) :: (g, .cells tz 33 (0, 0)) :: (B4 ++ K)) (by
            classical
            rw [List.perm_iff_count]
            intro q
            simp only [List.count_append, List.count_cons]
            omega)
          have hR6 := hR5.set 0 rfl 23 v4
          rw [tc_put (t' := t13) (p' := v4) (s' := nilV) (q' := nilV) HL13.out (by rintro n vn a b c d f g x y vt a1 b1 c1 d1 f1 g1 a2 b2 c2 d2 f2 g2 po lo hi fi st tw se qu ra bu rfl; rfl)] at hR6
          refine ⟨v4, V4, hrun, owb_slice hB4, Option.isSome_iff_exists.mp (tc_there hR5 23 1 (by rw [List.size_toArray, tc_len HL13.out]; omega) 0 (by omega)).1, ?_, B4, hR6, ?_, by simp [HP.out.1], by rw [List.append_assoc]; exact HP.out.2.1, HP.out.2.2⟩
          · obtain ⟨j, -, hm, -⟩ := hR5; exact hm.free 1 rfl
          · rw [ux_snoc, List.length_append]
            exact hB4
        clear HR hRd hB hacc hp1 hp2 hx hτ c23 HP HB
        go_upto_region 21 with fail
        refine wp_region_held_drew (S := fun _ => True) (by kernel_rfl) trivial (fun hHeld => ?_)
        refine wpAnyH_take (i := 0) (v := ?_) rfl (by kernel_rfl) (by kernel_rfl) (by kernel_rfl) (fun _ _ _ h => h) (Or.inl ⟨by rfl, ?ay0⟩) (by assumption) ?ar0
        case ay0 =>
          intro w hSw
          (try dsimp only at hSw)
          go_simp
          all_goals with_reducible rfl
        try simp only [List.getElem_toArray, List.getElem_cons_zero, List.getElem_cons_succ, Act.put, List.setIfInBounds_toArray, List.set_cons_zero, List.set_cons_succ]
        refine wpAnyH_take (i := 2) (v := ?_) rfl (by kernel_rfl) (by kernel_rfl) (by kernel_rfl) (fun _ _ _ h => h) (Or.inl ⟨by rfl, ?ay2⟩) (by assumption) ?ar2
        case ay2 =>
          intro w hSw
          (try dsimp only at hSw)
          go_simp
          all_goals with_reducible rfl
        try simp only [List.getElem_toArray, List.getElem_cons_zero, List.getElem_cons_succ, Act.put, List.setIfInBounds_toArray, List.set_cons_zero, List.set_cons_succ]
        refine wpAnyH_ready (rs := [1, 3]) (by kernel_rfl) (by simp) ?_
        refine AllReadyH.cons rfl (fun KK hK => ?_) (AllReadyH.cons rfl (fun KK hK => ?_) AllReadyH.nil)
        · go_simp
          refine hK.out _ _ trivial (fun hHeld => ?_)
          clear hK KK
          try simp only [List.getElem_toArray, List.getElem_cons_zero, List.getElem_cons_succ, Act.put, List.setIfInBounds_toArray, List.set_cons_zero, List.set_cons_succ]
          refine wpAnyH_ready (rs := [3]) (by kernel_rfl) (by simp) ?_
          refine AllReadyH.cons rfl (fun KK hK => ?_) AllReadyH.nil
          go_simp
          with_reducible refine CN.mono ?_
          rintro e V2 ⟨rfl, hR2⟩
          try go_wp2_with fail
          obtain ⟨v4, V4, hrun, ⟨qa, qm, qc, rfl⟩, ⟨v0, cv0⟩, fr4, B4, hH⟩ := STEP.out _ hR2
          have HH : Hid (∃ B4, Rd w (V4.setCell ⟨g + 1, 23, none⟩ (.slice qa qm qc)) gr a l c τ2 ((g + 1, .cells (tc t13 (.slice qa qm qc) nilV nilV).toArray 33 (0, 0)) :: (g, .cells tz 33 (0, 0)) :: (B4 ++ K)) ∧ OwB 22 1 (.slice qa qm qc) (acc ++ [x]).length (ux (acc ++ [x])).flatten B4 ∧ (acc ++ [x]).length = i + 1 ∧ (acc ++ [x]) ++ (pls (X - (i + 1)) τ2).1 = R1 ∧ (pls (X - (i + 1)) τ2).2 = R2) := ⟨B4, hH⟩
          clear CN hR2 hH
          refine hK.out _ _ trivial (fun hHeld => ?_)
          clear hK KK
          try simp only [List.getElem_toArray, List.getElem_cons_zero, List.getElem_cons_succ, Act.put, List.setIfInBounds_toArray, List.set_cons_zero, List.set_cons_succ]
          refine wpAnyH_take (i := 4) (v := ?_) rfl (by kernel_rfl) (by kernel_rfl) (by kernel_rfl) (fun _ _ _ h => h) (Or.inl ⟨by rfl, ?by4⟩) (by assumption) ?br4
          case by4 =>
            intro w hSw
            (try dsimp only at hSw)
            go_simp
            all_goals with_reducible rfl
          try simp only [List.getElem_toArray, List.getElem_cons_zero, List.getElem_cons_succ, Act.put, List.setIfInBounds_toArray, List.set_cons_zero, List.set_cons_succ]
          refine wpAnyH_ready (rs := [5]) (by kernel_rfl) (by simp) ?_
          refine AllReadyH.cons rfl (fun KK hK => ?_) AllReadyH.nil
          go_simp
          refine hK.out _ _ trivial (fun hHeld => ?_)
          clear hK KK
          try simp only [List.getElem_toArray, List.getElem_cons_zero, List.getElem_cons_succ, Act.put, List.setIfInBounds_toArray, List.set_cons_zero, List.set_cons_succ]
          refine wpAnyH_ready (rs := [6]) (by kernel_rfl) (by simp) ?_
          refine AllReadyH.cons rfl (fun KK hK => ?_) AllReadyH.nil
          refine step_append_run rfl (.tmp 78) (.tmp 82) 29 29 rfl (by simp [Act.eval]) (by simp [Act.eval]) hrun ?_
          refine hK.out _ _ trivial (fun hHeld => ?_)
          clear hK KK
          try simp only [List.getElem_toArray, List.getElem_cons_zero, List.getElem_cons_succ, Act.put, List.setIfInBounds_toArray, List.set_cons_zero, List.set_cons_succ]
          refine wpAnyH_take (i := 7) (v := ?_) rfl (by kernel_rfl) (by kernel_rfl) (by kernel_rfl) (fun _ _ _ h => h) (Or.inl ⟨by rfl, ?b7y7⟩) (by assumption) ?b7r7
          case b7y7 =>
            intro w hSw
            (try dsimp only at hSw)
            go_simp
            all_goals with_reducible rfl
          try simp only [List.getElem_toArray, List.getElem_cons_zero, List.getElem_cons_succ, Act.put, List.setIfInBounds_toArray, List.set_cons_zero, List.set_cons_succ]
          refine wpAnyH_ready (rs := [8]) (by kernel_rfl) (by simp) ?_
          refine AllReadyH.cons rfl (fun KK hK => ?_) AllReadyH.nil
          go_simp
          refine hK.out _ _ trivial (fun hHeld => ?_)
          clear hK KK
          try simp only [List.getElem_toArray, List.getElem_cons_zero, List.getElem_cons_succ, Act.put, List.setIfInBounds_toArray, List.set_cons_zero, List.set_cons_succ]
          refine wpAnyH_done (by kernel_rfl) ?_ _
          go_wp2_with fail
          go_roundw
          case rel => exact ⟨i + 1, acc ++ [x], τ2, by omega, by go_num, _, HH⟩
          case measure => simp [intOf]; omega
        · go_simp
          with_reducible refine CN.mono ?_
          rintro e V2 ⟨rfl, hR2⟩
          try go_wp2_with fail
          have p1 := HC.out _ _ hR2
          have p2 := HC.out _ _ (hR2.after ((Below.refl V2.heap.size V2).alloc (Nat.le_refl _) (.cells #[.int .u32 x] 22 (0, 0))))
          obtain ⟨v4, V4, hrun, ⟨qa, qm, qc, rfl⟩, ⟨v0, cv0⟩, fr4, B4, hH⟩ := STEP.out _ hR2
          have HH : Hid (∃ B4, Rd w (V4.setCell ⟨g + 1, 23, none⟩ (.slice qa qm qc)) gr a l c τ2 ((g + 1, .cells (tc t13 (.slice qa qm qc) nilV nilV).toArray 33 (0, 0)) :: (g, .cells tz 33 (0, 0)) :: (B4 ++ K)) ∧ OwB 22 1 (.slice qa qm qc) (acc ++ [x]).length (ux (acc ++ [x])).flatten B4 ∧ (acc ++ [x]).length = i + 1 ∧ (acc ++ [x]) ++ (pls (X - (i + 1)) τ2).1 = R1 ∧ (pls (X - (i + 1)) τ2).2 = R2) := ⟨B4, hH⟩
          clear CN hR2 hH
          refine hK.out _ _ trivial (fun hHeld => ?_)
          clear hK KK
          try simp only [List.getElem_toArray, List.getElem_cons_zero, List.getElem_cons_succ, Act.put, List.setIfInBounds_toArray, List.set_cons_zero, List.set_cons_succ]
          refine wpAnyH_take (i := 4) (v := ?_) rfl (by kernel_rfl) (by kernel_rfl) (by kernel_rfl) (fun _ _ _ h => h) (Or.inl ⟨by rfl, ?cy4⟩) (by assumption) ?cr4
          case cy4 =>
            intro w hSw
            (try dsimp only at hSw)
            go_simp
            all_goals with_reducible rfl
          try simp only [List.getElem_toArray, List.getElem_cons_zero, List.getElem_cons_succ, Act.put, List.setIfInBounds_toArray, List.set_cons_zero, List.set_cons_succ]
          refine wpAnyH_ready (rs := [1, 5]) (by kernel_rfl) (by simp) ?_
          refine AllReadyH.cons rfl (fun KK hK => ?_) (AllReadyH.cons rfl (fun KK hK => ?_) AllReadyH.nil)
          · go_simp
            refine hK.out _ _ trivial (fun hHeld => ?_)
            clear hK KK
            try simp only [List.getElem_toArray, List.getElem_cons_zero, List.getElem_cons_succ, Act.put, List.setIfInBounds_toArray, List.set_cons_zero, List.set_cons_succ]
            refine wpAnyH_ready (rs := [5]) (by kernel_rfl) (by simp) ?_
            refine AllReadyH.cons rfl (fun KK hK => ?_) AllReadyH.nil
            go_simp
            refine hK.out _ _ trivial (fun hHeld => ?_)
            clear hK KK
            try simp only [List.getElem_toArray, List.getElem_cons_zero, List.getElem_cons_succ, Act.put, List.setIfInBounds_toArray, List.set_cons_zero, List.set_cons_succ]
            refine wpAnyH_ready (rs := [6]) (by kernel_rfl) (by simp) ?_
            refine AllReadyH.cons rfl (fun KK hK => ?_) AllReadyH.nil
            refine step_append_run rfl (.tmp 78) (.tmp 82) 29 29 rfl (by simp [Act.eval]) (by simp [Act.eval]) hrun ?_
            refine hK.out _ _ trivial (fun hHeld => ?_)
            clear hK KK
            try simp only [List.getElem_toArray, List.getElem_cons_zero, List.getElem_cons_succ, Act.put, List.setIfInBounds_toArray, List.set_cons_zero, List.set_cons_succ]
            refine wpAnyH_take (i := 7) (v := ?_) rfl (by kernel_rfl) (by kernel_rfl) (by kernel_rfl) (fun _ _ _ h => h) (Or.inl ⟨by rfl, ?dy7⟩) (by assumption) ?dr7
            case dy7 =>
              intro w hSw
              (try dsimp only at hSw)
              go_simp
              all_goals with_reducible rfl
            try simp only [List.getElem_toArray, List.getElem_cons_zero, List.getElem_cons_succ, Act.put, List.setIfInBounds_toArray, List.set_cons_zero, List.set_cons_succ]
            refine wpAnyH_ready (rs := [8]) (by kernel_rfl) (by simp) ?_
            refine AllReadyH.cons rfl (fun KK hK => ?_) AllReadyH.nil
            go_simp
            refine hK.out _ _ trivial (fun hHeld => ?_)
            clear hK KK
            try simp only [List.getElem_toArray, List.getElem_cons_zero, List.getElem_cons_succ, Act.put, List.setIfInBounds_toArray, List.set_cons_zero, List.set_cons_succ]
            refine wpAnyH_done (by kernel_rfl) ?_ _
            go_wp2_with fail
            go_roundw
            case rel => exact ⟨i + 1, acc ++ [x], τ2, by omega, by go_num, _, HH⟩
            case measure => simp [intOf]; omega
          · go_simp
            refine hK.out _ _ trivial (fun hHeld => ?_)
            clear hK KK
            try simp only [List.getElem_toArray, List.getElem_cons_zero, List.getElem_cons_succ, Act.put, List.setIfInBounds_toArray, List.set_cons_zero, List.set_cons_succ]
            refine wpAnyH_ready (rs := [1]) (by kernel_rfl) (by simp) ?_
            refine AllReadyH.cons rfl (fun KK hK => ?_) AllReadyH.nil
            go_simp
            refine hK.out _ _ trivial (fun hHeld => ?_)
            clear hK KK
            try simp only [List.getElem_toArray, List.getElem_cons_zero, List.getElem_cons_succ, Act.put, List.setIfInBounds_toArray, List.set_cons_zero, List.set_cons_succ]
            refine wpAnyH_ready (rs := [6]) (by kernel_rfl) (by simp) ?_
            refine AllReadyH.cons rfl (fun KK hK => ?_) AllReadyH.nil
            refine step_append_run rfl (.tmp 78) (.tmp 82) 29 29 rfl (by simp [Act.eval]) (by simp [Act.eval]) hrun ?_
            refine hK.out _ _ trivial (fun hHeld => ?_)
            clear hK KK
            try simp only [List.getElem_toArray, List.getElem_cons_zero, List.getElem_cons_succ, Act.put, List.setIfInBounds_toArray, List.set_cons_zero, List.set_cons_succ]
            refine wpAnyH_take (i := 7) (v := ?_) rfl (by kernel_rfl) (by kernel_rfl) (by kernel_rfl) (fun _ _ _ h => h) (Or.inl ⟨by rfl, ?fy7⟩) (by assumption) ?fr7
            case fy7 =>
              intro w hSw
              (try dsimp only at hSw)
              go_simp
              all_goals with_reducible rfl
            try simp only [List.getElem_toArray, List.getElem_cons_zero, List.getElem_cons_succ, Act.put, List.setIfInBounds_toArray, List.set_cons_zero, List.set_cons_succ]
            refine wpAnyH_ready (rs := [8]) (by kernel_rfl) (by simp) ?_
            refine AllReadyH.cons rfl (fun KK hK => ?_) AllReadyH.nil
            go_simp
            refine hK.out _ _ trivial (fun hHeld => ?_)
            clear hK KK
            try simp only [List.getElem_toArray, List.getElem_cons_zero, List.getElem_cons_succ, Act.put, List.setIfInBounds_toArray, List.set_cons_zero, List.set_cons_succ]
            refine wpAnyH_done (by kernel_rfl) ?_ _
            go_wp2_with fail
            go_roundw
            case rel => exact ⟨i + 1, acc ++ [x], τ2, by omega, by go_num, _, HH⟩
            case measure => simp [intOf]; omega
    · obtain rfl : i = X := by omega
      have h1 : ¬ ((i : Int) < i) := by omega
      rw [Nat.sub_self, pls] at hp1 hp2
      simp only [List.append_nil] at hp1 hp2
      subst hp1
      subst hp2
      have HX : Hid (Rd w wr gr a l c τ ((g + 1, .cells (tc t13 pv nilV nilV).toArray 33 (0, 0)) :: (g, .cells tz 33 (0, 0)) :: (B ++ K)) ∧ OwB 22 1 pv acc.length (ux acc).flatten B) := ⟨hRd, hB⟩
      clear HR hRd hB hacc
      obtain ⟨pa, pm, pc, rfl⟩ := owb_slice HX.out.2
      have CS := rpairs2_any HX.out.1 HS.out.1 HS.out.2 Y hYb
      obtain ⟨S1, hS1⟩ : ∃ x, (prs Y τ).1 = x := ⟨_, rfl⟩
      obtain ⟨S2, hS2⟩ : ∃ x, (prs Y τ).2 = x := ⟨_, rfl⟩
      obtain ⟨T1, hT1⟩ : ∃ x, (prs Z S2).1 = x := ⟨_, rfl⟩
      obtain ⟨T2, hT2⟩ : ∃ x, (prs Z S2).2 = x := ⟨_, rfl⟩
      rw [hS1, hS2] at CS
      have HE : Hid (rt σ = ({ t13 with pool := acc, stat := S1, twi := T1 }, T2)) := by
        unfold Hid
        rw [rt, EQ.out.1, EQ.out.2.1, EQ.out.2.2.1, EQ.out.2.2.2.1, EQ.out.2.2.2.2, HRR.out.1, HRR.out.2, hS1, hS2, hT1, hT2]
      have HTT : Hid ((prs Z S2).1 = T1 ∧ (prs Z S2).2 = T2) := ⟨hT1, hT2⟩
      have HB1 : Hid (OwB 22 1 (.slice pa pm pc) acc.length (ux acc).flatten B) := HX.out.2
      clear HX hS1 hS2 hT1 hT2 EQ HRR
      go_wp2_with fail
      refine CS.mono ?_
      rintro e V20 ⟨sv, rfl, B2, hR, hB2⟩
      obtain ⟨sa, sm, sc, rfl⟩ := owb_slice hB2
      have HB2 : Hid (OwB 142 2 (.slice sa sm sc) S1.length (px S1).flatten B2) := hB2
      have hR2 := hR.perm (K' := (g + 1, .cells (tc t13 (.slice pa pm pc) nilV nilV).toArray 33 (0, 0)) :: (g, .cells tz 33 (0, 0)) :: (B2 ++ (B ++ K))) (by
        classical
        rw [List.perm_iff_count]
        intro q
        simp only [List.count_append, List.count_cons]
        omega)
      obtain ⟨v0, cv0⟩ := Option.isSome_iff_exists.mp (tc_there hR2 27 1 (by rw [List.size_toArray, tc_len HL13.out]; omega) 0 (by omega)).1
      have fr0 : ∀ j, V20.frozen? ⟨g + 1, j, none⟩ = false := by obtain ⟨j, -, hm, -⟩ := hR2; exact hm.free 1 rfl
      have hR3 := hR2.set 0 rfl 27 (.slice sa sm sc)
      rw [tc_put (t' := t13) (p' := .slice pa pm pc) (s' := .slice sa sm sc) (q' := nilV) HL13.out (by rintro n vn a b c d f g x y vt a1 b1 c1 d1 f1 g1 a2 b2 c2 d2 f2 g2 po lo hi fi st tw se qu ra bu rfl; rfl)] at hR3
      have HN : Hid (Rd w (V20.setCell ⟨g + 1, 27, none⟩ (.slice sa sm sc)) gr a l c S2 ((g + 1, .cells (tc t13 (.slice pa pm pc) (.slice sa sm sc) nilV).toArray 33 (0, 0)) :: (g, .cells tz 33 (0, 0)) :: (B2 ++ (B ++ K)))) := hR3
      clear CS hR hR2 hR3 hB2
      go_upto_region 23 with fail
      refine wp_letter (fun V => Rd w V gr a l c S2 ((g + 1, .cells (tc t13 (.slice pa pm pc) (.slice sa sm sc) nilV).toArray 33 (0, 0)) :: (g, .cells tz 33 (0, 0)) :: (B2 ++ (B ++ K)))) HN.out ?_
      intro V21 hR
      have CQ := rpairs2_any hR HS.out.1 HS.out.2 Z hZb
      rw [HTT.out.1, HTT.out.2] at CQ
      clear hR HN cv0 fr0
      go_wp2_with fail
      refine CQ.mono ?_
      rintro e V22 ⟨qv, rfl, B3, hR, hB3⟩
      obtain ⟨qa, qm, qc, rfl⟩ := owb_slice hB3
      have HB3 : Hid (OwB 142 2 (.slice qa qm qc) T1.length (px T1).flatten B3) := hB3
      have hR2 := hR.perm (K' := (g + 1, .cells (tc t13 (.slice pa pm pc) (.slice sa sm sc) nilV).toArray 33 (0, 0)) :: (g, .cells tz 33 (0, 0)) :: (B3 ++ (B2 ++ (B ++ K)))) (by
        classical
        rw [List.perm_iff_count]
        intro q
        simp only [List.count_append, List.count_cons]
        omega)
      obtain ⟨v0, cv0⟩ := Option.isSome_iff_exists.mp (tc_there hR2 28 1 (by rw [List.size_toArray, tc_len HL13.out]; omega) 0 (by omega)).1
      have fr0 : ∀ j, V22.frozen? ⟨g + 1, j, none⟩ = false := by obtain ⟨j, -, hm, -⟩ := hR2; exact hm.free 1 rfl
      have hR3 := hR2.set 0 rfl 28 (.slice qa qm qc)
      rw [tc_put (t' := t13) (p' := .slice pa pm pc) (s' := .slice sa sm sc) (q' := .slice qa qm qc) HL13.out (by rintro n vn a b c d f g x y vt a1 b1 c1 d1 f1 g1 a2 b2 c2 d2 f2 g2 po lo hi fi st tw se qu ra bu rfl; rfl)] at hR3
      have HN : Hid (Rd w (V22.setCell ⟨g + 1, 28, none⟩ (.slice qa qm qc)) gr a l c T2 ((g + 1, .cells (tc t13 (.slice pa pm pc) (.slice sa sm sc) (.slice qa qm qc)).toArray 33 (0, 0)) :: (g, .cells tz 33 (0, 0)) :: (B3 ++ (B2 ++ (B ++ K))))) := hR3
      clear CQ hR hR2 hR3 hB3
      go_upto_region 24 with fail
      refine wp_letter (fun V => Rd w V gr a l c T2 ((g + 1, .cells (tc t13 (.slice pa pm pc) (.slice sa sm sc) (.slice qa qm qc)).toArray 33 (0, 0)) :: (g, .cells tz 33 (0, 0)) :: (B3 ++ (B2 ++ (B ++ K))))) HN.out ?_
      intro V23 hR
      clear HN cv0 fr0
      obtain ⟨A, hA⟩ : ∃ A, (tc t13 (.slice pa pm pc) (.slice sa sm sc) (.slice qa qm qc)).toArray = A := ⟨_, rfl⟩
      have hone : A.all (·.oneCell') = true := by rw [← hA]; exact tc_one3 t13 rfl rfl rfl
      have hsz : A.size = 33 := by rw [← hA, List.size_toArray, tc_len HL13.out]
      rw [hA] at hR
      have k1 : V23.heap[g + 1]? = some (.cells A 33 (0, 0)) := by obtain ⟨j, -, hm, -⟩ := hR; exact hm.get 1 rfl
      have k0 : V23.heap[g]? = some (.cells tz 33 (0, 0)) := by obtain ⟨j, -, hm, -⟩ := hR; exact hm.get 2 rfl
      have i1 : (Tryz.prog.info? 33).map (·.size) = some A.size := by rw [hsz]; kernel_rfl
      have HR5 : Hid (Rd w (V23.setRow g A) gr a l c T2 (B3 ++ (B2 ++ (B ++ K))) ∧ (V23.setRow g A).heap[g]? = some (.cells A 33 (0, 0))) := by
        have h := hR.wrote 1 rfl (wrote_setRow V23 g _ A _ k0)
        refine ⟨h.subl ((List.sublist_cons_self _ _).trans (List.sublist_cons_self _ _)), ?_⟩
        obtain ⟨j, -, hm, -⟩ := h
        exact hm.get 2 rfl
      have HF : Hid (∃ B, Rd w (V23.setRow g A) gr a l c (rt σ).2 (B ++ K) ∧ TBk (.agg A) (rt σ).1 B) := by
        refine ⟨B3 ++ (B2 ++ B), ?_, ?_⟩
        · rw [HE.out]
          simpa only [List.append_assoc] using HR5.out.1
        · rw [HE.out]
          exact ⟨⟨HL13.out.key, HL13.out.vmac, HL13.out.host⟩, _, _, _, B, B2, B3, by rw [← hA]; rfl, rfl, HB1.out, HB2.out, HB3.out⟩
      clear hR hA HE HTT HB1 HB2 HB3
      go_wp2_with (first | (refine wpList_load_row rfl 33 (.tmp 3) (by with_reducible rfl) (g + 1) rfl 33 A (0, 0) _ k1 Tryz.underlying33 rfl i1 ?_) | (refine wpList_store_row rfl 33 (.tmp 2) (.tmp 93) (by with_reducible rfl) g A (by first | rfl | simp [Act.eval]) (by first | rfl | simp [Act.eval]) 33 _ k0 i1 (by rw [hsz]; rfl) hone ?_))
      refine bodyPost_ret (v := .agg A) ?_ rfl ⟨_, rfl, HF.out⟩
      exact results_cell_row (p := 2) (ty := 33) rfl _ _ g 33 _ (0, 0) _ rfl HR5.out.2 Tryz.underlying33 rfl i1
end Go.Proofs.YtngegdamcfmonaaGreat

