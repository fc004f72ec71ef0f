/-
  Settings as bytes: the document's OpenConfig.
  Settings as bytes: what is read has few elements.
-/
import Derived.Test.YtngegdamcfmonaaGreatM45
import Derived.Test.YtngegdamcfmonaaGreatM43
import Derived.Test.YtngegdamcfmonaaGreatM38
import Derived.Test.YtngegdamcfmonaaGreatM33
namespace Go.Proofs.YtngegdamcfmonaaGreat
open Go.RowKit
open Sm
open Cf
set_option linter.unusedVariables false
set_option linter.unusedSimpArgs false
set_option maxRecDepth 20000

set_option maxHeartbeats 16000000 in
theorem rocf_any {w : World} {a : Option Addr} {l : List Int} {c : Nat} (hS : Sl w a l c) (hl : l.length ≤ 1000000) :
    Calls Tryz.prog 20 #[.slice a l.length c] w (OPC w (cdec l)) := by
  obtain ⟨g, hg⟩ : ∃ g, w.heap.size = g := ⟨_, rfl⟩
  have hM0 : Mem w (w.alloc (.cells cz 28)) [(g, .cells cz 28 (0, 0))] := (Mem.nil w).push g _ hg.symm
  have HR0 : Hid (Rd w _ (g + 1) a l c (some l) ((g + 2, .cells (cc cfg0 nilV).toArray 28 (0, 0)) :: [(g, .cells cz 28 (0, 0))])) := (rd_new (a := a) (l := l) (c := c) (g := g + 1) hM0 (by simp; omega)).add (.cells cz 28 (0, 0)) (g := g + 2) (by simp; omega)
  have HS : Hid (Sl w a l c ∧ l.length ≤ 1000000) := ⟨hS, hl⟩
  obtain ⟨R, hRR⟩ : ∃ R, cdec l = R := ⟨_, rfl⟩
  rw [hRR]
  have HRR : Hid (cdec l = R) := hRR
  clear hM0 hS hl hRR
  go_enter Tryz.func20, Tryz.ntmps20
  go_upto_region 3 with fail
  refine wp_letter (fun V => Rd w V (g + 1) a l c (some l) ((g + 2, Obj.cells (cc cfg0 nilV).toArray 28 (0, 0)) :: [(g, Obj.cells cz 28 (0, 0))])) (by exact HR0.out) ?_
  intro V0 hR
  have HR : Hid (Rd w V0 (g + 1) a l c (some l) ((g + 2, .cells (cc cfg0 nilV).toArray 28 (0, 0)) :: [(g, .cells cz 28 (0, 0))])) := hR
  clear HR0 hR
  obtain ⟨t0, ht0⟩ : ∃ t, cfg0 = t := ⟨_, rfl⟩
  have HL0 : Hid (CLen t0) := by rw [← ht0]; exact cfg0_len
  have HT0 : Hid (cfg0 = t0) := ht0
  rw [show (cc cfg0 nilV) = cc t0 nilV by rw [ht0]] at HR
  clear ht0
  obtain ⟨σ0, hσ0⟩ : ∃ s, some l = s := ⟨_, rfl⟩
  have HE0 : Hid (some l = σ0) := hσ0
  rw [hσ0] at HR
  clear hσ0
  have C1 := rn_any HR.out HS.out.1 4 (by omega) HS.out.2
  have b1 := tkn 4 (HR.out.bytes HS.out.1)
  obtain ⟨x1, hx1⟩ : ∃ x, num (tk 4 σ0) = x := ⟨_, rfl⟩
  obtain ⟨σ1, hσ1⟩ : ∃ x, nx 4 σ0 = x := ⟨_, rfl⟩
  rw [hx1, hσ1] at C1
  rw [hx1] at b1
  rw [show (256 : Int) ^ 4 = 4294967296 by decide] at b1
  have w1 : IntKind.u32.wrap x1 = x1 := wraps_u32 _ b1.1 (by omega)
  have m1 : x1 % 4294967296 = x1 := by omega
  simp only [Int.cast_ofNat_Int] at C1
  have HE1 : Hid (num (tk 4 σ0) = x1 ∧ nx 4 σ0 = σ1) := ⟨hx1, hσ1⟩
  clear hx1 hσ1
  go_wp2_with fail
  refine C1.mono ?_
  rintro e V1 ⟨rfl, hR⟩
  have cc1 : ∃ v0, V1.cell? ⟨g + 2, 0, none⟩ = some v0 := by
    have h := (tc_there hR 0 1 (by rw [List.size_toArray, cc_len HL0.out]; omega) 0 (by omega)).1
    exact Option.isSome_iff_exists.mp h
  obtain ⟨v0, cc1⟩ := cc1
  have fr1 : ∀ j, V1.frozen? ⟨g + 2, j, none⟩ = false := by obtain ⟨i, -, hm, -⟩ := hR; exact hm.free 1 rfl
  have hR2 := hR.set 0 rfl 0 (.int .u32 x1)
  rw [cc_ip t0 nilV x1] at hR2
  have HN : Hid (Rd w (V1.setCell ⟨g + 2, 0, none⟩ (.int .u32 x1)) (g + 1) a l c σ1 ((g + 2, .cells (cc { t0 with ip := x1 } nilV).toArray 28 (0, 0)) :: [(g, .cells cz 28 (0, 0))])) := hR2
  clear C1 HR hR hR2
  go_upto_region 4 with fail
  refine wp_letter (fun V => Rd w V (g + 1) a l c σ1 ((g + 2, Obj.cells (cc { t0 with ip := x1 } nilV).toArray 28 (0, 0)) :: [(g, Obj.cells cz 28 (0, 0))])) (by exact HN.out) ?_
  intro V1b hR
  obtain ⟨t1, ht1⟩ : ∃ t, { t0 with ip := x1 } = t := ⟨_, rfl⟩
  have HL1 : Hid (CLen t1) := by rw [← ht1]; exact ⟨HL0.out.mac, HL0.out.omac, HL0.out.nmac, HL0.out.key⟩
  have HT1 : Hid ({ t0 with ip := x1 } = t1) := ht1
  rw [ht1] at hR
  have HR : Hid (Rd w V1b (g + 1) a l c σ1 ((g + 2, .cells (cc t1 nilV).toArray 28 (0, 0)) :: [(g, .cells cz 28 (0, 0))])) := hR
  clear hR HN ht1 HL0 cc1 fr1
  have C2 := rmac_any HR.out HS.out.1 HS.out.2
  have l2 := tk_len 6 σ1
  obtain ⟨x2, hx2⟩ : ∃ x, tk 6 σ1 = x := ⟨_, rfl⟩
  obtain ⟨σ2, hσ2⟩ : ∃ x, nx 6 σ1 = x := ⟨_, rfl⟩
  rw [hx2, hσ2] at C2
  rw [hx2] at l2
  have HE2 : Hid (tk 6 σ1 = x2 ∧ nx 6 σ1 = σ2) := ⟨hx2, hσ2⟩
  clear hx2 hσ2
  obtain ⟨A2, hA2⟩ : ∃ A, (x2.map (Value.int .u8)).toArray = A := ⟨_, rfl⟩
  rw [hA2] at C2
  have HA2 : Hid ((x2.map (Value.int .u8)).toArray = A2) := hA2
  have sz2 : A2.size = 6 := by rw [← hA2]; simp [l2]
  have on2 : A2.all (·.oneCell') = true := by rw [← hA2]; exact all_oneCell_toArray (ints_oneCell _ _)
  have ii2 : (Tryz.prog.info? 24).map (·.size) = some A2.size := by rw [sz2]; kernel_rfl
  clear hA2
  go_wp2_with fail
  refine C2.mono ?_
  rintro e V2 ⟨rfl, hR⟩
  have th2 := tc_there hR 1 A2.size (by rw [sz2, List.size_toArray, cc_len HL1.out]; omega)
  have hR2 := hR.setCells A2.toList 1
  rw [show A2.toList = x2.map (Value.int .u8) by rw [← HA2.out], cc_mac t1 _ _ HL1.out l2] at hR2
  have HN : Hid (Rd w (V2.setCells (g + 2) 1 A2.toList) (g + 1) a l c σ2 ((g + 2, .cells (cc { t1 with mac := x2 } nilV).toArray 28 (0, 0)) :: [(g, .cells cz 28 (0, 0))])) := by rw [show A2.toList = x2.map (Value.int .u8) by rw [← HA2.out]]; exact hR2
  clear C2 HR hR hR2
  go_upto_region 5 with (refine wpList_store_mid rfl 24 (.tmp 18) (.tmp 17) (by with_reducible rfl) (g + 2) 1 A2 (by first | rfl | simp [Act.eval]) (by first | rfl | simp [Act.eval]) th2 ii2 on2 ?_)
  refine wp_letter (fun V => Rd w V (g + 1) a l c σ2 ((g + 2, Obj.cells (cc { t1 with mac := x2 } nilV).toArray 28 (0, 0)) :: [(g, Obj.cells cz 28 (0, 0))])) (by exact HN.out) ?_
  intro V2b hR
  obtain ⟨t2, ht2⟩ : ∃ t, { t1 with mac := x2 } = t := ⟨_, rfl⟩
  have HL2 : Hid (CLen t2) := by rw [← ht2]; exact ⟨l2, HL1.out.omac, HL1.out.nmac, HL1.out.key⟩
  have HT2 : Hid ({ t1 with mac := x2 } = t2) := ht2
  rw [ht2] at hR
  have HR : Hid (Rd w V2b (g + 1) a l c σ2 ((g + 2, .cells (cc t2 nilV).toArray 28 (0, 0)) :: [(g, .cells cz 28 (0, 0))])) := hR
  clear hR HN ht2 HL1 th2 HA2 sz2 on2 ii2
  have C3 := rmac_any HR.out HS.out.1 HS.out.2
  have l3 := tk_len 6 σ2
  obtain ⟨x3, hx3⟩ : ∃ x, tk 6 σ2 = x := ⟨_, rfl⟩
  obtain ⟨σ3, hσ3⟩ : ∃ x, nx 6 σ2 = x := ⟨_, rfl⟩
  rw [hx3, hσ3] at C3
  rw [hx3] at l3
  have HE3 : Hid (tk 6 σ2 = x3 ∧ nx 6 σ2 = σ3) := ⟨hx3, hσ3⟩
  clear hx3 hσ3
  obtain ⟨A3, hA3⟩ : ∃ A, (x3.map (Value.int .u8)).toArray = A := ⟨_, rfl⟩
  rw [hA3] at C3
  have HA3 : Hid ((x3.map (Value.int .u8)).toArray = A3) := hA3
  have sz3 : A3.size = 6 := by rw [← hA3]; simp [l3]
  have on3 : A3.all (·.oneCell') = true := by rw [← hA3]; exact all_oneCell_toArray (ints_oneCell _ _)
  have ii3 : (Tryz.prog.info? 24).map (·.size) = some A3.size := by rw [sz3]; kernel_rfl
  clear hA3
  go_wp2_with fail
  refine C3.mono ?_
  rintro e V3 ⟨rfl, hR⟩
  have th3 := tc_there hR 7 A3.size (by rw [sz3, List.size_toArray, cc_len HL2.out]; omega)
  have hR2 := hR.setCells A3.toList 7
  rw [show A3.toList = x3.map (Value.int .u8) by rw [← HA3.out], cc_omac t2 _ _ HL2.out l3] at hR2
  have HN : Hid (Rd w (V3.setCells (g + 2) 7 A3.toList) (g + 1) a l c σ3 ((g + 2, .cells (cc { t2 with omac := x3 } nilV).toArray 28 (0, 0)) :: [(g, .cells cz 28 (0, 0))])) := by rw [show A3.toList = x3.map (Value.int .u8) by rw [← HA3.out]]; exact hR2
  clear C3 HR hR hR2
  go_upto_region 6 with (refine wpList_store_mid rfl 24 (.tmp 21) (.tmp 20) (by with_reducible rfl) (g + 2) 7 A3 (by first | rfl | simp [Act.eval]) (by first | rfl | simp [Act.eval]) th3 ii3 on3 ?_)
  refine wp_letter (fun V => Rd w V (g + 1) a l c σ3 ((g + 2, Obj.cells (cc { t2 with omac := x3 } nilV).toArray 28 (0, 0)) :: [(g, Obj.cells cz 28 (0, 0))])) (by exact HN.out) ?_
  intro V3b hR
  obtain ⟨t3, ht3⟩ : ∃ t, { t2 with omac := x3 } = t := ⟨_, rfl⟩
  have HL3 : Hid (CLen t3) := by rw [← ht3]; exact ⟨HL2.out.mac, l3, HL2.out.nmac, HL2.out.key⟩
  have HT3 : Hid ({ t2 with omac := x3 } = t3) := ht3
  rw [ht3] at hR
  have HR : Hid (Rd w V3b (g + 1) a l c σ3 ((g + 2, .cells (cc t3 nilV).toArray 28 (0, 0)) :: [(g, .cells cz 28 (0, 0))])) := hR
  clear hR HN ht3 HL2 th3 HA3 sz3 on3 ii3
  have C4 := rmac_any HR.out HS.out.1 HS.out.2
  have l4 := tk_len 6 σ3
  obtain ⟨x4, hx4⟩ : ∃ x, tk 6 σ3 = x := ⟨_, rfl⟩
  obtain ⟨σ4, hσ4⟩ : ∃ x, nx 6 σ3 = x := ⟨_, rfl⟩
  rw [hx4, hσ4] at C4
  rw [hx4] at l4
  have HE4 : Hid (tk 6 σ3 = x4 ∧ nx 6 σ3 = σ4) := ⟨hx4, hσ4⟩
  clear hx4 hσ4
  obtain ⟨A4, hA4⟩ : ∃ A, (x4.map (Value.int .u8)).toArray = A := ⟨_, rfl⟩
  rw [hA4] at C4
  have HA4 : Hid ((x4.map (Value.int .u8)).toArray = A4) := hA4
  have sz4 : A4.size = 6 := by rw [← hA4]; simp [l4]
  have on4 : A4.all (·.oneCell') = true := by rw [← hA4]; exact all_oneCell_toArray (ints_oneCell _ _)
  have ii4 : (Tryz.prog.info? 24).map (·.size) = some A4.size := by rw [sz4]; kernel_rfl
  clear hA4
  go_wp2_with fail
  refine C4.mono ?_
  rintro e V4 ⟨rfl, hR⟩
  have th4 := tc_there hR 13 A4.size (by rw [sz4, List.size_toArray, cc_len HL3.out]; omega)
  have hR2 := hR.setCells A4.toList 13
  rw [show A4.toList = x4.map (Value.int .u8) by rw [← HA4.out], cc_nmac t3 _ _ HL3.out l4] at hR2
  have HN : Hid (Rd w (V4.setCells (g + 2) 13 A4.toList) (g + 1) a l c σ4 ((g + 2, .cells (cc { t3 with nmac := x4 } nilV).toArray 28 (0, 0)) :: [(g, .cells cz 28 (0, 0))])) := by rw [show A4.toList = x4.map (Value.int .u8) by rw [← HA4.out]]; exact hR2
  clear C4 HR hR hR2
  go_upto_region 7 with (refine wpList_store_mid rfl 24 (.tmp 24) (.tmp 23) (by with_reducible rfl) (g + 2) 13 A4 (by first | rfl | simp [Act.eval]) (by first | rfl | simp [Act.eval]) th4 ii4 on4 ?_)
  refine wp_letter (fun V => Rd w V (g + 1) a l c σ4 ((g + 2, Obj.cells (cc { t3 with nmac := x4 } nilV).toArray 28 (0, 0)) :: [(g, Obj.cells cz 28 (0, 0))])) (by exact HN.out) ?_
  intro V4b hR
  obtain ⟨t4, ht4⟩ : ∃ t, { t3 with nmac := x4 } = t := ⟨_, rfl⟩
  have HL4 : Hid (CLen t4) := by rw [← ht4]; exact ⟨HL3.out.mac, HL3.out.omac, l4, HL3.out.key⟩
  have HT4 : Hid ({ t3 with nmac := x4 } = t4) := ht4
  rw [ht4] at hR
  have HR : Hid (Rd w V4b (g + 1) a l c σ4 ((g + 2, .cells (cc t4 nilV).toArray 28 (0, 0)) :: [(g, .cells cz 28 (0, 0))])) := hR
  clear hR HN ht4 HL3 th4 HA4 sz4 on4 ii4
  have C5 := rkey_any HR.out HS.out.1 HS.out.2
  have l5 := tk_len 8 σ4
  obtain ⟨x5, hx5⟩ : ∃ x, tk 8 σ4 = x := ⟨_, rfl⟩
  obtain ⟨σ5, hσ5⟩ : ∃ x, nx 8 σ4 = x := ⟨_, rfl⟩
  rw [hx5, hσ5] at C5
  rw [hx5] at l5
  have HE5 : Hid (tk 8 σ4 = x5 ∧ nx 8 σ4 = σ5) := ⟨hx5, hσ5⟩
  clear hx5 hσ5
  obtain ⟨A5, hA5⟩ : ∃ A, (x5.map (Value.int .u8)).toArray = A := ⟨_, rfl⟩
  rw [hA5] at C5
  have HA5 : Hid ((x5.map (Value.int .u8)).toArray = A5) := hA5
  have sz5 : A5.size = 8 := by rw [← hA5]; simp [l5]
  have on5 : A5.all (·.oneCell') = true := by rw [← hA5]; exact all_oneCell_toArray (ints_oneCell _ _)
  have ii5 : (Tryz.prog.info? 25).map (·.size) = some A5.size := by rw [sz5]; kernel_rfl
  clear hA5
  go_wp2_with fail
  refine C5.mono ?_
  rintro e V5 ⟨rfl, hR⟩
  have th5 := tc_there hR 19 A5.size (by rw [sz5, List.size_toArray, cc_len HL4.out]; omega)
  have hR2 := hR.setCells A5.toList 19
  rw [show A5.toList = x5.map (Value.int .u8) by rw [← HA5.out], cc_key t4 _ _ HL4.out l5] at hR2
  have HN : Hid (Rd w (V5.setCells (g + 2) 19 A5.toList) (g + 1) a l c σ5 ((g + 2, .cells (cc { t4 with key := x5 } nilV).toArray 28 (0, 0)) :: [(g, .cells cz 28 (0, 0))])) := by rw [show A5.toList = x5.map (Value.int .u8) by rw [← HA5.out]]; exact hR2
  clear C5 HR hR hR2
  go_upto_region 8 with (refine wpList_store_mid rfl 25 (.tmp 27) (.tmp 26) (by with_reducible rfl) (g + 2) 19 A5 (by first | rfl | simp [Act.eval]) (by first | rfl | simp [Act.eval]) th5 ii5 on5 ?_)
  refine wp_letter (fun V => Rd w V (g + 1) a l c σ5 ((g + 2, Obj.cells (cc { t4 with key := x5 } nilV).toArray 28 (0, 0)) :: [(g, Obj.cells cz 28 (0, 0))])) (by exact HN.out) ?_
  intro V5b hR
  obtain ⟨t5, ht5⟩ : ∃ t, { t4 with key := x5 } = t := ⟨_, rfl⟩
  have HL5 : Hid (CLen t5) := by rw [← ht5]; exact ⟨HL4.out.mac, HL4.out.omac, HL4.out.nmac, l5⟩
  have HT5 : Hid ({ t4 with key := x5 } = t5) := ht5
  rw [ht5] at hR
  have HR : Hid (Rd w V5b (g + 1) a l c σ5 ((g + 2, .cells (cc t5 nilV).toArray 28 (0, 0)) :: [(g, .cells cz 28 (0, 0))])) := hR
  clear hR HN ht5 HL4 th5 HA5 sz5 on5 ii5
  have C6 := rn_any HR.out HS.out.1 4 (by omega) HS.out.2
  have b6 := tkn 4 (HR.out.bytes HS.out.1)
  obtain ⟨x6, hx6⟩ : ∃ x, num (tk 4 σ5) = x := ⟨_, rfl⟩
  obtain ⟨σ6, hσ6⟩ : ∃ x, nx 4 σ5 = x := ⟨_, rfl⟩
  rw [hx6, hσ6] at C6
  rw [hx6] at b6
  rw [show (256 : Int) ^ 4 = 4294967296 by decide] at b6
  have w6 : IntKind.u32.wrap x6 = x6 := wraps_u32 _ b6.1 (by omega)
  have m6 : x6 % 4294967296 = x6 := by omega
  simp only [Int.cast_ofNat_Int] at C6
  have HE6 : Hid (num (tk 4 σ5) = x6 ∧ nx 4 σ5 = σ6) := ⟨hx6, hσ6⟩
  clear hx6 hσ6
  go_wp2_with fail
  refine C6.mono ?_
  rintro e V6 ⟨rfl, hR⟩
  have cc6 : ∃ v0, V6.cell? ⟨g + 2, 27, none⟩ = some v0 := by
    have h := (tc_there hR 27 1 (by rw [List.size_toArray, cc_len HL5.out]; omega) 0 (by omega)).1
    exact Option.isSome_iff_exists.mp h
  obtain ⟨v0, cc6⟩ := cc6
  have fr6 : ∀ j, V6.frozen? ⟨g + 2, j, none⟩ = false := by obtain ⟨i, -, hm, -⟩ := hR; exact hm.free 1 rfl
  have hR2 := hR.set 0 rfl 27 (.int .u32 x6)
  rw [cc_drain t5 nilV x6 HL5.out] at hR2
  have HN : Hid (Rd w (V6.setCell ⟨g + 2, 27, none⟩ (.int .u32 x6)) (g + 1) a l c σ6 ((g + 2, .cells (cc { t5 with drain := x6 } nilV).toArray 28 (0, 0)) :: [(g, .cells cz 28 (0, 0))])) := hR2
  clear C6 HR hR hR2
  go_upto_region 9 with fail
  refine wp_letter (fun V => Rd w V (g + 1) a l c σ6 ((g + 2, Obj.cells (cc { t5 with drain := x6 } nilV).toArray 28 (0, 0)) :: [(g, Obj.cells cz 28 (0, 0))])) (by exact HN.out) ?_
  intro V6b hR
  obtain ⟨t6, ht6⟩ : ∃ t, { t5 with drain := x6 } = t := ⟨_, rfl⟩
  have HL6 : Hid (CLen t6) := by rw [← ht6]; exact ⟨HL5.out.mac, HL5.out.omac, HL5.out.nmac, HL5.out.key⟩
  have HT6 : Hid ({ t5 with drain := x6 } = t6) := ht6
  rw [ht6] at hR
  have HR : Hid (Rd w V6b (g + 1) a l c σ6 ((g + 2, .cells (cc t6 nilV).toArray 28 (0, 0)) :: [(g, .cells cz 28 (0, 0))])) := hR
  clear hR HN ht6 HL5 cc6 fr6
  have C7 := rn_any HR.out HS.out.1 1 (by omega) HS.out.2
  have b7 := tkn 1 (HR.out.bytes HS.out.1)
  obtain ⟨n, hn⟩ : ∃ n : Nat, (num (tk 1 σ6)).toNat = n := ⟨_, rfl⟩
  have hn2 : num (tk 1 σ6) = (n : Int) := by omega
  rw [hn2] at C7 b7
  obtain ⟨σ7, hσ7⟩ : ∃ s, nx 1 σ6 = s := ⟨_, rfl⟩
  rw [hσ7] at C7
  have hn3 : n ≤ 255 := by rw [show (256 : Int) ^ 1 = 256 by decide] at b7; omega
  have w7 : IntKind.i64.wrap (n : Int) = n := wrap64n (by omega) (by omega)
  obtain ⟨R1, hR1⟩ : ∃ R, (trs n σ7).1 = R := ⟨_, rfl⟩
  obtain ⟨R2, hR2⟩ : ∃ R, (trs n σ7).2 = R := ⟨_, rfl⟩
  have HRC0 : R = cwhole R2 { t6 with ten := R1 } := by
    rw [← HRR.out, cdec_whole]
    have e : rc (some l) = ({ t6 with ten := R1 }, R2) := by
      simp only [rc, c7, c6, c5, c4, c3, c2, c1, HE0.out, HE1.out.1, HE1.out.2, HE2.out.1, HE2.out.2, HE3.out.1, HE3.out.2, HE4.out.1, HE4.out.2, HE5.out.1, HE5.out.2, HE6.out.1, HE6.out.2, hn, hσ7, hR1, hR2, ← HT6.out, ← HT5.out, ← HT4.out, ← HT3.out, ← HT2.out, ← HT1.out]
    rw [e]
  have HRC : Hid (R = cwhole R2 { t6 with ten := R1 }) := HRC0
  clear HRC0 HRR
  have HF0 : Hid ((trs (n - 0) σ7).1 = R1 ∧ (trs (n - 0) σ7).2 = R2) := ⟨hR1, hR2⟩
  simp only [Int.cast_ofNat_Int] at C7
  clear hn hn2 hσ7 hR1 hR2 b7 HE0 HE1 HE2 HE3 HE4 HE5 HE6 HT0 HT1 HT2 HT3 HT4 HT5 HT6 HR
  go_wp2_with fail
  refine C7.mono ?_
  rintro e V7 ⟨rfl, hR⟩
  have H0 : Hid (∃ B C, Rd w V7 (g + 1) a l c σ7 ((g + 2, .cells (cc t6 nilV).toArray 28 (0, 0)) :: (g, .cells cz 28 (0, 0)) :: (B ++ C)) ∧ TsB nilV [] B C ∧ ([] : List Ten).length = 0 ∧ [] ++ (trs (n - 0) σ7).1 = R1 ∧ (trs (n - 0) σ7).2 = R2) := ⟨[], [], hR, tsb_nil, rfl, HF0.out.1, HF0.out.2⟩
  clear C7 hR HF0
  go_upto_region 11 with fail
  go_loopw [7] (fun u7 w' => ∃ (i : Nat) (ts : List Ten) (τ : Option (List Int)) (u : Value), i ≤ n ∧ u7 = .int .i64 i ∧ Hid (∃ B C, Rd w w' (g + 1) a l c τ ((g + 2, .cells (cc t6 u).toArray 28 (0, 0)) :: (g, .cells cz 28 (0, 0)) :: (B ++ C)) ∧ TsB u ts B C ∧ ts.length = i ∧ ts ++ (trs (n - i) τ).1 = R1 ∧ (trs (n - i) τ).2 = R2)) (fun u7 w' => n - (intOf u7).toNat)
  case atStart => exact ⟨0, [], σ7, nilV, Nat.zero_le _, rfl, H0⟩
  case round =>
    obtain ⟨i, ts, τ, u, hi, rfl, HR⟩ := hrel
    clear H0
    obtain ⟨B, C, hRd, hB, hacc, hp1, hp2⟩ := HR.out
    have cbad : wr.cell? ⟨g + 1, 2, none⟩ = some (.bool τ.isNone) := by
      obtain ⟨j, -, hm, -⟩ := hRd
      exact hm.cell 0 rfl 2
    have hbt := build_C
    by_cases hlt : i < n
    · have h1 : (i : Int) < n := by omega
      cases τ with
      | none =>
        simp only [Option.isNone_none] at cbad
        have e : n - i = (n - i - 1) + 1 := by omega
        rw [e, trs] at hp1 hp2
        simp only [List.append_nil] at hp1 hp2
        subst hp1
        subst hp2
        have hR : Hid (R = none) := HRC.out
        obtain ⟨i9, hi9, hm, hr⟩ := hRd
        have hg3 := hm.get 2 rfl
        have hM4 := hm.wrote 2 rfl (wrote_setRow wr g cz cz _ hg3)
        have hgz := hM4.get 2 rfl
        have hz := hM4.below
        clear HR hm hM4 hB hacc HRC hr
        go_wp2_with (refine wpList_store_row rfl 28 (.tmp 2) (.tmp 68) (by with_reducible rfl) g cz (by simp [Act.eval]) (by simp [Act.eval]; rfl) 28 cz hg3 (by kernel_rfl) rfl (by kernel_rfl) ?_)
        refine bodyPost_ret (v := .tuple #[.agg cz, .int .i64 70]) ?_ rfl (by rw [hR.out]; exact ⟨hz, rfl⟩)
        exact results_two' (p := 2) (q := 3) (ty := 28) rfl _ _ g cz rfl (run_loadVar_row _ _ 28 28 _ (0, 0) _ hgz Tryz.underlying28 rfl (by kernel_rfl))
      | some r =>
        simp only [Option.isNone_some] at cbad
        have e : n - i = (n - (i + 1)) + 1 := by omega
        rw [e, trs] at hp1 hp2
        simp only at hp1 hp2
        have CN := rten_any hRd HS.out.1 HS.out.2
        obtain ⟨t, ht⟩ : ∃ t, (rt (some r)).1 = t := ⟨_, rfl⟩
        obtain ⟨τ2, hτ⟩ : ∃ t, (rt (some r)).2 = t := ⟨_, rfl⟩
        rw [ht, hτ] at hp1 CN
        rw [hτ] at hp2
        have HP : Hid (ts.length = i ∧ TsB u ts B C ∧ ts ++ (t :: (trs (n - (i + 1)) τ2).1) = R1 ∧ (trs (n - (i + 1)) τ2).2 = R2) := ⟨hacc, hB, hp1, hp2⟩
        clear HR hRd hB hacc hp1 hp2 ht hτ
        go_wp2_with fail
        refine CN.mono ?_
        rintro e V1 ⟨v, rfl, B2, hR1, hT⟩
        obtain ⟨z, hzt, rfl, hZ⟩ := tbk_zb hT
        have hz33 : (zc z).length = 33 := tc_len hZ.1 _ _ _
        have hzo := zb_one hZ
        have hbs := bsliceT z hZ.1
        have HZ : Hid (ZB z B2 ∧ z.1 = t) := ⟨hZ, hzt⟩
        obtain ⟨A, hA⟩ : ∃ A, (zc z).toArray = A := ⟨_, rfl⟩
        have hAs : A.size = 33 := by rw [← hA, List.size_toArray, hz33]
        have hAo : A.all (·.oneCell') = true := by rw [← hA]; exact all_oneCell_toArray hzo
        have i33 : (Tryz.prog.info? 33).map (·.size) = some A.size := by rw [hAs]; kernel_rfl
        rw [hA] at hbs ⊢
        have HA : Hid ((zc z).toArray = A) := hA
        have HN : Hid (Rd w (V1.alloc (.cells A 33 (0, 0))) (g + 1) a l c τ2 ((V1.heap.size, .cells A 33 (0, 0)) :: (g + 2, .cells (cc t6 u).toArray 28 (0, 0)) :: (g, .cells cz 28 (0, 0)) :: (B ++ (B2 ++ C)))) := (hR1.add (.cells A 33 (0, 0)) rfl).perm (by
          classical
          rw [List.perm_iff_count]
          intro q
          simp only [List.count_cons, List.count_append]
          omega)
        clear CN hR1 hT hzt hZ hA hzo hz33 cbad
        go_upto_region 14 with (refine wpList_store_row rfl 33 (.tmp 8) (.tmp 48) (by with_reducible rfl) V1.heap.size A rfl rfl 33 _ (heap_alloc_new V1 _) i33 (by rw [hAs]; rfl) hAo ?_)
        refine wp_letter (fun V => Rd w V (g + 1) a l c τ2 ((V1.heap.size, .cells A 33 (0, 0)) :: (g + 2, .cells (cc t6 u).toArray 28 (0, 0)) :: (g, .cells cz 28 (0, 0)) :: (B ++ (B2 ++ C)))) (by
          rw [World.setRow_alloc_new]
          exact HN.out) ?_
        intro V2 hR2
        obtain ⟨gb, hgb⟩ : ∃ x, V1.heap.size = x := ⟨_, rfl⟩
        rw [hgb] at hR2
        simp only [hgb]
        clear HN hgb
        have kb : V2.heap[gb]? = some (.cells A 33 (0, 0)) := by obtain ⟨j, -, hm, -⟩ := hR2; exact hm.get 1 rfl
        have cu : V2.cell? ⟨g + 2, 28, none⟩ = some u := by
          obtain ⟨j, -, hm, -⟩ := hR2
          rw [hm.cell 2 rfl 28]
          exact cc_at28 HL6.out u
        have hR3 : Rd w (V2.alloc (.cells A 33)) (g + 1) a l c τ2 (B ++ ((g + 2, .cells (cc t6 u).toArray 28 (0, 0)) :: (g, .cells cz 28 (0, 0)) :: (B2 ++ C))) := ((hR2.subl (List.sublist_cons_self _ _)).perm (by
          classical
          rw [List.perm_iff_count]
          intro q
          simp only [List.count_cons, List.count_append]
          omega)).after ((Below.refl V2.heap.size V2).alloc (Nat.le_refl _) (.cells A 33 (0, 0)))
        obtain ⟨v4, V4, B4, hrun, hR4, hB4⟩ := tsb_append (ty := 26) (C := B2 ++ C) (z := z) hR3 (HP.out.2.1.moreC (fun x hx => List.mem_append_right _ hx)) (HZ.out.1.more (fun x hx => List.mem_append_left _ hx)) ⟨V2.heap.size, 0, none⟩ (fun j x hj => by
          rw [addr_mid, Nat.zero_add, World.cell?_alloc_new, ← HA.out]
          simpa using hj) (by have := HP.out.1; omega)
        rw [HZ.out.2] at hB4
        obtain ⟨av, mv, cv, rfl⟩ : ∃ a m c, v4 = .slice a m c := by
          obtain ⟨zs, -, ho, -⟩ := hB4
          exact owb_slice ho
        have hR5 := (hR4.perm (K' := (g + 2, .cells (cc t6 u).toArray 28 (0, 0)) :: (g, .cells cz 28 (0, 0)) :: (B4 ++ (B2 ++ C))) (by
          classical
          rw [List.perm_iff_count]
          intro q
          simp only [List.count_cons, List.count_append]
          omega))
        have fr : ∀ j, V4.frozen? ⟨g + 2, j, none⟩ = false := by obtain ⟨j, -, hm, -⟩ := hR5; exact hm.free 1 rfl
        have cu4 : V4.cell? ⟨g + 2, 28, none⟩ = some u := by
          obtain ⟨j, -, hm, -⟩ := hR5
          rw [hm.cell 1 rfl 28]
          exact cc_at28 HL6.out u
        have hR6 := hR5.set 0 rfl 28 (.slice av mv cv)
        rw [cc_ten t6 u (.slice av mv cv) HL6.out] at hR6
        have HH : Hid (∃ B C, Rd w (V4.setCell ⟨g + 2, 28, none⟩ (.slice av mv cv)) (g + 1) a l c τ2 ((g + 2, .cells (cc t6 (.slice av mv cv)).toArray 28 (0, 0)) :: (g, .cells cz 28 (0, 0)) :: (B ++ C)) ∧ TsB (.slice av mv cv) (ts ++ [t]) B C ∧ (ts ++ [t]).length = i + 1 ∧ (ts ++ [t]) ++ (trs (n - (i + 1)) τ2).1 = R1 ∧ (trs (n - (i + 1)) τ2).2 = R2) :=
          ⟨B4, B2 ++ C, hR6, hB4, by simp [HP.out.1], by rw [List.append_assoc]; exact HP.out.2.2.1, HP.out.2.2.2⟩
        have hbs2 := hbs V2
        clear hR2 hR3 hR4 hR5 hR6 hB4 HP HZ HA hbs
        go_wp2_with (first | (refine wpList_load_row_g rfl 33 (.tmp 8) (by with_reducible rfl) gb rfl 33 A (0, 0) _ kb Tryz.underlying33 i33 ?_) | (refine wpList_bsl rfl 26 1 _ (by with_reducible rfl) hbs2 (by kernel_rfl) ?_) | (at_builtin; refine wpList_append_run (.tmp 50) (.tmp 52) 26 26 (by with_reducible rfl) hrun rfl rfl (by first | rfl | simp [Act.eval]) (by first | rfl | simp [Act.eval]) ?_) | fail)
        go_roundw
        case rel => exact ⟨i + 1, ts ++ [t], τ2, .slice av mv cv, by omega, by go_num, HH⟩
        case measure => simp [intOf]; omega
    · obtain rfl : i = n := by omega
      have h1 : ¬ ((i : Int) < i) := by omega
      rw [Nat.sub_self, trs] at hp1 hp2
      simp only [List.append_nil] at hp1 hp2
      subst hp1
      subst hp2
      have hR0 : R = cwhole τ { t6 with ten := ts } := HRC.out
      obtain ⟨A, hA⟩ : ∃ A, (cc t6 u).toArray = A := ⟨_, rfl⟩
      have hsz : A.size = 29 := by rw [← hA, List.size_toArray]; exact cc_len HL6.out _
      have hone : A.all (·.oneCell') = true := by
        rw [← hA]
        obtain ⟨zs, -, ho, -⟩ := hB
        exact cc_one _ (owb_one ho)
      have i29 : (Tryz.prog.info? 28).map (·.size) = some A.size := by rw [hsz]; kernel_rfl
      have HV0 : ∀ V, Mem w V (B ++ C) → Hid (CVs w.heap.size V (.agg A) { t6 with ten := ts }) := fun V hM => by
        rw [← hA]
        exact cvs_tsb (c := { t6 with ten := ts }) ⟨HL6.out.mac, HL6.out.omac, HL6.out.nmac, HL6.out.key⟩ hB hM
      rw [hA] at hRd
      obtain ⟨i9, hi9, hm, hr⟩ := hRd
      have cb := hm.cell 0 rfl 2
      have ci := hm.cell 0 rfl 1
      simp only [List.getElem?_toArray, List.getElem?_cons_succ, List.getElem?_cons_zero] at cb ci
      have hg3 := hm.get 2 rfl
      have hk3 := hm.get 1 rfl
      have hM4 := hm.wrote 2 rfl (wrote_setRow wr g cz cz _ hg3)
      have hM5 := hm.wrote 2 rfl (wrote_setRow wr g cz A _ hg3)
      have hgz := hM4.get 2 rfl
      have hgA := hM5.get 2 rfl
      have hz := hM4.below
      have hzA := hM5.below
      have HV := HV0 _ hM5.sub.sub.sub
      clear HR hm hM4 hM5 HV0 hB hacc HRC cbad hA
      cases τ with
      | none =>
        have hR : Hid (R = none) := hR0
        clear hR0
        go_wp2_with (refine wpList_store_row rfl 28 (.tmp 2) (.tmp 68) (by with_reducible rfl) g cz (by simp [Act.eval]) (by simp [Act.eval]; rfl) 28 cz hg3 (by kernel_rfl) rfl (by kernel_rfl) ?_)
        refine bodyPost_ret (v := .tuple #[.agg cz, .int .i64 70]) ?_ rfl (by rw [hR.out]; exact ⟨hz, rfl⟩)
        exact results_two' (p := 2) (q := 3) (ty := 28) rfl _ _ g cz rfl (run_loadVar_row _ _ 28 28 _ (0, 0) _ hgz Tryz.underlying28 rfl (by kernel_rfl))
      | some r =>
        have er := hr r rfl
        cases r with
        | cons b r =>
          have hR : Hid (R = none) := hR0
          clear hR0
          have hne : ¬ ((i9 : Int) = (l.length : Int)) := by
            intro e
            have : l.length ≤ i9 := by omega
            rw [List.drop_eq_nil_of_le this] at er
            cases er
          clear er hr
          go_wp2_with (refine wpList_store_row rfl 28 (.tmp 2) (.tmp 68) (by with_reducible rfl) g cz (by simp [Act.eval]) (by simp [Act.eval]; rfl) 28 cz hg3 (by kernel_rfl) rfl (by kernel_rfl) ?_)
          refine bodyPost_ret (v := .tuple #[.agg cz, .int .i64 70]) ?_ rfl (by rw [hR.out]; exact ⟨hz, rfl⟩)
          exact results_two' (p := 2) (q := 3) (ty := 28) rfl _ _ g cz rfl (run_loadVar_row _ _ 28 28 _ (0, 0) _ hgz Tryz.underlying28 rfl (by kernel_rfl))
        | nil =>
          have hR : Hid (R = some { t6 with ten := ts }) := hR0
          clear hR0
          have he : i9 = l.length := by
            have := congrArg List.length er
            rw [List.length_drop, List.length_nil] at this
            omega
          subst he
          clear er hr
          go_wp2_with (first | (refine wpList_load_row rfl 28 (.tmp 5) (by with_reducible rfl) (g + 2) (by first | rfl | simp [Act.eval]) 28 A (0, 0) _ hk3 Tryz.underlying28 rfl i29 ?_) | (refine wpList_store_row rfl 28 (.tmp 2) (.tmp 69) (by with_reducible rfl) g A (by first | rfl | simp [Act.eval]) (by first | rfl | simp [Act.eval]) 28 cz hg3 i29 (by rw [hsz]; rfl) hone ?_))
          refine bodyPost_ret (v := .tuple #[.agg A, .int .i64 0]) ?_ rfl (by rw [hR.out]; exact ⟨hzA, ⟨_, rfl, HV.out⟩⟩)
          exact results_two' (p := 2) (q := 3) (ty := 28) rfl _ _ g A rfl (run_loadVar_row _ _ 28 28 _ (0, 0) _ hgA Tryz.underlying28 rfl i29)
end Go.Proofs.YtngegdamcfmonaaGreat

namespace Go.Proofs.YtngegdamcfmonaaGreat
open Go.RowKit
open Sm
open Cf
set_option linter.unusedVariables false
set_option linter.unusedSimpArgs false
set_option maxRecDepth 20000

/-- What is left is bytes. -/
def BYs (σ : Option (List Int)) : Prop := ∀ r, σ = some r → IsBytes r
theorem bys_nx {σ : Option (List Int)} (h : BYs σ) (n : Nat) : BYs (nx n σ) := by
  intro r hr
  cases σ with
  | none => cases hr
  | some q =>
    simp only [nx] at hr
    split at hr
    · simp only [Option.some.injEq] at hr
      rw [← hr]
      exact bytes_dr (h q rfl) n
    · cases hr
theorem pls_len : ∀ (n : Nat) (σ : Option (List Int)), (pls n σ).1.length ≤ n
  | 0, σ => by simp [pls]
  | n + 1, none => by simp [pls]
  | n + 1, some r => by
    have := pls_len n (nx 4 (some r))
    simp only [pls, List.length_cons]
    omega
theorem prs_len : ∀ (n : Nat) (σ : Option (List Int)), (prs n σ).1.length ≤ n
  | 0, σ => by simp [prs]
  | n + 1, none => by simp [prs]
  | n + 1, some r => by
    have := prs_len n (nx 4 (nx 4 (some r)))
    simp only [prs, List.length_cons]
    omega
theorem bys_pls : ∀ (n : Nat) {σ : Option (List Int)}, BYs σ → BYs (pls n σ).2
  | 0, σ, h => h
  | n + 1, none, h => h
  | n + 1, some r, h => bys_pls n (bys_nx h 4)
theorem bys_prs : ∀ (n : Nat) {σ : Option (List Int)}, BYs σ → BYs (prs n σ).2
  | 0, σ, h => h
  | n + 1, none, h => h
  | n + 1, some r, h => bys_prs n (bys_nx (bys_nx h 4) 4)
theorem bys_s13 {σ : Option (List Int)} (h : BYs σ) : BYs (s13 σ) :=
  bys_nx (bys_nx (bys_nx (bys_nx (bys_nx (bys_nx (bys_nx (bys_nx (bys_nx (bys_nx (bys_nx (bys_nx (bys_nx (bys_nx h _) _) _) _) _) _) _) _) _) _) _) _) _) _
theorem rt_few {σ : Option (List Int)} (h : BYs σ) : TFew (rt σ).1 := by
  have h13 := bys_s13 h
  have a1 := tk1 h13
  have a2 := tk1 (bys_nx h13 1)
  have a3 := tk1 (bys_nx (bys_nx h13 1) 1)
  have b1 := pls_len (rx σ) (s16 σ)
  have b2 := prs_len (ry σ) (pls (rx σ) (s16 σ)).2
  have b3 := prs_len (rz σ) (prs (ry σ) (pls (rx σ) (s16 σ)).2).2
  have c1 : rx σ ≤ 255 := by show (num (tk 1 (s13 σ))).toNat ≤ 255; omega
  have c2 : ry σ ≤ 255 := by show (num (tk 1 (nx 1 (s13 σ)))).toNat ≤ 255; omega
  have c3 : rz σ ≤ 255 := by show (num (tk 1 (nx 1 (nx 1 (s13 σ))))).toNat ≤ 255; omega
  refine ⟨?_, ?_, ?_⟩
  · show (pls (rx σ) (s16 σ)).1.length ≤ 1000000; omega
  · show (prs (ry σ) (pls (rx σ) (s16 σ)).2).1.length ≤ 1000000; omega
  · show (prs (rz σ) (prs (ry σ) (pls (rx σ) (s16 σ)).2).2).1.length ≤ 1000000; omega
theorem bys_rt {σ : Option (List Int)} (h : BYs σ) : BYs (rt σ).2 :=
  bys_prs _ (bys_prs _ (bys_pls _ (bys_nx (bys_nx (bys_nx (bys_s13 h) 1) 1) 1)))
theorem trs_few : ∀ (n : Nat) {σ : Option (List Int)}, BYs σ → ∀ t ∈ (trs n σ).1, TFew t
  | 0, σ, h, t, ht => by simp [trs] at ht
  | n + 1, none, h, t, ht => by simp [trs] at ht
  | n + 1, some r, h, t, ht => by
    simp only [trs, List.mem_cons] at ht
    rcases ht with rfl | ht
    · exact rt_few h
    · exact trs_few n (bys_rt h) t ht
theorem bys_some {l : List Int} (h : IsBytes l) : BYs (some l) := fun r e => by
  simp only [Option.some.injEq] at e
  rw [← e]; exact h
theorem few0' : TFew ten0 := ⟨by decide, by decide, by decide⟩
theorem tdec_few {l : List Int} (h : IsBytes l) {t : Ten} {r : List Int} (e : tdec l = some (t, r)) : TFew t := by
  rcases tdec_rt l with ⟨d1, d2⟩ | ⟨t', r', d1, d2, d3⟩
  · rw [d1] at e; cases e
  · rw [d1] at e
    simp only [Option.some.injEq, Prod.mk.injEq] at e
    rw [← e.1, ← d3]
    exact rt_few (bys_some h)
theorem cdec_few {l : List Int} (h : IsBytes l) {x : Cgf} (e : cdec l = some x) : ∀ t ∈ x.ten, TFew t := by
  rw [cdec_whole] at e
  have hx : x = (rc (some l)).1 := by
    revert e
    cases (rc (some l)).2 with
    | none => intro e; cases e
    | some r =>
      cases r with
      | nil => intro e; simp only [cwhole, Option.some.injEq] at e; exact e.symm
      | cons b r => intro e; cases e
  rw [hx]
  exact trs_few _ (bys_nx (bys_nx (bys_nx (bys_nx (bys_nx (bys_nx (bys_nx (bys_some h) _) _) _) _) _) _) _)
theorem hdec_few {l : List Int} (h : IsBytes l) {x : Chg} (e : hdec l = some x) : TFew x.t := by
  cases l with
  | nil => cases e
  | cons b r =>
    have hr : IsBytes r := by have := bytes_dr h 1; simpa using this
    by_cases h0 : b = 0
    · subst h0
      simp only [hdec, if_pos] at e
      revert e
      cases spN.dec r ByteArray.empty with
      | none => intro e; cases e
      | some q =>
        obtain ⟨s, r'⟩ := q
        cases r' with
        | nil => intro e; simp only [Option.some.injEq] at e; rw [← e]; exact few0'
        | cons b r => intro e; cases e
    · by_cases h1 : b = 1
      · subst h1
        simp only [hdec, if_neg h0, if_pos] at e
        revert e
        have ht := fun t r' => tdec_few (t := t) (r := r') hr
        revert ht
        cases tdec r with
        | none => intro _ e; cases e
        | some q =>
          obtain ⟨t, r'⟩ := q
          intro ht
          have := ht t r' rfl
          cases r' with
          | nil => intro e; simp only [Option.some.injEq] at e; rw [← e]; exact this
          | cons b r => intro e; cases e
      · simp only [hdec, if_neg h0, if_neg h1] at e
        cases e
/-- What the three answer, in one shape each. -/
def cX (l : List Int) : Cgf := (cdec l).getD cfg0
def cE (l : List Int) : Int := if (cdec l).isSome then 0 else 70
def tX (l : List Int) : Ten := match tdec l with | some (t, _) => t | none => ten0
def tN (l : List Int) : Int := match tdec l with | some (_, r) => (l.length : Int) - r.length | none => 0
def tE (l : List Int) : Int := match tdec l with | some _ => 0 | none => 70
def hX (l : List Int) : Chg := (hdec l).getD ⟨false, ByteArray.empty, ten0⟩
def hE (l : List Int) : Int := if (hdec l).isSome then 0 else 70
theorem cX_few {l : List Int} (h : IsBytes l) : ∀ t ∈ (cX l).ten, TFew t := by
  unfold cX
  cases e : cdec l with
  | none => intro t ht; simp [cfg0] at ht
  | some x => exact cdec_few h e
theorem tX_few {l : List Int} (h : IsBytes l) : TFew (tX l) := by
  unfold tX
  cases e : tdec l with
  | none => exact few0'
  | some q => obtain ⟨t, r⟩ := q; exact tdec_few h e
theorem hX_few {l : List Int} (h : IsBytes l) : TFew (hX l).t := by
  unfold hX
  cases e : hdec l with
  | none => exact few0'
  | some x => exact hdec_few h e
theorem cv_zero (V : World) : CV V (.agg cz) cfg0 := ⟨cfg0_len, nilV, rfl, [], rfl, rw_nil V 33, by simp⟩
theorem tv_zero (V : World) : TV V (.agg tz) ten0 := ⟨ten0_len, nilV, nilV, nilV, rfl, rw_nil V 1, rw_nil V 2, rw_nil V 2⟩
theorem hv_zero (V : World) : HV V (.agg hz0) ⟨false, ByteArray.empty, ten0⟩ := ⟨ten0_len, nilV, nilV, nilV, rfl, rw_nil V 1, rw_nil V 2, rw_nil V 2⟩
theorem opc_one {w w' : World} {l : List Int} {e : Ending} (h : OPC w (cdec l) e w') : Below w.heap.size w w' ∧ ∃ v, e = .returned (.tuple #[v, .int .i64 (cE l)]) ∧ CV w' v (cX l) := by
  obtain ⟨hb, h⟩ := h
  refine ⟨hb, ?_⟩
  unfold cX cE
  cases e2 : cdec l with
  | none => rw [e2] at h; exact ⟨_, h, cv_zero _⟩
  | some x =>
    rw [e2] at h
    obtain ⟨v, h1, h2⟩ := h
    exact ⟨v, h1, h2 w w' (Nat.le_refl _) hb (fun b _ _ => rfl)⟩
theorem ocp_one {w w' : World} {l : List Int} {e : Ending} (h : OCP w (hdec l) e w') : Below w.heap.size w w' ∧ ∃ v, e = .returned (.tuple #[v, .int .i64 (hE l)]) ∧ HV w' v (hX l) := by
  obtain ⟨hb, h⟩ := h
  refine ⟨hb, ?_⟩
  unfold hX hE
  cases e2 : hdec l with
  | none => rw [e2] at h; exact ⟨_, h, hv_zero _⟩
  | some x =>
    rw [e2] at h
    obtain ⟨v, h1, h2⟩ := h
    exact ⟨v, h1, h2 w' (fun b _ _ => rfl)⟩
theorem ot_one {w w' : World} {l : List Int} {e : Ending} (h : Below w.heap.size w w' ∧ match tdec l with
      | none => e = .returned (.tuple #[.agg tz, .int .i64 0, .int .i64 70])
      | some (t, l') => ∃ v, e = .returned (.tuple #[v, .int .i64 ((l.length : Int) - l'.length), .int .i64 0]) ∧ TV w' v t) : Below w.heap.size w w' ∧ ∃ v, e = .returned (.tuple #[v, .int .i64 (tN l), .int .i64 (tE l)]) ∧ TV w' v (tX l) := by
  obtain ⟨hb, h⟩ := h
  refine ⟨hb, ?_⟩
  unfold tX tN tE
  cases e2 : tdec l with
  | none => rw [e2] at h; exact ⟨_, h, tv_zero _⟩
  | some q =>
    obtain ⟨t, r⟩ := q
    rw [e2] at h
    exact h
theorem TSame.refl (t : Ten) : TSame t t := ⟨rfl, rfl, rfl, rfl, rfl, rfl, rfl, rfl, rfl, rfl, rfl, rfl, rfl, rfl, rfl, rfl⟩
theorem CSame.refl (c : Cgf) : CSame c c := ⟨rfl, rfl, rfl, rfl, rfl, rfl, rfl, fun i _ => TSame.refl _⟩
/-- The call's own blocks, and what else holds from now on. -/
def Std (w V : World) (L : List (Nat × Obj)) (F : World → Prop) : Prop := Mem w V L ∧ ∀ V', Below V.heap.size V V' → F V'
theorem Std.after {w V V' : World} {L : List (Nat × Obj)} {F : World → Prop} (h : Std w V L F) (hb : Below V.heap.size V V') : Std w V' L F :=
  ⟨h.1.after hb, fun V2 h2 => h.2 V2 (hb.trans (h2.mono hb.size))⟩
theorem Std.push {w V : World} {L : List (Nat × Obj)} {F : World → Prop} (h : Std w V L F) (o : Obj) : Std w (V.alloc o) ((V.heap.size, o) :: L) F :=
  ⟨(h.1.push V.heap.size o rfl).perm List.perm_append_comm, (h.after ((Below.refl _ _).alloc (Nat.le_refl _) o)).2⟩
theorem Std.and {w V : World} {L : List (Nat × Obj)} {F G : World → Prop} (h : Std w V L F) (hG : ∀ V', Below V.heap.size V V' → G V') : Std w V L (fun V => F V ∧ G V) :=
  ⟨h.1, fun V' hb => ⟨h.2 V' hb, hG V' hb⟩⟩
theorem Std.now {w V : World} {L : List (Nat × Obj)} {F : World → Prop} (h : Std w V L F) : F V := h.2 V (Below.refl _ _)
theorem HV.at2 {w V : World} {v : Value} {t : Chg} (h : HV w v t) (hb : Below w.heap.size w V) : HV V v t := by
  obtain ⟨hl, p, s, q, rfl, h1, h2, h3⟩ := h
  exact ⟨hl, p, s, q, rfl, h1.below ux_ne hb (Nat.le_refl _), h2.below px_ne hb (Nat.le_refl _), h3.below px_ne hb (Nat.le_refl _)⟩
theorem HV.row {w : World} {v : Value} {x : Chg} (h : HV w v x) : ∃ (A : Array Value) (tl : List Value), v = .agg A ∧ A = (.bool x.put :: .string x.name :: tl).toArray ∧ tl.length = 33 ∧ A.all (·.oneCell') = true ∧ (∀ V, (Instr.buildSlice 61 1 #[(0, .agg A)]).run Tryz.prog V = .ok (.slice (some ⟨V.heap.size, 0, none⟩) 1 1) (V.alloc (.cells A 35))) ∧ TV w (.agg tl.toArray) x.t := by
  obtain ⟨hl, p, s, q, rfl, h1, h2, h3⟩ := h
  refine ⟨_, tc x.t p s q, rfl, rfl, tc_len hl p s q, hc_one3 _ (rw_one h1) (rw_one h2) (rw_one h3), ?_, hl, p, s, q, rfl, h1, h2, h3⟩
  obtain ⟨put, name, n, vn, key, vt, vm, ho, po, lo, hi, fi, st, tw, se, qu, ra, bu⟩ := x
  obtain ⟨h1, h2, h3⟩ := hl
  obtain ⟨a, b, c, d, f, g, x, y, rfl⟩ := eight8 h1
  obtain ⟨a1, b1, c1, d1, f1, g1, rfl⟩ := six6 h2
  obtain ⟨a2, b2, c2, d2, f2, g2, rfl⟩ := six6 h3
  rintro ⟨os, tape, heap⟩
  kernel_rfl
theorem Sl.below {w V : World} {a : Option Addr} {l : List Int} {c : Nat} (h : Sl w a l c) (hb : Below w.heap.size w V) : Sl V a l c := ⟨((Mem.nil w).after hb).row h.row, h.le, h.big, h.nil⟩
end Go.Proofs.YtngegdamcfmonaaGreat

