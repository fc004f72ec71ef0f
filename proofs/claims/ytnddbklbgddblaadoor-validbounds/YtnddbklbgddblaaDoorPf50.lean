/-
  Each number's bound: at it settings may be, one past it not (ValidBounds).
-/
import Derived.Test.YtnddbklbgddblaaDoorPf49
import Derived.Test.YtnddbklbgddblaaDoorPf03
namespace Go.Proofs.YtnddbklbgddblaaDoor
open Go.RowKit
open La (adr)
open Va
set_option linter.unusedVariables false
set_option linter.unusedSimpArgs false
set_option maxRecDepth 20000

theorem one_ys {ys : List Ty} (h : ys.length = 1) : ∃ t p s q C, ys = [((t, p, s, q), C)] := by
  match ys, h with
  | [((t, p, s, q), C)], _ => exact ⟨t, p, s, q, C, rfl⟩
theorem b7_sm {t : Ten} (h : SeatQ 0 7 t) : TSm t := by
  have hs := h.sq (by omega)
  refine ⟨?_, by have := hs.len; omega, by have := hs.len; omega, by have := hs.len; omega⟩
  rw [hs.name]; show 1 ≤ 1000000; omega
set_option maxHeartbeats 16000000 in
theorem bounds14_law {w : World} (hV : Vs w) (wh off : Int) (hi0 : -9223372036854775808 ≤ wh) (hi1 : wh ≤ 9223372036854775807) (hj0 : -9223372036854775808 ≤ off) (hj1 : off ≤ 9223372036854775807) :
    Calls Tryd.prog 6 #[.int .i64 wh, .int .i64 off] w fun e w' => e = .returned (.bool true) ∧ Below w.heap.size w w' := by
  have C := known14_any hV
  have CS : ∀ X : World, Calls Tryd.prog 20 #[.slice (some ⟨X.heap.size, 0, none⟩) 1 1, .int .u8 0] (X.alloc (.cells #[.int .u16 7] 36)) (ScQ 1 (fun _ => 7) (X.alloc (.cells #[.int .u16 7] 36))) := by
    intro X
    have hM0 : Mem X (X.alloc (.cells #[.int .u16 7] 36 (0, 0))) [(X.heap.size, .cells #[.int .u16 7] 36 (0, 0))] := (Mem.nil X).push1 rfl
    have := sconf14_any (X.alloc (.cells #[.int .u16 7] 36 (0, 0))) (some ⟨X.heap.size, 0, none⟩) 1 1 (fun _ => 7) (fun i hi => ⟨X.heap.size, 0, rfl, by
      obtain rfl : i = 0 := by omega
      exact hM0.cell 0 rfl 0, by omega, by omega⟩) 0 (by omega) (by omega)
    exact this
  have CP2 : ∀ X, Calls Tryd.prog 17 #[.int .i64 off, .int .i64 2] X fun e w' => e = .returned (.int .i64 (plc off 2)) ∧ X = w' := fun X => place_any off 2 X hj0 hj1 (by omega) (by omega)
  have CP10 : ∀ X, Calls Tryd.prog 17 #[.int .i64 wh, .int .i64 10] X fun e w' => e = .returned (.int .i64 (plc wh 10)) ∧ X = w' := fun X => place_any wh 10 X hi0 hi1 (by omega) (by omega)
  obtain ⟨o, ho, ho2⟩ : ∃ o : Nat, plc off 2 = o ∧ (o = 0 ∨ o = 1) := ⟨(plc off 2).toNat, by have := plc_range off 2 (by omega); omega, by have := plc_range off 2 (by omega); omega⟩
  obtain ⟨P, hP, hP10⟩ : ∃ P : Int, plc wh 10 = P ∧ (0 ≤ P ∧ P < 10) := ⟨plc wh 10, rfl, by have := plc_range wh 10 (by omega); omega⟩
  rw [ho] at CP2
  rw [hP] at CP10
  have HO : Hid (o = 0 ∨ o = 1) := ho2
  have HP10 : Hid (0 ≤ P ∧ P < 10) := hP10
  have HV : Hid (Vs w) := hV
  clear hi0 hi1 hj0 hj1 ho hP ho2 hP10 hV
  go_enter Tryd.func6, Tryd.ntmps6
  go_wp2_with fail
  refine C.mono ?_
  rintro _ V0 ⟨rfl, hb⟩
  have HB0 : Hid (Below w.heap.size w V0) := hb
  clear hb C
  have CS0 := CS V0
  have HB0' : Hid (Below V0.heap.size V0 (V0.alloc (.cells #[.int .u16 7] 36))) := (Below.refl _ _).alloc (Nat.le_refl _) _
  obtain ⟨w0, hw0⟩ : ∃ w0, V0.alloc (.cells #[.int .u16 7] 36) = w0 := ⟨_, rfl⟩
  have HW0 : Hid (V0.alloc (.cells #[.int .u16 7] 36) = w0) := hw0
  rw [hw0] at HB0'
  clear hw0 CS
  go_wp2_with fail
  refine CS0.mono ?_
  rintro _ V1 ⟨f, ys, u, B, hf, rfl, hlen, hsq, hB, hzx, hM1⟩
  rw [HW0.out] at hM1
  obtain ⟨t, p, s, q, C0, rfl⟩ := one_ys hlen
  have hQ : SeatQ 0 7 t := hsq 0 _ rfl
  have hz : ZX (t, p, s, q) C0 := hzx _ (List.mem_cons_self ..)
  simp only [List.map_cons, List.map_nil, List.flatMap_cons, List.flatMap_nil, List.append_nil, List.flatten_cons, List.flatten_nil, List.length_cons, List.length_nil] at hB hM1
  obtain ⟨gb, cap, Y, rfl, rfl, hcap1, hcap2, hY⟩ := owb_un hB (by omega)
  have HY : Hid (1 ≤ cap ∧ cap ≤ maxLen ∧ 33 + Y.length = cap * 33) := ⟨hcap1, hcap2, by
    have : (zc (t, p, s, q)).length = 33 := tc_len hz.1 _ _ _
    rw [this] at hY; exact hY⟩
  have HB7 : Hid (B7 t ∧ TSm t ∧ f ≤ 1000) := ⟨b7_of hQ, b7_sm hQ, by omega⟩
  obtain ⟨A, hA⟩ : ∃ A, (cc (sc f []) (.slice (some ⟨gb, 0, none⟩) 1 cap)).toArray = A := ⟨_, rfl⟩
  have hsz : A.size = 29 := by rw [← hA, List.size_toArray]; exact cc_len (sc_len _ _) _
  have hone : A.all (·.oneCell') = true := by rw [← hA]; exact cc_one _ rfl
  have i29 : (Tryd.prog.info? 28).map (·.size) = some A.size := by rw [hsz]; kernel_rfl
  have hA28 : A[28]? = some (.slice (some ⟨gb, 0, none⟩) 1 cap) := by rw [← hA]; exact cc_at28 (sc_len _ _) _
  have HA : Hid (A = (cc (sc f []) (.slice (some ⟨gb, 0, none⟩) 1 cap)).toArray) := hA.symm
  have HMB : Hid (∃ L, TAt gb [] Y 39 t L ∧ Mem w0 V1 L) := by
    obtain ⟨h0, B1, B2, B3, rfl, k1, k2, k3⟩ := hz
    exact ⟨_, ⟨h0, p, s, q, B1, B2, B3, k1, k2, k3, rfl⟩, hM1⟩
  have HVW : Hid (Vs w ∧ Below w.heap.size w w0) := ⟨HV.out, HB0.out.trans (HB0'.out.mono HB0.out.size)⟩
  have hA' : Value.agg (cc (sc f [t]) (.slice (some ⟨gb, 0, none⟩) 1 cap)).toArray = .agg A := by rw [← hA]; rfl
  simp only [List.map_cons, List.map_nil]
  rw [hA']
  clear hA hA' hB hM1 hzx hz hQ hlen hsq hcap1 hcap2 hY CS0 HW0 HB0 HB0' HV hf
  obtain ⟨g5, hg5⟩ : ∃ g, V1.heap.size = g := ⟨_, rfl⟩
  have hk1 : (V1.alloc (.cells cz 28)).heap[g5]? = some (.cells cz 28 (0, 0)) := by rw [← hg5]; exact heap_alloc_new _ _
  have ew : (V1.alloc (.cells cz 28)).setRow g5 A = V1.alloc (.cells A 28) := by rw [← hg5]; exact World.setRow_alloc_new V1 cz A 28
  have HP : Hid (∃ L, TAt gb [] Y 39 t L ∧ Mem w0 ((V1.alloc (.cells cz 28)).setRow g5 A) ((g5, .cells A 28 (0, 0)) :: L)) := by
    rw [ew]
    obtain ⟨L, hL, hM⟩ := HMB.out
    exact ⟨L, hL, hM.front _ hg5.symm⟩
  clear ew HMB
  go_upto_region 4 with (refine wpList_store_row rfl 28 (.tmp 5) (.tmp 17) (by with_reducible rfl) g5 A (by simp [Act.eval]; try exact hg5) (by first | rfl | simp [Act.eval]) 28 cz hk1 i29 (by rw [hsz]; rfl) hone ?_)
  refine wp_letter (fun X => ∃ L, TAt gb [] Y 39 t L ∧ Mem w0 X ((g5, .cells A 28 (0, 0)) :: L)) (by exact HP.out) ?_
  intro V2 hM2
  try simp only [hg5]
  have HM2 : Hid (∃ L, TAt gb [] Y 39 t L ∧ Mem w0 V2 ((g5, .cells A 28 (0, 0)) :: L)) := hM2
  have c28 : V2.cell? ⟨g5, 28, none⟩ = some (.slice (some ⟨gb, 0, none⟩) 1 cap) := by obtain ⟨L, -, hM⟩ := hM2; exact (hM.cell 0 rfl 28).trans hA28
  clear HP hg5 hk1 hM2 hone hsz hA28
  obtain ⟨gv, hgv⟩ : ∃ g, V2.heap.size = g := ⟨_, rfl⟩
  have HM3 : Hid (∃ L, TAt gb [] Y 39 t L ∧ Mem w0 (V2.alloc (.cells #[.int .i64 (o : Int)] 3)) ((gv, .cells #[.int .i64 (o : Int)] 3 (0, 0)) :: (g5, .cells A 28 (0, 0)) :: L)) := by
    obtain ⟨L, hL, hM⟩ := HM2.out
    exact ⟨L, hL, hM.front _ hgv.symm⟩
  go_wp2_with fail
  refine (CP2 V2).mono ?_
  rintro _ _ ⟨rfl, rfl⟩
  go_upto_region 6 with fail
  refine wp_letter (fun X => ∃ L, TAt gb [] Y 39 t L ∧ Mem w0 X ((gv, .cells #[.int .i64 (o : Int)] 3 (0, 0)) :: (g5, .cells A 28 (0, 0)) :: L)) (by exact HM3.out) ?_
  intro V3 hM3
  try simp only [hgv]
  clear HM2 HM3 c28 hgv CP2
  obtain ⟨gw, hgw⟩ : ∃ g, V3.heap.size = g := ⟨_, rfl⟩
  have HM4 : Hid (BdS w0 (V3.alloc (.cells #[.int .i64 0] 3)) gw gv g5 gb Y A o 0 t) := by
    obtain ⟨L, hL, hM⟩ := hM3
    exact ⟨L, hL, hM.front _ hgw.symm⟩
  go_upto_region 7 with fail
  refine wp_letter (fun X => BdS w0 X gw gv g5 gb Y A o 0 t) (by exact HM4.out) ?_
  intro V4 hM4
  try simp only [hgw]
  have HS : Hid (BdS w0 V4 gw gv g5 gb Y A o 0 t) := hM4
  clear hM3 HM4 hgw hM4
  go_wp2_with fail
  refine (CP10 V4).mono ?_
  rintro _ _ ⟨rfl, rfl⟩
  clear CP10
  go_upto_block 0 with fail
  go_cut [] from 10 to 177 (fun w' => Hid (BdE w0 w' gw g5))
  case first =>
    have ov := HS.out.over
    have hP : P = 0 ∨ P = 1 ∨ P = 2 ∨ P = 3 ∨ P = 4 ∨ P = 5 ∨ P = 6 ∨ P = 7 ∨ P = 8 ∨ P = 9 := by have := HP10.out; omega
    clear HVW i29 HP10
    rcases hP with rfl | rfl | rfl | rfl | rfl | rfl | rfl | rfl | rfl | rfl
    · have e0 : IntKind.u32.wrap (o : Int) = o := by have := HO.out; exact wrap32_small _ (by omega) (by omega)
      have e1 : IntKind.u32.wrap (16777215 + (o : Int)) = 16777215 + o := by have := HO.out; exact wrap32_small _ (by omega) (by omega)
      obtain ⟨⟨v0, cv⟩, fv, hS2⟩ := HS.out.put (fun L hL => tat_vni hL (16777215 + (o : Int)))
      have HS2 : Hid (BdS w0 (V4.setCell ⟨gb, 1, none⟩ (.int .u32 (16777215 + (o : Int)))) gw gv g5 gb Y A o 0 { t with vni := 16777215 + (o : Int) }) := hS2
      clear hS2
      go_wp2_with fail
      refine (HS2.out.set_any 91).mono ?_
      rintro _ V6 ⟨rfl, hE⟩
      have HE : Hid (BdE w0 V6 gw g5) := hE.ends HA.out HY.out.1 HY.out.2.1 HY.out.2.2 HB7.out.2.1 (bd_vni HB7.out.2.2 (by have := HO.out; omega) HB7.out.1)
      clear hE HS2 HO HB7 HA HY HS
      go_wp2_with fail
      go_meet
      case rel => exact HE
    · have e1 : IntKind.i64.wrap (8 + (o : Int)) = 8 + o := by have := HO.out; exact wrap64 (by omega) (by omega)
      obtain ⟨⟨v0, cv⟩, fv, hS2⟩ := HS.out.pool0
      have HS2 : Hid (BdS w0 (V4.setCell ⟨gb, 23, none⟩ nilV) gw gv g5 gb Y A o 0 { t with pool := ups 0 }) := hS2
      have ov2 := HS2.out.over
      clear hS2 ov HS
      go_upto_region 14 with fail
      refine wp_letter (fun X => BdS w0 X gw gv g5 gb Y A o 0 { t with pool := ups 0 }) (by exact HS2.out) ?_
      intro V5 hS5
      have H0 : Hid (BdS w0 V5 gw gv g5 gb Y A o 0 { t with pool := ups 0 }) := hS5
      clear hS5 HS2 cv fv ov2
      go_wp2_with fail
      go_loopw [10] (fun v w' => ∃ i : Nat, i ≤ 8 + o ∧ v = .int .i64 i ∧ Hid (BdS w0 w' gw gv g5 gb Y A o 0 { t with pool := ups i })) (fun v w' => 8 + o - (intOf v).toNat)
      case atStart => exact ⟨0, Nat.zero_le _, rfl, H0⟩
      case round =>
        obtain ⟨i, hi, rfl, HR⟩ := hrel
        clear H0
        have ov3 := HR.out.over
        by_cases hlt : i < 8 + o
        · have h1 : (i : Int) < 8 + (o : Int) := by omega
          have h9 : o ≤ 1 := by have := HO.out; omega
          have e7 : IntKind.i64.wrap ((i : Int) + 1) = (i : Int) + 1 := wrap64 (by omega) (by omega)
          have e8 : IntKind.u32.wrap ((i : Int) + 1) = (i : Int) + 1 := wrap32_small _ (by omega) (by omega)
          obtain ⟨pa, pm, pc, cp, v4, V4', hrun, ⟨v9, c9⟩, f9, ⟨a9, m9, k9, rfl⟩, hH⟩ := HR.out.pool1 (by show (ups i).length ≤ 900000; rw [ups_len]; omega) ((i : Int) + 1)
          have HH : Hid (BdS w0 (V4'.setCell ⟨gb, 23, none⟩ (.slice a9 m9 k9)) gw gv g5 gb Y A o 0 { t with pool := ups (i + 1) }) := by rw [ups_snoc]; exact hH
          clear hH HR
          go_wp2_with (at_builtin; refine wpList_append_run (.tmp 51) (.tmp 55) 35 35 (by with_reducible rfl) hrun rfl rfl (by first | rfl | simp [Act.eval]) (by first | rfl | simp [Act.eval]) ?_)
          go_roundw
          case rel => exact ⟨i + 1, by omega, by push_cast; rfl, HH⟩
          case measure => simp [intOf]; omega
        · have h1 : ¬ (i : Int) < 8 + (o : Int) := by omega
          obtain rfl : i = 8 + o := by omega
          clear hlt hi
          go_wp2_with fail
          refine (HR.out.set_any 92).mono ?_
          rintro _ V6 ⟨rfl, hE⟩
          have HE : Hid (BdE w0 V6 gw g5) := hE.ends HA.out HY.out.1 HY.out.2.1 HY.out.2.2 ⟨HB7.out.2.1.1, (by show (ups (8 + o)).length ≤ 1000000; rw [ups_len]; have := HO.out; omega), HB7.out.2.1.2.2.1, HB7.out.2.1.2.2.2⟩ (bd_pool HB7.out.2.2 HO.out HB7.out.1)
          clear hE HR HO HB7 HA HY
          go_wp2_with fail
          go_meet
          case rel => exact HE
    · have e0 : IntKind.u16.wrap (o : Int) = o := by have := HO.out; exact wrap16_small _ (by omega) (by omega)
      have e1 : IntKind.u16.wrap (5 + (o : Int)) = 5 + o := by have := HO.out; exact wrap16_small _ (by omega) (by omega)
      obtain ⟨⟨v0, cv⟩, fv, hS2⟩ := HS.out.put (fun L hL => tat_lo hL (5 + (o : Int)))
      obtain ⟨⟨v1, cv1⟩, fv1, hS3⟩ := hS2.put (fun L hL => tat_hi hL 5)
      have HS2 : Hid (BdS w0 ((V4.setCell ⟨gb, 24, none⟩ (.int .u16 (5 + (o : Int)))).setCell ⟨gb, 25, none⟩ (.int .u16 5)) gw gv g5 gb Y A o 0 { t with lo := 5 + (o : Int), hi := 5 }) := hS3
      clear hS2 hS3
      go_wp2_with fail
      refine (HS2.out.set_any 93).mono ?_
      rintro _ V6 ⟨rfl, hE⟩
      have HE : Hid (BdE w0 V6 gw g5) := hE.ends HA.out HY.out.1 HY.out.2.1 HY.out.2.2 HB7.out.2.1 (bd_ports HB7.out.2.2 (by have := HO.out; omega) HB7.out.1)
      clear hE HS2 HO HB7 HA HY HS
      go_wp2_with fail
      go_meet
      case rel => exact HE
    · have e1 : IntKind.i64.wrap (16 + (o : Int)) = 16 + o := by have := HO.out; exact wrap64 (by omega) (by omega)
      obtain ⟨⟨v0, cv⟩, fv, hS2⟩ := HS.out.stat0
      have HS2 : Hid (BdS w0 (V4.setCell ⟨gb, 27, none⟩ nilV) gw gv g5 gb Y A o 0 { t with stat := prs1 0 }) := hS2
      have ov2 := HS2.out.over
      clear hS2 ov HS
      go_upto_region 24 with fail
      refine wp_letter (fun X => BdS w0 X gw gv g5 gb Y A o 0 { t with stat := prs1 0 }) (by exact HS2.out) ?_
      intro V5 hS5
      have H0 : Hid (BdS w0 V5 gw gv g5 gb Y A o 0 { t with stat := prs1 0 }) := hS5
      clear hS5 HS2 cv fv ov2
      go_wp2_with fail
      go_loopw [11] (fun v w' => ∃ i : Nat, i ≤ 16 + o ∧ v = .int .i64 i ∧ Hid (BdS w0 w' gw gv g5 gb Y A o 0 { t with stat := prs1 i })) (fun v w' => 16 + o - (intOf v).toNat)
      case atStart => exact ⟨0, Nat.zero_le _, rfl, H0⟩
      case round =>
        obtain ⟨i, hi, rfl, HR⟩ := hrel
        clear H0
        have ov3 := HR.out.over
        by_cases hlt : i < 16 + o
        · have h1 : (i : Int) < 16 + (o : Int) := by omega
          have h9 : o ≤ 1 := by have := HO.out; omega
          have e7 : IntKind.i64.wrap ((i : Int) + 1) = (i : Int) + 1 := wrap64 (by omega) (by omega)
          have e8 : IntKind.u32.wrap ((i : Int) + 1) = (i : Int) + 1 := wrap32_small _ (by omega) (by omega)
          obtain ⟨pa, pm, pc, cp, v4, V4', hrun, ⟨v9, c9⟩, f9, ⟨a9, m9, k9, rfl⟩, hH⟩ := HR.out.stat1 (by show (prs1 i).length ≤ 900000; rw [prs1_len]; omega) ((i : Int) + 1) ((i : Int) + 1)
          have HH : Hid (BdS w0 (V4'.setCell ⟨gb, 27, none⟩ (.slice a9 m9 k9)) gw gv g5 gb Y A o 0 { t with stat := prs1 (i + 1) }) := by rw [prs1_snoc]; exact hH
          clear hH HR
          go_wp2_with (at_builtin; refine wpList_append_run (.tmp 89) (.tmp 97) 37 37 (by with_reducible rfl) hrun rfl rfl (by first | rfl | simp [Act.eval]) (by first | rfl | simp [Act.eval]) ?_)
          go_roundw
          case rel => exact ⟨i + 1, by omega, by push_cast; rfl, HH⟩
          case measure => simp [intOf]; omega
        · have h1 : ¬ (i : Int) < 16 + (o : Int) := by omega
          obtain rfl : i = 16 + o := by omega
          clear hlt hi
          go_wp2_with fail
          refine (HR.out.set_any 94).mono ?_
          rintro _ V6 ⟨rfl, hE⟩
          have HE : Hid (BdE w0 V6 gw g5) := hE.ends HA.out HY.out.1 HY.out.2.1 HY.out.2.2 ⟨HB7.out.2.1.1, HB7.out.2.1.2.1, (by show (prs1 (16 + o)).length ≤ 1000000; rw [prs1_len]; have := HO.out; omega), HB7.out.2.1.2.2.2⟩ (bd_stat HB7.out.2.2 HO.out HB7.out.1)
          clear hE HR HO HB7 HA HY
          go_wp2_with fail
          go_meet
          case rel => exact HE
    · have e0 : IntKind.i64.wrap (o : Int) = o := by have := HO.out; exact wrap64 (by omega) (by omega)
      have e1 : IntKind.i64.wrap (256 + (o : Int)) = 256 + o := by have := HO.out; exact wrap64 (by omega) (by omega)
      obtain ⟨⟨v0, cv⟩, fv, hS2⟩ := HS.out.put (fun L hL => tat_sess hL (256 + (o : Int)))
      have HS2 : Hid (BdS w0 (V4.setCell ⟨gb, 29, none⟩ (.int .i64 (256 + (o : Int)))) gw gv g5 gb Y A o 0 { t with sess := 256 + (o : Int) }) := hS2
      clear hS2
      go_wp2_with fail
      refine (HS2.out.set_any 95).mono ?_
      rintro _ V6 ⟨rfl, hE⟩
      have HE : Hid (BdE w0 V6 gw g5) := hE.ends HA.out HY.out.1 HY.out.2.1 HY.out.2.2 HB7.out.2.1 (bd_sess HB7.out.2.2 (by have := HO.out; omega) HB7.out.1)
      clear hE HS2 HO HB7 HA HY HS
      go_wp2_with fail
      go_meet
      case rel => exact HE
    · have e0 : IntKind.i64.wrap (o : Int) = o := by have := HO.out; exact wrap64 (by omega) (by omega)
      have e1 : IntKind.i64.wrap (64 + (o : Int)) = 64 + o := by have := HO.out; exact wrap64 (by omega) (by omega)
      obtain ⟨⟨v0, cv⟩, fv, hS2⟩ := HS.out.put (fun L hL => tat_queue hL (64 + (o : Int)))
      have HS2 : Hid (BdS w0 (V4.setCell ⟨gb, 30, none⟩ (.int .i64 (64 + (o : Int)))) gw gv g5 gb Y A o 0 { t with queue := 64 + (o : Int) }) := hS2
      clear hS2
      go_wp2_with fail
      refine (HS2.out.set_any 95).mono ?_
      rintro _ V6 ⟨rfl, hE⟩
      have HE : Hid (BdE w0 V6 gw g5) := hE.ends HA.out HY.out.1 HY.out.2.1 HY.out.2.2 HB7.out.2.1 (bd_queue HB7.out.2.2 (by have := HO.out; omega) HB7.out.1)
      clear hE HS2 HO HB7 HA HY HS
      go_wp2_with fail
      go_meet
      case rel => exact HE
    · have e0 : IntKind.u32.wrap (o : Int) = o := by have := HO.out; exact wrap32_small _ (by omega) (by omega)
      have e1 : IntKind.u32.wrap (1000000 + (o : Int)) = 1000000 + o := by have := HO.out; exact wrap32_small _ (by omega) (by omega)
      obtain ⟨⟨v0, cv⟩, fv, hS2⟩ := HS.out.put (fun L hL => tat_rate hL (1000000 + (o : Int)))
      have HS2 : Hid (BdS w0 (V4.setCell ⟨gb, 31, none⟩ (.int .u32 (1000000 + (o : Int)))) gw gv g5 gb Y A o 0 { t with rate := 1000000 + (o : Int) }) := hS2
      clear hS2
      go_wp2_with fail
      refine (HS2.out.set_any 95).mono ?_
      rintro _ V6 ⟨rfl, hE⟩
      have HE : Hid (BdE w0 V6 gw g5) := hE.ends HA.out HY.out.1 HY.out.2.1 HY.out.2.2 HB7.out.2.1 (bd_rate HB7.out.2.2 (by have := HO.out; omega) HB7.out.1)
      clear hE HS2 HO HB7 HA HY HS
      go_wp2_with fail
      go_meet
      case rel => exact HE
    · have e0 : IntKind.u32.wrap (o : Int) = o := by have := HO.out; exact wrap32_small _ (by omega) (by omega)
      have e1 : IntKind.u32.wrap (1000000 + (o : Int)) = 1000000 + o := by have := HO.out; exact wrap32_small _ (by omega) (by omega)
      obtain ⟨⟨v0, cv⟩, fv, hS2⟩ := HS.out.put (fun L hL => tat_burst hL (1000000 + (o : Int)))
      have HS2 : Hid (BdS w0 (V4.setCell ⟨gb, 32, none⟩ (.int .u32 (1000000 + (o : Int)))) gw gv g5 gb Y A o 0 { t with burst := 1000000 + (o : Int) }) := hS2
      clear hS2
      go_wp2_with fail
      refine (HS2.out.set_any 95).mono ?_
      rintro _ V6 ⟨rfl, hE⟩
      have HE : Hid (BdE w0 V6 gw g5) := hE.ends HA.out HY.out.1 HY.out.2.1 HY.out.2.2 HB7.out.2.1 (bd_burst HB7.out.2.2 (by have := HO.out; omega) HB7.out.1)
      clear hE HS2 HO HB7 HA HY HS
      go_wp2_with fail
      go_meet
      case rel => exact HE
    · have e0 : IntKind.u32.wrap (o : Int) = o := by have := HO.out; exact wrap32_small _ (by omega) (by omega)
      have e1 : IntKind.u32.wrap (1000 + (o : Int)) = 1000 + o := by have := HO.out; exact wrap32_small _ (by omega) (by omega)
      obtain ⟨cv, fv, HS2⟩ : (∃ v0, V4.cell? ⟨g5, 27, none⟩ = some v0) ∧ V4.frozen? ⟨g5, 27, none⟩ = false ∧ Hid (BdS w0 (V4.setCell ⟨g5, 27, none⟩ (.int .u32 (1000 + (o : Int)))) gw gv g5 gb Y (cc (sc (1000 + (o : Int)) []) (.slice (some ⟨gb, 0, none⟩) 1 cap)).toArray o 0 t) := by
        obtain ⟨L, hL, hM⟩ := HS.out
        have h6 := hM.set 2 rfl 27 (.int .u32 (1000 + (o : Int)))
        rw [HA.out] at h6
        have e9 := cc_drain (sc f []) (.slice (some ⟨gb, 0, none⟩) 1 cap) (1000 + (o : Int)) (sc_len _ _)
        refine ⟨?_, hM.free 2 rfl 27, L, hL, ?_⟩
        · have := hM.cell 2 rfl 27
          rw [HA.out] at this
          exact ⟨_, this⟩
        · rw [← e9]; exact h6
      obtain ⟨v0, cv⟩ := cv
      go_wp2_with fail
      refine (HS2.out.set_any 96).mono ?_
      rintro _ V6 ⟨rfl, hE⟩
      have HE : Hid (BdE w0 V6 gw g5) := hE.ends rfl HY.out.1 HY.out.2.1 HY.out.2.2 HB7.out.2.1 (bd_drain rfl (by have := HO.out; omega) HB7.out.1)
      clear hE HS2 HO HB7 HA HY HS
      go_wp2_with fail
      go_meet
      case rel => exact HE
    · have e1 : IntKind.i64.wrap (16 + (o : Int)) = 16 + o := by have := HO.out; exact wrap64 (by omega) (by omega)
      have hC := HS.out.bdc HA.out HY.out.1 HY.out.2.1 HY.out.2.2
      have cv := hC.cell
      obtain ⟨fv, hC2⟩ := hC.nil
      have HS2 : Hid (BdC w0 (V4.setCell ⟨g5, 28, none⟩ nilV) gw gv g5 o 0 (sc f []) nilV) := hC2
      have HF : Hid (f ≤ 1000) := HB7.out.2.2
      clear hC hC2 ov HS HA HY HB7
      go_upto_region 46 with fail
      refine wp_letter (fun X => BdC w0 X gw gv g5 o 0 (sc f []) nilV) (by exact HS2.out) ?_
      intro V5 hS5
      have H0 : Hid (∃ ts u, ts.length = 0 ∧ Tns ts ∧ BdC w0 V5 gw gv g5 o 0 (sc f ts) u) := ⟨[], nilV, rfl, by intro j t hj; simp at hj, hS5⟩
      clear hS5 HS2 cv fv
      go_wp2_with fail
      go_loopw [12, 13] (fun v b w' => ∃ i : Nat, i ≤ 16 + o ∧ v = .int .i64 i ∧ Hid (∃ ts u, ts.length = i ∧ Tns ts ∧ BdC w0 w' gw gv g5 o 0 (sc f ts) u)) (fun v b w' => 16 + o - (intOf v).toNat)
      case atStart => exact ⟨0, Nat.zero_le _, rfl, H0⟩
      case round =>
        obtain ⟨i, hi, rfl, HR⟩ := hrel
        clear H0
        obtain ⟨ts, u, hts, hTn, hC⟩ := HR.out
        have ov3 := hC.over
        by_cases hlt : i < 16 + o
        · have h1 : (i : Int) < 16 + (o : Int) := by omega
          have h9 : i < 17 := by have := HO.out; omega
          have e7 : IntKind.i64.wrap ((i : Int) + 1) = (i : Int) + 1 := wrap64 (by omega) (by omega)
          obtain ⟨pa, pm, pc, rfl⟩ := hC.sl
          have CT := sten14_any wr i h9 0 (by omega) (by omega)
          have hsl : ∀ W, (Instr.slice 9 (.string ⟨#[97, 98, 99, 100, 101, 102, 103, 104, 105, 106, 107, 108, 109, 110, 111, 112, 113, 114]⟩) (some (.int .i64 (i : Int))) (some (.int .i64 ((i : Int) + 1))) none).run Tryd.prog W = .ok (.string ⟨#[UInt8.ofNat (97 + i)]⟩) W := by
            intro W
            rw [run_slice_string W 9 _ .i64 .i64 (i : Int) ((i : Int) + 1) Tryd.underlying9 (by omega) (by omega) (by show ((i : Int) + 1) ≤ ((18 : Nat) : Int); omega)]
            have e : (⟨#[97, 98, 99, 100, 101, 102, 103, 104, 105, 106, 107, 108, 109, 110, 111, 112, 113, 114]⟩ : ByteArray).extract (i : Int).toNat ((i : Int) + 1).toNat = ⟨#[UInt8.ofNat (97 + i)]⟩ := by
              have : i = 0 ∨ i = 1 ∨ i = 2 ∨ i = 3 ∨ i = 4 ∨ i = 5 ∨ i = 6 ∨ i = 7 ∨ i = 8 ∨ i = 9 ∨ i = 10 ∨ i = 11 ∨ i = 12 ∨ i = 13 ∨ i = 14 ∨ i = 15 ∨ i = 16 := by omega
              rcases this with rfl | rfl | rfl | rfl | rfl | rfl | rfl | rfl | rfl | rfl | rfl | rfl | rfl | rfl | rfl | rfl | rfl <;> rfl
            rw [e]
          have hnm : ∀ W, (Op.stringOp .add ⟨#[116]⟩ ⟨#[UInt8.ofNat (97 + i)]⟩).run Tryd.prog W = .ok (.string (tnm i)) W := fun W => by
            rw [run_string_add_sum W _ _ (by show 1 + 1 ≤ 9223372036854775807; omega)]; rfl
          obtain ⟨lt, hlt2⟩ : ∃ lt : ByteArray, (⟨#[UInt8.ofNat (97 + i)]⟩ : ByteArray) = lt := ⟨_, rfl⟩
          rw [hlt2] at hsl hnm
          clear hlt2
          have HC : Hid (ts.length = i ∧ i < 16 + o ∧ Tns ts ∧ BdC w0 wr gw gv g5 o 0 (sc f ts) (.slice pa pm pc)) := ⟨hts, hlt, hTn, hC⟩
          clear hts hTn hC HR
          go_wp2_with fail
          refine CT.mono ?_
          rintro e V6 ⟨x, p1, s1, q1, C', rfl, hS, hzx, hM'⟩
          have hl := hzx.1
          have hz := hzx.zb (C := C') (fun x hx => hx)
          obtain ⟨XA, hXA⟩ : ∃ XA, (tc x p1 s1 q1).toArray = XA := ⟨_, rfl⟩
          have hon : XA.all (·.oneCell') = true := by rw [← hXA]; exact all_oneCell_toArray (zb_one hz)
          have hsx : XA.size = 33 := by rw [← hXA, List.size_toArray]; exact tc_len hl _ _ _
          have i33 : (Tryd.prog.info? 39).map (·.size) = some XA.size := by rw [hsx]; kernel_rfl
          obtain ⟨g13, hg13⟩ : ∃ g, V6.heap.size = g := ⟨_, rfl⟩
          have hk1 : (V6.alloc (.cells tz 39)).heap[g13]? = some (.cells tz 39 (0, 0)) := by rw [← hg13]; exact heap_alloc_new _ _
          have ew : (V6.alloc (.cells tz 39)).setRow g13 XA = V6.alloc (.cells XA 39) := by rw [← hg13]; exact World.setRow_alloc_new V6 tz XA 39
          have HM6 : Hid (Mem wr ((V6.alloc (.cells tz 39)).setRow g13 XA) ((g13, .cells XA 39 (0, 0)) :: C')) := by rw [ew]; exact hM'.front _ hg13.symm
          have HXA : Hid ((tc x p1 s1 q1).toArray = XA ∧ SeatQ i 0 x ∧ ZX (x, p1, s1, q1) C') := ⟨hXA, hS, hzx⟩
          rw [hXA]
          clear ew hM' hXA hS hzx hz hl CT
          go_upto_region 50 with (refine wpList_store_row rfl 39 (.tmp 13) (.tmp 159) (by with_reducible rfl) g13 XA (by simp [Act.eval]; try exact hg13) (by first | rfl | simp [Act.eval]) 39 tz hk1 i33 (by rw [hsx]; rfl) hon ?_)
          refine wp_letter (fun X => Mem wr X ((g13, .cells XA 39 (0, 0)) :: C')) (by exact HM6.out) ?_
          intro V7 hM7
          try simp only [hg13]
          clear HM6 hg13 hk1 hon i33
          obtain ⟨XB, hXB⟩ : ∃ XB, (tc { x with name := tnm i } p1 s1 q1).toArray = XB := ⟨_, rfl⟩
          have eAB : XA.setIfInBounds 0 (.string (tnm i)) = XB := by rw [← HXA.out.1, ← hXB]; rfl
          have cv : V7.cell? ⟨g13, 0, none⟩ = some (.string x.name) := (hM7.cell 0 rfl 0).trans (by rw [← HXA.out.1]; rfl)
          have fv : V7.frozen? ⟨g13, 0, none⟩ = false := hM7.free 0 rfl 0
          have HM8 : Hid (Mem wr (V7.setCell ⟨g13, 0, none⟩ (.string (tnm i))) ((g13, .cells XB 39 (0, 0)) :: C')) := by
            have h := hM7.set 0 rfl 0 (.string (tnm i))
            rw [List.set_cons_zero, eAB] at h
            exact h
          have HXB : Hid ((tc { x with name := tnm i } p1 s1 q1).toArray = XB) := hXB
          generalize hnn : tnm i = nn at HM8
          rw [hnn] at hnm
          clear hM7 eAB hsx hXB
          go_upto_region 51 with fail
          refine wp_letter (fun X => Mem wr X ((g13, .cells XB 39 (0, 0)) :: C')) (by exact HM8.out) ?_
          intro V8 hM8
          clear HM8 cv fv hsl hnm
          have hzB : ZX ({ x with name := tnm i }, p1, s1, q1) C' := by
            obtain ⟨k0, B1, B2, B3, rfl, k1, k2, k3⟩ := HXA.out.2.2
            exact ⟨⟨k0.key, k0.vmac, k0.host⟩, B1, B2, B3, rfl, k1, k2, k3⟩
          have hon : XB.all (·.oneCell') = true := by rw [← HXB.out]; exact all_oneCell_toArray (zb_one (hzB.zb (C := C') (fun x hx => hx)))
          have hsx : XB.size = 33 := by rw [← HXB.out, List.size_toArray]; exact tc_len hzB.1 _ _ _
          have i33 : (Tryd.prog.info? 39).map (·.size) = some XB.size := by rw [hsx]; kernel_rfl
          have hbs : (Instr.buildSlice 26 1 #[(0, .agg XB)]).run Tryd.prog V8 = .ok (.slice (some ⟨V8.heap.size, 0, none⟩) 1 1) (V8.alloc (.cells XB 39)) := by
            have := bsliceT ({ x with name := tnm i }, p1, s1, q1) hzB.1 V8
            rw [show (zc ({ x with name := tnm i }, p1, s1, q1)).toArray = XB from HXB.out] at this
            exact this
          have k13 : V8.heap[g13]? = some (.cells XB 39 (0, 0)) := hM8.get 0 rfl
          have c28 := (HC.out.2.2.2.after hM8.below).cell
          obtain ⟨v4, V9, hrun, ⟨qa, qm, qc, rfl⟩, ⟨v0, cv0⟩, fr0, hH⟩ := HC.out.2.2.2.more (by show ts.length ≤ 900000; have := HC.out; have := HO.out; omega) hzB hM8.sub HXB.out hon
          have HH : Hid (∃ ts u, ts.length = i + 1 ∧ Tns ts ∧ BdC w0 (V9.setCell ⟨g5, 28, none⟩ (.slice qa qm qc)) gw gv g5 o 0 (sc f ts) u) := by
            refine ⟨ts ++ [{ x with name := tnm i }], _, by rw [List.length_append, HC.out.1]; rfl, fun j t' hj => ?_, hH⟩
            rcases Nat.lt_or_ge j ts.length with hjl | hjl
            · rw [List.getElem?_append_left hjl] at hj; exact HC.out.2.2.1 j t' hj
            · rw [List.getElem?_append_right hjl] at hj
              have hj0 : j - ts.length = 0 := by
                rcases Nat.eq_zero_or_pos (j - ts.length) with h0 | h0
                · exact h0
                · rw [List.getElem?_eq_none (by simp; omega)] at hj; cases hj
              rw [hj0] at hj
              have ej : j = i := by have := HC.out.1; omega
              simp at hj; subst hj; rw [ej]; exact ⟨x, HXA.out.2.1.sq h9, rfl⟩
          clear hH hM8 hzB hon HXA HXB HC hsx
          go_wp2_with ((refine wpList_load_row rfl 39 (.tmp 13) (by with_reducible rfl) g13 (by first | rfl | simp [Act.eval]) 39 XB (0, 0) _ k13 Tryd.underlying39 rfl i33 ?_); (refine wpList_bsl rfl 26 1 _ (by with_reducible rfl) hbs (by kernel_rfl) ?_); (refine wpList_append_run (.tmp 167) (.tmp 169) 26 26 (by with_reducible rfl) hrun rfl rfl (by first | rfl | simp [Act.eval]) (by first | rfl | simp [Act.eval]) ?_))
          go_roundw
          case rel => exact ⟨i + 1, by omega, by push_cast; rfl, HH⟩
          case measure => simp [intOf]; omega
        · have h1 : ¬ (i : Int) < 16 + (o : Int) := by omega
          obtain rfl : i = 16 + o := by omega
          have HC : Hid (ts.length = 16 + o ∧ Tns ts ∧ BdC w0 wr gw gv g5 o 0 (sc f ts) u) := ⟨hts, hTn, hC⟩
          clear hlt hi hts hTn hC HR
          go_wp2_with fail
          refine (HC.out.2.2.set_any 96).mono ?_
          rintro _ V6 ⟨rfl, hE⟩
          have HE : Hid (BdE w0 V6 gw g5) := hE.ends (by show ts.length ≤ 1000000; have := HC.out.1; have := HO.out; omega) (fun t' ht => by
            obtain ⟨j, hj, e⟩ := List.mem_iff_getElem.mp (show t' ∈ ts from ht)
            obtain ⟨x, hx, rfl⟩ := HC.out.2.1 j t' (by rw [List.getElem?_eq_getElem hj, e])
            refine ⟨by show 2 ≤ 1000000; omega, by show x.pool.length ≤ _; have := hx.len; omega, by show x.stat.length ≤ _; have := hx.len; omega, by show x.twi.length ≤ _; have := hx.len; omega⟩) (bd_many HF.out HO.out HC.out.1 HC.out.2.1)
          clear hE HC HO HF
          go_wp2_with fail
          go_meet
          case rel => exact HE
  case rest =>
    obtain ⟨al, c, hal, hcl, hcm, hX⟩ := hcut.out
    have j29 : (Tryd.prog.info? 28).map (·.size) = some al.length := by rw [hal]; kernel_rfl
    have HX : Hid (∀ X, Below wc.heap.size wc X → (X.rangeAt g5 0 al ∧ X.cell? ⟨gw, 0, none⟩ = some (.int .i64 (chk c))) ∧ (Calls Tryd.prog 11 #[.agg al.toArray] X fun e V => e = .returned (.int .i64 (chk c)) ∧ Below wc.heap.size wc V) ∧ Below w.heap.size w X) := by
      intro X hb
      obtain ⟨h1, h2, h3, h4⟩ := hX X hb
      have h5 := HVW.out.2.trans (h4.mono HVW.out.2.size)
      exact ⟨⟨h1, h2⟩, (check_any (HVW.out.1.below h5) h3 hcl hcm).mono (fun e V hh => ⟨hh.1, hb.trans (hh.2.mono hb.size)⟩), h5⟩
    generalize chk c = e at HX
    clear hX hcl hcm hal hcut HVW HS HO HB7 HA HY HP10 i29
    go_upto_region 53 with fail
    refine wp_region_held_drew (S := fun X => X.rangeAt g5 0 al ∧ X.cell? ⟨gw, 0, none⟩ = some (.int .i64 e)) (by kernel_rfl) (HX.out _ (Below.refl _ _).drew).1 (fun hHeld => ?_)
    refine wpAnyH_take (i := 0) (v := _) rfl (by kernel_rfl) (by kernel_rfl) (by kernel_rfl) (fun _ _ _ h => h) (yieldsIf_load_mid (by rfl) _ _ rfl _ _ rfl _ _ ?qs0 Tryd.underlying28 rfl j29) (by assumption) ?qr0
    case qs0 =>
      intro w hSw
      (try dsimp only at hSw)
      go_split_ands
      assumption
    try simp only [List.getElem_toArray, List.getElem_cons_zero, List.getElem_cons_succ, Act.put, List.setIfInBounds_toArray, List.set_cons_zero, List.set_cons_succ]
    refine wpAnyH_take (i := 2) (v := ?_) rfl (by kernel_rfl) (by kernel_rfl) (by kernel_rfl) (fun _ _ _ h => h) (Or.inl ⟨by rfl, ?qy2⟩) (by assumption) ?qr2
    case qy2 =>
      intro w hSw
      (try dsimp only at hSw)
      go_split_ands
      go_simp
      all_goals with_reducible rfl
    try simp only [List.getElem_toArray, List.getElem_cons_zero, List.getElem_cons_succ, Act.put, List.setIfInBounds_toArray, List.set_cons_zero, List.set_cons_succ]
    refine wpAnyH_ready (rs := [1]) (by kernel_rfl) (by simp) ?_
    refine AllReadyH.cons rfl (fun K hK => ?_) AllReadyH.nil
    go_simp
    with_reducible refine ((HX.out _ (by first | exact Below.refl _ _ | exact (Below.refl _ _).drew)).2.1).mono ?_
    rintro _ X1 ⟨rfl, hb1⟩
    try go_wp2_with fail
    refine hK.out _ _ (HX.out X1 hb1).1 (fun hHeld => ?_)
    clear hK K
    try simp only [List.getElem_toArray, List.getElem_cons_zero, List.getElem_cons_succ, Act.put, List.setIfInBounds_toArray, List.set_cons_zero, List.set_cons_succ]
    refine wpAnyH_take (i := 3) (v := ?_) rfl (by kernel_rfl) (by kernel_rfl) (by kernel_rfl) (fun _ _ _ h => h) (Or.inl ⟨by rfl, ?qy3⟩) (by assumption) ?qr3
    case qy3 =>
      intro w hSw
      (try dsimp only at hSw)
      go_simp
      all_goals with_reducible rfl
    try simp only [List.getElem_toArray, List.getElem_cons_zero, List.getElem_cons_succ, Act.put, List.setIfInBounds_toArray, List.set_cons_zero, List.set_cons_succ]
    refine wpAnyH_take (i := 4) (v := ?_) rfl (by kernel_rfl) (by kernel_rfl) (by kernel_rfl) (fun _ _ _ h => h) (Or.inl ⟨by rfl, ?qy4⟩) (by assumption) ?qr4
    case qy4 =>
      intro w hSw
      (try dsimp only at hSw)
      go_simp
      all_goals with_reducible rfl
    try simp only [List.getElem_toArray, List.getElem_cons_zero, List.getElem_cons_succ, Act.put, List.setIfInBounds_toArray, List.set_cons_zero, List.set_cons_succ]
    refine wpAnyH_done (by kernel_rfl) ?_ _
    have HF : Hid (Below w.heap.size w X1) := (HX.out X1 hb1).2.2
    clear HX hb1 hHeld
    go_wp2_with fail
    go_ret
    exact ⟨by simp, HF.out⟩
end Go.Proofs.YtnddbklbgddblaaDoor

