/-
  Any bytes are read as just the document's settings, tenant, change, or refused: the statement's walk.
-/
import Derived.Test.YtngegdamcfmonaaGreatM46
import Derived.Test.YtngegdamcfmonaaGreatM43
import Derived.Test.YtngegdamcfmonaaGreatM33
import Derived.Test.YtngegdamcfmonaaGreatM44
namespace Go.Proofs.YtngegdamcfmonaaGreat
open Go.RowKit
open Sm
open Cf
set_option linter.unusedVariables false
set_option linter.unusedSimpArgs false
set_option maxRecDepth 20000

set_option maxHeartbeats 16000000 in
theorem reads_law {w : World} {a : Option Addr} {n c : Nat} {l : List Int} (h : n ≤ 140737488351232 → l.length = n ∧ Sl w a l c) :
    Calls Tryz.prog 4 #[.slice a n c] w fun e w' => e = .returned (.bool true) ∧ Below w.heap.size w w' := by
  by_cases hn : n ≤ 4000
  rotate_left
  · have h1 : (4000 : Int) < n := by omega
    go_enter Tryz.func4, Tryz.ntmps4
    go_wp2_with fail
    refine (known_any w).mono ?_
    rintro e V0 ⟨rfl, hb0⟩
    go_wp2_with fail
    go_ret
    exact ⟨rfl, hb0⟩
  obtain ⟨rfl, hS⟩ := h (by omega)
  have h1 : ¬ ((4000 : Int) < l.length) := by omega
  have HL : Hid (l.length ≤ 1000000) := by show _ ≤ _; omega
  have HFc : Hid (∀ t ∈ (cX l).ten, TFew t) := cX_few hS.row.bytes
  have HFt : Hid (TFew (tX l)) := tX_few hS.row.bytes
  have HFh : Hid (TFew (hX l).t) := hX_few hS.row.bytes
  have HS0 : Hid (Sl w a l c) := hS
  clear hS h hn
  go_enter Tryz.func4, Tryz.ntmps4
  go_wp2_with fail
  refine (known_any w).mono ?_
  rintro e V0 ⟨rfl, hb0⟩
  have HV : Hid (Std w V0 [] (fun V => Sl V a l c)) := ⟨(Mem.nil w).after hb0, fun V hV => HS0.out.below (hb0.trans (hV.mono hb0.size))⟩
  clear hb0 HS0
  have C1 := openConfig_any (HV.out.now)
  go_wp2_with fail
  refine C1.mono ?_
  rintro e V1 hpost
  obtain ⟨hb, v, rfl, hv⟩ := opc_one hpost
  clear C1 hpost
  obtain ⟨A1, rfl, hs1, ho1⟩ := hv.row
  have i1 : (Tryz.prog.info? 28).map (·.size) = some A1.size := by rw [hs1]; kernel_rfl
  have HN : Hid (Std w (V1.alloc (.cells A1 28)) [(V1.heap.size, .cells A1 28 (0, 0))] (fun V => Sl V a l c ∧ CV V (.agg A1) (cX l))) := ((HV.out.after hb).and (fun V hV => hv.at_ hV (Nat.le_refl _))).push _
  clear HV hb hv
  go_upto_region 6 with (refine wpList_store_row rfl 28 (.tmp 3) (.tmp 25) (by with_reducible rfl) V1.heap.size A1 (by first | rfl | simp [Act.eval]) (by first | rfl | simp [Act.eval]) 28 _ (heap_alloc_new V1 _) i1 (by rw [hs1]; rfl) ho1 ?_)
  refine wp_letter (fun V => Std w V [(V1.heap.size, .cells A1 28 (0, 0))] (fun V => Sl V a l c ∧ CV V (.agg A1) (cX l))) (by
    rw [World.setRow_alloc_new]
    exact HN.out) ?_
  intro V1b hN
  obtain ⟨g1, hg1⟩ : ∃ x, V1.heap.size = x := ⟨_, rfl⟩
  rw [hg1] at hN
  simp only [hg1]
  have HV : Hid (Std w V1b [(g1, .cells A1 28 (0, 0))] (fun V => Sl V a l c ∧ CV V (.agg A1) (cX l))) := hN
  clear HN hN hg1
  have C2 := rocf_any (HV.out.now.1) HL.out
  go_wp2_with fail
  refine C2.mono ?_
  rintro e V2 hpost
  obtain ⟨hb, v, rfl, hv⟩ := opc_one hpost
  clear C2 hpost
  obtain ⟨A2, rfl, hs2, ho2⟩ := hv.row
  have i2 : (Tryz.prog.info? 28).map (·.size) = some A2.size := by rw [hs2]; kernel_rfl
  have HN : Hid (Std w (V2.alloc (.cells A2 28)) [(V2.heap.size, .cells A2 28 (0, 0)), (g1, .cells A1 28 (0, 0))] (fun V => (Sl V a l c ∧ CV V (.agg A1) (cX l)) ∧ CV V (.agg A2) (cX l))) := ((HV.out.after hb).and (fun V hV => hv.at_ hV (Nat.le_refl _))).push _
  clear HV hb hv
  go_upto_region 7 with (refine wpList_store_row rfl 28 (.tmp 5) (.tmp 30) (by with_reducible rfl) V2.heap.size A2 (by first | rfl | simp [Act.eval]) (by first | rfl | simp [Act.eval]) 28 _ (heap_alloc_new V2 _) i2 (by rw [hs2]; rfl) ho2 ?_)
  refine wp_letter (fun V => Std w V [(V2.heap.size, .cells A2 28 (0, 0)), (g1, .cells A1 28 (0, 0))] (fun V => (Sl V a l c ∧ CV V (.agg A1) (cX l)) ∧ CV V (.agg A2) (cX l))) (by
    rw [World.setRow_alloc_new]
    exact HN.out) ?_
  intro V2b hN
  obtain ⟨g2, hg2⟩ : ∃ x, V2.heap.size = x := ⟨_, rfl⟩
  rw [hg2] at hN
  simp only [hg2]
  have HV : Hid (Std w V2b [(g2, .cells A2 28 (0, 0)), (g1, .cells A1 28 (0, 0))] (fun V => (Sl V a l c ∧ CV V (.agg A1) (cX l)) ∧ CV V (.agg A2) (cX l))) := hN
  clear HN hN hg2
  have C3 := openTenant_any (HV.out.now.1.1) HL.out
  go_wp2_with fail
  refine C3.mono ?_
  rintro e V3 hpost
  obtain ⟨hb, v, rfl, hv⟩ := ot_one hpost
  clear C3 hpost
  obtain ⟨tl3, rfl, ht3, ho3⟩ := hv.row2
  obtain ⟨A3, hA3⟩ : ∃ A, tl3.toArray = A := ⟨_, rfl⟩
  rw [hA3] at ho3 hv
  have hs3 : A3.size = 33 := by rw [← hA3, List.size_toArray, ht3]
  simp only [hA3]
  clear hA3 ht3
  have i3 : (Tryz.prog.info? 33).map (·.size) = some A3.size := by rw [hs3]; kernel_rfl
  have HN : Hid (Std w (V3.alloc (.cells A3 33)) [(V3.heap.size, .cells A3 33 (0, 0)), (g2, .cells A2 28 (0, 0)), (g1, .cells A1 28 (0, 0))] (fun V => ((Sl V a l c ∧ CV V (.agg A1) (cX l)) ∧ CV V (.agg A2) (cX l)) ∧ TV V (.agg A3) (tX l))) := ((HV.out.after hb).and (fun V hV => hv.at2 hV)).push _
  clear HV hb hv
  go_upto_region 8 with (refine wpList_store_row rfl 33 (.tmp 7) (.tmp 35) (by with_reducible rfl) V3.heap.size A3 (by first | rfl | simp [Act.eval]) (by first | rfl | simp [Act.eval]) 33 _ (heap_alloc_new V3 _) i3 (by rw [hs3]; rfl) ho3 ?_)
  refine wp_letter (fun V => Std w V [(V3.heap.size, .cells A3 33 (0, 0)), (g2, .cells A2 28 (0, 0)), (g1, .cells A1 28 (0, 0))] (fun V => ((Sl V a l c ∧ CV V (.agg A1) (cX l)) ∧ CV V (.agg A2) (cX l)) ∧ TV V (.agg A3) (tX l))) (by
    rw [World.setRow_alloc_new]
    exact HN.out) ?_
  intro V3b hN
  obtain ⟨g3, hg3⟩ : ∃ x, V3.heap.size = x := ⟨_, rfl⟩
  rw [hg3] at hN
  simp only [hg3]
  have HV : Hid (Std w V3b [(g3, .cells A3 33 (0, 0)), (g2, .cells A2 28 (0, 0)), (g1, .cells A1 28 (0, 0))] (fun V => ((Sl V a l c ∧ CV V (.agg A1) (cX l)) ∧ CV V (.agg A2) (cX l)) ∧ TV V (.agg A3) (tX l))) := hN
  clear HN hN hg3
  have C4 := rotn_any (HV.out.now.1.1.1) HL.out
  go_wp2_with fail
  refine C4.mono ?_
  rintro e V4 hpost
  obtain ⟨hb, v, rfl, hv⟩ := ot_one hpost
  clear C4 hpost
  obtain ⟨tl4, rfl, ht4, ho4⟩ := hv.row2
  obtain ⟨A4, hA4⟩ : ∃ A, tl4.toArray = A := ⟨_, rfl⟩
  rw [hA4] at ho4 hv
  have hs4 : A4.size = 33 := by rw [← hA4, List.size_toArray, ht4]
  simp only [hA4]
  clear hA4 ht4
  have i4 : (Tryz.prog.info? 33).map (·.size) = some A4.size := by rw [hs4]; kernel_rfl
  have HN : Hid (Std w (V4.alloc (.cells A4 33)) [(V4.heap.size, .cells A4 33 (0, 0)), (g3, .cells A3 33 (0, 0)), (g2, .cells A2 28 (0, 0)), (g1, .cells A1 28 (0, 0))] (fun V => (((Sl V a l c ∧ CV V (.agg A1) (cX l)) ∧ CV V (.agg A2) (cX l)) ∧ TV V (.agg A3) (tX l)) ∧ TV V (.agg A4) (tX l))) := ((HV.out.after hb).and (fun V hV => hv.at2 hV)).push _
  clear HV hb hv
  go_upto_region 9 with (refine wpList_store_row rfl 33 (.tmp 10) (.tmp 41) (by with_reducible rfl) V4.heap.size A4 (by first | rfl | simp [Act.eval]) (by first | rfl | simp [Act.eval]) 33 _ (heap_alloc_new V4 _) i4 (by rw [hs4]; rfl) ho4 ?_)
  refine wp_letter (fun V => Std w V [(V4.heap.size, .cells A4 33 (0, 0)), (g3, .cells A3 33 (0, 0)), (g2, .cells A2 28 (0, 0)), (g1, .cells A1 28 (0, 0))] (fun V => (((Sl V a l c ∧ CV V (.agg A1) (cX l)) ∧ CV V (.agg A2) (cX l)) ∧ TV V (.agg A3) (tX l)) ∧ TV V (.agg A4) (tX l))) (by
    rw [World.setRow_alloc_new]
    exact HN.out) ?_
  intro V4b hN
  obtain ⟨g4, hg4⟩ : ∃ x, V4.heap.size = x := ⟨_, rfl⟩
  rw [hg4] at hN
  simp only [hg4]
  have HV : Hid (Std w V4b [(g4, .cells A4 33 (0, 0)), (g3, .cells A3 33 (0, 0)), (g2, .cells A2 28 (0, 0)), (g1, .cells A1 28 (0, 0))] (fun V => (((Sl V a l c ∧ CV V (.agg A1) (cX l)) ∧ CV V (.agg A2) (cX l)) ∧ TV V (.agg A3) (tX l)) ∧ TV V (.agg A4) (tX l))) := hN
  clear HN hN hg4
  have C5 := openChange_any (HV.out.now.1.1.1.1)
  go_wp2_with fail
  refine C5.mono ?_
  rintro e V5 hpost
  obtain ⟨hb, v, rfl, hv⟩ := ocp_one hpost
  clear C5 hpost
  obtain ⟨A5, tl5, rfl, hA5, ht5, ho5, hbs5, hTV5⟩ := hv.row
  have hs5 : A5.size = 35 := by rw [hA5, List.size_toArray]; simp only [List.length_cons, ht5]
  have HC5 : Hid (A5 = (.bool (hX l).put :: .string (hX l).name :: tl5).toArray ∧ tl5.length = 33 ∧ ∀ V, (Instr.buildSlice 61 1 #[(0, .agg A5)]).run Tryz.prog V = .ok (.slice (some ⟨V.heap.size, 0, none⟩) 1 1) (V.alloc (.cells A5 35))) := ⟨hA5, ht5, hbs5⟩
  have hv := hTV5
  clear hA5 ht5 hbs5 hTV5
  have i5 : (Tryz.prog.info? 35).map (·.size) = some A5.size := by rw [hs5]; kernel_rfl
  have HN : Hid (Std w (V5.alloc (.cells A5 35)) [(V5.heap.size, .cells A5 35 (0, 0)), (g4, .cells A4 33 (0, 0)), (g3, .cells A3 33 (0, 0)), (g2, .cells A2 28 (0, 0)), (g1, .cells A1 28 (0, 0))] (fun V => ((((Sl V a l c ∧ CV V (.agg A1) (cX l)) ∧ CV V (.agg A2) (cX l)) ∧ TV V (.agg A3) (tX l)) ∧ TV V (.agg A4) (tX l)) ∧ TV V (.agg tl5.toArray) (hX l).t)) := ((HV.out.after hb).and (fun V hV => hv.at2 hV)).push _
  clear HV hb hv
  go_upto_region 10 with (refine wpList_store_row rfl 35 (.tmp 13) (.tmp 47) (by with_reducible rfl) V5.heap.size A5 (by first | rfl | simp [Act.eval]) (by first | rfl | simp [Act.eval]) 35 _ (heap_alloc_new V5 _) i5 (by rw [hs5]; rfl) ho5 ?_)
  refine wp_letter (fun V => Std w V [(V5.heap.size, .cells A5 35 (0, 0)), (g4, .cells A4 33 (0, 0)), (g3, .cells A3 33 (0, 0)), (g2, .cells A2 28 (0, 0)), (g1, .cells A1 28 (0, 0))] (fun V => ((((Sl V a l c ∧ CV V (.agg A1) (cX l)) ∧ CV V (.agg A2) (cX l)) ∧ TV V (.agg A3) (tX l)) ∧ TV V (.agg A4) (tX l)) ∧ TV V (.agg tl5.toArray) (hX l).t)) (by
    rw [World.setRow_alloc_new]
    exact HN.out) ?_
  intro V5b hN
  obtain ⟨g5, hg5⟩ : ∃ x, V5.heap.size = x := ⟨_, rfl⟩
  rw [hg5] at hN
  simp only [hg5]
  have HV : Hid (Std w V5b [(g5, .cells A5 35 (0, 0)), (g4, .cells A4 33 (0, 0)), (g3, .cells A3 33 (0, 0)), (g2, .cells A2 28 (0, 0)), (g1, .cells A1 28 (0, 0))] (fun V => ((((Sl V a l c ∧ CV V (.agg A1) (cX l)) ∧ CV V (.agg A2) (cX l)) ∧ TV V (.agg A3) (tX l)) ∧ TV V (.agg A4) (tX l)) ∧ TV V (.agg tl5.toArray) (hX l).t)) := hN
  clear HN hN hg5
  have C6 := roch_any (HV.out.now.1.1.1.1.1) HL.out
  go_wp2_with fail
  refine C6.mono ?_
  rintro e V6 hpost
  obtain ⟨hb, v, rfl, hv⟩ := ocp_one hpost
  clear C6 hpost
  obtain ⟨A6, tl6, rfl, hA6, ht6, ho6, hbs6, hTV6⟩ := hv.row
  have hs6 : A6.size = 35 := by rw [hA6, List.size_toArray]; simp only [List.length_cons, ht6]
  have HC6 : Hid (A6 = (.bool (hX l).put :: .string (hX l).name :: tl6).toArray ∧ tl6.length = 33 ∧ ∀ V, (Instr.buildSlice 61 1 #[(0, .agg A6)]).run Tryz.prog V = .ok (.slice (some ⟨V.heap.size, 0, none⟩) 1 1) (V.alloc (.cells A6 35))) := ⟨hA6, ht6, hbs6⟩
  have hv := hTV6
  clear hA6 ht6 hbs6 hTV6
  have i6 : (Tryz.prog.info? 35).map (·.size) = some A6.size := by rw [hs6]; kernel_rfl
  have HN : Hid (Std w (V6.alloc (.cells A6 35)) [(V6.heap.size, .cells A6 35 (0, 0)), (g5, .cells A5 35 (0, 0)), (g4, .cells A4 33 (0, 0)), (g3, .cells A3 33 (0, 0)), (g2, .cells A2 28 (0, 0)), (g1, .cells A1 28 (0, 0))] (fun V => (((((Sl V a l c ∧ CV V (.agg A1) (cX l)) ∧ CV V (.agg A2) (cX l)) ∧ TV V (.agg A3) (tX l)) ∧ TV V (.agg A4) (tX l)) ∧ TV V (.agg tl5.toArray) (hX l).t) ∧ TV V (.agg tl6.toArray) (hX l).t)) := ((HV.out.after hb).and (fun V hV => hv.at2 hV)).push _
  clear HV hb hv
  go_upto_region 11 with (refine wpList_store_row rfl 35 (.tmp 15) (.tmp 52) (by with_reducible rfl) V6.heap.size A6 (by first | rfl | simp [Act.eval]) (by first | rfl | simp [Act.eval]) 35 _ (heap_alloc_new V6 _) i6 (by rw [hs6]; rfl) ho6 ?_)
  refine wp_letter (fun V => Std w V [(V6.heap.size, .cells A6 35 (0, 0)), (g5, .cells A5 35 (0, 0)), (g4, .cells A4 33 (0, 0)), (g3, .cells A3 33 (0, 0)), (g2, .cells A2 28 (0, 0)), (g1, .cells A1 28 (0, 0))] (fun V => (((((Sl V a l c ∧ CV V (.agg A1) (cX l)) ∧ CV V (.agg A2) (cX l)) ∧ TV V (.agg A3) (tX l)) ∧ TV V (.agg A4) (tX l)) ∧ TV V (.agg tl5.toArray) (hX l).t) ∧ TV V (.agg tl6.toArray) (hX l).t)) (by
    rw [World.setRow_alloc_new]
    exact HN.out) ?_
  intro V6b hN
  obtain ⟨g6, hg6⟩ : ∃ x, V6.heap.size = x := ⟨_, rfl⟩
  rw [hg6] at hN
  simp only [hg6]
  have HV : Hid (Std w V6b [(g6, .cells A6 35 (0, 0)), (g5, .cells A5 35 (0, 0)), (g4, .cells A4 33 (0, 0)), (g3, .cells A3 33 (0, 0)), (g2, .cells A2 28 (0, 0)), (g1, .cells A1 28 (0, 0))] (fun V => (((((Sl V a l c ∧ CV V (.agg A1) (cX l)) ∧ CV V (.agg A2) (cX l)) ∧ TV V (.agg A3) (tX l)) ∧ TV V (.agg A4) (tX l)) ∧ TV V (.agg tl5.toArray) (hX l).t) ∧ TV V (.agg tl6.toArray) (hX l).t)) := hN
  clear HN hN hg6
  have CC := hconfig_yes HV.out.now.1.1.1.1.1.2 HV.out.now.1.1.1.1.2 HFc.out (CSame.refl _)
  have k1 := HV.out.1.get 5 rfl
  have k2 := HV.out.1.get 4 rfl
  generalize cE l = E1 at *
  generalize tN l = N1 at *
  generalize tE l = E2 at *
  generalize hE l = E3 at *
  go_wp2_with (first | (refine wpList_load_row_g rfl 28 (.tmp 3) (by with_reducible rfl) g1 (by first | rfl | simp [Act.eval]) 28 A1 (0, 0) _ k1 Tryz.underlying28 i1 ?_) | (refine wpList_load_row_g rfl 28 (.tmp 5) (by with_reducible rfl) g2 (by first | rfl | simp [Act.eval]) 28 A2 (0, 0) _ k2 Tryz.underlying28 i2 ?_))
  refine CC.mono ?_
  rintro e W1 ⟨rfl, hb⟩
  have HV2 : Hid (Std w W1 [(g6, .cells A6 35 (0, 0)), (g5, .cells A5 35 (0, 0)), (g4, .cells A4 33 (0, 0)), (g3, .cells A3 33 (0, 0)), (g2, .cells A2 28 (0, 0)), (g1, .cells A1 28 (0, 0))] (fun V => (((((Sl V a l c ∧ CV V (.agg A1) (cX l)) ∧ CV V (.agg A2) (cX l)) ∧ TV V (.agg A3) (tX l)) ∧ TV V (.agg A4) (tX l)) ∧ TV V (.agg tl5.toArray) (hX l).t) ∧ TV V (.agg tl6.toArray) (hX l).t)) := HV.out.after hb
  clear CC k1 k2 hb HV
  have CT := htenant_yes HV2.out.now.1.1.1.2 HV2.out.now.1.1.2 HFt.out (TSame.refl _)
  have k1 := HV2.out.1.get 3 rfl
  have k2 := HV2.out.1.get 2 rfl
  go_wp2_with (first | (refine wpList_load_row_g rfl 33 (.tmp 7) (by with_reducible rfl) g3 (by first | rfl | simp [Act.eval]) 33 A3 (0, 0) _ k1 Tryz.underlying33 i3 ?_) | (refine wpList_load_row_g rfl 33 (.tmp 10) (by with_reducible rfl) g4 (by first | rfl | simp [Act.eval]) 33 A4 (0, 0) _ k2 Tryz.underlying33 i4 ?_))
  refine CT.mono ?_
  rintro e W2 ⟨rfl, hb⟩
  have HV3 : Hid (Std w W2 [(g6, .cells A6 35 (0, 0)), (g5, .cells A5 35 (0, 0)), (g4, .cells A4 33 (0, 0)), (g3, .cells A3 33 (0, 0)), (g2, .cells A2 28 (0, 0)), (g1, .cells A1 28 (0, 0))] (fun V => (((((Sl V a l c ∧ CV V (.agg A1) (cX l)) ∧ CV V (.agg A2) (cX l)) ∧ TV V (.agg A3) (tX l)) ∧ TV V (.agg A4) (tX l)) ∧ TV V (.agg tl5.toArray) (hX l).t) ∧ TV V (.agg tl6.toArray) (hX l).t)) := HV2.out.after hb
  clear CT k1 k2 hb HV2
  have hM21 := two_blocks' W2 (.cells A5 35) (.cells A6 35)
  have kX := HV3.out.1.get 1 rfl
  have kY : (W2.alloc (.cells A5 35)).heap[g6]? = some (.cells A6 35 (0, 0)) := (HV3.out.push (.cells A5 35 (0, 0))).1.get 1 rfl
  have hB1 := HC5.out.2.2 W2
  have hB2 : (Instr.buildSlice 61 1 #[(0, .agg A6)]).run Tryz.prog (W2.alloc (.cells A5 35)) = .ok (.slice (some ⟨W2.heap.size + 1, 0, none⟩) 1 1) ((W2.alloc (.cells A5 35)).alloc (.cells A6 35)) := by
    rw [HC6.out.2.2]
    simp
  have CCh := hchanges_yes (w := (W2.alloc (.cells A5 35)).alloc (.cells A6 35)) (b := W2.heap.size) (b' := W2.heap.size + 1) (c := 1) (c' := 1) (px' := (hX l).put) (py := (hX l).put) (nx := (hX l).name) (ny := (hX l).name) (xl := tl5) (yl := tl6) HC5.out.2.1 HC6.out.2.1 (fun V hV => by
      have h := hM21.after hV
      refine ⟨?_, ?_, fun j v hj => ?_, ?_, ?_, fun j v hj => ?_⟩
      · rw [h.cell 1 rfl, HC5.out.1]; rfl
      · rw [h.cell 1 rfl, HC5.out.1]; rfl
      · rw [h.cell 1 rfl, HC5.out.1, Nat.add_comm]; simpa using hj
      · rw [h.cell 0 rfl, HC6.out.1]; rfl
      · rw [h.cell 0 rfl, HC6.out.1]; rfl
      · rw [h.cell 0 rfl, HC6.out.1, Nat.add_comm]; simpa using hj) rfl rfl (fun V hV => by
      have h := hM21.below.trans (hV.mono hM21.below.size)
      have q := HV3.out.2 V h
      exact htenant_yes q.1.2 q.2 HFh.out (TSame.refl _))
  have HB : Hid (Below w.heap.size w ((W2.alloc (.cells A5 35)).alloc (.cells A6 35))) := HV3.out.1.below.trans (hM21.below.mono HV3.out.1.below.size)
  clear hM21 HV3
  go_wp2_with ((refine wpList_load_row_g rfl 35 (.tmp 13) (by with_reducible rfl) g5 rfl 35 A5 (0, 0) _ kX Tryz.underlying35 i5 ?_); (refine wpList_bsl rfl 61 1 _ (by with_reducible rfl) hB1 (by kernel_rfl) ?_); (refine wpList_load_row_g rfl 35 (.tmp 15) (by with_reducible rfl) g6 rfl 35 A6 (0, 0) _ kY Tryz.underlying35 i6 ?_); (refine wpList_bsl rfl 61 1 _ (by with_reducible rfl) hB2 (by kernel_rfl) ?_))
  refine CCh.mono ?_
  rintro e W3 ⟨rfl, hb⟩
  have HB2 : Hid (Below w.heap.size w W3) := HB.out.trans (hb.mono HB.out.size)
  clear CCh hb HB kX kY hB1 hB2
  go_wp2_with fail
  go_ret
  exact ⟨rfl, HB2.out⟩
end Go.Proofs.YtngegdamcfmonaaGreat

