/-
  Settings as text: lychlaw13's known is true.
-/
import Derived.Test.YtneciccdiledfaaGreatDoorMx50
set_option linter.unusedVariables false
set_option linter.unusedSimpArgs false
set_option maxRecDepth 20000
namespace Go.Proofs.YtneciccdiledfaaGreatDoor
open Go.RowKit
open La
open Ad
open Sm (IsBytes)
structure Lw (w : World) : Prop where
 vs : Vs w
 fw : FW w
 ey : Ey w
theorem Lw.below {w w' : World} (h : Lw w) (hb : Below w.heap.size w w') : Lw w' := ⟨h.vs.below hb, h.fw.below hb, h.ey.below hb⟩
theorem cv_row {w V : World} {v : Value} {c : Cgf} (h : CVs w.heap.size V v c) (hb : Below w.heap.size w V) : ∃ A : Array Value, v = .agg A ∧ A.size = 29 ∧ A.all (·.oneCell') = true ∧ (Tryz.prog.info? 29).map (·.size) = some A.size ∧ ∀ X, Below V.heap.size V X → CV X v c := by
 have hc := cv_from h rfl hb
 obtain ⟨A, rfl, hsz, hone⟩ := hc.row
 exact ⟨A, rfl, hsz, hone, by rw [hsz]; kernel_rfl, fun X hX => hc.at_ hX (Nat.le_refl _)⟩
theorem text_seat {w : World} {v : Value} {c : Cgf} {n : Nat} (hw : Lw w) (h : CV w v c) (hs : SeatC n c) : Calls Tryz.prog 15 #[v] w fun e w' => e = .returned (.string ⟨(txt c).toArray⟩) ∧ Below w.heap.size w w' := by
 obtain ⟨h1, h2, h3, h4, h5, h6, h7⟩ := seat_all hs
 exact text_any hw.vs hw.fw h h1 h2 h3 (by omega) (by omega)
theorem parse_seat {w : World} {c : Cgf} {n : Nat} (hw : Lw w) (hs : SeatC n c) : Calls Tryz.prog 10 #[.string ⟨(txt c).toArray⟩] w (PrP w (.ok c)) := by
 obtain ⟨h1, h2, h3, h4, h5, h6, h7⟩ := seat_all hs
 have := parse_any hw.vs hw.fw ⟨(txt c).toArray⟩
 rw [parse_txt h7 (by omega)] at this
 exact this
set_option maxHeartbeats 16000000 in
theorem known_any {w : World} (hw : Lw w) : Calls Tryz.prog 9 #[] w fun e w' => e = .returned (.bool true) ∧ Below w.heap.size w w' := by
 obtain ⟨gs, hgs⟩ : ∃ gs, w.heap.size = gs := ⟨_, rfl⟩
 have hM0 : Mem w (w.alloc (.cells #[.int .u16 500, .int .u16 3] 42)) [(gs, .cells #[.int .u16 500, .int .u16 3] 42)] := (Mem.nil w).push1 hgs.symm
 have CS := sconf_any (w.alloc (.cells #[.int .u16 500, .int .u16 3] 42)) (some ⟨gs, 0, none⟩) 2 2 (fun i => if i = 0 then 500 else 3) (fun i hi => ⟨gs, 0, rfl, by
  have : i = 0 ∨ i = 1 := by omega
  rcases this with rfl | rfl
  ·exact hM0.cell 0 rfl 0
  ·exact hM0.cell 0 rfl 1, by split <;> omega, by split <;> omega⟩) 5 (by omega) (by omega)
 rw [show min 2 4 = 2 from rfl] at CS
 have HB0 : Hid (Below w.heap.size w (w.alloc (.cells #[.int .u16 500, .int .u16 3] 42))) := hM0.below
 rw [← hgs] at CS
 clear hM0 hgs
 go_enter Tryz.func9, Tryz.ntmps9
 go_wp2_with fail
 refine CS.mono ?_
 rintro e V1 ⟨c, v, rfl, hS, hCV, hb1⟩
 obtain ⟨A, rfl, hsz, hone, i29, hcv⟩ := cv_row hCV hb1
 have hbw := HB0.out.trans (hb1.mono HB0.out.size)
 have HS : Hid (SeatC 2 c ∧ (∀ X, Below V1.heap.size V1 X → CV X (.agg A) c) ∧ Below w.heap.size w V1) := ⟨hS, hcv, hbw⟩
 clear hS hCV hcv hb1 hbw CS HB0
 obtain ⟨g1, hg1⟩ : ∃ g1, V1.heap.size = g1 := ⟨_, rfl⟩
 have hk1 : (V1.alloc (.cells cz 29)).heap[g1]? = some (.cells cz 29) := by rw [← hg1]; exact heap_alloc_new _ _
 have e1 : (V1.alloc (.cells cz 29)).setRow g1 A = V1.alloc (.cells A 29) := by
  rw [← hg1]; exact World.setRow_alloc_new V1 cz A 29
 have HP : Hid (Mem V1 ((V1.alloc (.cells cz 29)).setRow g1 A) [(g1, .cells A 29)]) := by
  rw [e1]; exact (Mem.nil V1).push1 hg1.symm
 clear e1
 go_upto_region 2 with (refine wpList_store_row rfl 29 (.tmp 1) (.tmp 9) (by with_reducible rfl) g1 A (by simp [Act.eval]; try exact hg1) (by first | rfl | simp [Act.eval]) 29 cz hk1 i29 (by rw [hsz]; rfl) hone ?_)
 refine wp_letter (fun X => Mem V1 X [(g1, Obj.cells A 29)]) (by exact HP.out) ?_
 intro V2 hM2
 try simp only [hg1]
 clear HP hg1 hk1
 have k1 : V2.heap[g1]? = some (.cells A 29) := hM2.get 0 rfl
 have hw2 := hw.below (HS.out.2.2.trans (hM2.below.mono HS.out.2.2.size))
 have CT := text_seat hw2 (HS.out.2.1 _ hM2.below) HS.out.1
 have CP0 : ∀ X, Lw X → Calls Tryz.prog 10 #[.string ⟨(txt c).toArray⟩] X (PrP X (.ok c)) := fun X hX => parse_seat hX HS.out.1
 generalize (⟨(txt c).toArray⟩ : ByteArray) = T at CT CP0
 have HM2 : Hid (Mem V1 V2 [(g1, .cells A 29)] ∧ Lw V2) := ⟨hM2, hw2⟩
 clear hM2 hw2
 go_wp2_with (refine wpList_load_row rfl 29 (.tmp 1) (by with_reducible rfl) g1 (by first | rfl | simp [Act.eval]) 29 A (0, 0) _ k1 Tryz.underlying29 rfl i29 ?_)
 refine CT.mono ?_
 rintro e V3 ⟨rfl, hb3⟩
 have hM3 := HM2.out.1.after hb3
 have hw3 := HM2.out.2.below hb3
 have CP := CP0 V3 hw3
 have HM3 : Hid (Mem V1 V3 [(g1, .cells A 29)] ∧ Lw V3) := ⟨hM3, hw3⟩
 clear hM3 hw3 hb3 CT CP0 HM2 k1
 go_wp2_with fail
 refine CP.mono ?_
 rintro e V4 ⟨hb4, v2, rfl, hCV2⟩
 obtain ⟨A2, rfl, hsz2, hone2, i292, hcv2⟩ := cv_row hCV2 hb4
 have hM4 := HM3.out.1.after hb4
 obtain ⟨g2, hg2⟩ : ∃ g2, V4.heap.size = g2 := ⟨_, rfl⟩
 have hk2 : (V4.alloc (.cells cz 29)).heap[g2]? = some (.cells cz 29) := by rw [← hg2]; exact heap_alloc_new _ _
 have e2 : (V4.alloc (.cells cz 29)).setRow g2 A2 = V4.alloc (.cells A2 29) := by
  rw [← hg2]; exact World.setRow_alloc_new V4 cz A2 29
 have HP : Hid ((Mem V1 ((V4.alloc (.cells cz 29)).setRow g2 A2) [(g2, .cells A2 29), (g1, .cells A 29)]) ∧ Below V4.heap.size V4 ((V4.alloc (.cells cz 29)).setRow g2 A2)) := by
  rw [e2]; exact ⟨hM4.front _ hg2.symm, (Below.refl _ _).alloc (Nat.le_refl _) _⟩
 have HC2 : Hid ((∀ X, Below V4.heap.size V4 X → CV X (.agg A2) c) ∧ Lw V4) := ⟨hcv2, HM3.out.2.below hb4⟩
 clear e2 hM4 hcv2 hCV2 hb4 CP HM3
 go_upto_region 3 with (refine wpList_store_row rfl 29 (.tmp 2) (.tmp 14) (by with_reducible rfl) g2 A2 (by simp [Act.eval]; try exact hg2) (by first | rfl | simp [Act.eval]) 29 cz hk2 i292 (by rw [hsz2]; rfl) hone2 ?_)
 refine wp_letter (fun X => Mem V1 X [(g2, Obj.cells A2 29), (g1, Obj.cells A 29)] ∧ Below V4.heap.size V4 X) (by exact HP.out) ?_
 rintro V5 ⟨hM5, hb5⟩
 try simp only [hg2]
 clear HP hg2 hk2
 have hw5 := HC2.out.2.below hb5
 have CB := parse_any hw5.vs hw5.fw badT
 rw [parse_badT] at CB
 have HM5 : Hid (Mem V1 V5 [(g2, .cells A2 29), (g1, .cells A 29)] ∧ Below V4.heap.size V4 V5 ∧ Lw V5) := ⟨hM5, hb5, hw5⟩
 clear hM5 hb5 hw5
 go_wp2_with fail
 refine CB.mono ?_
 rintro e V6 ⟨ge, rfl, hMe⟩
 obtain ⟨g3, hg3⟩ : ∃ g3, V6.heap.size = g3 := ⟨_, rfl⟩
 have hk3 : (V6.alloc (.cells cz 29)).heap[g3]? = some (.cells cz 29) := by rw [← hg3]; exact heap_alloc_new _ _
 have e3 : (V6.alloc (.cells cz 29)).setRow g3 cz = V6.alloc (.cells cz 29) := by
  rw [← hg3]; exact World.setRow_alloc_new V6 cz cz 29
 have HP : Hid (Mem V5 ((V6.alloc (.cells cz 29)).setRow g3 cz) [(ge, .cells #[.int .i64 (17 : Nat), .int .i64 60] 64)]) := by
  rw [e3]; exact hMe.after ((Below.refl _ _).alloc (Nat.le_refl _) _)
 clear e3 hMe CB
 go_upto_region 4 with (refine wpList_store_row rfl 29 (.tmp 4) (.tmp 18) (by with_reducible rfl) g3 cz (by simp [Act.eval]; try exact hg3) (by first | rfl | simp [Act.eval]) 29 cz hk3 (by kernel_rfl) rfl (by kernel_rfl) ?_)
 refine wp_letter (fun X => Mem V5 X [(ge, Obj.cells #[.int .i64 (17 : Nat), .int .i64 60] 64)]) (by exact HP.out) ?_
 intro V7 hM7
 try simp only [hg3]
 clear HP hg3 hk3
 have CTo := told_place HM5.out.2.2.ey hM7
 have HM7 : Hid (Mem V5 V7 [(ge, .cells #[.int .i64 (17 : Nat), .int .i64 60] 64)]) := hM7
 clear hM7
 go_wp2_with fail
 refine CTo.mono ?_
 rintro e V8 ⟨rfl, hb8⟩
 have hb58 := HM7.out.below.trans (hb8.mono HM7.out.below.size)
 have hM8 := HM5.out.1.after hb58
 have hb48 := HM5.out.2.1.trans (hb58.mono HM5.out.2.1.size)
 have k1 : V8.heap[g1]? = some (.cells A 29) := hM8.get 1 rfl
 have k2 : V8.heap[g2]? = some (.cells A2 29) := hM8.get 0 rfl
 obtain ⟨z1, z2, z3, z4, z5, z6, z7⟩ := seat_all HS.out.1
 have CH := hconfig_yes (HS.out.2.1 _ hM8.below) (HC2.out.1 _ hb48) z4 (csame_refl c)
 have HB8 : Hid (Below w.heap.size w V8) := HS.out.2.2.trans (hM8.below.mono HS.out.2.2.size)
 clear hb8 hb58 hM8 hb48 z1 z2 z3 z4 z5 z6 z7 CTo HM7 HM5 HC2 HS
 go_wp2_with (first | (refine wpList_load_row_g (by rfl) 29 (.tmp 1) (by with_reducible rfl) g1 (by first | rfl | simp [Act.eval]) 29 A (0, 0) _ k1 Tryz.underlying29 i29 ?_) | (refine wpList_load_row_g (by rfl) 29 (.tmp 2) (by with_reducible rfl) g2 (by first | rfl | simp [Act.eval]) 29 A2 (0, 0) _ k2 Tryz.underlying29 i292 ?_))
 refine CH.mono ?_
 rintro e V9 ⟨rfl, hb9⟩
 have HB9 : Hid (Below w.heap.size w V9) := HB8.out.trans (hb9.mono HB8.out.size)
 clear hb9 CH HB8
 go_wp2_with fail
 go_ret
 exact ⟨rfl, HB9.out⟩
end Go.Proofs.YtneciccdiledfaaGreatDoor
