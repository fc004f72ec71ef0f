/-
  Settings as text: the walk of LangReads: any text is read as just the document's settings, or refused at just its place.
-/
import Derived.Test.YtneciccdiledfaaGreatDoorMr52
namespace Go.Proofs.YtneciccdiledfaaGreatDoor
open Go.RowKit
open La
open Ad
set_option linter.unusedVariables false
set_option linter.unusedSimpArgs false
set_option maxRecDepth 20000

set_option maxHeartbeats 16000000 in
theorem reads13_law {w : World} (hw : Lw w) (s : ByteArray) :
    Calls Tryz.prog 3 #[.string s] w fun e w' => e = .returned (.bool true) ∧ Below w.heap.size w w' := by
  have CK := known_any hw
  by_cases hbig : 4000 < s.size
  · have hz : (4000 : Int) < s.size := by omega
    clear hbig
    go_enter Tryz.func3, Tryz.ntmps3
    go_wp2_with fail
    refine CK.mono ?_
    rintro e V1 ⟨rfl, hb1⟩
    go_wp2_with fail
    go_ret
    exact ⟨rfl, hb1⟩
  have hz : ¬ (4000 : Int) < s.size := by omega
  have HLW : Hid (Lw w) := hw
  have HFW : Hid (∀ t ∈ (pcf (parse s)).ten, TFew t) := pcf_few s
  have HCP : Hid (∀ X, Lw X → Calls Tryz.prog 10 #[.string s] X fun e V => ∃ A ev, e = .returned (.tuple #[.agg A, ev]) ∧ ev.oneCell' = true ∧ Row29 V A (pcf (parse s)) ∧ Below X.heap.size X V ∧ ∀ Y, Below V.heap.size V Y → Calls Tryz.prog 11 #[ev] Y fun e V' => e = .returned (.tuple #[.int .i64 (pat (parse s)), .int .i64 (per (parse s))]) ∧ Below Y.heap.size Y V') := fun X hX => parse_both hX s
  have HCR : Hid (∀ X, Lw X → Calls Tryz.prog 12 #[.string s] X fun e V => ∃ A, e = .returned (.tuple #[.agg A, .int .i64 (pat (parse s)), .int .i64 (per (parse s))]) ∧ Row29 V A (pcf (parse s)) ∧ Below X.heap.size X V) := fun X hX => rparse_both hX s
  generalize pcf (parse s) = c at HFW HCP HCR
  generalize pat (parse s) = pa at HCP HCR
  generalize per (parse s) = pe at HCP HCR
  clear hw hbig
  go_enter Tryz.func3, Tryz.ntmps3
  go_wp2_with fail
  refine CK.mono ?_
  rintro e V1 ⟨rfl, hb1⟩
  have CP := HCP.out V1 (HLW.out.below hb1)
  have HB1 : Hid (Below w.heap.size w V1) := hb1
  clear CK hb1 HCP
  go_wp2_with fail
  refine CP.mono ?_
  rintro e V2 ⟨A, ev, rfl, hev, ⟨hsz, hone, hcv⟩, hb2, hTo⟩
  have i29 : (Tryz.prog.info? 29).map (·.size) = some A.size := by rw [hsz]; kernel_rfl
  have HB2 : Hid (Below w.heap.size w V2) := HB1.out.trans (hb2.mono HB1.out.size)
  obtain ⟨g1, hg1⟩ : ∃ g1, V2.heap.size = g1 := ⟨_, rfl⟩
  obtain ⟨hk1, e1⟩ := box_new (A := A) hg1
  have HP : Hid (Mem V2 ((V2.alloc (.cells cz 29)).setRow g1 A) [(g1, .cells A 29 (0, 0))]) := by
    rw [e1]; exact (Mem.nil V2).push1 hg1.symm
  have HTo : Hid ((∀ Y, Below V2.heap.size V2 Y → Calls Tryz.prog 11 #[ev] Y fun e V' => e = .returned (.tuple #[.int .i64 pa, .int .i64 pe]) ∧ Below Y.heap.size Y V') ∧ ∀ X, Below V2.heap.size V2 X → CV X (.agg A) c) := ⟨hTo, hcv⟩
  clear e1 hb2 CP hTo hcv HB1
  go_upto_region 6 with (refine wpList_store_row rfl 29 (.tmp 3) (.tmp 18) (by with_reducible rfl) g1 A (by simp [Act.eval]; try exact hg1) (by first | rfl | simp [Act.eval]) 29 cz hk1 i29 (by rw [hsz]; rfl) hone ?_)
  refine wp_letter (fun X => Mem V2 X [(g1, Obj.cells A 29 (0, 0))]) (by exact HP.out) ?_
  intro V3 hM3
  try simp only [hg1]
  have CT := HTo.out.1 V3 hM3.below
  have HM3 : Hid (Mem V2 V3 [(g1, .cells A 29 (0, 0))]) := hM3
  clear HP hg1 hk1 hM3 hsz hone
  go_wp2_with fail
  refine CT.mono ?_
  rintro e V4 ⟨rfl, hb4⟩
  have HM4 : Hid (Mem V2 V4 [(g1, .cells A 29 (0, 0))]) := HM3.out.after hb4
  have hbw4 : Below w.heap.size w V4 := HB2.out.trans (HM4.out.below.mono HB2.out.size)
  have CR := HCR.out V4 (HLW.out.below hbw4)
  clear CT hb4 HM3 hbw4 HCR
  go_wp2_with fail
  refine CR.mono ?_
  rintro e V5 ⟨A2, rfl, ⟨hsz2, hone2, hcv2⟩, hb5⟩
  have i292 : (Tryz.prog.info? 29).map (·.size) = some A2.size := by rw [hsz2]; kernel_rfl
  obtain ⟨g2, hg2⟩ : ∃ g2, V5.heap.size = g2 := ⟨_, rfl⟩
  obtain ⟨hk2, e2⟩ := box_new (A := A2) hg2
  have HP : Hid (Mem V2 ((V5.alloc (.cells cz 29)).setRow g2 A2) [(g2, .cells A2 29 (0, 0)), (g1, .cells A 29 (0, 0))] ∧ Below V5.heap.size V5 ((V5.alloc (.cells cz 29)).setRow g2 A2)) := by
    rw [e2]; exact ⟨(HM4.out.after hb5).front _ hg2.symm, (Below.refl _ _).alloc (Nat.le_refl _) _⟩
  have HC2 : Hid (∀ X, Below V5.heap.size V5 X → CV X (.agg A2) c) := hcv2
  clear e2 hb5 CR hcv2 HM4
  go_upto_region 8 with (refine wpList_store_row rfl 29 (.tmp 7) (.tmp 28) (by with_reducible rfl) g2 A2 (by simp [Act.eval]; try exact hg2) (by first | rfl | simp [Act.eval]) 29 cz hk2 i292 (by rw [hsz2]; rfl) hone2 ?_)
  refine wp_letter (fun X => Mem V2 X [(g2, Obj.cells A2 29 (0, 0)), (g1, Obj.cells A 29 (0, 0))] ∧ Below V5.heap.size V5 X) (by exact HP.out) ?_
  rintro V6 ⟨hM6, hb6⟩
  try simp only [hg2]
  have k1 : V6.heap[g1]? = some (.cells A 29 (0, 0)) := hM6.get 1 rfl
  have k2 : V6.heap[g2]? = some (.cells A2 29 (0, 0)) := hM6.get 0 rfl
  have CH := hconfig_yes (HTo.out.2 _ hM6.below) (HC2.out _ hb6) HFW.out (csame_refl c)
  have HB6 : Hid (Below w.heap.size w V6) := HB2.out.trans (hM6.below.mono HB2.out.size)
  clear HP hg2 hk2 hsz2 hone2 hM6 hb6 HTo HC2 HB2
  go_wp2_with (first | (refine wpList_load_row_g (by rfl) 29 (.tmp 3) (by with_reducible rfl) g1 (by first | rfl | simp [Act.eval]) 29 A (0, 0) _ k1 Tryz.underlying29 i29 ?_) | (refine wpList_load_row_g (by rfl) 29 (.tmp 7) (by with_reducible rfl) g2 (by first | rfl | simp [Act.eval]) 29 A2 (0, 0) _ k2 Tryz.underlying29 i292 ?_))
  refine CH.mono ?_
  rintro e V7 ⟨rfl, hb7⟩
  have HB7 : Hid (Below w.heap.size w V7) := HB6.out.trans (hb7.mono HB6.out.size)
  clear hb7 CH HB6
  go_wp2_with fail
  go_ret
  exact ⟨rfl, HB7.out⟩
end Go.Proofs.YtneciccdiledfaaGreatDoor

