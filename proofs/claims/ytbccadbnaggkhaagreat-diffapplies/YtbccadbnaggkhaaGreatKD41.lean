/-
  P15.1 at every list of tenants, every list of changes, every name.
-/
import Derived.Test.YtbccadbnaggkhaaGreatKD40
import Derived.Test.YtbccadbnaggkhaaGreatKD35
namespace Go.Proofs.YtbccadbnaggkhaaGreat
open Go.RowKit
open Sm
open Cf
open Df
set_option linter.unusedVariables false
set_option linter.unusedSimpArgs false
set_option maxRecDepth 20000

namespace Df
theorem tv_box {V : World} {A : Array Value} {t : Ten} (h : TV V (.agg A) t) : A.size = 33 ∧ A.all (·.oneCell') = true := by
  obtain ⟨tl, e, hl, ho⟩ := h.row
  have e' : A = tl.toArray := by simpa using e
  subst e'
  refine ⟨by rw [List.size_toArray]; exact hl, ?_⟩
  rw [Array.all_eq_true_iff_forall_mem]
  intro x hx
  exact ho x (by simpa using hx)
theorem fnd_in {A : List Ten} (h : ∀ t ∈ A, TIn t) (n : List UInt8) : TIn (fnd A n) := by
  unfold fnd
  cases hl : look nk n A with
  | none => exact ten0_in
  | some t => exact h t (look_some hl).1
end Df
set_option maxHeartbeats 16000000 in
theorem applies15_law {w : World} {va vc : Value} {A : List Ten} {ys : List Hv} {s : ByteArray} (ha : TSV w va A) (hc : YV w vc ys) (hs : s.size ≤ maxLen) (hA : ∀ t ∈ A, TBy t) (hY : ∀ y ∈ ys, TBy y.1.t) :
    Calls Tryz.prog 3 #[va, vc, .string s] w fun e w' => e = .returned (.bool true) ∧ Below w.heap.size w w' := by
  have HI : Hid (L15 A [] (ys.map Prod.fst) → (∀ t ∈ A, TIn t) ∧ (∀ h ∈ ys.map Prod.fst, HIn h) ∧ A.length ≤ 20 ∧ ys.length ≤ 20) := by
    intro h
    refine ⟨tin_lgts ha hA h.2.2.1, fun c hh => ?_, h.2.2.1.1, by simpa using h.1⟩
    have hl := h.2.1 c hh
    obtain ⟨y, hy, rfl⟩ := List.mem_map.1 hh
    exact ⟨lgt_in hl.1 (hc.each y hy).1 (hY y hy).key (hY y hy).vmac (hY y hy).host, by have := hl.2; omega⟩
  obtain ⟨zs, hzA, hz⟩ := TSV.zv ha
  have HA : Hid (∀ V, Below w.heap.size w V → ZV V va zs ∧ TSV V va A) := fun V hV => ⟨hz.at_ hV, ha.at_ hV (Nat.le_refl _)⟩
  have HC : Hid (∀ V, Below w.heap.size w V → YV V vc ys) := fun V hV => hc.at_ hV
  have HZA : Hid (zs.map Prod.fst = A) := hzA
  have hzl : zs.length = A.length := by rw [← hzA, List.length_map]
  obtain ⟨aa, an, ac, rfl⟩ := ha.slice
  obtain ⟨sa, sc, rfl, hlc, hcb, -⟩ := hc.parts
  clear ha hc hA hY hz hzA
  obtain ⟨N, hN⟩ : ∃ N, ys.length = N := ⟨_, rfl⟩
  rw [hN] at HI hlc
  simp only [hN] at HC ⊢
  go_enter Tryz.func3, Tryz.ntmps3
  go_wp2_with fail
  refine (known15_any w).mono ?_
  rintro e W1 ⟨rfl, hb1⟩
  have C1 := light15_any (HA.out W1 hb1).2 (tsv_nil W1) (HC.out W1 hb1)
  have HB1 : Hid (Below w.heap.size w W1) := hb1
  clear hb1
  by_cases q : L15 A [] (ys.map Prod.fst)
  rotate_left
  · rw [decide_eq_false q] at C1
    clear HA HC HI
    go_wp2_with fail
    refine C1.mono ?_
    rintro e W2 ⟨rfl, hb2⟩
    have HB2 : Hid (Below w.heap.size w W2) := HB1.out.trans (hb2.mono HB1.out.size)
    clear C1 hb2 HB1
    go_wp2_with fail
    go_ret
    exact ⟨rfl, HB2.out⟩
  rw [decide_eq_true q] at C1
  have HHI : Hid ((∀ t ∈ A, TIn t) ∧ (∀ h ∈ ys.map Prod.fst, HIn h) ∧ A.length ≤ 20 ∧ N ≤ 20) := HI.out q
  clear HI q
  by_cases qs : s.size ≤ 300
  rotate_left
  · have q3 : decide ((300 : Int) < (s.size : Nat)) = true := decide_eq_true (by omega)
    clear HA HC HHI
    go_wp2_with fail
    refine C1.mono ?_
    rintro e W2 ⟨rfl, hb2⟩
    have HB2 : Hid (Below w.heap.size w W2) := HB1.out.trans (hb2.mono HB1.out.size)
    clear C1 hb2 HB1
    go_wp2_with fail
    go_ret
    exact ⟨rfl, HB2.out⟩
  have q3 : decide ((300 : Int) < (s.size : Nat)) = false := decide_eq_false (by omega)
  go_wp2_with fail
  refine C1.mono ?_
  rintro e W2 ⟨rfl, hb2⟩
  have hw2 := HB1.out.trans (hb2.mono HB1.out.size)
  have HB2 : Hid (Below w.heap.size w W2) := hw2
  have C2 := find_any (HA.out W2 hw2).1 (fun z hz => nf_in (HHI.out.1 _ (by rw [← HZA.out]; exact List.mem_map.2 ⟨z, hz, rfl⟩))) s (by have := HHI.out.2.2.1; omega)
  rw [HZA.out] at C2
  obtain ⟨OK, hOK⟩ : ∃ B, (Df.look nk s.data.toList A).isSome = B := ⟨_, rfl⟩
  rw [hOK] at C2
  clear C1 HB1 hb2 hw2
  go_wp2_with fail
  refine C2.mono ?_
  rintro e W3 ⟨A3, rfl, hT3, hb3⟩
  have hw3 := HB2.out.trans (hb3.mono HB2.out.size)
  obtain ⟨s3, o3⟩ := tv_box hT3
  have i3 : (Tryz.prog.info? 34).map (·.size) = some A3.size := by rw [s3]; kernel_rfl
  have z3 : tz.size = A3.size := by rw [s3]; rfl
  obtain ⟨g3, hg3⟩ : ∃ g, W3.heap.size = g := ⟨_, rfl⟩
  have hk3 : (W3.alloc (.cells tz 34)).heap[g3]? = some (.cells tz 34 (0, 0)) := by rw [← hg3]; exact heap_alloc_new _ _
  have HM3 : Hid (Mem W3 ((W3.alloc (.cells tz 34)).setRow g3 A3) [(g3, .cells A3 34 (0, 0))]) := by
    rw [← hg3, World.setRow_alloc_new]
    exact (Mem.nil W3).push1 rfl
  have HT3 : Hid (TV W3 (.agg A3) (fnd A s.data.toList) ∧ Below w.heap.size w W3) := ⟨hT3, hw3⟩
  clear C2 HB2 hb3 hw3 hT3 s3
  go_upto_region 6 with (first | (refine wpList_store_row rfl 34 (.tmp 7) (.tmp 26) (by with_reducible rfl) g3 A3 (by simp [Act.eval]; try exact hg3) (by first | rfl | simp [Act.eval]) 34 tz hk3 i3 z3 o3 ?_) | fail)
  refine wp_letter (fun X => Mem W3 X [(g3, .cells A3 34 (0, 0))]) (by exact HM3.out) ?_
  intro V3 hM3
  try simp only [hg3]
  have hv3 := HT3.out.2.trans (hM3.below.mono HT3.out.2.size)
  have C3 := rfind_any (HA.out V3 hv3).1 s (by have := HHI.out.2.2.1; omega)
  rw [HZA.out, hOK] at C3
  have HV3 : Hid (Mem W3 V3 [(g3, .cells A3 34 (0, 0))]) := hM3
  clear HM3 hk3 z3 o3 hg3 hM3 hv3 hOK
  go_wp2_with fail
  refine C3.mono ?_
  rintro e W4 ⟨A4, rfl, hT4, hb4⟩
  obtain ⟨s4, o4⟩ := tv_box hT4
  have i4 : (Tryz.prog.info? 34).map (·.size) = some A4.size := by rw [s4]; kernel_rfl
  have z4 : tz.size = A4.size := by rw [s4]; rfl
  obtain ⟨g4, hg4⟩ : ∃ g, W4.heap.size = g := ⟨_, rfl⟩
  have hk4 : (W4.alloc (.cells tz 34)).heap[g4]? = some (.cells tz 34 (0, 0)) := by rw [← hg4]; exact heap_alloc_new _ _
  have HM4 : Hid (Mem W3 ((W4.alloc (.cells tz 34)).setRow g4 A4) [(g3, .cells A3 34 (0, 0)), (g4, .cells A4 34 (0, 0))] ∧ Below W4.heap.size W4 ((W4.alloc (.cells tz 34)).setRow g4 A4)) := by
    rw [← hg4, World.setRow_alloc_new]
    exact ⟨(HV3.out.after hb4).push2 rfl, (Below.refl _ _).alloc (Nat.le_refl _) _⟩
  have HT4 : Hid (TV W4 (.agg A4) (fnd A s.data.toList)) := hT4
  clear C3 HV3 hb4 hT4 s4
  go_upto_region 7 with (first | (refine wpList_store_row rfl 34 (.tmp 9) (.tmp 32) (by with_reducible rfl) g4 A4 (by simp [Act.eval]; try exact hg4) (by first | rfl | simp [Act.eval]) 34 tz hk4 i4 z4 o4 ?_) | fail)
  refine wp_letter (fun X => Mem W3 X [(g3, .cells A3 34 (0, 0)), (g4, .cells A4 34 (0, 0))] ∧ Below W4.heap.size W4 X) (by exact HM4.out) ?_
  intro V4 hM4
  try simp only [hg4]
  -- what is kept from here on
  have HK : Hid (∀ V, Below V4.heap.size V4 V → Below w.heap.size w V ∧ V.heap[g3]? = some (.cells A3 34 (0, 0)) ∧ V.heap[g4]? = some (.cells A4 34 (0, 0)) ∧ TV V (.agg A3) (fnd A s.data.toList) ∧ TV V (.agg A4) (fnd A s.data.toList)) := by
    intro V hV
    have hm := hM4.1.after hV
    have hW3 : Below W3.heap.size W3 V := hm.below
    have hW4 : Below W4.heap.size W4 V := hM4.2.trans (hV.mono hM4.2.size)
    exact ⟨HT3.out.2.trans (hW3.mono HT3.out.2.size), hm.get 0 rfl, hm.get 1 rfl, HT3.out.1.at_ hW3 (Nat.le_refl _), HT4.out.at_ hW4 (Nat.le_refl _)⟩
  clear HM4 hk4 z4 o4 hg4 hM4 HT3 HT4
  obtain ⟨k0, -⟩ := HK.out V4 (Below.refl _ _)
  have C4 := applyT (HA.out V4 k0).2 (HC.out V4 k0) HHI.out.1 HHI.out.2.1 (by have := HHI.out.2.2.1; omega) (by have := HHI.out.2.2.2; omega)
  clear k0
  go_wp2_with fail
  refine C4.mono ?_
  rintro e W5 ⟨xa, xc, rfl, hX, hb5⟩
  obtain ⟨k0, -⟩ := HK.out W5 hb5
  have C5 := rapply_any (HA.out W5 k0).1 (HC.out W5 k0) (by have := HHI.out.2.2.1; omega) (by have := HHI.out.2.2.2; omega)
  rw [HZA.out] at C5
  have HX : Hid (TSV W5 (.slice xa (app A (ys.map Prod.fst)).length xc) (app A (ys.map Prod.fst)) ∧ Below V4.heap.size V4 W5) := ⟨hX, hb5⟩
  obtain ⟨n5, hn5⟩ : ∃ n, (app A (ys.map Prod.fst)).length = n := ⟨_, rfl⟩
  rw [hn5] at HX ⊢
  clear C4 hX hb5 k0 hn5
  go_wp2_with fail
  refine C5.mono ?_
  rintro e W6 ⟨ya, yn, yc', rfl, hY, hb6⟩
  have C6 := tenantsT (HX.out.1.at_ hb6 (Nat.le_refl _)) hY (tin_app HHI.out.1 HHI.out.2.1)
  have HB6 : Hid (Below V4.heap.size V4 W6) := HX.out.2.trans (hb6.mono HX.out.2.size)
  clear C5 HX hY hb6
  go_wp2_with fail
  refine C6.mono ?_
  rintro e W7 ⟨rfl, hb7⟩
  have hv7 := HB6.out.trans (hb7.mono HB6.out.size)
  obtain ⟨hw7, e3, e4, t3, t4⟩ := HK.out W7 hv7
  have C7 := htenant_yes t3 t4 (nf_in (fnd_in HHI.out.1 _)).2 (TSame.refl' _)
  have HB7 : Hid (Below w.heap.size w W7) := hw7
  clear C6 HB6 hb7 hv7 hw7 t3 t4 HK HA HC HHI HZA
  go_wp2_with (first | (refine wpList_load_row_g rfl 34 (.tmp 7) (by with_reducible rfl) g3 (by first | rfl | simp [Act.eval]) 34 A3 (0, 0) _ e3 Tryz.underlying34 i3 ?_) | (refine wpList_load_row_g rfl 34 (.tmp 9) (by with_reducible rfl) g4 (by first | rfl | simp [Act.eval]) 34 A4 (0, 0) _ e4 Tryz.underlying34 i4 ?_) | fail)
  refine C7.mono ?_
  rintro e W8 ⟨rfl, hb8⟩
  have HB8 : Hid (Below w.heap.size w W8) := HB7.out.trans (hb8.mono HB7.out.size)
  clear C7 HB7 hb8 e3 e4
  go_wp2_with fail
  go_ret
  exact ⟨by first | rfl | simp, HB8.out⟩
end Go.Proofs.YtbccadbnaggkhaaGreat

