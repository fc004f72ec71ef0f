/-
  What is changed: lychlaw15's known is true.
-/
import Derived.Test.YtbccadbnaggkhaaGreatKE36
namespace Go.Proofs.YtbccadbnaggkhaaGreat
open Go.RowKit
open Sm
open Cf
open Df
set_option linter.unusedVariables false
set_option linter.unusedSimpArgs false
set_option maxRecDepth 20000

namespace Df
theorem TSame.refl' (t : Ten) : TSame t t := ⟨rfl, rfl, rfl, rfl, rfl, rfl, rfl, rfl, rfl, rfl, rfl, rfl, rfl, rfl, rfl, rfl⟩
abbrev y98 : Array Value := #[.bool false, .string ⟨#[98]⟩, .string ⟨#[]⟩, .int .u32 0, .int .u8 0, .int .u8 0, .int .u8 0, .int .u8 0, .int .u8 0, .int .u8 0, .int .u8 0, .int .u8 0, .int .u32 0, .int .u8 0, .int .u8 0, .int .u8 0, .int .u8 0, .int .u8 0, .int .u8 0, .int .u8 0, .int .u8 0, .int .u8 0, .int .u8 0, .int .u8 0, .int .u8 0, .slice none 0 0, .int .u16 0, .int .u16 0, .int .i64 0, .slice none 0 0, .slice none 0 0, .int .i64 0, .int .i64 0, .int .u32 0, .int .u32 0]
theorem y98_eq : (yc (yN ⟨#[98]⟩)).toArray = y98 := rfl
theorem step_bsl_g {ops : Array Oper} {o : Oper} {a : Act} {W : World} {K : Act → World → Prop} {Q : Exit → Act → World → Prop} {E : Prop} (hw : Region.wanted o (yielded ops a.tmps) = true) (ty : TypeId) (n : Nat) (parts : Array (Nat × Operand)) (ho : o.op = .buildSlice ty n parts) {vs : Array (Nat × Value)} {v : Value} {w' : World}
    (hr : (Instr.buildSlice ty n vs).run Tryz.prog W = .ok v w') (hv : (parts.map fun (i, x) => (i, a.eval x)) = vs) (h : K (a.put o.dst v) w') : if Region.wanted o (yielded ops a.tmps) = true then Oper.wp Tryz.prog o a W K Q else E := by
  rw [if_pos hw]
  subst hv
  unfold Oper.wp execOp
  simp only [ho, Sem.run_bind, hr, Result.andThen_ok, Sem.run_pure]
  exact h
theorem bytes_15 (l : List Int) (h : ∀ x ∈ l, 0 ≤ x ∧ x ≤ 255) : IsBytes l := by
  intro i
  rcases Nat.lt_or_ge i l.length with hi | hi
  · rw [List.getD_eq_getElem?_getD, List.getElem?_eq_getElem hi, Option.getD_some]
    exact h _ (List.getElem_mem _)
  · rw [List.getD_eq_getElem?_getD, List.getElem?_eq_none hi, Option.getD_none]
    omega
theorem k15_in : TIn k15 := ⟨⟨rfl, rfl, rfl⟩, bytes_15 _ (by decide), bytes_15 _ (by decide), bytes_15 _ (by decide), by decide, by decide, by decide, by decide⟩
theorem k15_dif : dif (byn nk []) (byn nk [k15]) = [⟨true, ⟨#[98]⟩, k15⟩] := by
  have e : byn nk [k15] = [k15] := byn_srt (List.pairwise_singleton _ _)
  rw [e, show byn nk [] = ([] : List Ten) from rfl, dif_gt (List.pairwise_singleton _ _) (by simp)]
  rfl
theorem k15_app : app [k15] [⟨false, ⟨#[98]⟩, ten0⟩] = [] := by
  have e : byn nk [k15] = [k15] := byn_srt (List.pairwise_singleton _ _)
  unfold app
  rw [e]
  show stp [k15] ⟨false, ⟨#[98]⟩, ten0⟩ = []
  rw [stp, if_neg (by decide), del, List.filter_cons, if_neg (by decide)]
  rfl
theorem k15_find : look nk (⟨#[98]⟩ : ByteArray).data.toList [k15] = some k15 := by
  unfold look
  rw [List.find?_cons]
  rfl
theorem one_ten {V : World} {ga : Nat} {z : Tv} (h : V.heap[ga]? = some (.cells (zc z).toArray 34 (0, 0))) (hl : TLen z.1) (hr : Rws V z) : ZV V (.slice (some ⟨ga, 0, none⟩) 1 1) [z] := by
  refine ⟨⟨some ⟨ga, 0, none⟩, 1, rfl, Nat.le_refl _, by omega, nofun, Or.inr ⟨ga, 0, rfl, fun i hi j u hj => ?_⟩⟩, fun y hy => by rw [List.mem_singleton] at hy; subst hy; exact ⟨hl, hr⟩⟩
  have hi0 : i = 0 := by simp at hi; exact hi
  subst hi0
  rw [cell_of h, Nat.zero_mul, Nat.add_zero, Nat.zero_add, List.getElem?_toArray]
  simpa [List.getD] using hj
theorem one_chg {V : World} {ga : Nat} {y : Hv} (h : V.heap[ga]? = some (.cells (yc y).toArray 47 (0, 0))) (hl : TLen y.1.t) (hr : Rws V (yz y)) : YV V (.slice (some ⟨ga, 0, none⟩) 1 1) [y] := by
  refine ⟨⟨some ⟨ga, 0, none⟩, 1, rfl, Nat.le_refl _, by omega, nofun, Or.inr ⟨ga, 0, rfl, fun i hi j u hj => ?_⟩⟩, fun x hx => by rw [List.mem_singleton] at hx; subst hx; exact ⟨hl, hr⟩⟩
  have hi0 : i = 0 := by simp at hi; exact hi
  subst hi0
  rw [cell_of h, Nat.zero_mul, Nat.add_zero, Nat.zero_add, List.getElem?_toArray]
  simpa [List.getD] using hj
theorem zv_nil (w : World) : ZV w (.slice none 0 0) [] := ⟨⟨none, 0, rfl, Nat.le_refl _, by omega, fun _ => rfl, Or.inl rfl⟩, by simp⟩
theorem yv_nil (w : World) : YV w (.slice none 0 0) [] := ⟨⟨none, 0, rfl, Nat.le_refl _, by omega, fun _ => rfl, Or.inl rfl⟩, by simp⟩
theorem rws_nil (w : World) (t : Ten) (h1 : t.pool = []) (h2 : t.stat = []) (h3 : t.twi = []) : Rws w (t, nilV, nilV, nilV) := by
  refine ⟨?_, ?_, ?_⟩
  · show Rw w 1 nilV (ux t.pool); rw [h1]; exact ⟨none, 0, rfl, Nat.le_refl _, by omega, fun _ => rfl, Or.inl rfl⟩
  · show Rw w 2 nilV (px t.stat); rw [h2]; exact ⟨none, 0, rfl, Nat.le_refl _, by omega, fun _ => rfl, Or.inl rfl⟩
  · show Rw w 2 nilV (px t.twi); rw [h3]; exact ⟨none, 0, rfl, Nat.le_refl _, by omega, fun _ => rfl, Or.inl rfl⟩
theorem heap_new2 (W : World) (a b : Obj) : ((W.alloc a).alloc b).heap[W.heap.size + 1]? = some b := by
  exact (two_blocks' W a b).get 0 rfl
theorem heap_old2 (W : World) (a b : Obj) : ((W.alloc a).alloc b).heap[W.heap.size]? = some a := by
  exact (two_blocks' W a b).get 1 rfl
theorem TSV.nil0 {V : World} {r : Value} (h : TSV V r []) : ∃ a c, r = .slice a 0 c := by
  obtain ⟨zs, e, ⟨a, c, e2, -⟩, -⟩ := h
  have : zs = [] := by simpa using e
  subst this
  exact ⟨a, c, e2⟩
set_option maxHeartbeats 16000000 in
theorem known15_any (w : World) : Calls Tryz.prog 8 #[] w fun e w' => e = .returned (.bool true) ∧ Below w.heap.size w w' := by
  have CS := sten15 w
  have CT : Hid (∀ V a b, TV V a k15 → TV V b k15 → Calls Tryz.prog 15 #[a, b] V fun e V' => e = .returned (.bool true) ∧ Below V.heap.size V V') := fun V a b h1 h2 => htenant_yes h1 h2 ⟨by decide, by decide, by decide⟩ (TSame.refl' _)
  go_enter Tryz.func8, Tryz.ntmps8
  go_wp2_with fail
  refine CS.mono ?_
  rintro e V0 ⟨z, C, rfl, hk, hz, hM⟩
  clear CS
  have etv : tv z = .agg (zc z).toArray := rfl
  rw [etv]
  clear etv
  have hl : TLen z.1 := hz.1
  have hone : (zc z).toArray.all (·.oneCell') = true := by
    have := zb_one hz
    rw [Array.all_eq_true_iff_forall_mem]
    intro x hx
    exact this x (by simpa using hx)
  have hlen : (zc z).length = 33 := tc_len hl _ _ _
  have hRw := (zb_rws hz fun x hx => hM.at_ x hx).2
  have HB0 : Hid (Below w.heap.size w V0) := hM.below
  obtain ⟨x1, hx1⟩ : ∃ x, zc z = x := ⟨_, rfl⟩
  rw [hx1] at hlen hone ⊢
  have HX1 : Hid (zc z = x1) := hx1
  have i33 : (Tryz.prog.info? 34).map (·.size) = some x1.toArray.size := by rw [List.size_toArray, hlen]; kernel_rfl
  have j33 : (Tryz.prog.info? 34).map (·.size) = some x1.length := by rw [hlen]; kernel_rfl
  have s33 : tz.size = x1.toArray.size := by rw [show x1.toArray.size = 33 by rw [List.size_toArray]; exact hlen]; rfl
  have hbs : ∀ V, (Instr.buildSlice 22 1 #[(0, .agg x1.toArray)]).run Tryz.prog V = .ok (.slice (some ⟨V.heap.size, 0, none⟩) 1 1) (V.alloc (.cells x1.toArray 34)) := fun V => by rw [← hx1]; exact bsliceT z hl V
  obtain ⟨g1, hg1⟩ : ∃ g, V0.heap.size = g := ⟨_, rfl⟩
  have hk1 : (V0.alloc (.cells tz 34)).heap[g1]? = some (.cells tz 34 (0, 0)) := by rw [← hg1]; exact heap_alloc_new _ _
  have HM1 : Hid (Mem V0 ((V0.alloc (.cells tz 34)).setRow g1 x1.toArray) [(g1, .cells x1.toArray 34 (0, 0))]) := by
    rw [← hg1, World.setRow_alloc_new]
    exact (Mem.nil V0).push1 rfl
  clear hz hM hx1
  go_upto_region 2 with (first | (refine wpList_store_row rfl 34 (.tmp 1) (.tmp 5) (by with_reducible rfl) g1 x1.toArray (by simp [Act.eval]; try exact hg1) (by first | rfl | simp [Act.eval]) 34 tz hk1 i33 s33 hone ?_) | fail)
  refine wp_letter (fun X => Mem V0 X [(g1, .cells x1.toArray 34 (0, 0))]) (by exact HM1.out) ?_
  intro V1 hM1
  try simp only [hg1]
  clear HM1 hk1 hg1
  -- Diff of none and one
  have h1 := hM1.get 0 rfl
  have hb1 := hbs V1
  have hR1 : Rws (V1.alloc (.cells x1.toArray 34)) z := Rws.at_ hRw (hM1.below.alloc hM1.below.size _)
  have CD := diff_any (zv_nil (V1.alloc (.cells x1.toArray 34))) (one_ten (z := z) (ga := V1.heap.size) (by rw [HX1.out]; exact heap_alloc_new _ _) hl hR1) (by simp) (by intro y hy; rw [List.mem_singleton] at hy; subst hy; rw [hk]; exact k15_in) (by simp) (by simp)
  rw [List.map_nil, List.map_singleton, hk, k15_dif] at CD
  have HM1 : Hid (Mem V0 (V1.alloc (.cells x1.toArray 34)) [(g1, .cells x1.toArray 34 (0, 0))]) := hM1.after ((Below.refl _ _).alloc (Nat.le_refl _) _)
  clear hM1 hR1
  go_wp2_with (first | (refine wpList_load_row_g rfl 34 (.tmp 1) (by with_reducible rfl) g1 (by first | rfl | simp [Act.eval]) 34 x1.toArray (0, 0) _ h1 Tryz.underlying34 i33 ?_) | (refine wpList_bsl rfl 22 1 _ (by with_reducible rfl) hb1 (by kernel_rfl) ?_) | fail)
  refine CD.mono ?_
  rintro e V2 ⟨r, rfl, xs, hY, hxs, hb2, -⟩
  clear CD hb1 h1
  have hM2 := HM1.out.after hb2
  clear HM1
  obtain ⟨y, rfl, hy⟩ : ∃ y : Hv, xs = [y] ∧ y.1 = ⟨true, ⟨#[98]⟩, k15⟩ := by
    have hl1 : xs.length = 1 := by
      have := congrArg List.length hxs
      simpa using this
    obtain ⟨y, rfl⟩ := List.length_eq_one_iff.1 hl1
    exact ⟨y, rfl, by simpa using hxs⟩
  obtain ⟨da, dc, rfl, -, -, hdx⟩ := hY.parts
  obtain ⟨db, doff, rfl, hdr⟩ := hdx 0 (by simp)
  simp only [List.getElem_cons_zero, Nat.zero_mul, Nat.add_zero] at hdr
  have hYe := hY.each y (by simp)
  clear hdx hxs
  -- Find
  have h2 := hM2.get 0 rfl
  have hb2' := hbs V2
  have hR2 : Rws (V2.alloc (.cells x1.toArray 34)) z := Rws.at_ hRw (hM2.below.alloc hM2.below.size _)
  have CF := find_any (one_ten (z := z) (ga := V2.heap.size) (by rw [HX1.out]; exact heap_alloc_new _ _) hl hR2) (by intro y hy; rw [List.mem_singleton] at hy; subst hy; rw [hk]; exact nf_in k15_in) ⟨#[98]⟩ (by simp)
  rw [List.map_singleton, hk, fnd, k15_find, Option.isSome_some, Option.getD_some] at CF
  have HM2 : Hid (∀ V, Below (V2.alloc (.cells x1.toArray 34)).heap.size (V2.alloc (.cells x1.toArray 34)) V → Mem V0 V [(g1, .cells x1.toArray 34 (0, 0))] ∧ Below V2.heap.size V2 V) := fun V hV => by
    have hb : Below V2.heap.size V2 (V2.alloc (.cells x1.toArray 34)) := (Below.refl _ _).alloc (Nat.le_refl _) _
    exact ⟨(hM2.after hb).after hV, hb.trans (hV.mono hb.size)⟩
  have HYV : Hid (YV V2 (.slice (some ⟨db, doff, none⟩) [y].length dc) [y] ∧ TLen y.1.t ∧ Rws V2 (yz y) ∧ ∀ V, Below V2.heap.size V2 V → V.rangeAt db doff (yc y)) := ⟨hY, hYe.1, hYe.2, hdr⟩
  clear hM2 hR2 hY hYe hdr
  go_wp2_with (first | (refine wpList_load_row_g rfl 34 (.tmp 1) (by with_reducible rfl) g1 (by first | rfl | simp [Act.eval]) 34 x1.toArray (0, 0) _ h2 Tryz.underlying34 i33 ?_) | (refine wpList_bsl rfl 22 1 _ (by with_reducible rfl) hb2' (by kernel_rfl) ?_) | fail)
  refine CF.mono ?_
  rintro e V3 ⟨A3, rfl, hT3, hb3⟩
  clear CF hb2' h2
  obtain ⟨hM3, hb23⟩ := HM2.out V3 hb3
  clear HM2 hb3
  obtain ⟨x3, ex3, hx3l, hx3o⟩ := hT3.row
  obtain rfl : A3 = x3.toArray := by simpa using ex3
  clear ex3
  have i3 : (Tryz.prog.info? 34).map (·.size) = some x3.toArray.size := by rw [List.size_toArray, hx3l]; kernel_rfl
  have j3 : (Tryz.prog.info? 34).map (·.size) = some x3.length := by rw [hx3l]; kernel_rfl
  have s3 : tz.size = x3.toArray.size := by rw [show x3.toArray.size = 33 by rw [List.size_toArray]; exact hx3l]; rfl
  have o3 : x3.toArray.all (·.oneCell') = true := by
    rw [Array.all_eq_true_iff_forall_mem]
    intro x hx
    exact hx3o x (by simpa using hx)
  obtain ⟨g3, hg3⟩ : ∃ g, V3.heap.size = g := ⟨_, rfl⟩
  have hk3 : (V3.alloc (.cells tz 34)).heap[g3]? = some (.cells tz 34 (0, 0)) := by rw [← hg3]; exact heap_alloc_new _ _
  have HM3 : Hid (Mem V0 ((V3.alloc (.cells tz 34)).setRow g3 x3.toArray) [(g1, .cells x1.toArray 34 (0, 0)), (g3, .cells x3.toArray 34 (0, 0))] ∧ Below V3.heap.size V3 ((V3.alloc (.cells tz 34)).setRow g3 x3.toArray)) := by
    rw [← hg3, World.setRow_alloc_new]
    exact ⟨hM3.push2 rfl, (Below.refl _ _).alloc (Nat.le_refl _) _⟩
  clear hM3
  go_upto_region 4 with (first | (refine wpList_store_row rfl 34 (.tmp 3) (.tmp 13) (by with_reducible rfl) g3 x3.toArray (by simp [Act.eval]; try exact hg3) (by first | rfl | simp [Act.eval]) 34 tz hk3 i3 s3 o3 ?_) | fail)
  refine wp_letter (fun X => Mem V0 X [(g1, .cells x1.toArray 34 (0, 0)), (g3, .cells x3.toArray 34 (0, 0))] ∧ Below V3.heap.size V3 X) (by exact HM3.out) ?_
  intro V4 hM4
  try simp only [hg3]
  clear HM3 hk3 hg3 i3 s3 o3 hx3o i33 s33 hone
  -- what is read
  obtain ⟨x2, hx2⟩ : ∃ x, zc (yz y) = x := ⟨_, rfl⟩
  have hx2l : x2.length = 33 := by rw [← hx2]; exact tc_len HYV.out.2.1 _ _ _
  have j2 : (Tryz.prog.info? 34).map (·.size) = some x2.length := by rw [hx2l]; kernel_rfl
  have hb24 : Below V2.heap.size V2 V4 := hb23.trans (hM4.2.mono hb23.size)
  have KS : Hid (∀ V, Below V4.heap.size V4 V → V.cell? ⟨db, doff, none⟩ = some (.bool true) ∧ V.cell? ⟨db, doff + 1, none⟩ = some (.string ⟨#[98]⟩) ∧ V.rangeAt db (doff + 2) x2 ∧ V.rangeAt g1 0 x1 ∧ V.rangeAt g3 0 x3) := by
    intro V hV
    have hr := HYV.out.2.2.2 V (hb24.trans (hV.mono hb24.size))
    have hMV := hM4.1.after hV
    refine ⟨?_, ?_, ?_, ?_, ?_⟩
    · have := hr 0 (.bool y.1.put) rfl
      rw [hy] at this
      simpa using this
    · have := hr 1 (.string y.1.name) rfl
      rw [hy] at this
      simpa using this
    · intro j u hj
      have := hr (j + 2) u (by rw [yc_eq, List.getElem?_cons_succ, List.getElem?_cons_succ, hx2]; exact hj)
      rw [show doff + 2 + j = doff + (j + 2) by omega]
      exact this
    · intro j u hj
      rw [Nat.zero_add, hMV.cell 0 rfl]; simpa using hj
    · intro j u hj
      rw [Nat.zero_add, hMV.cell 1 rfl]; simpa using hj
  have T1 : Hid (∀ V, Below V4.heap.size V4 V → TV V (.agg x1.toArray) k15 ∧ TV V (.agg x2.toArray) k15 ∧ TV V (.agg x3.toArray) k15) := by
    intro V hV
    have h0 : Below V0.heap.size V0 V := hM4.1.below.trans (hV.mono hM4.1.below.size)
    refine ⟨?_, ?_, ?_⟩
    · rw [← HX1.out, ← hk]; exact tv_tv hl (Rws.at_ hRw h0)
    · have := tv_tv (z := yz y) HYV.out.2.1 (Rws.at_ HYV.out.2.2.1 (hb24.trans (hV.mono hb24.size)))
      rw [tv, hx2] at this
      have e : (yz y).1 = k15 := by show y.1.t = _; rw [hy]
      rw [e] at this
      exact this
    · exact hT3.at_ (hM4.2.trans (hV.mono hM4.2.size)) (Nat.le_refl _)
  have C2 : Hid (∀ V, Below V4.heap.size V4 V → Calls Tryz.prog 15 #[.agg x2.toArray, .agg x1.toArray] V fun e V' => e = .returned (.bool true) ∧ Below V.heap.size V V') := fun V hV => CT.out V _ _ (T1.out V hV).2.1 (T1.out V hV).1
  have C3 : Hid (∀ V, Below V4.heap.size V4 V → Calls Tryz.prog 15 #[.agg x3.toArray, .agg x1.toArray] V fun e V' => e = .returned (.bool true) ∧ Below V.heap.size V V') := fun V hV => CT.out V _ _ (T1.out V hV).2.2 (T1.out V hV).1
  have CA : Hid (∀ V ga gc, V.heap[ga]? = some (.cells x1.toArray 34 (0, 0)) → V.heap[gc]? = some (.cells y98 47 (0, 0)) → Below V4.heap.size V4 V → Calls Tryz.prog 13 #[.slice (some ⟨ga, 0, none⟩) 1 1, .slice (some ⟨gc, 0, none⟩) 1 1] V fun e V' => ∃ a c, e = .returned (.slice a 0 c) ∧ Below V.heap.size V V') := by
    intro V ga gc k1 k2 k3
    have h0 : Below V0.heap.size V0 V := hM4.1.below.trans (k3.mono hM4.1.below.size)
    have := apply_any (one_ten (z := z) (ga := ga) (by rw [HX1.out]; exact k1) hl (Rws.at_ hRw h0)) (one_chg (y := yN ⟨#[98]⟩) (ga := gc) (by rw [y98_eq]; exact k2) ten0_len (rws_nil V ten0 rfl rfl rfl)) (by intro y hy; rw [List.mem_singleton] at hy; subst hy; rw [hk]; exact nf_in k15_in) (by intro y hy; rw [List.mem_singleton] at hy; subst hy; exact ⟨⟨by decide, by decide, by decide, by decide⟩, by decide⟩) (by simp) (by simp)
    rw [List.map_singleton, List.map_singleton, hk, show (yN ⟨#[98]⟩).1 = ⟨false, ⟨#[98]⟩, ten0⟩ from rfl, k15_app] at this
    refine this.mono ?_
    rintro e V' ⟨r, rfl, h1, h2⟩
    obtain ⟨a, c, rfl⟩ := TSV.nil0 h1
    exact ⟨a, c, rfl, h2⟩
  have HBW : Hid (∀ V, Below V4.heap.size V4 V → Below w.heap.size w V) := fun V hV => by
    have h0 : Below V0.heap.size V0 V := hM4.1.below.trans (hV.mono hM4.1.below.size)
    exact HB0.out.trans (h0.mono HB0.out.size)
  have HD : Hid (Below V4.heap.size V4 V4.drew) := (Below.refl _ _).drew
  have rr := KS.out V4.drew HD.out
  have CT2 := C2.out V4.drew HD.out
  clear CT T1 C2 hM4 hb24 hb23 hT3 HYV hx2 HX1 HB0 hRw hl hk hlen hx2l hx3l hy hb2
  try simp only [List.length_singleton]
  go_upto_region 4 with fail
  refine wp_region_held_drew (S := fun V => V.cell? ⟨db, doff, none⟩ = some (.bool true) ∧ V.cell? ⟨db, doff + 1, none⟩ = some (.string ⟨#[98]⟩) ∧ V.rangeAt db (doff + 2) x2 ∧ V.rangeAt g1 0 x1 ∧ V.rangeAt g3 0 x3) (by kernel_rfl) rr (fun hHeld => ?_)
  refine wpAnyH_take (i := 0) (v := ?_) rfl (by kernel_rfl) (by kernel_rfl) (by kernel_rfl) (fun _ _ _ h => h) (Or.inl ⟨by rfl, ?qy0⟩) (by assumption) ?qr0
  case qy0 =>
    intro w hSw
    (try dsimp only at hSw)
    go_simp
    all_goals with_reducible rfl
  try simp only [List.getElem_toArray, List.getElem_cons_zero, List.getElem_cons_succ, Act.put, List.setIfInBounds_toArray, List.set_cons_zero, List.set_cons_succ]
  refine wpAnyH_take (i := 1) (v := ?_) rfl (by kernel_rfl) (by kernel_rfl) (by kernel_rfl) (fun _ _ _ h => h) (Or.inl ⟨by rfl, ?qy1⟩) (by assumption) ?qr1
  case qy1 =>
    intro w hSw
    (try dsimp only at hSw)
    go_simp
    all_goals with_reducible rfl
  try simp only [List.getElem_toArray, List.getElem_cons_zero, List.getElem_cons_succ, Act.put, List.setIfInBounds_toArray, List.set_cons_zero, List.set_cons_succ]
  refine wpAnyH_take (i := 2) (v := ?_) rfl (by kernel_rfl) (by kernel_rfl) (by kernel_rfl) (fun _ _ _ h => h) (Or.inl ⟨by rfl, ?qy2⟩) (by assumption) ?qr2
  case qy2 =>
    intro w hSw
    (try dsimp only at hSw)
    go_simp
    all_goals with_reducible rfl
  try simp only [List.getElem_toArray, List.getElem_cons_zero, List.getElem_cons_succ, Act.put, List.setIfInBounds_toArray, List.set_cons_zero, List.set_cons_succ]
  refine wpAnyH_take (i := 3) (v := ?_) rfl (by kernel_rfl) (by kernel_rfl) (by kernel_rfl) (fun _ _ _ h => h) (Or.inl ⟨by rfl, ?qy3⟩) (by assumption) ?qr3
  case qy3 =>
    intro w hSw
    (try dsimp only at hSw)
    go_simp
    all_goals with_reducible rfl
  try simp only [List.getElem_toArray, List.getElem_cons_zero, List.getElem_cons_succ, Act.put, List.setIfInBounds_toArray, List.set_cons_zero, List.set_cons_succ]
  refine wpAnyH_take (i := 4) (v := ?_) rfl (by kernel_rfl) (by kernel_rfl) (by kernel_rfl) (fun _ _ _ h => h) (Or.inl ⟨by rfl, ?qy4⟩) (by assumption) ?qr4
  case qy4 =>
    intro w hSw
    (try dsimp only at hSw)
    go_simp
    all_goals with_reducible rfl
  try simp only [List.getElem_toArray, List.getElem_cons_zero, List.getElem_cons_succ, Act.put, List.setIfInBounds_toArray, List.set_cons_zero, List.set_cons_succ]
  refine wpAnyH_take (i := 5) (v := ?_) rfl (by kernel_rfl) (by kernel_rfl) (by kernel_rfl) (fun _ _ _ h => h) (Or.inl ⟨by rfl, ?qy5⟩) (by assumption) ?qr5
  case qy5 =>
    intro w hSw
    (try dsimp only at hSw)
    go_simp
    all_goals with_reducible rfl
  try simp only [List.getElem_toArray, List.getElem_cons_zero, List.getElem_cons_succ, Act.put, List.setIfInBounds_toArray, List.set_cons_zero, List.set_cons_succ]
  refine wpAnyH_take (i := 6) (v := ?_) rfl (by kernel_rfl) (by kernel_rfl) (by kernel_rfl) (fun _ _ _ h => h) (Or.inl ⟨by rfl, ?qy6⟩) (by assumption) ?qr6
  case qy6 =>
    intro w hSw
    (try dsimp only at hSw)
    go_simp
    all_goals with_reducible rfl
  try simp only [List.getElem_toArray, List.getElem_cons_zero, List.getElem_cons_succ, Act.put, List.setIfInBounds_toArray, List.set_cons_zero, List.set_cons_succ]
  refine wpAnyH_take (i := 7) (v := ?_) rfl (by kernel_rfl) (by kernel_rfl) (by kernel_rfl) (fun _ _ _ h => h) (Or.inl ⟨by rfl, ?qy7⟩) (by assumption) ?qr7
  case qy7 =>
    intro w hSw
    (try dsimp only at hSw)
    go_simp
    all_goals with_reducible rfl
  try simp only [List.getElem_toArray, List.getElem_cons_zero, List.getElem_cons_succ, Act.put, List.setIfInBounds_toArray, List.set_cons_zero, List.set_cons_succ]
  refine wpAnyH_take (i := 8) (v := ?_) rfl (by kernel_rfl) (by kernel_rfl) (by kernel_rfl) (fun _ _ _ h => h) (Or.inl ⟨by rfl, ?qy8⟩) (by assumption) ?qr8
  case qy8 =>
    intro w hSw
    (try dsimp only at hSw)
    go_simp
    all_goals with_reducible rfl
  try simp only [List.getElem_toArray, List.getElem_cons_zero, List.getElem_cons_succ, Act.put, List.setIfInBounds_toArray, List.set_cons_zero, List.set_cons_succ]
  refine wpAnyH_take (i := 9) (v := ?_) rfl (by kernel_rfl) (by kernel_rfl) (by kernel_rfl) (fun _ _ _ h => h) (Or.inl ⟨by rfl, ?qy9⟩) (by assumption) ?qr9
  case qy9 =>
    intro w hSw
    (try dsimp only at hSw)
    go_simp
    all_goals with_reducible rfl
  try simp only [List.getElem_toArray, List.getElem_cons_zero, List.getElem_cons_succ, Act.put, List.setIfInBounds_toArray, List.set_cons_zero, List.set_cons_succ]
  refine wpAnyH_take (i := 10) (v := ?_) rfl (by kernel_rfl) (by kernel_rfl) (by kernel_rfl) (fun _ _ _ h => h) (Or.inl ⟨by rfl, ?qy10⟩) (by assumption) ?qr10
  case qy10 =>
    intro w hSw
    (try dsimp only at hSw)
    go_simp
    all_goals with_reducible rfl
  try simp only [List.getElem_toArray, List.getElem_cons_zero, List.getElem_cons_succ, Act.put, List.setIfInBounds_toArray, List.set_cons_zero, List.set_cons_succ]
  refine wpAnyH_take (i := 11) (v := ?_) rfl (by kernel_rfl) (by kernel_rfl) (by kernel_rfl) (fun _ _ _ h => h) (Or.inl ⟨by rfl, ?qy11⟩) (by assumption) ?qr11
  case qy11 =>
    intro w hSw
    (try dsimp only at hSw)
    go_simp
    all_goals with_reducible rfl
  try simp only [List.getElem_toArray, List.getElem_cons_zero, List.getElem_cons_succ, Act.put, List.setIfInBounds_toArray, List.set_cons_zero, List.set_cons_succ]
  refine wpAnyH_take (i := 12) (v := ?_) rfl (by kernel_rfl) (by kernel_rfl) (by kernel_rfl) (fun _ _ _ h => h) (Or.inl ⟨by rfl, ?qy12⟩) (by assumption) ?qr12
  case qy12 =>
    intro w hSw
    (try dsimp only at hSw)
    go_simp
    all_goals with_reducible rfl
  try simp only [List.getElem_toArray, List.getElem_cons_zero, List.getElem_cons_succ, Act.put, List.setIfInBounds_toArray, List.set_cons_zero, List.set_cons_succ]
  refine wpAnyH_take (i := 13) (v := ?_) rfl (by kernel_rfl) (by kernel_rfl) (by kernel_rfl) (fun _ _ _ h => h) (Or.inl ⟨by rfl, ?qy13⟩) (by assumption) ?qr13
  case qy13 =>
    intro w hSw
    (try dsimp only at hSw)
    go_simp
    all_goals with_reducible rfl
  try simp only [List.getElem_toArray, List.getElem_cons_zero, List.getElem_cons_succ, Act.put, List.setIfInBounds_toArray, List.set_cons_zero, List.set_cons_succ]
  refine wpAnyH_take (i := 14) (v := ?_) rfl (by kernel_rfl) (by kernel_rfl) (by kernel_rfl) (fun _ _ _ h => h) (Or.inl ⟨by rfl, ?qy14⟩) (by assumption) ?qr14
  case qy14 =>
    intro w hSw
    (try dsimp only at hSw)
    go_simp
    all_goals with_reducible rfl
  try simp only [List.getElem_toArray, List.getElem_cons_zero, List.getElem_cons_succ, Act.put, List.setIfInBounds_toArray, List.set_cons_zero, List.set_cons_succ]
  refine wpAnyH_take (i := 15) (v := ?_) rfl (by kernel_rfl) (by kernel_rfl) (by kernel_rfl) (fun _ _ _ h => h) (Or.inl ⟨by rfl, ?qy15⟩) (by assumption) ?qr15
  case qy15 =>
    intro w hSw
    (try dsimp only at hSw)
    go_simp
    all_goals with_reducible rfl
  try simp only [List.getElem_toArray, List.getElem_cons_zero, List.getElem_cons_succ, Act.put, List.setIfInBounds_toArray, List.set_cons_zero, List.set_cons_succ]
  refine wpAnyH_take (i := 16) (v := ?_) rfl (by kernel_rfl) (by kernel_rfl) (by kernel_rfl) (fun _ _ _ h => h) (Or.inl ⟨by rfl, ?qy16⟩) (by assumption) ?qr16
  case qy16 =>
    intro w hSw
    (try dsimp only at hSw)
    go_simp
    all_goals with_reducible rfl
  try simp only [List.getElem_toArray, List.getElem_cons_zero, List.getElem_cons_succ, Act.put, List.setIfInBounds_toArray, List.set_cons_zero, List.set_cons_succ]
  refine wpAnyH_take (i := 17) (v := ?_) rfl (by kernel_rfl) (by kernel_rfl) (by kernel_rfl) (fun _ _ _ h => h) (Or.inl ⟨by rfl, ?qy17⟩) (by assumption) ?qr17
  case qy17 =>
    intro w hSw
    (try dsimp only at hSw)
    go_simp
    all_goals with_reducible rfl
  try simp only [List.getElem_toArray, List.getElem_cons_zero, List.getElem_cons_succ, Act.put, List.setIfInBounds_toArray, List.set_cons_zero, List.set_cons_succ]
  refine wpAnyH_take (i := 18) (v := ?_) rfl (by kernel_rfl) (by kernel_rfl) (by kernel_rfl) (fun _ _ _ h => h) (Or.inl ⟨by rfl, ?qy18⟩) (by assumption) ?qr18
  case qy18 =>
    intro w hSw
    (try dsimp only at hSw)
    go_simp
    all_goals with_reducible rfl
  try simp only [List.getElem_toArray, List.getElem_cons_zero, List.getElem_cons_succ, Act.put, List.setIfInBounds_toArray, List.set_cons_zero, List.set_cons_succ]
  refine wpAnyH_take (i := 19) (v := ?_) rfl (by kernel_rfl) (by kernel_rfl) (by kernel_rfl) (fun _ _ _ h => h) (Or.inl ⟨by rfl, ?qy19⟩) (by assumption) ?qr19
  case qy19 =>
    intro w hSw
    (try dsimp only at hSw)
    go_simp
    all_goals with_reducible rfl
  try simp only [List.getElem_toArray, List.getElem_cons_zero, List.getElem_cons_succ, Act.put, List.setIfInBounds_toArray, List.set_cons_zero, List.set_cons_succ]
  refine wpAnyH_take (i := 20) (v := _) rfl (by kernel_rfl) (by kernel_rfl) (by kernel_rfl) (fun _ _ _ h => h) (yieldsIf_load_mid (by rfl) _ _ rfl _ _ rfl _ _ ?qs20 Tryz.underlying34 rfl j2) (by assumption) ?qr20
  case qs20 =>
    intro w hSw
    (try dsimp only at hSw)
    go_split_ands
    assumption
  try simp only [List.getElem_toArray, List.getElem_cons_zero, List.getElem_cons_succ, Act.put, List.setIfInBounds_toArray, List.set_cons_zero, List.set_cons_succ]
  refine wpAnyH_take (i := 21) (v := _) rfl (by kernel_rfl) (by kernel_rfl) (by kernel_rfl) (fun _ _ _ h => h) (yieldsIf_load_mid (by rfl) _ _ rfl _ _ rfl _ _ ?qs21 Tryz.underlying34 rfl j33) (by assumption) ?qr21
  case qs21 =>
    intro w hSw
    (try dsimp only at hSw)
    go_split_ands
    assumption
  try simp only [List.getElem_toArray, List.getElem_cons_zero, List.getElem_cons_succ, Act.put, List.setIfInBounds_toArray, List.set_cons_zero, List.set_cons_succ]
  refine wpAnyH_ready (rs := [22]) (by kernel_rfl) (by simp) ?_
  refine AllReadyH.cons rfl (fun K hK => ?_) AllReadyH.nil
  go_simp
  with_reducible refine (CT2).mono ?_
  rintro e W1 ⟨rfl, hb5⟩
  try go_wp2_with fail
  refine hK.out _ _ (KS.out _ (HD.out.trans (hb5.mono HD.out.size))) (fun hHeld => ?_)
  clear hK K
  try simp only [List.getElem_toArray, List.getElem_cons_zero, List.getElem_cons_succ, Act.put, List.setIfInBounds_toArray, List.set_cons_zero, List.set_cons_succ]
  refine wpAnyH_take (i := 23) (v := ?_) rfl (by kernel_rfl) (by kernel_rfl) (by kernel_rfl) (fun _ _ _ h => h) (Or.inl ⟨by rfl, ?qy23⟩) (by assumption) ?qr23
  case qy23 =>
    intro w hSw
    (try dsimp only at hSw)
    go_simp
    all_goals with_reducible rfl
  try simp only [List.getElem_toArray, List.getElem_cons_zero, List.getElem_cons_succ, Act.put, List.setIfInBounds_toArray, List.set_cons_zero, List.set_cons_succ]
  refine wpAnyH_take (i := 24) (v := ?_) rfl (by kernel_rfl) (by kernel_rfl) (by kernel_rfl) (fun _ _ _ h => h) (Or.inl ⟨by rfl, ?qy24⟩) (by assumption) ?qr24
  case qy24 =>
    intro w hSw
    (try dsimp only at hSw)
    go_simp
    all_goals with_reducible rfl
  try simp only [List.getElem_toArray, List.getElem_cons_zero, List.getElem_cons_succ, Act.put, List.setIfInBounds_toArray, List.set_cons_zero, List.set_cons_succ]
  refine wpAnyH_take (i := 25) (v := _) rfl (by kernel_rfl) (by kernel_rfl) (by kernel_rfl) (fun _ _ _ h => h) (yieldsIf_load_mid (by rfl) _ _ rfl _ _ rfl _ _ ?qs25 Tryz.underlying34 rfl j33) (by assumption) ?qr25
  case qs25 =>
    intro w hSw
    (try dsimp only at hSw)
    go_split_ands
    assumption
  try simp only [List.getElem_toArray, List.getElem_cons_zero, List.getElem_cons_succ, Act.put, List.setIfInBounds_toArray, List.set_cons_zero, List.set_cons_succ]
  refine wpAnyH_take (i := 27) (v := ?_) rfl (by kernel_rfl) (by kernel_rfl) (by kernel_rfl) (fun _ _ _ h => h) (Or.inl ⟨by rfl, ?qy27⟩) (by assumption) ?qr27
  case qy27 =>
    intro w hSw
    (try dsimp only at hSw)
    go_simp
    all_goals with_reducible rfl
  try simp only [List.getElem_toArray, List.getElem_cons_zero, List.getElem_cons_succ, Act.put, List.setIfInBounds_toArray, List.set_cons_zero, List.set_cons_succ]
  have HD1 : Hid (Below V4.heap.size V4 W1) := HD.out.trans (hb5.mono HD.out.size)
  clear HD hb5 CT2
  refine wpAnyH_ready (rs := [26, 28]) (by kernel_rfl) (by simp) ?_
  refine AllReadyH.cons rfl (fun K hK => ?_) (AllReadyH.cons rfl (fun K hK => ?_) AllReadyH.nil)
  · have HE1 : Hid (Below V4.heap.size V4 (W1.alloc (.cells x1.toArray 34))) := HD1.out.alloc HD1.out.size _
    have HE2 : Hid (Below V4.heap.size V4 ((W1.alloc (.cells x1.toArray 34)).alloc (.cells y98 47))) := HE1.out.alloc HE1.out.size _
    have ha : ((W1.alloc (.cells x1.toArray 34)).alloc (.cells y98 47)).heap[W1.heap.size]? = some (.cells x1.toArray 34 (0, 0)) := heap_old2 _ _ _
    have hc : ((W1.alloc (.cells x1.toArray 34)).alloc (.cells y98 47)).heap[W1.heap.size + 1]? = some (.cells y98 47 (0, 0)) := heap_new2 _ _ _
    have CAA := CA.out _ _ _ ha hc HE2.out
    clear ha hc
    refine step_bsl_g (by rfl) 22 1 _ rfl (hbs _) (by first | kernel_rfl | simp [Act.eval]) ?_
    refine hK.out _ _ (KS.out _ HE1.out) (fun hHeld => ?_)
    clear hK K
    try simp only [List.getElem_toArray, List.getElem_cons_zero, List.getElem_cons_succ, Act.put, List.setIfInBounds_toArray, List.set_cons_zero, List.set_cons_succ]
    refine wpAnyH_ready (rs := [28]) (by kernel_rfl) (by simp) ?_
    refine AllReadyH.cons rfl (fun K hK => ?_) AllReadyH.nil
    go_simp
    refine hK.out _ _ (KS.out _ HE2.out) (fun hHeld => ?_)
    clear hK K
    try simp only [List.getElem_toArray, List.getElem_cons_zero, List.getElem_cons_succ, Act.put, List.setIfInBounds_toArray, List.set_cons_zero, List.set_cons_succ]
    refine wpAnyH_ready (rs := [29]) (by kernel_rfl) (by simp) ?_
    refine AllReadyH.cons rfl (fun K hK => ?_) AllReadyH.nil
    go_simp
    with_reducible refine (CAA).mono ?_
    rintro e W2 ⟨a6, c6, rfl, hb6⟩
    try go_wp2_with fail
    refine hK.out _ _ (KS.out _ (HE2.out.trans (hb6.mono HE2.out.size))) (fun hHeld => ?_)
    clear hK K
    try simp only [List.getElem_toArray, List.getElem_cons_zero, List.getElem_cons_succ, Act.put, List.setIfInBounds_toArray, List.set_cons_zero, List.set_cons_succ]
    refine wpAnyH_take (i := 30) (v := ?_) rfl (by kernel_rfl) (by kernel_rfl) (by kernel_rfl) (fun _ _ _ h => h) (Or.inl ⟨by rfl, ?r26y30⟩) (by assumption) ?r26r30
    case r26y30 =>
      intro w hSw
      (try dsimp only at hSw)
      go_simp
      all_goals with_reducible rfl
    try simp only [List.getElem_toArray, List.getElem_cons_zero, List.getElem_cons_succ, Act.put, List.setIfInBounds_toArray, List.set_cons_zero, List.set_cons_succ]
    refine wpAnyH_take (i := 31) (v := ?_) rfl (by kernel_rfl) (by kernel_rfl) (by kernel_rfl) (fun _ _ _ h => h) (Or.inl ⟨by rfl, ?r26y31⟩) (by assumption) ?r26r31
    case r26y31 =>
      intro w hSw
      (try dsimp only at hSw)
      go_simp
      all_goals with_reducible rfl
    try simp only [List.getElem_toArray, List.getElem_cons_zero, List.getElem_cons_succ, Act.put, List.setIfInBounds_toArray, List.set_cons_zero, List.set_cons_succ]
    refine wpAnyH_take (i := 32) (v := ?_) rfl (by kernel_rfl) (by kernel_rfl) (by kernel_rfl) (fun _ _ _ h => h) (Or.inl ⟨by rfl, ?r26y32⟩) (by assumption) ?r26r32
    case r26y32 =>
      intro w hSw
      (try dsimp only at hSw)
      go_simp
      all_goals with_reducible rfl
    try simp only [List.getElem_toArray, List.getElem_cons_zero, List.getElem_cons_succ, Act.put, List.setIfInBounds_toArray, List.set_cons_zero, List.set_cons_succ]
    refine wpAnyH_take (i := 33) (v := ?_) rfl (by kernel_rfl) (by kernel_rfl) (by kernel_rfl) (fun _ _ _ h => h) (Or.inl ⟨by rfl, ?r26y33⟩) (by assumption) ?r26r33
    case r26y33 =>
      intro w hSw
      (try dsimp only at hSw)
      go_simp
      all_goals with_reducible rfl
    try simp only [List.getElem_toArray, List.getElem_cons_zero, List.getElem_cons_succ, Act.put, List.setIfInBounds_toArray, List.set_cons_zero, List.set_cons_succ]
    refine wpAnyH_take (i := 34) (v := ?_) rfl (by kernel_rfl) (by kernel_rfl) (by kernel_rfl) (fun _ _ _ h => h) (Or.inl ⟨by rfl, ?r26y34⟩) (by assumption) ?r26r34
    case r26y34 =>
      intro w hSw
      (try dsimp only at hSw)
      go_simp
      all_goals with_reducible rfl
    try simp only [List.getElem_toArray, List.getElem_cons_zero, List.getElem_cons_succ, Act.put, List.setIfInBounds_toArray, List.set_cons_zero, List.set_cons_succ]
    refine wpAnyH_take (i := 35) (v := ?_) rfl (by kernel_rfl) (by kernel_rfl) (by kernel_rfl) (fun _ _ _ h => h) (Or.inl ⟨by rfl, ?r26y35⟩) (by assumption) ?r26r35
    case r26y35 =>
      intro w hSw
      (try dsimp only at hSw)
      go_simp
      all_goals with_reducible rfl
    try simp only [List.getElem_toArray, List.getElem_cons_zero, List.getElem_cons_succ, Act.put, List.setIfInBounds_toArray, List.set_cons_zero, List.set_cons_succ]
    refine wpAnyH_take (i := 36) (v := ?_) rfl (by kernel_rfl) (by kernel_rfl) (by kernel_rfl) (fun _ _ _ h => h) (Or.inl ⟨by rfl, ?r26y36⟩) (by assumption) ?r26r36
    case r26y36 =>
      intro w hSw
      (try dsimp only at hSw)
      go_simp
      all_goals with_reducible rfl
    try simp only [List.getElem_toArray, List.getElem_cons_zero, List.getElem_cons_succ, Act.put, List.setIfInBounds_toArray, List.set_cons_zero, List.set_cons_succ]
    refine wpAnyH_take (i := 37) (v := _) rfl (by kernel_rfl) (by kernel_rfl) (by kernel_rfl) (fun _ _ _ h => h) (yieldsIf_load_mid (by rfl) _ _ rfl _ _ rfl _ _ ?r26s37 Tryz.underlying34 rfl j3) (by assumption) ?r26r37
    case r26s37 =>
      intro w hSw
      (try dsimp only at hSw)
      go_split_ands
      assumption
    try simp only [List.getElem_toArray, List.getElem_cons_zero, List.getElem_cons_succ, Act.put, List.setIfInBounds_toArray, List.set_cons_zero, List.set_cons_succ]
    refine wpAnyH_take (i := 38) (v := _) rfl (by kernel_rfl) (by kernel_rfl) (by kernel_rfl) (fun _ _ _ h => h) (yieldsIf_load_mid (by rfl) _ _ rfl _ _ rfl _ _ ?r26s38 Tryz.underlying34 rfl j33) (by assumption) ?r26r38
    case r26s38 =>
      intro w hSw
      (try dsimp only at hSw)
      go_split_ands
      assumption
    try simp only [List.getElem_toArray, List.getElem_cons_zero, List.getElem_cons_succ, Act.put, List.setIfInBounds_toArray, List.set_cons_zero, List.set_cons_succ]
    refine wpAnyH_ready (rs := [39]) (by kernel_rfl) (by simp) ?_
    refine AllReadyH.cons rfl (fun K hK => ?_) AllReadyH.nil
    go_simp
    with_reducible refine (C3.out _ (HE2.out.trans (hb6.mono HE2.out.size))).mono ?_
    rintro e W3 ⟨rfl, hb7⟩
    try go_wp2_with fail
    refine hK.out _ _ (KS.out _ ((HE2.out.trans (hb6.mono HE2.out.size)).trans (hb7.mono (HE2.out.trans (hb6.mono HE2.out.size)).size))) (fun hHeld => ?_)
    clear hK K
    try simp only [List.getElem_toArray, List.getElem_cons_zero, List.getElem_cons_succ, Act.put, List.setIfInBounds_toArray, List.set_cons_zero, List.set_cons_succ]
    refine wpAnyH_take (i := 40) (v := ?_) rfl (by kernel_rfl) (by kernel_rfl) (by kernel_rfl) (fun _ _ _ h => h) (Or.inl ⟨by rfl, ?r26y40⟩) (by assumption) ?r26r40
    case r26y40 =>
      intro w hSw
      (try dsimp only at hSw)
      go_simp
      all_goals with_reducible rfl
    try simp only [List.getElem_toArray, List.getElem_cons_zero, List.getElem_cons_succ, Act.put, List.setIfInBounds_toArray, List.set_cons_zero, List.set_cons_succ]
    refine wpAnyH_take (i := 41) (v := ?_) rfl (by kernel_rfl) (by kernel_rfl) (by kernel_rfl) (fun _ _ _ h => h) (Or.inl ⟨by rfl, ?r26y41⟩) (by assumption) ?r26r41
    case r26y41 =>
      intro w hSw
      (try dsimp only at hSw)
      go_simp
      all_goals with_reducible rfl
    try simp only [List.getElem_toArray, List.getElem_cons_zero, List.getElem_cons_succ, Act.put, List.setIfInBounds_toArray, List.set_cons_zero, List.set_cons_succ]
    refine wpAnyH_done (by kernel_rfl) ?_ _
    have HF := HBW.out W3 ((HE2.out.trans (hb6.mono HE2.out.size)).trans (hb7.mono (HE2.out.trans (hb6.mono HE2.out.size)).size))
    clear CAA hb6 hb7
    go_wp2_with fail
    go_ret
    exact ⟨rfl, HF⟩
  · have HE1 : Hid (Below V4.heap.size V4 (W1.alloc (.cells y98 47))) := HD1.out.alloc HD1.out.size _
    have HE2 : Hid (Below V4.heap.size V4 ((W1.alloc (.cells y98 47)).alloc (.cells x1.toArray 34))) := HE1.out.alloc HE1.out.size _
    have ha : ((W1.alloc (.cells y98 47)).alloc (.cells x1.toArray 34)).heap[W1.heap.size + 1]? = some (.cells x1.toArray 34 (0, 0)) := heap_new2 _ _ _
    have hc : ((W1.alloc (.cells y98 47)).alloc (.cells x1.toArray 34)).heap[W1.heap.size]? = some (.cells y98 47 (0, 0)) := heap_old2 _ _ _
    have CAA := CA.out _ _ _ ha hc HE2.out
    clear ha hc
    go_simp
    refine hK.out _ _ (KS.out _ HE1.out) (fun hHeld => ?_)
    clear hK K
    try simp only [List.getElem_toArray, List.getElem_cons_zero, List.getElem_cons_succ, Act.put, List.setIfInBounds_toArray, List.set_cons_zero, List.set_cons_succ]
    refine wpAnyH_ready (rs := [26]) (by kernel_rfl) (by simp) ?_
    refine AllReadyH.cons rfl (fun K hK => ?_) AllReadyH.nil
    refine step_bsl_g (by rfl) 22 1 _ rfl (hbs _) (by first | kernel_rfl | simp [Act.eval]) ?_
    refine hK.out _ _ (KS.out _ HE2.out) (fun hHeld => ?_)
    clear hK K
    try simp only [List.getElem_toArray, List.getElem_cons_zero, List.getElem_cons_succ, Act.put, List.setIfInBounds_toArray, List.set_cons_zero, List.set_cons_succ]
    refine wpAnyH_ready (rs := [29]) (by kernel_rfl) (by simp) ?_
    refine AllReadyH.cons rfl (fun K hK => ?_) AllReadyH.nil
    go_simp
    with_reducible refine (CAA).mono ?_
    rintro e W2 ⟨a6, c6, rfl, hb6⟩
    try go_wp2_with fail
    refine hK.out _ _ (KS.out _ (HE2.out.trans (hb6.mono HE2.out.size))) (fun hHeld => ?_)
    clear hK K
    try simp only [List.getElem_toArray, List.getElem_cons_zero, List.getElem_cons_succ, Act.put, List.setIfInBounds_toArray, List.set_cons_zero, List.set_cons_succ]
    refine wpAnyH_take (i := 30) (v := ?_) rfl (by kernel_rfl) (by kernel_rfl) (by kernel_rfl) (fun _ _ _ h => h) (Or.inl ⟨by rfl, ?r28y30⟩) (by assumption) ?r28r30
    case r28y30 =>
      intro w hSw
      (try dsimp only at hSw)
      go_simp
      all_goals with_reducible rfl
    try simp only [List.getElem_toArray, List.getElem_cons_zero, List.getElem_cons_succ, Act.put, List.setIfInBounds_toArray, List.set_cons_zero, List.set_cons_succ]
    refine wpAnyH_take (i := 31) (v := ?_) rfl (by kernel_rfl) (by kernel_rfl) (by kernel_rfl) (fun _ _ _ h => h) (Or.inl ⟨by rfl, ?r28y31⟩) (by assumption) ?r28r31
    case r28y31 =>
      intro w hSw
      (try dsimp only at hSw)
      go_simp
      all_goals with_reducible rfl
    try simp only [List.getElem_toArray, List.getElem_cons_zero, List.getElem_cons_succ, Act.put, List.setIfInBounds_toArray, List.set_cons_zero, List.set_cons_succ]
    refine wpAnyH_take (i := 32) (v := ?_) rfl (by kernel_rfl) (by kernel_rfl) (by kernel_rfl) (fun _ _ _ h => h) (Or.inl ⟨by rfl, ?r28y32⟩) (by assumption) ?r28r32
    case r28y32 =>
      intro w hSw
      (try dsimp only at hSw)
      go_simp
      all_goals with_reducible rfl
    try simp only [List.getElem_toArray, List.getElem_cons_zero, List.getElem_cons_succ, Act.put, List.setIfInBounds_toArray, List.set_cons_zero, List.set_cons_succ]
    refine wpAnyH_take (i := 33) (v := ?_) rfl (by kernel_rfl) (by kernel_rfl) (by kernel_rfl) (fun _ _ _ h => h) (Or.inl ⟨by rfl, ?r28y33⟩) (by assumption) ?r28r33
    case r28y33 =>
      intro w hSw
      (try dsimp only at hSw)
      go_simp
      all_goals with_reducible rfl
    try simp only [List.getElem_toArray, List.getElem_cons_zero, List.getElem_cons_succ, Act.put, List.setIfInBounds_toArray, List.set_cons_zero, List.set_cons_succ]
    refine wpAnyH_take (i := 34) (v := ?_) rfl (by kernel_rfl) (by kernel_rfl) (by kernel_rfl) (fun _ _ _ h => h) (Or.inl ⟨by rfl, ?r28y34⟩) (by assumption) ?r28r34
    case r28y34 =>
      intro w hSw
      (try dsimp only at hSw)
      go_simp
      all_goals with_reducible rfl
    try simp only [List.getElem_toArray, List.getElem_cons_zero, List.getElem_cons_succ, Act.put, List.setIfInBounds_toArray, List.set_cons_zero, List.set_cons_succ]
    refine wpAnyH_take (i := 35) (v := ?_) rfl (by kernel_rfl) (by kernel_rfl) (by kernel_rfl) (fun _ _ _ h => h) (Or.inl ⟨by rfl, ?r28y35⟩) (by assumption) ?r28r35
    case r28y35 =>
      intro w hSw
      (try dsimp only at hSw)
      go_simp
      all_goals with_reducible rfl
    try simp only [List.getElem_toArray, List.getElem_cons_zero, List.getElem_cons_succ, Act.put, List.setIfInBounds_toArray, List.set_cons_zero, List.set_cons_succ]
    refine wpAnyH_take (i := 36) (v := ?_) rfl (by kernel_rfl) (by kernel_rfl) (by kernel_rfl) (fun _ _ _ h => h) (Or.inl ⟨by rfl, ?r28y36⟩) (by assumption) ?r28r36
    case r28y36 =>
      intro w hSw
      (try dsimp only at hSw)
      go_simp
      all_goals with_reducible rfl
    try simp only [List.getElem_toArray, List.getElem_cons_zero, List.getElem_cons_succ, Act.put, List.setIfInBounds_toArray, List.set_cons_zero, List.set_cons_succ]
    refine wpAnyH_take (i := 37) (v := _) rfl (by kernel_rfl) (by kernel_rfl) (by kernel_rfl) (fun _ _ _ h => h) (yieldsIf_load_mid (by rfl) _ _ rfl _ _ rfl _ _ ?r28s37 Tryz.underlying34 rfl j3) (by assumption) ?r28r37
    case r28s37 =>
      intro w hSw
      (try dsimp only at hSw)
      go_split_ands
      assumption
    try simp only [List.getElem_toArray, List.getElem_cons_zero, List.getElem_cons_succ, Act.put, List.setIfInBounds_toArray, List.set_cons_zero, List.set_cons_succ]
    refine wpAnyH_take (i := 38) (v := _) rfl (by kernel_rfl) (by kernel_rfl) (by kernel_rfl) (fun _ _ _ h => h) (yieldsIf_load_mid (by rfl) _ _ rfl _ _ rfl _ _ ?r28s38 Tryz.underlying34 rfl j33) (by assumption) ?r28r38
    case r28s38 =>
      intro w hSw
      (try dsimp only at hSw)
      go_split_ands
      assumption
    try simp only [List.getElem_toArray, List.getElem_cons_zero, List.getElem_cons_succ, Act.put, List.setIfInBounds_toArray, List.set_cons_zero, List.set_cons_succ]
    refine wpAnyH_ready (rs := [39]) (by kernel_rfl) (by simp) ?_
    refine AllReadyH.cons rfl (fun K hK => ?_) AllReadyH.nil
    go_simp
    with_reducible refine (C3.out _ (HE2.out.trans (hb6.mono HE2.out.size))).mono ?_
    rintro e W3 ⟨rfl, hb7⟩
    try go_wp2_with fail
    refine hK.out _ _ (KS.out _ ((HE2.out.trans (hb6.mono HE2.out.size)).trans (hb7.mono (HE2.out.trans (hb6.mono HE2.out.size)).size))) (fun hHeld => ?_)
    clear hK K
    try simp only [List.getElem_toArray, List.getElem_cons_zero, List.getElem_cons_succ, Act.put, List.setIfInBounds_toArray, List.set_cons_zero, List.set_cons_succ]
    refine wpAnyH_take (i := 40) (v := ?_) rfl (by kernel_rfl) (by kernel_rfl) (by kernel_rfl) (fun _ _ _ h => h) (Or.inl ⟨by rfl, ?r28y40⟩) (by assumption) ?r28r40
    case r28y40 =>
      intro w hSw
      (try dsimp only at hSw)
      go_simp
      all_goals with_reducible rfl
    try simp only [List.getElem_toArray, List.getElem_cons_zero, List.getElem_cons_succ, Act.put, List.setIfInBounds_toArray, List.set_cons_zero, List.set_cons_succ]
    refine wpAnyH_take (i := 41) (v := ?_) rfl (by kernel_rfl) (by kernel_rfl) (by kernel_rfl) (fun _ _ _ h => h) (Or.inl ⟨by rfl, ?r28y41⟩) (by assumption) ?r28r41
    case r28y41 =>
      intro w hSw
      (try dsimp only at hSw)
      go_simp
      all_goals with_reducible rfl
    try simp only [List.getElem_toArray, List.getElem_cons_zero, List.getElem_cons_succ, Act.put, List.setIfInBounds_toArray, List.set_cons_zero, List.set_cons_succ]
    refine wpAnyH_done (by kernel_rfl) ?_ _
    have HF := HBW.out W3 ((HE2.out.trans (hb6.mono HE2.out.size)).trans (hb7.mono (HE2.out.trans (hb6.mono HE2.out.size)).size))
    clear CAA hb6 hb7
    go_wp2_with fail
    go_ret
    exact ⟨rfl, HF⟩
end Df
end Go.Proofs.YtbccadbnaggkhaaGreat

