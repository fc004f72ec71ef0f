/-
  Settings as bytes: the chapter's example, as the statements ask it.
  Settings as bytes: the program's config(): all fields of settings, in their order.
  Settings as bytes: what the document's reader reads is what the program's fields read, number by number.
  Settings as bytes: the program's OpenChange where a tenant is put.
-/
import Derived.Test.YtngegdamcfmonaaGreatM30
import Derived.Test.YtngegdamcfmonaaGreatM28
import Derived.Test.YtngegdamcfmonaaGreatM31
namespace Go.Proofs.YtngegdamcfmonaaGreat
open Go.RowKit
open Sm
open Cf
set_option linter.unusedVariables false
set_option maxRecDepth 20000

abbrev sA : ByteArray := ⟨#[97]⟩
theorem build_a (V : World) : (Instr.build 35 #[(1, .string sA)]).run Tryz.prog V = .ok (.agg (hc ⟨false, sA, ten0⟩ nilV nilV nilV).toArray) V := by kernel_rfl
def tv3 (n : Int) : Ten := { ten0 with vni := n }
theorem build_t (n : Int) (V : World) : (Instr.build 33 #[(1, .int .u32 n)]).run Tryz.prog V = .ok (.agg (tc (tv3 n) nilV nilV nilV).toArray) V := by kernel_rfl
theorem rw_nil (V : World) (n : Nat) : Rw V n nilV [] := ⟨none, 0, rfl, Nat.le_refl _, by omega, fun _ => rfl, Or.inl rfl⟩
theorem tv_t3 (V : World) (n : Int) : TV V (.agg (tc (tv3 n) nilV nilV nilV).toArray) (tv3 n) := ⟨⟨rfl, rfl, rfl⟩, nilV, nilV, nilV, rfl, rw_nil V 1, rw_nil V 2, rw_nil V 2⟩
theorem z6b : IsBytes [0, 0, 0, 0, 0, 0] := bytes_noughts 6
theorem z8b : IsBytes [0, 0, 0, 0, 0, 0, 0, 0] := bytes_noughts 8
theorem tin_t3 (n : Int) : TIn (tv3 n) := ⟨⟨rfl, rfl, rfl⟩, z8b, z6b, z6b, Nat.zero_le _, Nat.zero_le _, Nat.zero_le _, Nat.zero_le _⟩
theorem hv_a (V : World) : HV V (.agg (hc ⟨false, sA, ten0⟩ nilV nilV nilV).toArray) ⟨false, sA, ten0⟩ := ⟨ten0_len, nilV, nilV, nilV, rfl, rw_nil V 1, rw_nil V 2, rw_nil V 2⟩
theorem henc_a : henc ⟨false, sA, ten0⟩ = [0, 1, 97] := by decide
theorem hdec_a : hdec [0, 1, 97] = some ⟨false, sA, ten0⟩ := by
  simp only [hdec, if_true, spN, spTxt]
  rfl
theorem hdec_9 : hdec [9] = none := by decide
theorem eq_33 : spT.eq (tv3 3) (tv3 3) = true := by decide +kernel
theorem eq_34 : spT.eq (tv3 3) (tv3 4) = false := by decide +kernel
/-- What was written, as its readers see it. -/
theorem Out.sl {w W : World} {u : Value} {l : List Int} {K : List (Nat × Obj)} (h : Out w W u l K) (hl : l.length ≤ 1000000000) : ∃ a c, u = .slice a l.length c ∧ Sl W a l c := by
  obtain ⟨hb, h1, h2⟩ := h
  rcases h2 with ⟨rfl, e, hm⟩ | ⟨g, cap, cur, rfl, hm, hnc, hcm, hcs, htake⟩
  · have : l = [] := List.length_eq_zero_iff.mp e
    subst this
    exact ⟨Option.none, 0, rfl, ⟨row_empty W Option.none, Nat.le_refl _, by omega, fun _ => rfl⟩⟩
  · refine ⟨_, cap, rfl, ⟨⟨hb, by omega, Or.inr ⟨g, 0, rfl, fun i hi => ?_⟩⟩, hnc, by simpa [maxLen] using hcm, fun e => by cases e⟩⟩
    rw [Nat.zero_add, hm.cell 0 rfl]
    have := congrArg (fun x => x[i]?) htake
    simp only [List.getElem?_take, Nat.mul_one, if_pos hi, List.getElem?_map, List.getElem?_eq_getElem hi, Option.map_some, Array.getElem?_toList] at this
    rw [this, getD_eq hi]
set_option maxHeartbeats 8000000 in
theorem known_any (w : World) : Calls Tryz.prog 9 #[] w fun e w' => e = .returned (.bool true) ∧ Below w.heap.size w w' := by
  have b1 := build_a
  have C1 := cfgChange_any (hv_a w) ⟨ten0_len, z8b, z6b, z6b, by decide, by decide, by decide, by decide⟩ (by decide) (by rw [henc_a]; decide)
  rw [henc_a] at C1
  go_enter Tryz.func9, Tryz.ntmps9
  go_wp2_with fail
  refine C1.mono ?_
  rintro e W1 ⟨u, rfl, hO⟩
  obtain ⟨a1, c1, rfl, hS1⟩ := hO.sl (by decide)
  have hB1 := hO.mem.below
  have C2 := openChange_no hS1 (by decide)
  rw [hdec_a] at C2
  clear C1 hO
  go_wp2_with fail
  refine C2.mono ?_
  rintro e W2 ⟨hB2, v, rfl, hv⟩
  obtain ⟨hl, p, s, q, rfl, h1, h2, h3⟩ := hv _ (fun _ _ _ => rfl)
  have hone : (hc ⟨false, sA, ten0⟩ p s q).toArray.all (·.oneCell') = true := by
    have h5 := rw_one h1
    have h6 := rw_one h2
    have h7 := rw_one h3
    apply all_oneCell_toArray
    intro v hv
    simp only [hc, List.mem_cons] at hv
    rcases hv with rfl | rfl | hv
    · rfl
    · rfl
    · have := tc_one2 ten0 h5 h6 h7
      rw [Array.all_eq_true_iff_forall_mem] at this
      exact this v (by simpa using hv)
  obtain ⟨tl, htl⟩ : ∃ tl, (hc ⟨false, sA, ten0⟩ p s q).toArray = tl := ⟨_, rfl⟩
  have t0 : tl[0]? = some (.bool false) := by rw [← htl]; rfl
  have t1 : tl[1]? = some (.string sA) := by rw [← htl]; rfl
  have hsz : tl.size = 35 := by rw [← htl]; rfl
  rw [htl] at hone ⊢
  have hi35 : (Tryz.prog.info? 35).map (·.size) = some tl.size := by rw [hsz]; kernel_rfl
  clear htl h1 h2 h3 C2
  go_upto_region 3 with (refine wpList_store_row rfl 35 (.tmp 2) (.tmp 11) (by with_reducible rfl) W2.heap.size tl rfl rfl 35 _ (heap_alloc_new W2 _) hi35 (by rw [hsz]; rfl) hone ?_)
  obtain ⟨bt, hbt⟩ : ∃ bt, W2.heap.size = bt := ⟨_, rfl⟩
  refine wp_letter (fun V => Mem W2 V [(bt, .cells tl 35 (0, 0))]) (by
    rw [World.setRow_alloc_new]
    exact (Mem.nil W2).push1 hbt.symm) ?_
  intro V3 hM3
  have hS9 := row_lit V3 [9] (bytes_cons (by decide) bytes_nil) (by decide) 5
  have C3 := openChange_no (l := [9]) ⟨hS9, Nat.le_refl _, by decide, fun e => by cases e⟩ (by decide)
  rw [hdec_9] at C3
  go_wp2_with fail
  refine C3.mono ?_
  rintro e V4 ⟨hB4, rfl⟩
  have hM4 := hM3.after (((Below.refl _ _).alloc (Nat.le_refl _) _).trans (hB4.mono (by simp)))
  clear C3 hS9
  have hzone := hz0_one
  go_upto_region 4 with (refine wpList_store_row rfl 35 (.tmp 4) (.tmp 16) (by with_reducible rfl) V4.heap.size hz0 rfl rfl 35 _ (heap_alloc_new V4 _) (by kernel_rfl) rfl hzone ?_)
  refine wp_letter (fun V => Mem W2 V [(bt, .cells tl 35 (0, 0))]) (by
    rw [World.setRow_alloc_new]
    exact hM4.after ((Below.refl _ _).alloc (Nat.le_refl _) _)) ?_
  intro V5 hM5
  have hSw : Sl W2 a1 [0, 1, 97] c1 := ⟨hS1.row.below hB2 (Nat.le_refl _), hS1.le, hS1.big, hS1.nil⟩
  have hM6 : Mem W2 (V5.alloc (.cells #[.int .u8 0, .int .u8 1, .int .u8 97] 5)) [(bt, .cells tl 35 (0, 0))] := hM5.after ((Below.refl _ _).alloc (Nat.le_refl _) _)
  have CB := hbytes_any (hM6.sl hSw).row (row_lit V5 [0, 1, 97] (bytes_cons (by decide) (bytes_cons (by decide) (bytes_cons (by decide) bytes_nil))) (by decide) 5) 3 3 rfl rfl c1 3
  simp only [decide_true] at CB
  have d0 := (hM6.cell 0 rfl 0).trans t0
  have d1 := (hM6.cell 0 rfl 1).trans t1
  have CS := fun V => cfgSame_any (tv_t3 V 3) (tin_t3 3) (tv_t3 V 3) (tin_t3 3)
  have CT := fun V => cfgSame_any (tv_t3 V 3) (tin_t3 3) (tv_t3 V 4) (tin_t3 4)
  rw [eq_33] at CS
  rw [eq_34] at CT
  have HB : Hid (Below w.heap.size w (V5.alloc (.cells #[.int .u8 0, .int .u8 1, .int .u8 97] 5))) := hB1.trans ((hB2.trans (hM6.below.mono hB2.size)).mono hB1.size)
  clear hM3 hM4 hM5 hM6 hSw hB4 hB1 hB2 hS1 t0 t1
  have hs : ((⟨#[97]⟩ : ByteArray).toList == (⟨#[97]⟩ : ByteArray).toList) = true := by simp
  go_wp2_with fail
  refine CB.mono ?_
  rintro e V6 ⟨rfl, rfl⟩
  go_wp2_with fail
  refine (CS _).mono ?_
  rintro e V7 ⟨rfl, hb7⟩
  go_wp2_with fail
  refine (CT _).mono ?_
  rintro e V8 ⟨rfl, hb8⟩
  go_wp2_with fail
  go_ret
  exact ⟨rfl, HB.out.trans ((hb7.trans (hb8.mono hb7.size)).mono HB.out.size)⟩
end Go.Proofs.YtngegdamcfmonaaGreat

namespace Go.Proofs.YtngegdamcfmonaaGreat
open Go.RowKit
open Sm
open Cf
set_option linter.unusedVariables false
set_option maxRecDepth 20000

set_option maxHeartbeats 16000000 in
theorem config_any {w W : World} {L : List (Nat × Obj)} (h : Mem w W L) :
    Calls Tryz.prog 31 #[] W fun e W' => ∃ f E, e = .returned f.val ∧ Mem w W' (E ++ L) ∧ Fw w E IC JC f spC := by
  have hM0 : Mem w (W.alloc (.cells #[.nilFunc, .nilFunc, .nilFunc] 71)) ((W.heap.size, .cells #[.nilFunc, .nilFunc, .nilFunc] 71 (0, 0)) :: ([] ++ L)) := (h.push W.heap.size _ rfl).perm List.perm_append_comm
  obtain ⟨rb, hrb⟩ : ∃ rb, W.heap.size = rb := ⟨_, rfl⟩
  rw [hrb] at hM0
  clear h
  go_enter Tryz.func31, Tryz.ntmps31
  have C1 := c_CIp hM0
  go_wp2_with fail
  refine C1.mono ?_
  rintro e V1 ⟨⟨k1a, k1b, k1c, q1a, q1b, q1c⟩, E1, rfl, hM1, S1, hF1⟩
  have F1 : Hid (Fw w E1 _ _ ⟨k1a, k1b, k1c, q1a, q1b, q1c⟩ _) := hF1
  have T1 : Hid (Sub [] E1) := S1
  simp only [Fv.val]
  clear C1 hM0 hF1 S1
  have C2 := c_CMac hM1
  go_wp2_with fail
  refine C2.mono ?_
  rintro e V2 ⟨⟨k2a, k2b, k2c, q2a, q2b, q2c⟩, E2, rfl, hM2, S2, hF2⟩
  have F2 : Hid (Fw w E2 _ _ ⟨k2a, k2b, k2c, q2a, q2b, q2c⟩ _) := hF2
  have T2 : Hid (Sub E1 E2) := S2
  simp only [Fv.val]
  clear C2 hM1 hF2 S2
  have C3 := c_COut hM2
  go_wp2_with fail
  refine C3.mono ?_
  rintro e V3 ⟨⟨k3a, k3b, k3c, q3a, q3b, q3c⟩, E3, rfl, hM3, S3, hF3⟩
  have F3 : Hid (Fw w E3 _ _ ⟨k3a, k3b, k3c, q3a, q3b, q3c⟩ _) := hF3
  have T3 : Hid (Sub E2 E3) := S3
  simp only [Fv.val]
  clear C3 hM2 hF3 S3
  have C4 := c_CNext hM3
  go_wp2_with fail
  refine C4.mono ?_
  rintro e V4 ⟨⟨k4a, k4b, k4c, q4a, q4b, q4c⟩, E4, rfl, hM4, S4, hF4⟩
  have F4 : Hid (Fw w E4 _ _ ⟨k4a, k4b, k4c, q4a, q4b, q4c⟩ _) := hF4
  have T4 : Hid (Sub E3 E4) := S4
  simp only [Fv.val]
  clear C4 hM3 hF4 S4
  have C5 := c_CKey hM4
  go_wp2_with fail
  refine C5.mono ?_
  rintro e V5 ⟨⟨k5a, k5b, k5c, q5a, q5b, q5c⟩, E5, rfl, hM5, S5, hF5⟩
  have F5 : Hid (Fw w E5 _ _ ⟨k5a, k5b, k5c, q5a, q5b, q5c⟩ _) := hF5
  have T5 : Hid (Sub E4 E5) := S5
  simp only [Fv.val]
  clear C5 hM4 hF5 S5
  have C6 := c_CDrain hM5
  go_wp2_with fail
  refine C6.mono ?_
  rintro e V6 ⟨⟨k6a, k6b, k6c, q6a, q6b, q6c⟩, E6, rfl, hM6, S6, hF6⟩
  have F6 : Hid (Fw w E6 _ _ ⟨k6a, k6b, k6c, q6a, q6b, q6c⟩ _) := hF6
  have T6 : Hid (Sub E5 E6) := S6
  simp only [Fv.val]
  clear C6 hM5 hF6 S6
  have C7 := c_CCnt hM6
  go_wp2_with fail
  refine C7.mono ?_
  rintro e V7 ⟨⟨k7a, k7b, k7c, q7a, q7b, q7c⟩, E7, rfl, hM7, S7, hF7⟩
  have F7 : Hid (Fw w E7 _ _ ⟨k7a, k7b, k7c, q7a, q7b, q7c⟩ _) := hF7
  have T7 : Hid (Sub E6 E7) := S7
  simp only [Fv.val]
  clear C7 hM6 hF7 S7
  have C8 := c_tenant hM7
  go_wp2_with fail
  refine C8.mono ?_
  rintro e V8 ⟨⟨k8a, k8b, k8c, q8a, q8b, q8c⟩, E8, rfl, hM8, S8, hF8⟩
  have F8 : Hid (Fd w E8 _ _ ⟨k8a, k8b, k8c, q8a, q8b, q8c⟩ _) := hF8
  have T8 : Hid (Sub E7 E8) := S8
  simp only [Fv.val]
  clear C8 hM7 hF8 S8
  have C9 := c_CItm hM8 ⟨k8a, k8b, k8c, q8a, q8b, q8c⟩ F8.out
  simp only [Fv.val] at C9
  go_wp2_with fail
  refine C9.mono ?_
  rintro e V9 ⟨⟨k9a, k9b, k9c, q9a, q9b, q9c⟩, E9, rfl, hM9, S9, hF9⟩
  have F9 : Hid (Fw w E9 _ _ ⟨k9a, k9b, k9c, q9a, q9b, q9c⟩ _) := hF9
  have T9 : Hid (Sub E8 E9) := S9
  simp only
  clear C9 hM8 hF9 S9
  obtain ⟨lb, hlb⟩ : ∃ lb, V9.heap.size = lb := ⟨_, rfl⟩
  obtain ⟨fs, hfs⟩ : ∃ fs : List Fv, fs = [⟨k1a, k1b, k1c, q1a, q1b, q1c⟩, ⟨k2a, k2b, k2c, q2a, q2b, q2c⟩, ⟨k3a, k3b, k3c, q3a, q3b, q3c⟩, ⟨k4a, k4b, k4c, q4a, q4b, q4c⟩, ⟨k5a, k5b, k5c, q5a, q5b, q5c⟩, ⟨k6a, k6b, k6c, q6a, q6b, q6c⟩, ⟨k7a, k7b, k7c, q7a, q7b, q7c⟩, ⟨k9a, k9b, k9c, q9a, q9b, q9c⟩] := ⟨_, rfl⟩
  have hMx : Mem w (V9.alloc (.cells (fs.flatMap Fv.cells).toArray 71)) ((lb, .cells (fs.flatMap Fv.cells).toArray 71 (0, 0)) :: (rb, .cells #[.nilFunc, .nilFunc, .nilFunc] 71 (0, 0)) :: (E9 ++ L)) :=
    (hM9.push lb _ hlb.symm).perm List.perm_append_comm
  have Cx := mk_all_C hMx lb 8
  have HA : Hid (FwAll w E9 IC JC fs csp) := by
    have U9 : Sub E9 E9 := Sub.refl _
    have U8 : Sub E8 E9 := T9.out.trans U9
    have U7 : Sub E7 E9 := T8.out.trans U8
    have U6 : Sub E6 E9 := T7.out.trans U7
    have U5 : Sub E5 E9 := T6.out.trans U6
    have U4 : Sub E4 E9 := T5.out.trans U5
    have U3 : Sub E3 E9 := T4.out.trans U4
    have U2 : Sub E2 E9 := T3.out.trans U3
    have U1 : Sub E1 E9 := T2.out.trans U2
    rw [hfs]
    exact .cons (F1.out.more U1) (.cons (F2.out.more U2) (.cons (F3.out.more U3) (.cons (F4.out.more U4) (.cons (F5.out.more U5) (.cons (F6.out.more U6) (.cons (F7.out.more U7) (.cons (F9.out.more U9) (.nil))))))))
  clear hMx hM9 F1 T1 F2 T2 F3 T3 F4 T4 F5 T5 F6 T6 F7 T7 F8 T8 F9 T9
  rw [hfs] at Cx
  simp only [List.flatMap_cons, List.flatMap_nil, Fv.cells, List.cons_append, List.nil_append, List.append_nil] at Cx
  go_wp2_with fail
  refine Cx.mono ?_
  rintro e V ⟨cb, rfl, hM⟩
  obtain ⟨E, hE⟩ : ∃ E : List (Nat × Obj), E = (cb, .cells #[.slice (some ⟨lb, 0, none⟩) 8 8] 119 (0, 0)) :: (lb, .cells (fs.flatMap Fv.cells).toArray 71 (0, 0)) :: E9 := ⟨_, rfl⟩
  have hM2 : Mem w V ((rb, .cells #[.nilFunc, .nilFunc, .nilFunc] 71 (0, 0)) :: (E ++ L)) := by
    rw [hE, hfs]
    simp only [List.flatMap_cons, List.flatMap_nil, Fv.cells, List.cons_append, List.nil_append, List.append_nil]
    exact hM.perm (List.perm_middle (l₁ := [_, _]))
  have HF : Hid (Fw w E IC JC (fvAll_C cb) spC) := by
    refine fw_all_C cb lb 8 fs csp (by rw [hfs]; rfl) (by omega) (by rw [hE]; exact List.mem_cons_self ..) (by rw [hE]; exact List.mem_cons_of_mem _ (List.mem_cons_self ..)) ?_ ?_ ?_
    · have : ∀ fs ss, FwAll w E9 IC JC fs ss → FwAll w E IC JC fs ss := by
        intro fs ss hA
        induction hA with
        | nil => exact .nil
        | cons h1 _ ih => exact .cons (h1.more (by rw [hE]; exact fun q hq => List.mem_cons_of_mem _ (List.mem_cons_of_mem _ hq))) ih
      exact this _ _ HA.out
    · rintro x g T pre post V V' K ⟨h1, h2, h, zs, h3, h4, h5⟩ hB
      exact ⟨h1, h2, h, zs, h3, h4, h5.after hB⟩
    · rintro x g T pre post V K ⟨h1, h2, h, zs, h3, h4, h5⟩
      exact h5.sub.dropA
  clear Cx hM hE hfs HA
  generalize fvAll_C cb = f at HF
  obtain ⟨m1, m2, m3, n1, n2, n3⟩ := f
  have hM3 := hM2.put3 (.func (.func m1) #[] n1) (.func (.func m2) #[] n2) (.func (.func m3) #[] n3)
  have e0 : V.cell? ⟨rb, 0, none⟩ = some .nilFunc := hM2.cell 0 rfl 0
  have e1 : V.cell? ⟨rb, 1, none⟩ = some .nilFunc := hM2.cell 0 rfl 1
  have e2 : V.cell? ⟨rb, 2, none⟩ = some .nilFunc := hM2.cell 0 rfl 2
  have e3 := hM2.free 0 rfl
  clear hM2
  simp only [Fv.val]
  go_wp2_with fail
  refine bodyPost_ret (v := .agg #[.func (.func m1) #[] n1, .func (.func m2) #[] n2, .func (.func m3) #[] n3]) ?_ rfl ⟨⟨m1, m2, m3, n1, n2, n3⟩, _ :: E, rfl, hM3, HF.out.more (fun q hq => List.mem_cons_of_mem _ hq)⟩
  exact results_cell_row (p := 0) (ty := 71) rfl _ _ rb 71 _ (0, 0) _ rfl (hM3.get 0 rfl) Tryz.underlying71 rfl (by kernel_rfl)
end Go.Proofs.YtngegdamcfmonaaGreat

namespace Go.Proofs.YtngegdamcfmonaaGreat
open Go.RowKit
open Sm
open Cf
set_option linter.unusedVariables false
set_option linter.unusedSimpArgs false
set_option maxRecDepth 20000

theorem pls_none (n : Nat) : pls n none = ([], none) := by cases n <;> rfl
theorem prs_none (n : Nat) : prs n none = ([], none) := by cases n <;> rfl
theorem num_step (sz : Nat) (l : List Int) : (l.length < sz ∧ nx sz (some l) = none) ∨ (¬ l.length < sz ∧ tk sz (some l) = l.take sz ∧ nx sz (some l) = some (l.drop sz)) := by
  by_cases h : l.length < sz
  · exact Or.inl ⟨h, by simp only [nx]; rw [if_neg (by omega)]⟩
  · exact Or.inr ⟨h, by simp only [tk]; rw [if_pos (by omega)], by simp only [nx]; rw [if_pos (by omega)]⟩
theorem name_step (l : List Int) : (dtxt l = none ∧ rnx (some l) = none) ∨ ∃ r, dtxt l = some (rnm (some l), r) ∧ rnx (some l) = some r := by
  cases l with
  | nil => exact Or.inl ⟨rfl, rfl⟩
  | cons b r =>
    have e1 : tk 1 (some (b :: r)) = [b] := by simp [tk]
    have e2 : nx 1 (some (b :: r)) = some r := by simp [nx]
    have e3 : num [b] = b := by simp [num]
    unfold rnx rnm
    rw [e1, e2, e3]
    rcases num_step b.toNat r with ⟨h, h2⟩ | ⟨h, h2, h3⟩
    · exact Or.inl ⟨by simp only [dtxt]; rw [if_pos h], h2⟩
    · exact Or.inr ⟨r.drop b.toNat, by simp only [dtxt]; rw [if_neg h, h2], h3⟩
theorem cnt_step (l : List Int) : (l = [] ∧ nx 1 (some l) = none) ∨ ∃ b r, l = b :: r ∧ num (tk 1 (some l)) = b ∧ nx 1 (some l) = some r := by
  cases l with
  | nil => exact Or.inl ⟨rfl, rfl⟩
  | cons b r => exact Or.inr ⟨b, r, rfl, by simp [tk, num], by simp [nx]⟩
theorem take_set {α : Type} (xs : List α) (i : Nat) (v : α) (h : i < xs.length) : (xs.set i v).take (i + 1) = xs.take i ++ [v] := by
  rw [List.take_succ_eq_append_getElem (by rw [List.length_set]; exact h), List.take_set_of_le (Nat.le_refl i), List.getElem_set_self]
theorem pls_dec : ∀ (m i : Nat) (l xs : List Int), xs.length = i + m → (sq (itd 0 spU) i m l xs = none ∧ (pls m (some l)).2 = none) ∨ ∃ r, sq (itd 0 spU) i m l xs = some (xs.take i ++ (pls m (some l)).1, r) ∧ (pls m (some l)).2 = some r
  | 0, i, l, xs, h => Or.inr ⟨l, by rw [sq, pls, List.append_nil, List.take_of_length_le (by omega)], rfl⟩
  | m + 1, i, l, xs, h => by
    rw [pls, sq]
    simp only [itd, spU, spNum, id_eq]
    rcases num_step 4 l with ⟨h1, h2⟩ | ⟨h1, h2, h3⟩
    · rw [if_pos h1, h2, pls_none]
      exact Or.inl ⟨rfl, rfl⟩
    · rw [if_neg h1, h2, h3]
      simp only [Option.map_some]
      rcases pls_dec m (i + 1) (l.drop 4) (xs.set i (num (l.take 4))) (by rw [List.length_set]; omega) with ⟨k1, k2⟩ | ⟨r, k1, k2⟩
      · exact Or.inl ⟨k1, k2⟩
      · refine Or.inr ⟨r, ?_, k2⟩
        rw [take_set xs i _ (by omega), List.append_assoc] at k1
        exact k1
theorem prs_dec : ∀ (m i : Nat) (l : List Int) (xs : List (Int × Int)), xs.length = i + m → (sq (itd (0, 0) spP) i m l xs = none ∧ (prs m (some l)).2 = none) ∨ ∃ r, sq (itd (0, 0) spP) i m l xs = some (xs.take i ++ (prs m (some l)).1, r) ∧ (prs m (some l)).2 = some r
  | 0, i, l, xs, h => Or.inr ⟨l, by rw [sq, prs, List.append_nil, List.take_of_length_le (by omega)], rfl⟩
  | m + 1, i, l, xs, h => by
    have hd : ∀ (l : List Int) x, spP.dec l x = if l.length < 4 then none else if (l.drop 4).length < 4 then none else some ((num (l.take 4), num ((l.drop 4).take 4)), (l.drop 4).drop 4) := by
      intro l x
      show sq (fun i => ([spA, spB].getD i sp0).dec) 0 2 l x = _
      rw [sq]
      simp only [List.getD_cons_zero, spA, spNum]
      by_cases h1 : l.length < 4
      · rw [if_pos h1, if_pos h1]
      · rw [if_neg h1, if_neg h1]
        simp only []
        rw [sq]
        simp only [Nat.zero_add, List.getD_cons_succ, List.getD_cons_zero, spB, spNum]
        by_cases h2 : (l.drop 4).length < 4
        · simp only [if_pos h2]
        · simp only [if_neg h2]
          rfl
    rw [prs, sq]
    simp only [itd, hd]
    rcases num_step 4 l with ⟨h1, h2⟩ | ⟨h1, h2, h3⟩
    · rw [if_pos h1, h2, show nx 4 none = none from rfl, prs_none]
      exact Or.inl ⟨rfl, rfl⟩
    · rw [if_neg h1, h2, h3]
      rcases num_step 4 (l.drop 4) with ⟨j1, j2⟩ | ⟨j1, j2, j3⟩
      · rw [if_pos j1, j2, prs_none]
        exact Or.inl ⟨rfl, rfl⟩
      · rw [if_neg j1, j2, j3]
        simp only [Option.map_some]
        rcases prs_dec m (i + 1) ((l.drop 4).drop 4) (xs.set i (num (l.take 4), num ((l.drop 4).take 4))) (by rw [List.length_set]; omega) with ⟨k1, k2⟩ | ⟨r, k1, k2⟩
        · exact Or.inl ⟨k1, k2⟩
        · refine Or.inr ⟨r, ?_, k2⟩
          rw [take_set xs i _ (by omega), List.append_assoc] at k1
          exact k1
theorem sq_none {σ : Type} {dec : Nat → List Int → σ → Option (σ × List Int)} {i m : Nat} {l : List Int} {x : σ} (h : dec i l x = none) : sq dec i (m + 1) l x = none := by rw [sq, h]
theorem sq_some {σ : Type} {dec : Nat → List Int → σ → Option (σ × List Int)} {i m : Nat} {l l' : List Int} {x x' : σ} (h : dec i l x = some (x', l')) : sq dec i (m + 1) l x = sq dec (i + 1) m l' x' := by rw [sq, h]
/-- Where bytes ended ahead of the lists, they ended. -/
theorem rt_dead {σ : Option (List Int)} (h : s16 σ = none) : (rt σ).2 = none := by
  simp only [rt, h, pls_none, prs_none]
end Go.Proofs.YtngegdamcfmonaaGreat

namespace Go.Proofs.YtngegdamcfmonaaGreat
open Go.RowKit
open Sm
open Cf
set_option linter.unusedVariables false
set_option maxRecDepth 20000

theorem Rw.agree {V V' : World} {sz : Nat} {v : Value} {xs : List (List Value)} (h : Rw V sz v xs) (ha : ∀ b off n c, v = .slice (some ⟨b, off, none⟩) n c → xs ≠ [] → V'.heap[b]? = V.heap[b]?) : Rw V' sz v xs := by
  obtain ⟨a, c, rfl, h1, h2, h3, h4⟩ := h
  refine ⟨a, c, rfl, h1, h2, h3, ?_⟩
  rcases h4 with e | ⟨b, off, rfl, hc⟩
  · exact Or.inl e
  · by_cases hx : xs = []
    · exact Or.inl hx
    · refine Or.inr ⟨b, off, rfl, fun i hi j u hu => ?_⟩
      have h5 := hc i hi j u hu
      have h6 := ha b off _ _ rfl hx
      simp only [World.cell?] at h5 ⊢
      simp only [h6]
      exact h5
/-- A tenant that was read, its lists in blocks that are none of M. -/
def TQ (n : Nat) (M : List Nat) (x : Ten) (V : World) (v : Value) : Prop := TLen x ∧ ∃ p s q, v = .agg (tc x p s q).toArray ∧ ∃ B : List Nat,
  (∀ V' : World, (∀ b ∈ B, V'.heap[b]? = V.heap[b]?) → Rw V' 1 p (ux x.pool) ∧ Rw V' 2 s (px x.stat) ∧ Rw V' 2 q (px x.twi)) ∧ (∀ m ∈ M, m ∉ B) ∧ ∀ b ∈ B, n ≤ b ∧ b < V.heap.size
theorem TQ.set {n : Nat} {V : World} {M : List Nat} {x : Ten} {v : Value} (h : TQ n M x V v) {b : Nat} (hb : b ∈ M) (z' : Array Value) : TQ n M x (V.setRow b z') v := by
  obtain ⟨hl, p, s, q, e, B, h1, h2, h3⟩ := h
  refine ⟨hl, p, s, q, e, B, fun V' hV' => h1 V' fun c hc => ?_, h2, fun c hc => ⟨(h3 c hc).1, by simpa [World.setRow] using (h3 c hc).2⟩⟩
  rw [hV' c hc]
  exact setRow_other V b c _ (fun e => h2 b hb (e ▸ hc))
theorem TQ.alloc {n : Nat} {V : World} {M : List Nat} {x : Ten} {v : Value} (h : TQ n M x V v) (o : Obj) : TQ n (V.heap.size :: M) x (V.alloc o) v := by
  obtain ⟨hl, p, s, q, e, B, h1, h2, h3⟩ := h
  refine ⟨hl, p, s, q, e, B, fun V' hV' => h1 V' fun c hc => ?_, fun m hm => ?_, fun c hc => ⟨(h3 c hc).1, by have := h3 c hc; simp; omega⟩⟩
  · rw [hV' c hc]
    have := h3 c hc
    show (V.heap.push o)[c]? = _
    rw [Array.getElem?_push]
    simp [show ¬ c = V.heap.size by omega]
  · rcases List.mem_cons.mp hm with rfl | hm
    · intro hc
      have := h3 _ hc
      omega
    · exact h2 m hm
theorem lv_at {hp n c b off : Nat} {xs : List (List Value)} {T : TypeId} (e : lv hp xs = .slice (some ⟨b, off, none⟩) n c) (hx : xs ≠ []) : b = hp ∧ hp ∈ (lb hp T xs).map Prod.fst := by
  cases xs with
  | nil => exact absurd rfl hx
  | cons x xs =>
    simp only [lv, Value.slice.injEq, Option.some.injEq, Addr.mk.injEq] at e
    exact ⟨e.1.1.symm, by simp [lb]⟩
theorem tq_of {w V : World} {x : Ten} {hp hs hq : Nat} {K M : List (Nat × Obj)} (hl : TLen x) (hb : x.pool.length ≤ 255 ∧ x.stat.length ≤ 255 ∧ x.twi.length ≤ 255) (h : Mem w V (lb hp 22 (ux x.pool) ++ (lb hs 142 (px x.stat) ++ (lb hq 142 (px x.twi) ++ K)))) (hs' : Sub M K) :
    TQ w.heap.size (M.map Prod.fst) x V (.agg (tc x (lv hp (ux x.pool)) (lv hs (px x.stat)) (lv hq (px x.twi))).toArray) := by
  have r1 := rw_own_U _ _ h hb.1
  have r2 := rw_own_P _ _ h.dropA hb.2.1
  have r3 := rw_own_P _ _ h.dropA.dropA hb.2.2
  have h2 : Mem w V ((lb hp 22 (ux x.pool) ++ (lb hs 142 (px x.stat) ++ lb hq 142 (px x.twi))) ++ K) := by
    simpa only [List.append_assoc] using h
  refine ⟨hl, _, _, _, rfl, (lb hp 22 (ux x.pool) ++ (lb hs 142 (px x.stat) ++ lb hq 142 (px x.twi))).map Prod.fst, fun V' hV' => ⟨r1.agree ?_, r2.agree ?_, r3.agree ?_⟩, fun m hm hc => ?_, fun c hc => ?_⟩
  · intro b off n c e hx
    obtain ⟨rfl, hm⟩ := lv_at (T := 22) e hx
    exact hV' _ (by rw [List.map_append]; exact List.mem_append_left _ hm)
  · intro b off n c e hx
    obtain ⟨rfl, hm⟩ := lv_at (T := 142) e hx
    exact hV' _ (by rw [List.map_append, List.map_append]; exact List.mem_append_right _ (List.mem_append_left _ hm))
  · intro b off n c e hx
    obtain ⟨rfl, hm⟩ := lv_at (T := 142) e hx
    exact hV' _ (by rw [List.map_append, List.map_append]; exact List.mem_append_right _ (List.mem_append_right _ hm))
  · have hap := h2.apart
    rw [List.map_append, List.nodup_append] at hap
    obtain ⟨k, hk, rfl⟩ := List.mem_map.mp hm
    exact hap.2.2 _ hc _ (List.mem_map_of_mem (f := Prod.fst) (hs' _ hk)) rfl
  · obtain ⟨k, hk, rfl⟩ := List.mem_map.mp hc
    exact ⟨h2.low _ (List.mem_append_left _ hk), h2.lt (List.mem_append_left _ hk)⟩
theorem fin_Q {w : World} {M : List (Nat × Obj)} : ∀ x g rb z V K, Sub M K → JT w x g 33 [] [] V ((rb, .cells z 33 (0, 0)) :: K) → ∃ tl, V.heap[g]? = some (.cells tl 33 (0, 0)) ∧ tl.size = 33 ∧ tl.all (·.oneCell') = true ∧ V.heap[rb]? = some (.cells z 33 (0, 0)) ∧ Mem w (V.setRow rb tl) ((rb, .cells tl 33 (0, 0)) :: K) ∧ (TQ w.heap.size (M.map Prod.fst) x (V.setRow rb tl) (.agg tl) ∧ tl.size = 33 ∧ tl.all (·.oneCell') = true) := by
  rintro t g rb z V K hsub ⟨hlen, hbd, hp, hs, hq, hM2⟩
  simp only [List.nil_append, List.append_nil] at hM2
  have hone := tc_one t hp hs hq (ux t.pool) (px t.stat) (px t.twi)
  obtain ⟨tl, htl⟩ : ∃ tl, (tc t (lv hp (ux t.pool)) (lv hs (px t.stat)) (lv hq (px t.twi))).toArray = tl := ⟨_, rfl⟩
  rw [htl] at hM2 hone
  have hM3 : Mem w V ((rb, .cells z 33 (0, 0)) :: (g, .cells tl 33 (0, 0)) :: (lb hp 22 (ux t.pool) ++ (lb hs 142 (px t.stat) ++ (lb hq 142 (px t.twi) ++ K)))) := hM2.perm (by
    classical
    rw [List.perm_iff_count]
    intro q
    simp only [List.count_append, List.count_cons]
    omega)
  have hg3 := hM3.get 0 rfl
  have hM4 : Mem w (V.setRow rb tl) ((rb, .cells tl 33 (0, 0)) :: (g, .cells tl 33 (0, 0)) :: (lb hp 22 (ux t.pool) ++ (lb hs 142 (px t.stat) ++ (lb hq 142 (px t.twi) ++ K)))) := hM3.wrote 0 rfl (wrote_setRow V rb z _ _ hg3)
  have hs33 : tl.size = 33 := by rw [← htl, List.size_toArray]; exact tc_len hlen _ _ _
  refine ⟨tl, hM2.get 0 rfl, hs33, hone, hg3, hM4.subl ?_, (by have h9 := tq_of hlen hbd hM4.sub.sub hsub; rw [htl] at h9; exact h9), hs33, hone⟩
  refine List.Sublist.cons_cons _ (List.Sublist.cons _ ?_)
  exact (List.sublist_append_right _ _).trans ((List.sublist_append_right _ _).trans (List.sublist_append_right _ _))
/-- What whole tells of a tenant: read, or refused. -/
def RT (n : Nat) (M : List Nat) (r : List Int) (tl : Array Value) (er : Int) (V : World) : Prop :=
  (∃ t, tdec r = some (t, []) ∧ er = 0 ∧ TQ n M t V (.agg tl)) ∨ ((∀ t, tdec r ≠ some (t, [])) ∧ er = 70)
theorem RT.set {n : Nat} {V : World} {M : List Nat} {r : List Int} {tl : Array Value} {er : Int} (h : RT n M r tl er V) {b : Nat} (hb : b ∈ M) (z' : Array Value) : RT n M r tl er (V.setRow b z') := by
  rcases h with ⟨t, e1, e2, h⟩ | ⟨e1, e2⟩
  · exact Or.inl ⟨t, e1, e2, h.set hb z'⟩
  · exact Or.inr ⟨e1, e2⟩
theorem RT.alloc {n : Nat} {V : World} {M : List Nat} {r : List Int} {tl : Array Value} {er : Int} (h : RT n M r tl er V) (o : Obj) : RT n (V.heap.size :: M) r tl er (V.alloc o) := by
  rcases h with ⟨t, e1, e2, h⟩ | ⟨e1, e2⟩
  · exact Or.inl ⟨t, e1, e2, h.alloc o⟩
  · exact Or.inr ⟨e1, e2⟩
theorem wpList_build_run {ops : Array Oper} {rest : List Oper} {o : Oper} {a : Act} {w : World} {Q : Exit → Act → World → Prop} (hgd : o.guard = none) (ty : TypeId) (parts : Array (Nat × Operand)) (ho : o.op = .build ty parts) {vs : Array (Nat × Value)} {v : Value}
    (hr : (Instr.build ty vs).run Tryz.prog w = .ok v w) (hv : (parts.map fun (i, x) => (i, a.eval x)) = vs) (h : wpList Tryz.prog ops Q rest (a.put o.dst v) w) : wpList Tryz.prog ops Q (o :: rest) a w :=
  wpList_plain hgd fun _ hK => by
    subst hv
    unfold Oper.wp execOp
    simp only [ho, Sem.run_bind, hr, Result.andThen_ok, Sem.run_pure]
    exact hK _ _ h
theorem al_push {w V : World} {K : List (Nat × Obj)} (h : Mem w V K) (o : Obj) : Mem w (V.alloc o) ((V.heap.size, o) :: K) := (h.push V.heap.size o rfl).perm List.perm_append_comm
theorem al_mid {w V : World} {E L : List (Nat × Obj)} (h : Mem w V (E ++ L)) (o : Obj) : Mem w (V.alloc o) (E ++ (V.heap.size, o) :: L) := (al_push h o).perm (List.perm_middle.symm)
theorem RT.less {n : Nat} {V : World} {M N : List Nat} {r : List Int} {tl : Array Value} {er : Int} (h : RT n M r tl er V) (hs : ∀ m ∈ N, m ∈ M) : RT n N r tl er V := by
  rcases h with ⟨t, e1, e2, hl, p, s, q, e, B, h1, h2, h3⟩ | ⟨e1, e2⟩
  · exact Or.inl ⟨t, e1, e2, hl, p, s, q, e, B, h1, fun m hm => h2 m (hs m hm), h3⟩
  · exact Or.inr ⟨e1, e2⟩
theorem put_c {w V2 : World} {E : List (Nat × Obj)} {g : Nat} {o : Obj} {r : List Int} {tl : Array Value} {er : Int} (hM2 : Mem w V2 (E ++ [(g, o)])) (hR : RT w.heap.size ((E ++ [(g, o)]).map Prod.fst) r tl er V2) (T : TypeId) :
    Mem w (V2.alloc (.cells tl T)) [(V2.heap.size, .cells tl T (0, 0)), (g, o)] ∧ RT w.heap.size [V2.heap.size, g] r tl er (V2.alloc (.cells tl T)) :=
  ⟨al_push hM2.dropA _, (hR.alloc _).less (by simp)⟩
theorem put_ab {w V2 : World} {E : List (Nat × Obj)} {g bt : Nat} {o : Obj} {r : List Int} {tl z : Array Value} {er : Int} {T : TypeId} (hM2 : Mem w V2 (E ++ (bt, .cells z T (0, 0)) :: [(g, o)])) (hR : RT w.heap.size ((E ++ (bt, .cells z T (0, 0)) :: [(g, o)]).map Prod.fst) r tl er V2) :
    Mem w (V2.setRow bt tl) [(bt, .cells tl T (0, 0)), (g, o)] ∧ RT w.heap.size [bt, g] r tl er (V2.setRow bt tl) :=
  ⟨hM2.dropA.wrote 0 rfl (wrote_setRow V2 bt z _ _ (hM2.dropA.get 0 rfl)), (hR.set (by simp) tl).less (by simp)⟩
theorem tz_one : (tz : Array Value).all (·.oneCell') = true := by kernel_rfl
theorem whole_put {w V : World} {E L : List (Nat × Obj)} {k1 k2 k3 : Nat} {c1' c2 c3 : Array Value} {a1 : Option Addr} {r : List Int} {c1 : Nat} (hM : Mem w V (E ++ L)) (hF : Fd w E IT JT ⟨k1, k2, k3, c1', c2, c3⟩ spT) (hS1 : Sl w a1 r c1) :
    Calls Tryz.prog 44 #[.agg #[.func (.func k1) #[] c1', .func (.func k2) #[] c2, .func (.func k3) #[] c3], .slice a1 r.length c1] V fun e W' => ∃ tl er, e = .returned (.tuple #[.agg tl, .int .i64 er]) ∧ tl.size = 33 ∧ tl.all (·.oneCell') = true ∧ Mem w W' (E ++ L) ∧ RT w.heap.size ((E ++ L).map Prod.fst) r tl er W' := by
  have h := whole_T (I := IT) hM hF.er hF.rd hS1 ten0 (fun g V K h => JT_zero h) (fun x V v => ∃ tl, v = .agg tl ∧ TQ w.heap.size ((E ++ L).map Prod.fst) x V (.agg tl) ∧ tl.size = 33 ∧ tl.all (·.oneCell') = true) (fun x V K h => JT_mem h) (fun x g rb z V K hs h => by
    obtain ⟨tl, h1, h2, h3, h4, h5, h6⟩ := fin_Q x g rb z V K hs h
    exact ⟨tl, h1, h2, h3, h4, h5, tl, rfl, h6⟩)
  refine h.mono ?_
  cases hd : spT.dec r ten0 with
  | none =>
    rintro e W' ⟨h1, rfl⟩
    exact ⟨tz, 70, rfl, rfl, tz_one, h1, Or.inr ⟨(fun t e => by rw [tdec, hd] at e; cases e), rfl⟩⟩
  | some y =>
    obtain ⟨x, l'⟩ := y
    cases l' with
    | nil =>
      rintro e W' ⟨h1, v, rfl, tl, rfl, h2, h3, h4⟩
      exact ⟨tl, 0, rfl, h3, h4, h1, Or.inl ⟨x, hd, rfl, h2⟩⟩
    | cons b l2 =>
      rintro e W' ⟨h1, rfl⟩
      exact ⟨tz, 70, rfl, rfl, tz_one, h1, Or.inr ⟨(fun t e => by rw [tdec, hd] at e; cases e), rfl⟩⟩
end Go.Proofs.YtngegdamcfmonaaGreat

