/-
  Settings as bytes: the program's tenant(): all fields of a tenant, in their order.
-/
import Derived.Test.YtbccadbnaggkhaaGreatKE14
namespace Go.Proofs.YtbccadbnaggkhaaGreat
open Go.RowKit
open Sm
open Cf
set_option linter.unusedVariables false
set_option maxRecDepth 20000

set_option maxHeartbeats 16000000 in
theorem tenant_any {w W : World} {L : List (Nat × Obj)} (h : Mem w W L) :
    Calls Tryz.prog 34 #[] W fun e W' => ∃ f E, e = .returned f.val ∧ Mem w W' (E ++ L) ∧ Fd w E IT JT f spT := by
  have hM0 : Mem w (W.alloc (.cells #[.nilFunc, .nilFunc, .nilFunc] 70)) ((W.heap.size, .cells #[.nilFunc, .nilFunc, .nilFunc] 70 (0, 0)) :: ([] ++ L)) := (h.push W.heap.size _ rfl).perm List.perm_append_comm
  obtain ⟨rb, hrb⟩ : ∃ rb, W.heap.size = rb := ⟨_, rfl⟩
  rw [hrb] at hM0
  clear h
  go_enter Tryz.func34, Tryz.ntmps34
  have C1 := c_Name hM0
  go_wp2_with fail
  refine C1.mono ?_
  rintro e V1 ⟨⟨k1a, k1b, k1c, q1a, q1b, q1c⟩, E1, rfl, hM1, S1, hF1⟩
  have F1 : Hid (Fd w E1 _ _ ⟨k1a, k1b, k1c, q1a, q1b, q1c⟩ _) := hF1
  have T1 : Hid (Sub [] E1) := S1
  simp only [Fv.val]
  clear C1 hM0 hF1 S1
  have C2 := c_Vni hM1
  go_wp2_with fail
  refine C2.mono ?_
  rintro e V2 ⟨⟨k2a, k2b, k2c, q2a, q2b, q2c⟩, E2, rfl, hM2, S2, hF2⟩
  have F2 : Hid (Fd w E2 _ _ ⟨k2a, k2b, k2c, q2a, q2b, q2c⟩ _) := hF2
  have T2 : Hid (Sub E1 E2) := S2
  simp only [Fv.val]
  clear C2 hM1 hF2 S2
  have C3 := c_Key hM2
  go_wp2_with fail
  refine C3.mono ?_
  rintro e V3 ⟨⟨k3a, k3b, k3c, q3a, q3b, q3c⟩, E3, rfl, hM3, S3, hF3⟩
  have F3 : Hid (Fd w E3 _ _ ⟨k3a, k3b, k3c, q3a, q3b, q3c⟩ _) := hF3
  have T3 : Hid (Sub E2 E3) := S3
  simp only [Fv.val]
  clear C3 hM2 hF3 S3
  have C4 := c_Vtep hM3
  go_wp2_with fail
  refine C4.mono ?_
  rintro e V4 ⟨⟨k4a, k4b, k4c, q4a, q4b, q4c⟩, E4, rfl, hM4, S4, hF4⟩
  have F4 : Hid (Fd w E4 _ _ ⟨k4a, k4b, k4c, q4a, q4b, q4c⟩ _) := hF4
  have T4 : Hid (Sub E3 E4) := S4
  simp only [Fv.val]
  clear C4 hM3 hF4 S4
  have C5 := c_VtepMac hM4
  go_wp2_with fail
  refine C5.mono ?_
  rintro e V5 ⟨⟨k5a, k5b, k5c, q5a, q5b, q5c⟩, E5, rfl, hM5, S5, hF5⟩
  have F5 : Hid (Fd w E5 _ _ ⟨k5a, k5b, k5c, q5a, q5b, q5c⟩ _) := hF5
  have T5 : Hid (Sub E4 E5) := S5
  simp only [Fv.val]
  clear C5 hM4 hF5 S5
  have C6 := c_Host hM5
  go_wp2_with fail
  refine C6.mono ?_
  rintro e V6 ⟨⟨k6a, k6b, k6c, q6a, q6b, q6c⟩, E6, rfl, hM6, S6, hF6⟩
  have F6 : Hid (Fd w E6 _ _ ⟨k6a, k6b, k6c, q6a, q6b, q6c⟩ _) := hF6
  have T6 : Hid (Sub E5 E6) := S6
  simp only [Fv.val]
  clear C6 hM5 hF6 S6
  have C7 := c_Lo hM6
  go_wp2_with fail
  refine C7.mono ?_
  rintro e V7 ⟨⟨k7a, k7b, k7c, q7a, q7b, q7c⟩, E7, rfl, hM7, S7, hF7⟩
  have F7 : Hid (Fd w E7 _ _ ⟨k7a, k7b, k7c, q7a, q7b, q7c⟩ _) := hF7
  have T7 : Hid (Sub E6 E7) := S7
  simp only [Fv.val]
  clear C7 hM6 hF7 S7
  have C8 := c_Hi hM7
  go_wp2_with fail
  refine C8.mono ?_
  rintro e V8 ⟨⟨k8a, k8b, k8c, q8a, q8b, q8c⟩, E8, rfl, hM8, S8, hF8⟩
  have F8 : Hid (Fd w E8 _ _ ⟨k8a, k8b, k8c, q8a, q8b, q8c⟩ _) := hF8
  have T8 : Hid (Sub E7 E8) := S8
  simp only [Fv.val]
  clear C8 hM7 hF8 S8
  have C9 := c_Filter hM8
  go_wp2_with fail
  refine C9.mono ?_
  rintro e V9 ⟨⟨k9a, k9b, k9c, q9a, q9b, q9c⟩, E9, rfl, hM9, S9, hF9⟩
  have F9 : Hid (Fd w E9 _ _ ⟨k9a, k9b, k9c, q9a, q9b, q9c⟩ _) := hF9
  have T9 : Hid (Sub E8 E9) := S9
  simp only [Fv.val]
  clear C9 hM8 hF9 S9
  have C10 := c_Sess hM9
  go_wp2_with fail
  refine C10.mono ?_
  rintro e V10 ⟨⟨k10a, k10b, k10c, q10a, q10b, q10c⟩, E10, rfl, hM10, S10, hF10⟩
  have F10 : Hid (Fd w E10 _ _ ⟨k10a, k10b, k10c, q10a, q10b, q10c⟩ _) := hF10
  have T10 : Hid (Sub E9 E10) := S10
  simp only [Fv.val]
  clear C10 hM9 hF10 S10
  have C11 := c_Queue hM10
  go_wp2_with fail
  refine C11.mono ?_
  rintro e V11 ⟨⟨k11a, k11b, k11c, q11a, q11b, q11c⟩, E11, rfl, hM11, S11, hF11⟩
  have F11 : Hid (Fd w E11 _ _ ⟨k11a, k11b, k11c, q11a, q11b, q11c⟩ _) := hF11
  have T11 : Hid (Sub E10 E11) := S11
  simp only [Fv.val]
  clear C11 hM10 hF11 S11
  have C12 := c_Rate hM11
  go_wp2_with fail
  refine C12.mono ?_
  rintro e V12 ⟨⟨k12a, k12b, k12c, q12a, q12b, q12c⟩, E12, rfl, hM12, S12, hF12⟩
  have F12 : Hid (Fd w E12 _ _ ⟨k12a, k12b, k12c, q12a, q12b, q12c⟩ _) := hF12
  have T12 : Hid (Sub E11 E12) := S12
  simp only [Fv.val]
  clear C12 hM11 hF12 S12
  have C13 := c_Burst hM12
  go_wp2_with fail
  refine C13.mono ?_
  rintro e V13 ⟨⟨k13a, k13b, k13c, q13a, q13b, q13c⟩, E13, rfl, hM13, S13, hF13⟩
  have F13 : Hid (Fd w E13 _ _ ⟨k13a, k13b, k13c, q13a, q13b, q13c⟩ _) := hF13
  have T13 : Hid (Sub E12 E13) := S13
  simp only [Fv.val]
  clear C13 hM12 hF13 S13
  have C14 := c_Pool hM13
  go_wp2_with fail
  refine C14.mono ?_
  rintro e V14 ⟨⟨k14a, k14b, k14c, q14a, q14b, q14c⟩, E14, rfl, hM14, S14, hF14⟩
  have F14 : Hid (Fd w E14 _ _ ⟨k14a, k14b, k14c, q14a, q14b, q14c⟩ _) := hF14
  have T14 : Hid (Sub E13 E14) := S14
  simp only [Fv.val]
  clear C14 hM13 hF14 S14
  have C15 := c_Statics hM14
  go_wp2_with fail
  refine C15.mono ?_
  rintro e V15 ⟨⟨k15a, k15b, k15c, q15a, q15b, q15c⟩, E15, rfl, hM15, S15, hF15⟩
  have F15 : Hid (Fd w E15 _ _ ⟨k15a, k15b, k15c, q15a, q15b, q15c⟩ _) := hF15
  have T15 : Hid (Sub E14 E15) := S15
  simp only [Fv.val]
  clear C15 hM14 hF15 S15
  have C16 := c_Twices hM15
  go_wp2_with fail
  refine C16.mono ?_
  rintro e V16 ⟨⟨k16a, k16b, k16c, q16a, q16b, q16c⟩, E16, rfl, hM16, S16, hF16⟩
  have F16 : Hid (Fd w E16 _ _ ⟨k16a, k16b, k16c, q16a, q16b, q16c⟩ _) := hF16
  have T16 : Hid (Sub E15 E16) := S16
  simp only [Fv.val]
  clear C16 hM15 hF16 S16
  have C17 := c_address hM16
  go_wp2_with fail
  refine C17.mono ?_
  rintro e V17 ⟨⟨k17a, k17b, k17c, q17a, q17b, q17c⟩, E17, rfl, hM17, S17, hF17⟩
  have F17 : Hid (Fd w E17 _ _ ⟨k17a, k17b, k17c, q17a, q17b, q17c⟩ _) := hF17
  have T17 : Hid (Sub E16 E17) := S17
  simp only [Fv.val]
  clear C17 hM16 hF17 S17
  have C18 := c_PoolI hM17 ⟨k17a, k17b, k17c, q17a, q17b, q17c⟩ F17.out
  simp only [Fv.val] at C18
  go_wp2_with fail
  refine C18.mono ?_
  rintro e V18 ⟨⟨k18a, k18b, k18c, q18a, q18b, q18c⟩, E18, rfl, hM18, S18, hF18⟩
  have F18 : Hid (Fd w E18 _ _ ⟨k18a, k18b, k18c, q18a, q18b, q18c⟩ _) := hF18
  have T18 : Hid (Sub E17 E18) := S18
  simp only
  clear C18 hM17 hF18 S18
  have C19 := c_pair hM18
  go_wp2_with fail
  refine C19.mono ?_
  rintro e V19 ⟨⟨k19a, k19b, k19c, q19a, q19b, q19c⟩, E19, rfl, hM19, S19, hF19⟩
  have F19 : Hid (Fd w E19 _ _ ⟨k19a, k19b, k19c, q19a, q19b, q19c⟩ _) := hF19
  have T19 : Hid (Sub E18 E19) := S19
  simp only [Fv.val]
  clear C19 hM18 hF19 S19
  have C20 := c_StaticsI hM19 ⟨k19a, k19b, k19c, q19a, q19b, q19c⟩ F19.out
  simp only [Fv.val] at C20
  go_wp2_with fail
  refine C20.mono ?_
  rintro e V20 ⟨⟨k20a, k20b, k20c, q20a, q20b, q20c⟩, E20, rfl, hM20, S20, hF20⟩
  have F20 : Hid (Fd w E20 _ _ ⟨k20a, k20b, k20c, q20a, q20b, q20c⟩ _) := hF20
  have T20 : Hid (Sub E19 E20) := S20
  simp only
  clear C20 hM19 hF20 S20
  have C21 := c_pair hM20
  go_wp2_with fail
  refine C21.mono ?_
  rintro e V21 ⟨⟨k21a, k21b, k21c, q21a, q21b, q21c⟩, E21, rfl, hM21, S21, hF21⟩
  have F21 : Hid (Fd w E21 _ _ ⟨k21a, k21b, k21c, q21a, q21b, q21c⟩ _) := hF21
  have T21 : Hid (Sub E20 E21) := S21
  simp only [Fv.val]
  clear C21 hM20 hF21 S21
  have C22 := c_TwicesI hM21 ⟨k21a, k21b, k21c, q21a, q21b, q21c⟩ F21.out
  simp only [Fv.val] at C22
  go_wp2_with fail
  refine C22.mono ?_
  rintro e V22 ⟨⟨k22a, k22b, k22c, q22a, q22b, q22c⟩, E22, rfl, hM22, S22, hF22⟩
  have F22 : Hid (Fd w E22 _ _ ⟨k22a, k22b, k22c, q22a, q22b, q22c⟩ _) := hF22
  have T22 : Hid (Sub E21 E22) := S22
  simp only
  clear C22 hM21 hF22 S22
  obtain ⟨lb, hlb⟩ : ∃ lb, V22.heap.size = lb := ⟨_, rfl⟩
  obtain ⟨fs, hfs⟩ : ∃ fs : List Fv, fs = [⟨k1a, k1b, k1c, q1a, q1b, q1c⟩, ⟨k2a, k2b, k2c, q2a, q2b, q2c⟩, ⟨k3a, k3b, k3c, q3a, q3b, q3c⟩, ⟨k4a, k4b, k4c, q4a, q4b, q4c⟩, ⟨k5a, k5b, k5c, q5a, q5b, q5c⟩, ⟨k6a, k6b, k6c, q6a, q6b, q6c⟩, ⟨k7a, k7b, k7c, q7a, q7b, q7c⟩, ⟨k8a, k8b, k8c, q8a, q8b, q8c⟩, ⟨k9a, k9b, k9c, q9a, q9b, q9c⟩, ⟨k10a, k10b, k10c, q10a, q10b, q10c⟩, ⟨k11a, k11b, k11c, q11a, q11b, q11c⟩, ⟨k12a, k12b, k12c, q12a, q12b, q12c⟩, ⟨k13a, k13b, k13c, q13a, q13b, q13c⟩, ⟨k14a, k14b, k14c, q14a, q14b, q14c⟩, ⟨k15a, k15b, k15c, q15a, q15b, q15c⟩, ⟨k16a, k16b, k16c, q16a, q16b, q16c⟩, ⟨k18a, k18b, k18c, q18a, q18b, q18c⟩, ⟨k20a, k20b, k20c, q20a, q20b, q20c⟩, ⟨k22a, k22b, k22c, q22a, q22b, q22c⟩] := ⟨_, rfl⟩
  have hMx : Mem w (V22.alloc (.cells (fs.flatMap Fv.cells).toArray 70)) ((lb, .cells (fs.flatMap Fv.cells).toArray 70 (0, 0)) :: (rb, .cells #[.nilFunc, .nilFunc, .nilFunc] 70 (0, 0)) :: (E22 ++ L)) :=
    (hM22.push lb _ hlb.symm).perm List.perm_append_comm
  have Cx := mk_all_T hMx lb 19
  have HA : Hid (FdAll w E22 IT JT fs tsp) := by
    have U22 : Sub E22 E22 := Sub.refl _
    have U21 : Sub E21 E22 := T22.out.trans U22
    have U20 : Sub E20 E22 := T21.out.trans U21
    have U19 : Sub E19 E22 := T20.out.trans U20
    have U18 : Sub E18 E22 := T19.out.trans U19
    have U17 : Sub E17 E22 := T18.out.trans U18
    have U16 : Sub E16 E22 := T17.out.trans U17
    have U15 : Sub E15 E22 := T16.out.trans U16
    have U14 : Sub E14 E22 := T15.out.trans U15
    have U13 : Sub E13 E22 := T14.out.trans U14
    have U12 : Sub E12 E22 := T13.out.trans U13
    have U11 : Sub E11 E22 := T12.out.trans U12
    have U10 : Sub E10 E22 := T11.out.trans U11
    have U9 : Sub E9 E22 := T10.out.trans U10
    have U8 : Sub E8 E22 := T9.out.trans U9
    have U7 : Sub E7 E22 := T8.out.trans U8
    have U6 : Sub E6 E22 := T7.out.trans U7
    have U5 : Sub E5 E22 := T6.out.trans U6
    have U4 : Sub E4 E22 := T5.out.trans U5
    have U3 : Sub E3 E22 := T4.out.trans U4
    have U2 : Sub E2 E22 := T3.out.trans U3
    have U1 : Sub E1 E22 := T2.out.trans U2
    rw [hfs]
    exact .cons (F1.out.more U1) (.cons (F2.out.more U2) (.cons (F3.out.more U3) (.cons (F4.out.more U4) (.cons (F5.out.more U5) (.cons (F6.out.more U6) (.cons (F7.out.more U7) (.cons (F8.out.more U8) (.cons (F9.out.more U9) (.cons (F10.out.more U10) (.cons (F11.out.more U11) (.cons (F12.out.more U12) (.cons (F13.out.more U13) (.cons (F14.out.more U14) (.cons (F15.out.more U15) (.cons (F16.out.more U16) (.cons (F18.out.more U18) (.cons (F20.out.more U20) (.cons (F22.out.more U22) (.nil)))))))))))))))))))
  clear hMx hM22 F1 T1 F2 T2 F3 T3 F4 T4 F5 T5 F6 T6 F7 T7 F8 T8 F9 T9 F10 T10 F11 T11 F12 T12 F13 T13 F14 T14 F15 T15 F16 T16 F17 T17 F18 T18 F19 T19 F20 T20 F21 T21 F22 T22
  rw [hfs] at Cx
  simp only [List.flatMap_cons, List.flatMap_nil, Fv.cells, List.cons_append, List.nil_append, List.append_nil] at Cx
  go_wp2_with fail
  refine Cx.mono ?_
  rintro e V ⟨cb, rfl, hM⟩
  obtain ⟨E, hE⟩ : ∃ E : List (Nat × Obj), E = (cb, .cells #[.slice (some ⟨lb, 0, none⟩) 19 19] 111 (0, 0)) :: (lb, .cells (fs.flatMap Fv.cells).toArray 70 (0, 0)) :: E22 := ⟨_, rfl⟩
  have hM2 : Mem w V ((rb, .cells #[.nilFunc, .nilFunc, .nilFunc] 70 (0, 0)) :: (E ++ L)) := by
    rw [hE, hfs]
    simp only [List.flatMap_cons, List.flatMap_nil, Fv.cells, List.cons_append, List.nil_append, List.append_nil]
    exact hM.perm (List.perm_middle (l₁ := [_, _]))
  have HF : Hid (Fd w E IT JT (fvAll_T cb) spT) := by
    refine fd_all_T cb lb 19 fs tsp (by rw [hfs]; rfl) (by omega) (by rw [hE]; exact List.mem_cons_self ..) (by rw [hE]; exact List.mem_cons_of_mem _ (List.mem_cons_self ..)) ?_ ?_ ?_
    · have : ∀ fs ss, FdAll w E22 IT JT fs ss → FdAll w E IT JT fs ss := by
        intro fs ss hA
        induction hA with
        | nil => exact .nil
        | cons h1 _ ih => exact .cons (h1.more (by rw [hE]; exact fun q hq => List.mem_cons_of_mem _ (List.mem_cons_of_mem _ hq))) ih
      exact this _ _ HA.out
    · rintro x g T pre post V V' K ⟨h1, h2, hp, hs, hq, h3⟩ hB
      exact ⟨h1, h2, hp, hs, hq, h3.after hB⟩
    · rintro x g T pre post V K ⟨h1, h2, hp, hs, hq, h3⟩
      exact h3.sub.dropA.dropA.dropA
  clear Cx hM hE hfs HA
  generalize fvAll_T cb = f at HF
  obtain ⟨m1, m2, m3, n1, n2, n3⟩ := f
  have hM3 := hM2.put3 (.func (.func m1) #[] n1) (.func (.func m2) #[] n2) (.func (.func m3) #[] n3)
  have e0 : V.cell? ⟨rb, 0, none⟩ = some .nilFunc := hM2.cell 0 rfl 0
  have e1 : V.cell? ⟨rb, 1, none⟩ = some .nilFunc := hM2.cell 0 rfl 1
  have e2 : V.cell? ⟨rb, 2, none⟩ = some .nilFunc := hM2.cell 0 rfl 2
  have e3 := hM2.free 0 rfl
  clear hM2
  simp only [Fv.val]
  go_wp2_with fail
  refine bodyPost_ret (v := .agg #[.func (.func m1) #[] n1, .func (.func m2) #[] n2, .func (.func m3) #[] n3]) ?_ rfl ⟨⟨m1, m2, m3, n1, n2, n3⟩, _ :: E, rfl, hM3, HF.out.more (fun q hq => List.mem_cons_of_mem _ hq)⟩
  exact results_cell_row (p := 0) (ty := 70) rfl _ _ rb 70 _ (0, 0) _ rfl (hM3.get 0 rfl) Tryz.underlying70 rfl (by kernel_rfl)
end Go.Proofs.YtbccadbnaggkhaaGreat

