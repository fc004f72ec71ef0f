/-
  Settings as text: the walk of LangWords: a word too many, or one too few, is told at its place, in each line.
-/
import Derived.Test.YtneciccdiledfaaGreatDoorMx46
import Derived.Test.YtneciccdiledfaaGreatDoorMx52
import Derived.Test.YtneciccdiledfaaGreatDoorMx33
import Derived.Test.YtneciccdiledfaaGreatDoorMx03
import Derived.Laws.Closers25b
set_option linter.unusedVariables false
set_option linter.unusedSimpArgs false
set_option maxRecDepth 20000
namespace Go.Proofs.YtneciccdiledfaaGreatDoor
open Go.RowKit
open La
open Ad
open Sm
theorem slice_to {X : ByteArray} {n : Nat} (h : n ≤ X.size) : ∀ W, (Instr.slice 9 (.string X) none (some (.int .i64 (n : Int))) none).run Tryz.prog W = .ok (.string ⟨(X.data.toList.take n).toArray⟩) W := by
 intro W
 rw [run_slice_string_to_if W 9 X .i64 (n : Int) Tryz.underlying9, if_pos ⟨by omega, by omega⟩, Int.toNat_natCast]
 have e : (X.extract 0 n).data.toList = X.data.toList.take n := by rw [sub_text, List.drop_zero, Nat.sub_zero]
 rw [str_of e]
theorem slice_from {X : ByteArray} {n : Nat} (h : n ≤ X.size) : ∀ W, (Instr.slice 9 (.string X) (some (.int .i64 (n : Int))) none none).run Tryz.prog W = .ok (.string ⟨(X.data.toList.drop n).toArray⟩) W := by
 intro W
 rw [run_slice_string_from_if W 9 X .i64 (n : Int) Tryz.underlying9, if_pos ⟨by omega, by omega⟩, Int.toNat_natCast]
 have e : (X.extract n X.size).data.toList = X.data.toList.drop n := by
  rw [sub_text]; exact List.take_of_length_le (by rw [List.length_drop, text_len]; omega)
 rw [str_of e]
set_option maxHeartbeats 16000000 in
theorem words_law {w : World} (hw : Lw w) (k : Int) (n : Int) (hn0 : -9223372036854775808 ≤ n) (hn1 : n ≤ 9223372036854775807) (more : Bool) :
  Calls Tryz.prog 8 #[.int .u16 k, .int .i64 n, .bool more] w fun e w' => e = .returned (.bool true) ∧ Below w.heap.size w w' := by
 have CK := known_any hw
 have HLW : Hid (Lw w) := hw
 have HNB : Hid (-9223372036854775808 ≤ n ∧ n ≤ 9223372036854775807) := ⟨hn0, hn1⟩
 obtain ⟨k1, hk1⟩ : ∃ x, bits .or .u16 k 128 = x := ⟨_, rfl⟩
 have HKL := bits_lo_u16 .or k1 256
 have HKH := bits_hi_u16 .or k1 256
 obtain ⟨k2, hk2⟩ : ∃ x, bits .or .u16 k1 256 = x := ⟨_, rfl⟩
 rw [hk2] at HKL HKH
 clear hw hn0 hn1
 go_enter Tryz.func8, Tryz.ntmps8
 go_wp2_with fail
 refine CK.mono ?_
 rintro e V0 ⟨rfl, hb0⟩
 have CS := sconf_any (V0.alloc (.cells #[.int .u16 k2] 42)) (some ⟨V0.heap.size, 0, none⟩) 1 1 (fun _ => k2) (fun i hi => by
  obtain rfl : i = 0 := by omega
  exact ⟨V0.heap.size, 0, rfl, by rw [Nat.add_zero, World.cell?_alloc_new]; rfl, HKL, HKH⟩) 1 (by decide) (by decide)
 have HB0 : Hid (Below w.heap.size w (V0.alloc (.cells #[.int .u16 k2] 42))) := hb0.alloc hb0.size _
 clear CK hb0
 go_wp2_with fail
 refine CS.mono ?_
 rintro e V1 ⟨c, v, rfl, hS, hCV, hb1⟩
 obtain ⟨A0, rfl, hsz, hone, i29, hcv⟩ := cv_row hCV hb1
 obtain ⟨z1, z2, z3, z4, z5, z6, z7⟩ := seat_all hS
 have CT := rtext_any (hcv V1 (Below.refl _ _)) z1 z2 z3 (by omega) (by omega)
 have HB1 : Hid (Below w.heap.size w V1) := HB0.out.trans (hb1.mono HB0.out.size)
 have HZ : Hid ((txt c).length ≤ 1600 ∧ CFit c) := ⟨z6, z7⟩
 obtain ⟨T, hT⟩ : ∃ T : ByteArray, (⟨(txt c).toArray⟩ : ByteArray) = T := ⟨_, rfl⟩
 have HT : Hid (T.data.toList = txt c ∧ T.size ≤ 1600) := by
  rw [← hT]; exact ⟨rfl, by rw [str_size]; exact z6⟩
 rw [hT] at CT
 clear hcv hCV hb1 CS HB0 z1 z2 z3 z4 z5 z6 z7 hS hsz hone i29 hT hk1 hk2 HKL HKH
 go_wp2_with fail
 refine CT.mono ?_
 rintro e V2 ⟨rfl, hb2⟩
 have HB2 : Hid (Below w.heap.size w V2) := HB1.out.trans (hb2.mono HB1.out.size)
 clear CT hb2 HB1
 have HTS : Hid (T.size ≤ 1600) := HT.out.2
 go_wp2_with fail
 go_loopw [8, 9] (fun o ii w' => ∃ (i : Nat) (E : List Nat), ii = .int .i64 i ∧ w'.ownsRow V2.heap.size 3 1 o E.length (ints E) ∧ Below V2.heap.size V2 w' ∧ i ≤ T.size ∧ E.length ≤ i ∧ Hid ((∀ e ∈ E, e < T.size ∧ T.data.toList[e]? = some 10) ∧ (E = [] → ∀ j, j < i → T.data.toList[j]? ≠ some 10))) (fun _ ii _ => T.size - (intOf ii).toNat)
 case atStart => exact ⟨0, [], rfl, World.ownsRow_nil _ _ _ _, Below.refl _ _, Nat.zero_le _, Nat.le_refl _, (fun e he => by cases he), fun _ j hj => absurd hj (Nat.not_lt_zero j)⟩
 case round =>
  obtain ⟨i, E, rfl, hown, hbel, hil, hEl, HX⟩ := hrel
  have hbs := hbel.size
  have hsize := HTS.out
  by_cases hin : i < T.size
  ·have hiz : (i : Int) < T.size := by omega
   have e7 : IntKind.i64.wrap ((i : Int) + 1) = (i : Int) + 1 := wrap64 (by omega) (by omega)
   obtain ⟨b, hgb⟩ : ∃ b, T[i]'hin = b := ⟨_, rfl⟩
   have hix : ∀ W, (Instr.index 9 (.string T) (.int .i64 i)).run Tryz.prog W = .ok (.int .u8 (b.toNat : Int)) W := by
    intro W
    rw [run_index_string W 9 T .i64 i Tryz.underlying9, dif_pos ⟨by omega, by omega⟩]
    simp only [Int.toNat_natCast, hgb]
   have hbi : T.data.toList[i]? = some b := by rw [← hgb, List.getElem?_eq_getElem (by rw [text_len]; exact hin)]; rfl
   by_cases hb10 : b = 10
   ·subst hb10
    have hnext : ∀ (v' : Value) (w' : World), w'.ownsRow V2.heap.size 3 1 v' (E.length + 1) (ints E ++ [.int .i64 (i : Int)]) → w'.ownsRow V2.heap.size 3 1 v' (E ++ [i]).length (ints (E ++ [i])) := by
     intro v' w' h
     rw [List.length_append, ints, List.map_append]
     exact h
    have hg2 : ∀ w', (wr.alloc (.cells #[.int .i64 (i : Int)] 3)).grownBy w' u8.ownBlock → Below V2.heap.size V2 w' := by
     intro w' h
     refine (hbel.alloc hbs _).grown h (by simp; omega) (fun k hk => (hown.lt k hk).1)
    have HX2 : Hid ((∀ e ∈ E ++ [i], e < T.size ∧ T.data.toList[e]? = some 10) ∧ (E ++ [i] = [] → ∀ j, j < i + 1 → T.data.toList[j]? ≠ some 10)) := by
     refine ⟨fun e he => ?_, fun h => by simp at h⟩
     rcases List.mem_append.1 he with he | he
     ·exact HX.out.1 e he
     ·rw [List.mem_singleton] at he; subst he; exact ⟨hin, hbi⟩
    have hix2 : ∀ W, (Instr.index 9 (.string T) (.int .i64 i)).run Tryz.prog W = .ok (.int .u8 10) W := hix
    clear hix HX hbi hgb
    go_wp2_with (at_builtin; refine wpList_append_int _ rfl _ _ rfl V2.heap.size u8 E.length (ints E) rfl (hown.alloc _) ⟨wr.heap.size, 0, none⟩ 1 (i : Int) rfl (by simp) (by omega) (by simp; omega) ?_; intro v1 w1 h1 h2)
    go_roundw
    case rel => exact ⟨i + 1, E ++ [i], by go_num, hnext _ _ h1, hg2 _ h2, by omega, by simp; omega, HX2⟩
    case measure => simp [intOf]; omega
   ·have n10 : ((b.toNat : Int) == (10 : Int)) = false := byte_no (c := 10) (by decide) hb10
    have HX2 : Hid ((∀ e ∈ E, e < T.size ∧ T.data.toList[e]? = some 10) ∧ (E = [] → ∀ j, j < i + 1 → T.data.toList[j]? ≠ some 10)) := by
     refine ⟨HX.out.1, fun h j hj => ?_⟩
     rcases Nat.lt_or_ge j i with h1 | h1
     ·exact HX.out.2 h j h1
     ·obtain rfl : j = i := by omega
      rw [hbi]; exact fun e => hb10 (Option.some.inj e)
    clear HX hbi hgb hb10
    generalize (b.toNat : Int) = bn at hix n10
    go_wp2_with fail
    go_roundw
    case rel => exact ⟨i + 1, E, by go_num, hown, hbel, by omega, by omega, HX2⟩
    case measure => simp [intOf]; omega
  ·have hlz : ¬ ((i : Int) < T.size) := by omega
   have hEne : E ≠ [] := by
    intro h
    obtain ⟨l0, e0⟩ := txt_end c
    have h1 := HT.out.1
    rw [e0] at h1
    have h2 : T.size = l0.length + 1 := by rw [← text_len, h1]; simp
    exact HX.out.2 h l0.length (by omega) (by rw [h1]; simp)
   obtain ⟨gl, cap, rfl, hcap, hcells⟩ := own_int hown (List.length_pos_iff.2 hEne)
   obtain ⟨m, hm⟩ : ∃ m, E.length = m := ⟨_, rfl⟩
   have hmp : 0 < m := by rw [← hm]; exact List.length_pos_iff.2 hEne
   have hm1 : m ≤ 1600 := by omega
   have hpr := plc_range n (m : Int) (by omega)
   obtain ⟨P, hPe⟩ : ∃ P : Nat, plc n (m : Int) = (P : Int) := ⟨(plc n m).toNat, by omega⟩
   have hPlt : P < m := by omega
   have CPl := place_any n (m : Int) wr HNB.out.1 HNB.out.2 (by omega) (by omega)
   rw [hPe] at CPl
   obtain ⟨en, hen⟩ : ∃ en, E[P]? = some en := ⟨E[P]'(by omega), List.getElem?_eq_getElem _⟩
   have cP : wr.cell? ⟨gl, P, none⟩ = some (.int .i64 (en : Int)) := hcells P en hen
   have henf := HX.out.1 en (List.mem_of_getElem? hen)
   have hP0 : (0 : Int) ≤ P := by omega
   have hPz : (P : Int) < m := by omega
   have HEN : Hid (en < T.size ∧ T.data.toList[en]? = some 10) := henf
   have HBr : Hid (Below V2.heap.size V2 wr) := hbel
   rw [hm]
   clear hown hbel hcells HX hEne hen henf hpr hPe hm hcap hbs hEl
   have sA := slice_to (X := T) (n := en) (by have := HEN.out.1; omega)
   have sC := slice_from (X := T) (n := en) (by have := HEN.out.1; omega)
   obtain ⟨TA, hTA⟩ : ∃ S : ByteArray, (⟨(T.data.toList.take en).toArray⟩ : ByteArray) = S := ⟨_, rfl⟩
   obtain ⟨TC, hTC⟩ : ∃ S : ByteArray, (⟨(T.data.toList.drop en).toArray⟩ : ByteArray) = S := ⟨_, rfl⟩
   rw [hTA] at sA
   rw [hTC] at sC
   obtain ⟨LA, LW, LB, hls, hee⟩ := line_at (lnsOf c) en (lfree_cfg HZ.out.2) (by have := HEN.out.2; rw [HT.out.1] at this; exact this)
   have htx : txt c = (LA.flatMap spc ++ Lib.join LW [32]) ++ 10 :: LB.flatMap spc := by
    unfold txt; rw [hls]; exact spc_split LA LB LW
   have htk : T.data.toList.take en = LA.flatMap spc ++ Lib.join LW [32] := by
    rw [HT.out.1, htx, hee, ← List.length_append, List.take_left]
   have hdp : T.data.toList.drop en = 10 :: LB.flatMap spc := by
    rw [HT.out.1, htx, hee, ← List.length_append, List.drop_left]
   have hlA : (T.data.toList.take en).length ≤ 1600 := by rw [List.length_take, text_len]; omega
   have hlC : (T.data.toList.drop en).length ≤ 1600 := by rw [List.length_drop, text_len]; omega
   cases more with
   | true =>
    obtain ⟨TB, hTB⟩ : ∃ S : ByteArray, (⟨(T.data.toList.take en ++ [32, 122, 122]).toArray⟩ : ByteArray) = S := ⟨_, rfl⟩
    obtain ⟨TD, hTD⟩ : ∃ S : ByteArray, (⟨((T.data.toList.take en ++ [32, 122, 122]) ++ T.data.toList.drop en).toArray⟩ : ByteArray) = S := ⟨_, rfl⟩
    have aB : ∀ W, (Op.stringOp .add TA ⟨#[32, 122, 122]⟩).run Tryz.prog W = .ok (.string TB) W := by
     intro W; rw [← hTA, ← hTB]; exact add_big _ [32, 122, 122] (by simp only [List.length_cons, List.length_nil]; omega) W
    have aD : ∀ W, (Op.stringOp .add TB TC).run Tryz.prog W = .ok (.string TD) W := by
     intro W; rw [← hTB, ← hTC, ← hTD]; exact add_big _ _ (by rw [List.length_append]; simp only [List.length_cons, List.length_nil]; omega) W
    have hpar : parse TD = .error (en + 1) := by
     rw [← hTD]
     have h2 := parse_zz HZ.out.2 hls (t := (T.data.toList.take en ++ [32, 122, 122]) ++ T.data.toList.drop en) (by rw [htk, hdp]; simp only [List.append_assoc, List.cons_append, List.nil_append]) (by rw [List.length_append, List.length_append]; simp only [List.length_cons, List.length_nil]; omega)
     rw [h2, ← hee]
    have HCP : Hid (∀ X, Lw X → Calls Tryz.prog 10 #[.string TD] X fun e V => ∃ A ev, e = .returned (.tuple #[.agg A, ev]) ∧ ev.oneCell' = true ∧ A.size = 29 ∧ A.all (·.oneCell') = true ∧ Below X.heap.size X V ∧ ∀ Y, Below V.heap.size V Y → Calls Tryz.prog 11 #[ev] Y fun e V' => e = .returned (.tuple #[.int .i64 ((en + 1 : Nat) : Int), .int .i64 60]) ∧ Below Y.heap.size Y V') := fun X hX => by
     refine (parse_both hX TD).mono ?_
     rintro e V ⟨A, ev, h1, h2, ⟨h3, h4, -⟩, h5, h6⟩
     rw [hpar] at h6
     exact ⟨A, ev, h1, h2, h3, h4, h5, h6⟩
    have w1 : IntKind.i64.wrap ((en : Int) + 1) = ((en + 1 : Nat) : Int) := by rw [wrap64 (by have := HEN.out.1; omega) (by have := HEN.out.1; omega)]; omega
    clear hTA hTB hTC hTD hpar htx htk hdp hls hee hlA hlC
    go_wp2_with fail
    refine CPl.mono ?_
    rintro e _ ⟨rfl, rfl⟩
    go_upto_region 12 with fail
    go_quiet (fail)
    go_upto_region 13 with fail
    refine wp_letter (fun X => Below V2.heap.size V2 X) (by first | exact below_drewN' HBr.out _ | exact HBr.out) ?_
    intro V4 hb4
    have hbw4 : Below w.heap.size w V4 := HB2.out.trans (hb4.mono HB2.out.size)
    have CP := HCP.out V4 (HLW.out.below hbw4)
    have HB4 : Hid (Below w.heap.size w V4) := hbw4
    clear CPl sA sC aB aD cP hb4 hbw4 HCP
    go_wp2_with fail
    refine CP.mono ?_
    rintro e V5 ⟨A, ev, rfl, hev, hsz, hone, hb5, hTo⟩
    have i29 : (Tryz.prog.info? 29).map (·.size) = some A.size := by rw [hsz]; kernel_rfl
    obtain ⟨g1, hg1⟩ : ∃ g1, V5.heap.size = g1 := ⟨_, rfl⟩
    obtain ⟨hk1, e1⟩ := box_new (A := A) hg1
    have HP : Hid (Below V5.heap.size V5 ((V5.alloc (.cells cz 29)).setRow g1 A)) := by
     rw [e1]; exact (Below.refl _ _).alloc (Nat.le_refl _) _
    have HTo : Hid (∀ Y, Below V5.heap.size V5 Y → Calls Tryz.prog 11 #[ev] Y fun e V' => e = .returned (.tuple #[.int .i64 ((en + 1 : Nat) : Int), .int .i64 60]) ∧ Below Y.heap.size Y V') := hTo
    have HB5 : Hid (Below w.heap.size w V5) := HB4.out.trans (hb5.mono HB4.out.size)
    clear e1 hb5 CP hTo HB4
    go_upto_region 14 with (refine wpList_store_row rfl 29 (.tmp 12) (.tmp 66) (by with_reducible rfl) g1 A (by simp [Act.eval]; try exact hg1) (by first | rfl | simp [Act.eval]) 29 cz hk1 i29 (by rw [hsz]; rfl) hone ?_)
    refine wp_letter (fun X => Below V5.heap.size V5 X) (by exact HP.out) ?_
    intro V6 hb6
    try simp only [hg1]
    have CTo := HTo.out V6 hb6
    have HB6 : Hid (Below w.heap.size w V6) := HB5.out.trans (hb6.mono HB5.out.size)
    clear HP hg1 hk1 hsz hone hb6 HTo HB5
    go_wp2_with fail
    refine CTo.mono ?_
    rintro e V7 ⟨rfl, hb7⟩
    have HB7 : Hid (Below w.heap.size w V7) := HB6.out.trans (hb7.mono HB6.out.size)
    clear hb7 CTo HB6
    go_wp2_with fail
    go_ret
    exact ⟨by first | rfl | simp, HB7.out⟩
   | false =>
    have hb32 : T.data.toList[7]? = some 32 := by rw [HT.out.1]; exact gate_blank c
    have hen7 : 7 < en := end_late (c := c) (by have := HEN.out.2; rw [HT.out.1] at this; exact this)
    have H0 : Hid (∃ j, j ≤ en ∧ T.data.toList[j]? = some 32) := ⟨7, by omega, hb32⟩
    clear htx htk hdp hls hee hb32 hen7
    have hlC2 : Hid ((T.data.toList.drop en).length ≤ 1600) := hlC
    have HTC : Hid ((⟨(T.data.toList.drop en).toArray⟩ : ByteArray) = TC) := hTC
    clear hlA hlC hTA hTC sA
    go_wp2_with fail
    refine CPl.mono ?_
    rintro e _ ⟨rfl, rfl⟩
    clear CPl
    go_wp2_with fail
    go_loopw [16] (fun ff w' => ∃ f : Nat, ff = .int .i64 f ∧ f ≤ en ∧ wr = w' ∧ Hid (∃ j, j ≤ f ∧ T.data.toList[j]? = some 32)) (fun ff _ => (intOf ff).toNat)
    case atStart => exact ⟨en, rfl, Nat.le_refl _, rfl, H0⟩
    case round =>
     obtain ⟨f, rfl, hfe, rfl, HJ⟩ := hrel
     clear H0
     have hfT : f < T.size := by have := HEN.out.1; omega
     obtain ⟨b, hgb⟩ : ∃ b, T[f]'hfT = b := ⟨_, rfl⟩
     have hix : ∀ W, (Instr.index 9 (.string T) (.int .i64 f)).run Tryz.prog W = .ok (.int .u8 (b.toNat : Int)) W := by
      intro W
      rw [run_index_string W 9 T .i64 f Tryz.underlying9, dif_pos ⟨by omega, by omega⟩]
      simp only [Int.toNat_natCast, hgb]
     have hbi : T.data.toList[f]? = some b := by rw [← hgb, List.getElem?_eq_getElem (by rw [text_len]; exact hfT)]; rfl
     by_cases hb32 : b = 32
     ·subst hb32
      have hix2 : ∀ W, (Instr.index 9 (.string T) (.int .i64 f)).run Tryz.prog W = .ok (.int .u8 32) W := hix
      have sF := slice_to (X := T) (n := f) (by omega)
      obtain ⟨TF, hTF⟩ : ∃ S : ByteArray, (⟨(T.data.toList.take f).toArray⟩ : ByteArray) = S := ⟨_, rfl⟩
      rw [hTF] at sF
      obtain ⟨TE, hTE⟩ : ∃ S : ByteArray, (⟨(T.data.toList.take f ++ T.data.toList.drop en).toArray⟩ : ByteArray) = S := ⟨_, rfl⟩
      have aE : ∀ W, (Op.stringOp .add TF TC).run Tryz.prog W = .ok (.string TE) W := by
       intro W; rw [← hTF, ← HTC.out, ← hTE]; exact add_big _ _ (by have := hlC2.out; rw [List.length_take, text_len]; omega) W
      have HCP : Hid (∀ X, Lw X → Calls Tryz.prog 10 #[.string TE] X fun e V => ∃ A ev, e = .returned (.tuple #[.agg A, ev]) ∧ ev.oneCell' = true ∧ Row29 V A (pcf (parse TE)) ∧ Below X.heap.size X V ∧ ∀ Y, Below V.heap.size V Y → Calls Tryz.prog 11 #[ev] Y fun e V' => e = .returned (.tuple #[.int .i64 (pat (parse TE)), .int .i64 (per (parse TE))]) ∧ Below Y.heap.size Y V') := fun X hX => parse_both hX TE
      have HCR : Hid (∀ X, Lw X → Calls Tryz.prog 12 #[.string TE] X fun e V => ∃ A, e = .returned (.tuple #[.agg A, .int .i64 (pat (parse TE)), .int .i64 (per (parse TE))]) ∧ Row29 V A (pcf (parse TE)) ∧ Below X.heap.size X V) := fun X hX => rparse_both hX TE
      generalize pcf (parse TE) = cE at HCP HCR
      generalize pat (parse TE) = pa at HCP HCR
      generalize per (parse TE) = pe at HCP HCR
      clear hix hgb hbi hTF hTE
      go_upto_region 19 with fail
      go_quiet (fail)
      go_upto_region 20 with fail
      refine wp_letter (fun X => Below V2.heap.size V2 X) (by first | exact below_drewN' HBr.out _ | exact HBr.out) ?_
      intro V4 hb4
      have hbw4 : Below w.heap.size w V4 := HB2.out.trans (hb4.mono HB2.out.size)
      have CP := HCP.out V4 (HLW.out.below hbw4)
      have HB4 : Hid (Below w.heap.size w V4) := hbw4
      clear sF sC aE cP hb4 hbw4 HCP hix2
      go_wp2_with fail
      refine CP.mono ?_
      rintro e V5 ⟨A, ev, rfl, hev, ⟨hsz, hone, -⟩, hb5, hTo⟩
      have i29 : (Tryz.prog.info? 29).map (·.size) = some A.size := by rw [hsz]; kernel_rfl
      obtain ⟨g1, hg1⟩ : ∃ g1, V5.heap.size = g1 := ⟨_, rfl⟩
      obtain ⟨hk1, e1⟩ := box_new (A := A) hg1
      have HP : Hid (Below V5.heap.size V5 ((V5.alloc (.cells cz 29)).setRow g1 A)) := by
       rw [e1]; exact (Below.refl _ _).alloc (Nat.le_refl _) _
      have HTo : Hid (∀ Y, Below V5.heap.size V5 Y → Calls Tryz.prog 11 #[ev] Y fun e V' => e = .returned (.tuple #[.int .i64 pa, .int .i64 pe]) ∧ Below Y.heap.size Y V') := hTo
      have HB5 : Hid (Below w.heap.size w V5) := HB4.out.trans (hb5.mono HB4.out.size)
      clear e1 hb5 CP hTo HB4
      go_upto_region 21 with (refine wpList_store_row rfl 29 (.tmp 18) (.tmp 98) (by with_reducible rfl) g1 A (by simp [Act.eval]; try exact hg1) (by first | rfl | simp [Act.eval]) 29 cz hk1 i29 (by rw [hsz]; rfl) hone ?_)
      refine wp_letter (fun X => Below V5.heap.size V5 X) (by exact HP.out) ?_
      intro V6 hb6
      try simp only [hg1]
      have CTo := HTo.out V6 hb6
      have HB6 : Hid (Below w.heap.size w V6) := HB5.out.trans (hb6.mono HB5.out.size)
      clear HP hg1 hk1 hsz hone hb6 HTo HB5
      go_wp2_with fail
      refine CTo.mono ?_
      rintro e V7 ⟨rfl, hb7⟩
      have hbw7 : Below w.heap.size w V7 := HB6.out.trans (hb7.mono HB6.out.size)
      have CR := HCR.out V7 (HLW.out.below hbw7)
      have HB7 : Hid (Below w.heap.size w V7) := hbw7
      clear hb7 CTo HB6 hbw7 HCR
      go_wp2_with fail
      refine CR.mono ?_
      rintro e V8 ⟨A2, rfl, ⟨hsz2, hone2, -⟩, hb8⟩
      have i292 : (Tryz.prog.info? 29).map (·.size) = some A2.size := by rw [hsz2]; kernel_rfl
      obtain ⟨g2, hg2⟩ : ∃ g2, V8.heap.size = g2 := ⟨_, rfl⟩
      obtain ⟨hk2, e2⟩ := box_new (A := A2) hg2
      have HB8 : Hid (Below w.heap.size w V8) := HB7.out.trans (hb8.mono HB7.out.size)
      have HP : Hid (Below w.heap.size w ((V8.alloc (.cells cz 29)).setRow g2 A2)) := by
       rw [e2]; exact HB8.out.alloc HB8.out.size _
      clear e2 hb8 CR HB7 HB8
      go_upto_region 23 with (refine wpList_store_row rfl 29 (.tmp 22) (.tmp 108) (by with_reducible rfl) g2 A2 (by simp [Act.eval]; try exact hg2) (by first | rfl | simp [Act.eval]) 29 cz hk2 i292 (by rw [hsz2]; rfl) hone2 ?_)
      refine wp_letter (fun X => Below w.heap.size w X) (by exact HP.out) ?_
      intro V9 hb9
      try simp only [hg2]
      have HB9 : Hid (Below w.heap.size w V9) := hb9
      clear HP hg2 hk2 hsz2 hone2 hb9
      go_wp2_with fail
      go_ret
      exact ⟨by first | rfl | simp, HB9.out⟩
     ·have n32 : ((b.toNat : Int) == (32 : Int)) = false := byte_no (c := 32) (by decide) hb32
      have n32m : ((b.toNat : Int) != (32 : Int)) = true := by simpa using n32
      have hf1 : 0 < f := by
       obtain ⟨j, h1, h2⟩ := HJ.out
       rcases Nat.lt_or_ge 0 f with h | h
       ·exact h
       ·have : j = f := by omega
        rw [this, hbi] at h2
        exact absurd (Option.some.inj h2) hb32
      have HJ2 : Hid (∃ j, j ≤ f - 1 ∧ T.data.toList[j]? = some 32) := by
       obtain ⟨j, h1, h2⟩ := HJ.out
       refine ⟨j, ?_, h2⟩
       have : j ≠ f := by
        intro e
        rw [e, hbi] at h2
        exact hb32 (Option.some.inj h2)
       omega
      have w1 : IntKind.i64.wrap ((f : Int) - 1) = ((f - 1 : Nat) : Int) := by rw [wrap64 (by omega) (by omega)]; omega
      clear HJ hbi hgb hb32
      generalize (b.toNat : Int) = bn at hix n32 n32m
      go_wp2_with fail
      go_roundw
      case rel => exact ⟨f - 1, rfl, by omega, by first | rfl | trivial, HJ2⟩
      case measure => simp [intOf]; omega
end Go.Proofs.YtneciccdiledfaaGreatDoor
