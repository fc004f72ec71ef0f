/-
  Which settings may be: tenants stand in order of their names, each once (ValidOrder).
-/
import Derived.Test.YtnddbklbgddblaaDoorPd48
import Derived.Test.YtnddbklbgddblaaDoorPd09
namespace Go.Proofs.YtnddbklbgddblaaDoor
open Go.RowKit
open La (adr)
open Va
set_option linter.unusedVariables false
set_option linter.unusedSimpArgs false
set_option maxRecDepth 20000

namespace Va
theorem chk_two {f : Int} (hf : f ≤ 1000) {a b : Nat} {x y : Ten} (hx : SQ a x) (hy : SQ b y) (ha : a < 8) (hb : b < 8) : chk (sc f [x, y]) = if a < b then 0 else 90 := by
  have hG : GOk (sc f [x, y]) := ⟨by show adr 10 9 0 200 ≠ 0; decide, hf, by show 2 ≤ 16; omega⟩
  have hip : ∀ {i t z}, SQ i t → z ∈ t.pool ++ snd' t.stat → z ≠ adr 10 9 0 200 := by
    intro i t z h hz e
    have := h.own hz
    simp only [adr] at this e
    omega
  have hp0 : pchk (sc f [x, y]) 0 = 0 := by
    refine POk.none ⟨hx.ok, Or.inl rfl, fun o ho => absurd ho (by simp)⟩ (by show 0 < 2; omega) (fun z hz => ⟨hip hx hz, fun o ho => absurd ho (by simp)⟩)
  by_cases hab : a < b
  · rw [if_pos hab]
    refine chk_ok hG (fun j hj => ?_)
    have hj' : j < 2 := hj
    have : j = 0 ∨ j = 1 := by omega
    rcases this with rfl | rfl
    · exact hp0
    · refine POk.none ⟨hy.ok, Or.inr ?_, fun o ho => ?_⟩ hj (fun z hz => ⟨hip hy hz, fun o ho hm => ?_⟩)
      · show lss x.name y.name = true
        rw [hx.name, hy.name, lss_seat]
        exact decide_eq_true (by omega)
      · have e : o = x := by simpa using ho
        subst e
        show o.vni ≠ y.vni
        rw [hx.vni, hy.vni]; omega
      · have e : o = x := by simpa using ho
        subst e
        have h1 := hx.own hm
        have h2 := hy.own (show z ∈ y.pool ++ snd' y.stat from hz)
        simp only [adr] at h1 h2
        omega
  · rw [if_neg hab]
    refine chk_at hG (k := 1) (by show 1 < 2; omega) (by decide) ?_ (fun j hj => by
      obtain rfl : j = 0 := by omega
      exact hp0)
    rw [pchk_eq (by show 1 < 2; omega)]
    have e1 : tchk ((sc f [x, y]).ten.getD 1 ten0) = 0 := hy.ok.zero
    have e2 : (decide (1 = 0) || lss ((sc f [x, y]).ten.getD (1 - 1) ten0).name ((sc f [x, y]).ten.getD 1 ten0).name) = false := by
      show (false || lss x.name y.name) = false
      rw [hx.name, hy.name, lss_seat, Bool.false_or]
      exact decide_eq_false (by omega)
    rw [e1, e2]
    rfl
end Va
theorem bsliceT2 (z y : Tv) (hl : TLen z.1) (hy : TLen y.1) (V : World) : (Instr.buildSlice 26 2 #[(0, .agg (zc z).toArray), (1, .agg (zc y).toArray)]).run Tryd.prog V = .ok (.slice (some ⟨V.heap.size, 0, none⟩) 2 2) (V.alloc (.cells (zc z ++ zc y).toArray 39)) := by
  obtain ⟨⟨n, vn, key, vt, vm, ho, po, lo, hi, fi, st, tw, se, qu, ra, bu⟩, p, s, q⟩ := z
  obtain ⟨⟨n', vn', key', vt', vm', ho', po', lo', hi', fi', st', tw', se', qu', ra', bu'⟩, p', s', q'⟩ := y
  obtain ⟨h1, h2, h3⟩ := hl
  obtain ⟨h4, h5, h6⟩ := hy
  obtain ⟨a, b, c, d, f, g, x, y, rfl⟩ := eight8 h1
  obtain ⟨a1, b1, c1, d1, f1, g1, rfl⟩ := six6 h2
  obtain ⟨a2, b2, c2, d2, f2, g2, rfl⟩ := six6 h3
  obtain ⟨a3, b3, c3, d3, f3, g3, x3, y3, rfl⟩ := eight8 h4
  obtain ⟨a4, b4, c4, d4, f4, g4, rfl⟩ := six6 h5
  obtain ⟨a5, b5, c5, d5, f5, g5, rfl⟩ := six6 h6
  obtain ⟨os, tape, heap⟩ := V
  kernel_rfl
theorem zx_one {z : Tv} {C : List (Nat × Obj)} (h : ZX z C) : ∀ u ∈ zc z, u.oneCell' = true := zb_one (h.zb (C := C) (fun x hx => hx))
theorem sq_sm {i : Nat} {t : Ten} (h : SQ i t) : TSm t := ⟨by rw [h.name]; show (1 : Nat) ≤ 1000000; omega, by have := h.len; omega, by have := h.len; omega, by have := h.len; omega⟩
set_option maxHeartbeats 16000000 in
theorem order14_law {w : World} (hV : Vs w) (a b kd : Int) (ha0 : 0 ≤ a) (ha1 : a ≤ 255) (hb0 : 0 ≤ b) (hb1 : b ≤ 255) (hk0 : 0 ≤ kd) (hk1 : kd ≤ 65535) :
    Calls Tryd.prog 7 #[.int .u8 a, .int .u8 b, .int .u16 kd] w fun e w' => e = .returned (.bool true) ∧ Below w.heap.size w w' := by
  obtain ⟨m, hm⟩ : ∃ m : Nat, a.tmod 8 = (m : Int) := ⟨(a % 8).toNat, by rw [Int.tmod_eq_emod_of_nonneg ha0]; omega⟩
  obtain ⟨n, hn⟩ : ∃ n : Nat, b.tmod 8 = (n : Int) := ⟨(b % 8).toNat, by rw [Int.tmod_eq_emod_of_nonneg hb0]; omega⟩
  have hm8 : m < 8 := by rw [Int.tmod_eq_emod_of_nonneg ha0] at hm; omega
  have hn8 : n < 8 := by rw [Int.tmod_eq_emod_of_nonneg hb0] at hn; omega
  have hm' : a % 8 = (m : Int) := by rw [Int.tmod_eq_emod_of_nonneg ha0] at hm; exact hm
  have hn' : b % 8 = (n : Int) := by rw [Int.tmod_eq_emod_of_nonneg hb0] at hn; exact hn
  have e1 : IntKind.i64.wrap (m : Int) = m := wrap64 (by omega) (by omega)
  have e2 : IntKind.i64.wrap (n : Int) = n := wrap64 (by omega) (by omega)
  have C := known14_any hV
  have CS : ∀ X, Calls Tryd.prog 20 #[.slice none 0 0, .int .u8 1] X (ScQ 0 (fun _ => 0) X) := fun X => sconf14_any X none 0 0 (fun _ => 0) (fun i hi => absurd hi (by omega)) 1 (by omega) (by omega)
  have CX : ∀ X, Calls Tryd.prog 22 #[.int .i64 (m : Int), .int .u16 kd] X (StQ m kd X) := fun X => sten14_any X m (by omega) kd hk0 hk1
  have CY : ∀ X, Calls Tryd.prog 22 #[.int .i64 (n : Int), .int .u16 kd] X (StQ n kd X) := fun X => sten14_any X n (by omega) kd hk0 hk1
  have HV : Hid (Vs w ∧ m < 8 ∧ n < 8) := ⟨hV, hm8, hn8⟩
  clear hV ha0 ha1 hb0 hb1 hk0 hk1 hm8 hn8
  go_enter Tryd.func7, Tryd.ntmps7
  go_wp2_with fail
  refine C.mono ?_
  rintro _ V0 ⟨rfl, hb⟩
  have HB0 : Hid (Below w.heap.size w V0) := hb
  clear hb C
  go_wp2_with fail
  refine (CS V0).mono ?_
  rintro _ V1 ⟨f, ys, u, B, hf, rfl, hlen, hsq, hB, hzx, hM1⟩
  obtain rfl : ys = [] := List.eq_nil_of_length_eq_zero hlen
  simp only [List.map_nil, List.flatMap_nil, List.append_nil, List.flatten_nil, List.length_nil] at hB hM1
  obtain ⟨ua, un, uc, rfl⟩ := owb_slice hB
  obtain ⟨A, hA⟩ : ∃ A, (cc (sc f []) (.slice ua un uc)).toArray = A := ⟨_, rfl⟩
  have hsz : A.size = 29 := by rw [← hA, List.size_toArray]; exact cc_len (sc_len _ _) _
  have hone : A.all (·.oneCell') = true := by rw [← hA]; exact cc_one _ rfl
  have i29 : (Tryd.prog.info? 28).map (·.size) = some A.size := by rw [hsz]; kernel_rfl
  have hA28 : A[28]? = some (.slice ua un uc) := by rw [← hA]; exact cc_at28 (sc_len _ _) _
  have hA' : Value.agg (cc (sc f []) (.slice ua un uc)).toArray = .agg A := by rw [hA]
  have HA : Hid (∀ v ts, A.setIfInBounds 28 v = (cc (sc f ts) v).toArray) := fun v ts => by rw [← hA, cc_ten _ _ _ (sc_len _ _)]; rfl
  have HM1 : Hid (Mem V0 V1 B ∧ OwB 39 33 (.slice ua un uc) 0 [] B ∧ f ≤ 1000) := ⟨hM1, hB, by omega⟩
  simp only [List.map_nil]
  rw [hA']
  clear hA hA' hM1 hB hzx hsq hlen hf CS
  obtain ⟨g7, hg7⟩ : ∃ g, V1.heap.size = g := ⟨_, rfl⟩
  have hk1 : (V1.alloc (.cells cz 28)).heap[g7]? = some (.cells cz 28 (0, 0)) := by rw [← hg7]; exact heap_alloc_new _ _
  have ew : (V1.alloc (.cells cz 28)).setRow g7 A = V1.alloc (.cells A 28) := by rw [← hg7]; exact World.setRow_alloc_new V1 cz A 28
  have HP : Hid (Mem V0 ((V1.alloc (.cells cz 28)).setRow g7 A) ((g7, .cells A 28 (0, 0)) :: B)) := by rw [ew]; exact HM1.out.1.front _ hg7.symm
  clear ew
  go_upto_region 4 with (refine wpList_store_row rfl 28 (.tmp 7) (.tmp 13) (by with_reducible rfl) g7 A (by simp [Act.eval]; try exact hg7) (by first | rfl | simp [Act.eval]) 28 cz hk1 i29 (by rw [hsz]; rfl) hone ?_)
  refine wp_letter (fun X => Mem V0 X ((g7, .cells A 28 (0, 0)) :: B)) (by exact HP.out) ?_
  intro V2 hM2
  try simp only [hg7]
  have HM2 : Hid (Mem V0 V2 ((g7, .cells A 28 (0, 0)) :: B)) := hM2
  clear HP hg7 hk1 hM2 hone
  go_wp2_with fail
  refine (CX V2).mono ?_
  rintro _ V3 ⟨tx, px', sx, qx, Cx', rfl, hSx, hzx, hMx⟩
  have HX : Hid (Mem V0 V3 (((g7, .cells A 28 (0, 0)) :: B) ++ Cx') ∧ SQ m tx ∧ ZX (tx, px', sx, qx) Cx') := ⟨HM2.out.join hMx, hSx.sq (by have := HV.out; omega), hzx⟩
  obtain ⟨X1, hX1⟩ : ∃ X, zc (tx, px', sx, qx) = X := ⟨_, rfl⟩
  have hX1l : X1.length = 33 := by rw [← hX1]; exact tc_len hzx.1 _ _ _
  have hX1o : X1.toArray.all (·.oneCell') = true := by rw [← hX1]; exact all_oneCell_toArray (zx_one hzx)
  have HX1 : Hid (zc (tx, px', sx, qx) = X1) := hX1
  have hX1' : (tc tx px' sx qx).toArray = X1.toArray := by rw [← hX1]; rfl
  rw [hX1']
  clear hMx hSx hzx HM2 hX1 hX1' CX
  go_wp2_with fail
  refine (CY V3).mono ?_
  rintro _ V4 ⟨ty, py, sy, qy, Cy', rfl, hSy, hzy, hMy⟩
  have HY : Hid (Mem V0 V4 ((((g7, .cells A 28 (0, 0)) :: B) ++ Cx') ++ Cy') ∧ SQ n ty ∧ ZX (ty, py, sy, qy) Cy') := ⟨HX.out.1.join hMy, hSy.sq (by have := HV.out; omega), hzy⟩
  obtain ⟨Y1, hY1⟩ : ∃ X, zc (ty, py, sy, qy) = X := ⟨_, rfl⟩
  have hY1l : Y1.length = 33 := by rw [← hY1]; exact tc_len hzy.1 _ _ _
  have hY1o : Y1.toArray.all (·.oneCell') = true := by rw [← hY1]; exact all_oneCell_toArray (zx_one hzy)
  have HY1 : Hid (zc (ty, py, sy, qy) = Y1) := hY1
  have hY1' : (tc ty py sy qy).toArray = Y1.toArray := by rw [← hY1]; rfl
  rw [hY1']
  clear hMy hSy hzy hY1 hY1' CY
  have i33x : (Tryd.prog.info? 39).map (·.size) = some X1.toArray.size := i33_of hX1l
  have i33y : (Tryd.prog.info? 39).map (·.size) = some Y1.toArray.size := i33_of hY1l
  have s33x : tz14.size = X1.toArray.size := by rw [show X1.toArray.size = 33 by rw [List.size_toArray]; exact hX1l]; rfl
  have s33y : tz14.size = Y1.toArray.size := by rw [show Y1.toArray.size = 33 by rw [List.size_toArray]; exact hY1l]; rfl
  obtain ⟨g8, hg8⟩ : ∃ g, V4.heap.size = g := ⟨_, rfl⟩
  have hW1 : Mem V4 ((V4.alloc (.cells tz14 39)).alloc (.cells tz14 39)) [(g8 + 1, .cells tz14 39 (0, 0)), (g8, .cells tz14 39 (0, 0))] := by rw [← hg8]; exact two_blocks' V4 _ _
  have hk8 : ((V4.alloc (.cells tz14 39)).alloc (.cells tz14 39)).heap[g8]? = some (.cells tz14 39 (0, 0)) := hW1.get 1 rfl
  have hW2 := hW1.wrote 1 rfl (wrote_setRow _ g8 tz14 X1.toArray _ hk8)
  have hk9 : (((V4.alloc (.cells tz14 39)).alloc (.cells tz14 39)).setRow g8 X1.toArray).heap[g8 + 1]? = some (.cells tz14 39 (0, 0)) := hW2.get 0 rfl
  have HW3 : Hid (Mem V4 ((((V4.alloc (.cells tz14 39)).alloc (.cells tz14 39)).setRow g8 X1.toArray).setRow (g8 + 1) Y1.toArray) [(g8 + 1, .cells Y1.toArray 39 (0, 0)), (g8, .cells X1.toArray 39 (0, 0))]) := hW2.wrote 0 rfl (wrote_setRow _ (g8 + 1) tz14 Y1.toArray _ hk9)
  clear hW1 hW2
  go_upto_region 5 with (first | (refine wpList_store_row rfl 39 (.tmp 8) (.tmp 18) (by with_reducible rfl) g8 X1.toArray (by simp [Act.eval]; try exact hg8) (by first | rfl | simp [Act.eval]) 39 tz14 hk8 i33x s33x hX1o ?_) | (refine wpList_store_row rfl 39 (.tmp 9) (.tmp 23) (by with_reducible rfl) (g8 + 1) Y1.toArray (by first | rfl | (simp [Act.eval]; try exact hg8)) (by first | rfl | simp [Act.eval]) 39 tz14 hk9 i33y s33y hY1o ?_) | fail)
  refine wp_letter (fun X => Mem V4 X [(g8 + 1, .cells Y1.toArray 39 (0, 0)), (g8, .cells X1.toArray 39 (0, 0))]) (by exact HW3.out) ?_
  intro V5 hM5
  try simp only [hg8]
  clear HW3 hg8 hk8 hk9 s33x s33y hX1o hY1o
  have k8 : V5.heap[g8]? = some (.cells X1.toArray 39 (0, 0)) := hM5.get 1 rfl
  have k9 : V5.heap[g8 + 1]? = some (.cells Y1.toArray 39 (0, 0)) := hM5.get 0 rfl
  have hM6 := HY.out.1.after hM5.below
  have c28 : V5.cell? ⟨g7, 28, none⟩ = some (.slice ua un uc) := (hM6.cell 0 rfl 28).trans hA28
  have hM7 : Mem V0 V5 (B ++ ((g7, .cells A 28 (0, 0)) :: (Cx' ++ Cy'))) := hM6.perm (by
    classical
    rw [List.perm_iff_count]; intro z; simp only [List.count_append, List.count_cons, List.count_nil]; omega)
  have hbs := bsliceT2 (tx, px', sx, qx) (ty, py, sy, qy) HX.out.2.2.1 HY.out.2.2.1 V5
  rw [HX1.out, HY1.out] at hbs
  have hM8 := hM7.after ((Below.refl V5.heap.size V5).alloc (Nat.le_refl _) (.cells (X1 ++ Y1).toArray 39 (0, 0)))
  obtain ⟨v4, V6, hrun, hO4⟩ := ow_append (ty := 26) Tryd.underlying26 infoT (by kernel_rfl) (by omega) (HM1.out.2.1.ow hM8) ⟨V5.heap.size, 0, none⟩ 2 2 (X1 ++ Y1) (by rw [List.length_append, hX1l, hY1l]) (fun j u hj => by
    rw [Addr.add_mid, Nat.zero_add, World.cell?_alloc_new]
    simpa using hj) (by
    intro u hu
    rcases List.mem_append.mp hu with hu | hu
    · rw [← HX1.out] at hu; exact zx_one HX.out.2.2 u hu
    · rw [← HY1.out] at hu; exact zx_one HY.out.2.2 u hu) (by unfold maxLen; omega) (by omega)
  obtain ⟨B4, hB4, hM9⟩ := hO4.owb
  obtain ⟨a4, n4, c4, rfl⟩ := owb_slice hB4
  have hM10 : Mem V0 V6 ((g7, .cells A 28 (0, 0)) :: (B4 ++ (Cx' ++ Cy'))) := hM9.perm (by
    classical
    rw [List.perm_iff_count]; intro z; simp only [List.count_append, List.count_cons, List.count_nil]; omega)
  have d28 : V6.cell? ⟨g7, 28, none⟩ = some (.slice ua un uc) := (hM10.cell 0 rfl 28).trans hA28
  have fr28 : V6.frozen? ⟨g7, 28, none⟩ = false := hM10.free 0 rfl 28
  obtain ⟨A2, hA2⟩ : ∃ A2, A.setIfInBounds 28 (.slice a4 n4 c4) = A2 := ⟨_, rfl⟩
  have hA2s : A2.size = 29 := by rw [← hA2, Array.size_setIfInBounds]; exact hsz
  have j29 : (Tryd.prog.info? 28).map (·.size) = some A2.size := by rw [hA2s]; kernel_rfl
  have HM11 : Hid (Mem V0 (V6.setCell ⟨g7, 28, none⟩ (.slice a4 n4 c4)) ((g7, .cells A2 28 (0, 0)) :: (B4 ++ (Cx' ++ Cy')))) := by
    rw [← hA2]; exact hM10.set 0 rfl 28 _
  have HCV : Hid (∀ X, Mem V0 X (B4 ++ (Cx' ++ Cy')) → CV X (.agg A2) (sc f [tx, ty])) := by
    intro X hX
    rw [← hA2, HA.out _ [tx, ty]]
    refine cv_ys (ys := [((tx, px', sx, qx), Cx'), ((ty, py, sy, qy), Cy')]) (sc_len _ _) rfl (B := B4) (C := Cx' ++ Cy') ?_ ?_ hX
    · have e : ([((tx, px', sx, qx), Cx'), ((ty, py, sy, qy), Cy')].map (fun y : Ty => zc y.1)).flatten = X1 ++ Y1 := by
        rw [← HX1.out, ← HY1.out]; simp
      rw [e]
      simpa using hB4
    · intro y hy
      simp only [List.mem_cons, List.not_mem_nil, or_false] at hy
      rcases hy with rfl | rfl
      · exact HX.out.2.2.zb (fun x hx => List.mem_append_left _ hx)
      · exact HY.out.2.2.zb (fun x hx => List.mem_append_right _ hx)
  have HSQ : Hid (SQ m tx ∧ SQ n ty ∧ f ≤ 1000) := ⟨HX.out.2.1, HY.out.2.1, HM1.out.2.2⟩
  clear hM5 hM6 hM7 hM8 hM9 hM10 hO4 hB4 HX HY HA HX1 HY1 HM1 hA2 hA2s hA28 hX1l hY1l hsz
  generalize (X1 ++ Y1).toArray = XY at *
  generalize X1.toArray = XA at *
  generalize Y1.toArray = YA at *
  go_upto_region 6 with ((refine wpList_load_row rfl 39 (.tmp 8) (by with_reducible rfl) g8 (by first | rfl | simp [Act.eval]) 39 XA (0, 0) _ k8 Tryd.underlying39 rfl i33x ?_); (refine wpList_load_row rfl 39 (.tmp 9) (by with_reducible rfl) (g8 + 1) (by first | rfl | simp [Act.eval]) 39 YA (0, 0) _ k9 Tryd.underlying39 rfl i33y ?_); (refine wpList_bsl rfl 26 2 _ (by with_reducible rfl) hbs (by kernel_rfl) ?_); (refine wpList_append_run (.tmp 25) (.tmp 28) 26 26 (by with_reducible rfl) hrun rfl rfl (by first | rfl | simp [Act.eval]) (by first | rfl | simp [Act.eval]) ?_))
  refine wp_letter (fun X => Mem V0 X ((g7, .cells A2 28 (0, 0)) :: (B4 ++ (Cx' ++ Cy')))) (by exact HM11.out) ?_
  intro V7 hM12
  clear HM11 d28 fr28 c28 k8 k9 hbs hrun
  have k7 : V7.heap[g7]? = some (.cells A2 28 (0, 0)) := hM12.get 0 rfl
  have hbw := HB0.out.trans (hM12.below.mono HB0.out.size)
  have CK := check_any (HV.out.1.below hbw) (HCV.out V7 hM12.sub) (by show 2 ≤ 1000000; omega) (by
    intro t ht
    have : t = tx ∨ t = ty := by simpa using ht
    rcases this with rfl | rfl
    · exact sq_sm HSQ.out.1
    · exact sq_sm HSQ.out.2.1)
  rw [chk_two HSQ.out.2.2 HSQ.out.1 HSQ.out.2.1 HV.out.2.1 HV.out.2.2] at CK
  have HB7 : Hid (Below w.heap.size w V7) := hbw
  clear hM12 hbw HCV HSQ HV HB0
  by_cases hmn : m < n
  · rw [if_pos hmn] at CK
    have h1 : (m : Int) < n := by omega
    go_wp2_with (refine wpList_load_row rfl 28 (.tmp 7) (by with_reducible rfl) g7 (by first | rfl | simp [Act.eval]) 28 A2 (0, 0) _ k7 Tryd.underlying28 rfl j29 ?_)
    refine CK.mono ?_
    rintro _ V8 ⟨rfl, hb⟩
    have HB8 : Hid (Below w.heap.size w V8) := HB7.out.trans (hb.mono HB7.out.size)
    clear hb CK k7 HB7
    go_wp2_with fail
    go_ret
    exact ⟨rfl, HB8.out⟩
  · rw [if_neg hmn] at CK
    have h1 : ¬ ((m : Int) < n) := by omega
    go_wp2_with (refine wpList_load_row rfl 28 (.tmp 7) (by with_reducible rfl) g7 (by first | rfl | simp [Act.eval]) 28 A2 (0, 0) _ k7 Tryd.underlying28 rfl j29 ?_)
    refine CK.mono ?_
    rintro _ V8 ⟨rfl, hb⟩
    have HB8 : Hid (Below w.heap.size w V8) := HB7.out.trans (hb.mono HB7.out.size)
    clear hb CK k7 HB7
    go_wp2_with fail
    go_ret
    exact ⟨rfl, HB8.out⟩
end Go.Proofs.YtnddbklbgddblaaDoor

