/-
  What is changed: the document's Diff, walked.
-/
import Derived.Test.YtbccadbnaggkhaaGreatKE42
import Derived.Test.YtbccadbnaggkhaaGreatKE46
import Derived.BigQuiet
namespace Go.Proofs.YtbccadbnaggkhaaGreat
open Go.RowKit
open Sm
open Cf
open Df
set_option linter.unusedVariables false
set_option linter.unusedSimpArgs false
set_option maxRecDepth 20000

namespace Df
set_option maxHeartbeats 16000000 in
theorem rdiff_any {w : World} {v u : Value} {zs ys : List Tv} (hz : ZV w v zs) (hy : ZV w u ys) (hzn : ∀ z ∈ zs, TIn z.1) (hyn : ∀ z ∈ ys, TIn z.1) (hm : zs.length ≤ 400) (hk : ys.length ≤ 400) :
    Calls Tryz.prog 18 #[v, u] w fun e V => ∃ r, e = .returned r ∧ ∃ xs, YV V r xs ∧ xs.map Prod.fst = dif (byn nk (zs.map Prod.fst)) (byn nk (ys.map Prod.fst)) ∧ Below w.heap.size w V := by
  have CA := rapply_any hz (yv_nil w) hm (by simp)
  have CB : Hid (∀ V, Below w.heap.size w V → Calls Tryz.prog 14 #[u, .slice none 0 0] V fun e V' => ∃ a n c, e = .returned (.slice a n c) ∧ TSV V' (.slice a n c) (app (ys.map Prod.fst) (([] : List Hv).map Prod.fst)) ∧ Below V.heap.size V V') := fun V hV => rapply_any (hy.at_ hV) (yv_nil V) hk (by simp)
  rw [List.map_nil, app_nil] at CA CB
  have HNA : Hid (∀ t ∈ byn nk (zs.map Prod.fst), TIn t) := fun t ht => by
    obtain ⟨z, h1, rfl⟩ := List.mem_map.1 (mem_byn ht)
    exact hzn z h1
  have HNB : Hid (∀ t ∈ byn nk (ys.map Prod.fst), TIn t) := fun t ht => by
    obtain ⟨z, h1, rfl⟩ := List.mem_map.1 (mem_byn ht)
    exact hyn z h1
  have HSA : Hid (Srt nk (byn nk (zs.map Prod.fst))) := srt_byn _
  have HSB : Hid (Srt nk (byn nk (ys.map Prod.fst))) := srt_byn _
  have hla := byn_length (f := nk) (zs.map Prod.fst)
  have hlb := byn_length (f := nk) (ys.map Prod.fst)
  rw [List.length_map] at hla hlb
  clear hz hy hzn hyn
  generalize byn nk (zs.map Prod.fst) = At at *
  generalize byn nk (ys.map Prod.fst) = Bt at *
  go_enter Tryz.func18, Tryz.ntmps18
  go_wp2_with fail
  refine CA.mono ?_
  rintro e V1 ⟨a5, n5, c5, rfl, hT5, hb1⟩
  have C2 := CB.out V1 hb1
  have H5 : Hid (TSV V1 (.slice a5 n5 c5) At ∧ Below w.heap.size w V1) := ⟨hT5, hb1⟩
  clear CA CB hT5 hb1
  go_wp2_with fail
  refine C2.mono ?_
  rintro e W0 ⟨a6, n6, c6, rfl, hT6, hb2⟩
  clear C2
  obtain ⟨A, hA, hZA0⟩ := TSV.zv H5.out.1
  obtain ⟨B, hB, hZB⟩ := TSV.zv hT6
  have hZA := hZA0.at_ hb2
  have HBW : Hid (Below w.heap.size w W0) := H5.out.2.trans (hb2.mono H5.out.2.size)
  subst hA hB
  obtain ⟨za', zk', e5, hzc, hzb, hzx⟩ := hZA.parts
  obtain ⟨zb', yk', e6, hyc, hyb, hyx⟩ := hZB.parts
  simp only [Value.slice.injEq] at e5 e6
  obtain ⟨rfl, rfl, rfl⟩ := e5
  obtain ⟨rfl, rfl, rfl⟩ := e6
  have SA : Srt fk A := fst_srt HSA.out
  have SB : Srt fk B := fst_srt HSB.out
  have hNl : A.length ≤ 400 := by rw [List.length_map] at hla; omega
  have hKl : B.length ≤ 400 := by rw [List.length_map] at hlb; omega
  -- what is read of both
  have HA : Hid (∀ i (hi : i < A.length), (∃ b off, a5 = some ⟨b, off, none⟩ ∧ ∀ V, Below W0.heap.size W0 V → V.cell? ⟨b, off + i * 33, none⟩ = some (.string (A[i]'hi).1.name) ∧ V.rangeAt b (off + i * 33) (zc (A[i]'hi))) ∧ TLen (A[i]'hi).1) := by
    intro i hi
    obtain ⟨b, off, e, hV⟩ := hzx i hi
    exact ⟨⟨b, off, e, fun V hb => ⟨hV V hb 0 (.string (A[i]'hi).1.name) rfl, hV V hb⟩⟩, (hZA.each _ (List.getElem_mem hi)).1⟩
  have HB : Hid (∀ i (hi : i < B.length), (∃ b off, a6 = some ⟨b, off, none⟩ ∧ ∀ V, Below W0.heap.size W0 V → V.cell? ⟨b, off + i * 33, none⟩ = some (.string (B[i]'hi).1.name) ∧ V.rangeAt b (off + i * 33) (zc (B[i]'hi))) ∧ TLen (B[i]'hi).1 ∧ Rws W0 (B[i]'hi)) := by
    intro i hi
    obtain ⟨b, off, e, hV⟩ := hyx i hi
    exact ⟨⟨b, off, e, fun V hb => ⟨hV V hb 0 (.string (B[i]'hi).1.name) rfl, hV V hb⟩⟩, (hZB.each _ (List.getElem_mem hi))⟩
  have HS : Hid (∀ i (hi : i < A.length) k (hk : k < B.length) V, Below W0.heap.size W0 V → Calls Tryz.prog 29 #[.agg (zc (A[i]'hi)).toArray, .agg (zc (B[k]'hk)).toArray] V fun e V' => e = .returned (.bool (decide (TSame (A[i]'hi).1 (B[k]'hk).1))) ∧ Below V.heap.size V V') := by
    intro i hi k hk V hV
    have h1 := hZA.each _ (List.getElem_mem hi)
    have h2 := hZB.each _ (List.getElem_mem hk)
    exact rsame_any (tv_tv h1.1 (Rws.at_ h1.2 hV)) (tv_tv h2.1 (Rws.at_ h2.2 hV)) (HNA.out _ (List.mem_map.2 ⟨_, List.getElem_mem hi, rfl⟩))
  have HLT : Hid (∀ i k (hi : i < A.length), (∀ hk : k < B.length, fk (A[i]'hi) < fk (B[k]'hk)) → lft A B i k = ⟨false, (A[i]'hi).1.name, ten0⟩ :: lft A B (i + 1) k) := fun i k hi h => lft_lt SA SB hi h
  have HGT : Hid (∀ i k (hk : k < B.length), (∀ hi : i < A.length, fk (B[k]'hk) < fk (A[i]'hi)) → lft A B i k = ⟨true, (B[k]'hk).1.name, (B[k]'hk).1⟩ :: lft A B i (k + 1)) := fun i k hk h => lft_gt SA SB hk h
  have HEQ : Hid (∀ i k (hi : i < A.length) (hk : k < B.length), fk (A[i]'hi) = fk (B[k]'hk) → lft A B i k = if TSame (A[i]'hi).1 (B[k]'hk).1 then lft A B (i + 1) (k + 1) else ⟨true, (B[k]'hk).1.name, (B[k]'hk).1⟩ :: lft A B (i + 1) (k + 1)) := fun i k hi hk h => lft_eq SA SB hi hk h
  have H0 : Hid (Rv W0 W0 (.slice none 0 0) [] A B 0 0) := Rv.nil W0 A B
  have HFIN : Hid (∀ V v xs, Rv W0 V v xs A B A.length B.length → YV V v xs ∧ xs.map Prod.fst = dif (A.map Prod.fst) (B.map Prod.fst)) := fun V v xs h => h.yv (Nat.le_refl _) (Nat.le_refl _)
  clear hZA hZB hZA0 hT6 hb2 H5 HNA HNB HSA HSB SA SB hzx hyx hla hlb
  obtain ⟨N, hN⟩ : ∃ N, A.length = N := ⟨_, rfl⟩
  obtain ⟨K, hK⟩ : ∃ K, B.length = K := ⟨_, rfl⟩
  rw [hN] at hNl hzc
  rw [hK] at hKl hyc
  simp only [hN, hK] at HA HB HS HLT HGT HEQ HFIN ⊢
  go_wp2_with fail
  go_loopw [7, 8, 9] (fun u7 u8 u9 w' => ∃ (i k : Nat) (a : Option Addr) (m c : Nat) (xs : List Hv), i ≤ N ∧ k ≤ K ∧ u7 = .slice a m c ∧ u8 = .int .i64 i ∧ u9 = .int .i64 k ∧ Hid (Rv W0 w' (.slice a m c) xs A B i k)) (fun u7 u8 u9 w' => (N - (intOf u8).toNat) + (K - (intOf u9).toNat))
  case atStart => exact ⟨0, 0, none, 0, 0, [], Nat.zero_le _, Nat.zero_le _, rfl, rfl, rfl, H0⟩
  case round =>
    obtain ⟨i, k, a, m, c, xs, hi, hk, rfl, rfl, rfl, HR⟩ := hrel
    clear H0
    have HW : Hid (Below W0.heap.size W0 wr) := HR.out.below
    by_cases hiN : i < N
    · have h1 : (i : Int) < N := by omega
      have d1 : decide ((i : Int) < N) = true := decide_eq_true h1
      have hiA : i < A.length := by omega
      obtain ⟨⟨ba, oa, rfl, hVa⟩, hla⟩ := HA.out i hiN
      have HCA : Hid (∀ V, Below W0.heap.size W0 V → V.cell? ⟨ba, oa + i * 33, none⟩ = some (.string (A[i]'hiA).1.name) ∧ V.rangeAt ba (oa + i * 33) (zc (A[i]'hiA))) := hVa
      have i33a : (Tryz.prog.info? 34).map (·.size) = some (zc (A[i]'hiA)).length := by rw [zc33 hla]; kernel_rfl
      have HDEL : Hid ((∀ hk : k < B.length, fk (A[i]'hiA) < fk (B[k]'hk)) → ∀ V, Below wr.heap.size wr V → (Instr.buildSlice 23 1 #[(0, .agg (yc (yN (A[i]'hiA).1.name)).toArray)]).run Tryz.prog V = .ok (.slice (some ⟨V.heap.size, 0, none⟩) 1 1) (V.alloc (.cells (yc (yN (A[i]'hiA).1.name)).toArray 47)) ∧
          ∃ a' m' c' V', (Builtin.append_ #[23, 23] 23 #[.slice a m c, .slice (some ⟨V.heap.size, 0, none⟩) 1 1]).run Tryz.prog (V.alloc (.cells (yc (yN (A[i]'hiA).1.name)).toArray 47)) = .ok (.slice a' m' c') V' ∧ Rv W0 V' (.slice a' m' c') (xs ++ [yN (A[i]'hiA).1.name]) A B (i + 1) k) :=
        fun h V hV => HR.out.add (by omega) (yN (A[i]'hiA).1.name) ten0_len (rws_nil _ ten0 rfl rfl rfl) (HLT.out i k hiN (fun hk => h (by omega))) (by omega) hV
      by_cases hkK : k < K
      · have h2 : (k : Int) < K := by omega
        have e2 : ((k : Int) == (K : Int)) = false := by rw [beq_eq_false_iff_ne]; omega
        have e3 : ((i : Int) == (N : Int)) = false := by rw [beq_eq_false_iff_ne]; omega
        have hkB : k < B.length := by omega
        obtain ⟨⟨bb, ob, rfl, hVb⟩, hlb, hrb⟩ := HB.out k hkK
        have HCB : Hid (∀ V, Below W0.heap.size W0 V → V.cell? ⟨bb, ob + k * 33, none⟩ = some (.string (B[k]'hkB).1.name) ∧ V.rangeAt bb (ob + k * 33) (zc (B[k]'hkB))) := hVb
        have i33 : (Tryz.prog.info? 34).map (·.size) = some (zc (B[k]'hkB)).length := by rw [zc33 hlb]; kernel_rfl
        have cA := (HCA.out wr HW.out).1
        have cB := (HCB.out wr HW.out).1
        by_cases q1 : fk (A[i]'hiA) < fk (B[k]'hkB)
        · have d2 := less_yes (a := (A[i]'hiA).1.name) (b := (B[k]'hkB).1.name) q1
          have HADD := HDEL.out (fun _ => q1)
          clear HA HB HS HLT HGT HEQ HFIN HDEL HR hVa hVb q1 hrb HCB
          generalize (B[k]'hkB).1.name = sb at *
          generalize (A[i]'hiA).1.name = sa at *
          have HADD : Hid _ := HADD
          go_upto_region 8 with fail
          go_quiet (fail)
          clear cA cB
          go_upto_region 9 with fail
          refine wp_letter (fun X => Below wr.heap.size wr X) (by first | exact Go.below_drewN (Below.refl _ _) _ | exact Go.below_drewN (below_drewN (Below.refl _ _) _) _) ?_
          intro V8 hb8
          obtain ⟨hbs, a', m', c', V3, hr3, hRF⟩ := HADD.out V8 hb8
          have hbn := build_n sa V8
          have HO2 : Hid (Rv W0 V3 (.slice a' m' c') (xs ++ [yN sa]) A B (i + 1) k) := hRF
          have cA := (HCA.out V8 (HW.out.trans (hb8.mono HW.out.size))).1
          clear HADD hRF HCA hb8 HW
          go_wp2_with (first | (refine wpList_bld rfl 47 _ (by with_reducible rfl) hbn (by first | kernel_rfl | rfl | simp [Act.eval]) ?_) | (refine wpList_bsl rfl 23 1 #[(0, .tmp 81)] (by with_reducible rfl) hbs (by first | kernel_rfl | rfl | simp [Act.eval]) ?_) | (at_builtin; refine wpList_append_run (.tmp 75) (.tmp 82) 23 23 (by with_reducible rfl) hr3 rfl rfl (by first | rfl | simp [Act.eval]) (by first | rfl | simp [Act.eval]) ?_) | fail)
          go_roundw
          case rel => exact ⟨i + 1, k, a', m', c', xs ++ [yN sa], by omega, by omega, rfl, by go_num, rfl, HO2⟩
          case measure => simp [intOf]; omega
        · have d2 := less_no (a := (A[i]'hiA).1.name) (b := (B[k]'hkB).1.name) q1
          have HPUT : Hid (∀ i' k', i + k + 1 ≤ i' + k' → lft A B i k = ⟨true, (B[k]'hkB).1.name, (B[k]'hkB).1⟩ :: lft A B i' k' → ∀ W, Rv W0 W (.slice a m c) xs A B i k → ∀ V, Below W.heap.size W V → (Instr.buildSlice 23 1 #[(0, .agg (yc (yP (B[k]'hkB).1.name (B[k]'hkB))).toArray)]).run Tryz.prog V = .ok (.slice (some ⟨V.heap.size, 0, none⟩) 1 1) (V.alloc (.cells (yc (yP (B[k]'hkB).1.name (B[k]'hkB))).toArray 47)) ∧
              ∃ a' m' c' V', (Builtin.append_ #[23, 23] 23 #[.slice a m c, .slice (some ⟨V.heap.size, 0, none⟩) 1 1]).run Tryz.prog (V.alloc (.cells (yc (yP (B[k]'hkB).1.name (B[k]'hkB))).toArray 47)) = .ok (.slice a' m' c') V' ∧ Rv W0 V' (.slice a' m' c') (xs ++ [yP (B[k]'hkB).1.name (B[k]'hkB)]) A B i' k') :=
            fun i' k' h1 h2 W hW V hV => hW.add (by omega) (yP (B[k]'hkB).1.name (B[k]'hkB)) hlb hrb h2 h1 hV
          by_cases q2 : fk (B[k]'hkB) < fk (A[i]'hiA)
          · have d3 := less_yes (a := (B[k]'hkB).1.name) (b := (A[i]'hiA).1.name) q2
            have HADD : Hid _ := HPUT.out i (k + 1) (by omega) (HGT.out i k hkK (fun _ => q2)) wr HR.out
            clear HA HB HS HLT HGT HEQ HFIN HDEL HPUT HR hVa hVb q1 q2 hrb HCA i33a hla
            generalize (A[i]'hiA).1.name = sa at *
            generalize (B[k]'hkB) = zb at *
            generalize hsn : zb.1.name = sn at *
            clear hsn
            go_upto_region 8 with fail
            go_quiet (fail)
            go_upto_region 11 with fail
            go_quiet (fail)
            clear cA cB d2 d3
            go_upto_region 12 with fail
            refine wp_letter (fun X => Below wr.heap.size wr X) (by first | exact Go.below_drewN (Below.refl _ _) _ | exact Go.below_drewN (below_drewN (Below.refl _ _) _) _) ?_
            intro V8 hb8
            obtain ⟨hbs, a', m', c', V3, hr3, hRF⟩ := HADD.out V8.drew hb8.drew
            have hbp := build_p sn zb hlb V8.drew
            have HO2 : Hid (Rv W0 V3 (.slice a' m' c') (xs ++ [yP sn zb]) A B (i) (k + 1)) := hRF
            have hb9 : Below W0.heap.size W0 V8.drew := HW.out.trans (hb8.drew.mono HW.out.size)
            have rr := HCB.out V8.drew hb9
            have HX0 : Hid (Below W0.heap.size W0 (V8.drew.alloc (.cells (yc (yP sn zb)).toArray 47))) := hb9.alloc hb9.size _
            have HX3 : Hid (Below W0.heap.size W0 V3) := hRF.below
            clear HADD hRF hb8 hb9
            refine wp_region_held_drew (S := fun V => V.cell? ⟨bb, ob + k * 33, none⟩ = some (.string sn) ∧ V.rangeAt bb (ob + k * 33) (zc zb)) (by kernel_rfl) rr (fun hHeld => ?_)
            refine wpAnyH_take (i := 0) (v := ?_) rfl (by kernel_rfl) (by kernel_rfl) (by kernel_rfl) (fun _ _ _ h => h) (Or.inl ⟨by rfl, ?pay0⟩) (by assumption) ?par0
            case pay0 =>
              intro w hSw
              (try dsimp only at hSw)
              go_simp
              all_goals with_reducible rfl
            try simp only [List.getElem_toArray, List.getElem_cons_zero, List.getElem_cons_succ, Act.put, List.setIfInBounds_toArray, List.set_cons_zero, List.set_cons_succ]
            refine wpAnyH_take (i := 1) (v := ?_) rfl (by kernel_rfl) (by kernel_rfl) (by kernel_rfl) (fun _ _ _ h => h) (Or.inl ⟨by rfl, ?pay1⟩) (by assumption) ?par1
            case pay1 =>
              intro w hSw
              (try dsimp only at hSw)
              go_simp
              all_goals with_reducible rfl
            try simp only [List.getElem_toArray, List.getElem_cons_zero, List.getElem_cons_succ, Act.put, List.setIfInBounds_toArray, List.set_cons_zero, List.set_cons_succ]
            refine wpAnyH_take (i := 2) (v := ?_) rfl (by kernel_rfl) (by kernel_rfl) (by kernel_rfl) (fun _ _ _ h => h) (Or.inl ⟨by rfl, ?pay2⟩) (by assumption) ?par2
            case pay2 =>
              intro w hSw
              (try dsimp only at hSw)
              go_simp
              all_goals with_reducible rfl
            try simp only [List.getElem_toArray, List.getElem_cons_zero, List.getElem_cons_succ, Act.put, List.setIfInBounds_toArray, List.set_cons_zero, List.set_cons_succ]
            refine wpAnyH_take (i := 3) (v := ?_) rfl (by kernel_rfl) (by kernel_rfl) (by kernel_rfl) (fun _ _ _ h => h) (Or.inl ⟨by rfl, ?pay3⟩) (by assumption) ?par3
            case pay3 =>
              intro w hSw
              (try dsimp only at hSw)
              go_simp
              all_goals with_reducible rfl
            try simp only [List.getElem_toArray, List.getElem_cons_zero, List.getElem_cons_succ, Act.put, List.setIfInBounds_toArray, List.set_cons_zero, List.set_cons_succ]
            refine wpAnyH_take (i := 4) (v := ?_) rfl (by kernel_rfl) (by kernel_rfl) (by kernel_rfl) (fun _ _ _ h => h) (Or.inl ⟨by rfl, ?pay4⟩) (by assumption) ?par4
            case pay4 =>
              intro w hSw
              (try dsimp only at hSw)
              go_simp
              all_goals with_reducible rfl
            try simp only [List.getElem_toArray, List.getElem_cons_zero, List.getElem_cons_succ, Act.put, List.setIfInBounds_toArray, List.set_cons_zero, List.set_cons_succ]
            refine wpAnyH_take (i := 5) (v := ?_) rfl (by kernel_rfl) (by kernel_rfl) (by kernel_rfl) (fun _ _ _ h => h) (Or.inl ⟨by rfl, ?pay5⟩) (by assumption) ?par5
            case pay5 =>
              intro w hSw
              (try dsimp only at hSw)
              have hS1 := hSw.1
              go_simp
              all_goals with_reducible rfl
            try simp only [List.getElem_toArray, List.getElem_cons_zero, List.getElem_cons_succ, Act.put, List.setIfInBounds_toArray, List.set_cons_zero, List.set_cons_succ]
            refine wpAnyH_take (i := 6) (v := ?_) rfl (by kernel_rfl) (by kernel_rfl) (by kernel_rfl) (fun _ _ _ h => h) (Or.inl ⟨by rfl, ?pay6⟩) (by assumption) ?par6
            case pay6 =>
              intro w hSw
              (try dsimp only at hSw)
              go_simp
              all_goals with_reducible rfl
            try simp only [List.getElem_toArray, List.getElem_cons_zero, List.getElem_cons_succ, Act.put, List.setIfInBounds_toArray, List.set_cons_zero, List.set_cons_succ]
            refine wpAnyH_take (i := 7) (v := ?_) rfl (by kernel_rfl) (by kernel_rfl) (by kernel_rfl) (fun _ _ _ h => h) (Or.inl ⟨by rfl, ?pay7⟩) (by assumption) ?par7
            case pay7 =>
              intro w hSw
              (try dsimp only at hSw)
              go_simp
              all_goals with_reducible rfl
            try simp only [List.getElem_toArray, List.getElem_cons_zero, List.getElem_cons_succ, Act.put, List.setIfInBounds_toArray, List.set_cons_zero, List.set_cons_succ]
            refine wpAnyH_take (i := 8) (v := ?_) rfl (by kernel_rfl) (by kernel_rfl) (by kernel_rfl) (fun _ _ _ h => h) (Or.inl ⟨by rfl, ?pay8⟩) (by assumption) ?par8
            case pay8 =>
              intro w hSw
              (try dsimp only at hSw)
              go_simp
              all_goals with_reducible rfl
            try simp only [List.getElem_toArray, List.getElem_cons_zero, List.getElem_cons_succ, Act.put, List.setIfInBounds_toArray, List.set_cons_zero, List.set_cons_succ]
            refine wpAnyH_take (i := 9) (v := _) rfl (by kernel_rfl) (by kernel_rfl) (by kernel_rfl) (fun _ _ _ h => h) (yieldsIf_load_mid (by rfl) _ _ rfl _ _ rfl _ _ ?pas9 Tryz.underlying34 rfl i33) (by assumption) ?par9
            case pas9 =>
              intro w hSw
              (try dsimp only at hSw)
              go_split_ands
              assumption
            try simp only [List.getElem_toArray, List.getElem_cons_zero, List.getElem_cons_succ, Act.put, List.setIfInBounds_toArray, List.set_cons_zero, List.set_cons_succ]
            refine wpAnyH_ready (rs := [10]) (by kernel_rfl) (by simp) ?_
            refine AllReadyH.cons rfl (fun K hK => ?_) AllReadyH.nil
            refine step_bld_g (by rfl) 47 _ rfl hbp (by first | kernel_rfl | simp [Act.eval]; rfl) ?_
            refine hK.out _ _ rr (fun hHeld => ?_)
            clear hK K
            try simp only [List.getElem_toArray, List.getElem_cons_zero, List.getElem_cons_succ, Act.put, List.setIfInBounds_toArray, List.set_cons_zero, List.set_cons_succ]
            refine wpAnyH_ready (rs := [11]) (by kernel_rfl) (by simp) ?_
            refine AllReadyH.cons rfl (fun K hK => ?_) AllReadyH.nil
            refine step_bsl_g (by rfl) 23 1 _ rfl hbs (by first | kernel_rfl | simp [Act.eval]) ?_
            refine hK.out _ _ (HCB.out _ HX0.out) (fun hHeld => ?_)
            clear hK K
            try simp only [List.getElem_toArray, List.getElem_cons_zero, List.getElem_cons_succ, Act.put, List.setIfInBounds_toArray, List.set_cons_zero, List.set_cons_succ]
            refine wpAnyH_ready (rs := [12]) (by kernel_rfl) (by simp) ?_
            refine AllReadyH.cons rfl (fun K hK => ?_) AllReadyH.nil
            refine step_append_run rfl (.tmp 104) (.tmp 115) 23 23 rfl (by first | rfl | simp [Act.eval]) (by first | rfl | simp [Act.eval]) hr3 ?_
            refine hK.out _ _ (HCB.out _ HX3.out) (fun hHeld => ?_)
            clear hK K
            try simp only [List.getElem_toArray, List.getElem_cons_zero, List.getElem_cons_succ, Act.put, List.setIfInBounds_toArray, List.set_cons_zero, List.set_cons_succ]
            refine wpAnyH_take (i := 13) (v := ?_) rfl (by kernel_rfl) (by kernel_rfl) (by kernel_rfl) (fun _ _ _ h => h) (Or.inl ⟨by rfl, ?pazy13⟩) (by assumption) ?pazr13
            case pazy13 =>
              intro w hSw
              (try dsimp only at hSw)
              go_simp
              all_goals with_reducible rfl
            try simp only [List.getElem_toArray, List.getElem_cons_zero, List.getElem_cons_succ, Act.put, List.setIfInBounds_toArray, List.set_cons_zero, List.set_cons_succ]
            refine wpAnyH_done (by kernel_rfl) ?_ _
            clear rr hr3 hbs hbp HCB HX0 HX3
            go_wp2_with fail
            go_roundw
            case rel => exact ⟨i, k + 1, a', m', c', xs ++ [yP sn zb], by omega, by omega, rfl, by first | rfl | go_num, by first | rfl | go_num, HO2⟩
            case measure => simp [intOf]; omega
          · have d3 := less_no (a := (B[k]'hkB).1.name) (b := (A[i]'hiA).1.name) q2
            have q3 : fk (A[i]'hiA) = fk (B[k]'hkB) := Classical.byContradiction fun hne => q2 (lt_or q1 hne)
            have hE := HEQ.out i k hiN hkK q3
            have HSM0 := HS.out i hiN k hkK
            by_cases hS : TSame (A[i]'hiA).1 (B[k]'hkB).1
            · rw [decide_eq_true hS] at HSM0
              rw [if_pos hS] at hE
              have HF : Hid (∀ V, Below wr.heap.size wr V → Rv W0 V (.slice a m c) xs A B (i + 1) (k + 1)) := fun V hV => HR.out.same hV hE (by omega)
              have HSM : Hid _ := HSM0
              clear HSM0 HA HB HS HLT HGT HEQ HFIN HDEL HPUT HR hVa hVb q1 q2 q3 hrb hE hS
              generalize (A[i]'hiA) = za at *
              generalize (B[k]'hkB) = zb at *
              generalize hsa : za.1.name = sa at *
              generalize hsn : zb.1.name = sn at *
              clear hsa hsn
              go_upto_region 8 with fail
              go_quiet (fail)
              go_upto_region 11 with fail
              go_quiet (fail)
              clear cA cB d2 d3
              go_upto_region 5 with fail
              refine wp_letter (fun X => Below wr.heap.size wr X) (by first | exact Go.below_drewN (Below.refl _ _) _ | exact Go.below_drewN (below_drewN (Below.refl _ _) _) _) ?_
              intro V8 hb8
              have hb9 : Below W0.heap.size W0 V8.drew := HW.out.trans (hb8.drew.mono HW.out.size)
              have C5 := HSM.out V8.drew hb9
              have KS : Hid (∀ V, Below W0.heap.size W0 V → V.rangeAt ba (oa + i * 33) (zc za) ∧ V.rangeAt bb (ob + k * 33) (zc zb)) := fun V hV => ⟨(HCA.out V hV).2, (HCB.out V hV).2⟩
              have rr := KS.out V8.drew hb9
              have HB8 : Hid (Below wr.heap.size wr V8.drew) := hb8.drew
              have HB9 : Hid (Below W0.heap.size W0 V8.drew) := hb9
              clear HSM HCA hb8 hb9 HCB
              refine wp_region_held_drew (S := fun V => V.rangeAt ba (oa + i * 33) (zc za) ∧ V.rangeAt bb (ob + k * 33) (zc zb)) (by kernel_rfl) rr (fun hHeld => ?_)
              refine wpAnyH_take (i := 0) (v := ?_) rfl (by kernel_rfl) (by kernel_rfl) (by kernel_rfl) (fun _ _ _ h => h) (Or.inl ⟨by rfl, ?s1y0⟩) (by assumption) ?s1r0
              case s1y0 =>
                intro w hSw
                (try dsimp only at hSw)
                go_simp
                all_goals with_reducible rfl
              try simp only [List.getElem_toArray, List.getElem_cons_zero, List.getElem_cons_succ, Act.put, List.setIfInBounds_toArray, List.set_cons_zero, List.set_cons_succ]
              refine wpAnyH_take (i := 1) (v := ?_) rfl (by kernel_rfl) (by kernel_rfl) (by kernel_rfl) (fun _ _ _ h => h) (Or.inl ⟨by rfl, ?s1y1⟩) (by assumption) ?s1r1
              case s1y1 =>
                intro w hSw
                (try dsimp only at hSw)
                go_simp
                all_goals with_reducible rfl
              try simp only [List.getElem_toArray, List.getElem_cons_zero, List.getElem_cons_succ, Act.put, List.setIfInBounds_toArray, List.set_cons_zero, List.set_cons_succ]
              refine wpAnyH_take (i := 2) (v := ?_) rfl (by kernel_rfl) (by kernel_rfl) (by kernel_rfl) (fun _ _ _ h => h) (Or.inl ⟨by rfl, ?s1y2⟩) (by assumption) ?s1r2
              case s1y2 =>
                intro w hSw
                (try dsimp only at hSw)
                go_simp
                all_goals with_reducible rfl
              try simp only [List.getElem_toArray, List.getElem_cons_zero, List.getElem_cons_succ, Act.put, List.setIfInBounds_toArray, List.set_cons_zero, List.set_cons_succ]
              refine wpAnyH_take (i := 3) (v := _) rfl (by kernel_rfl) (by kernel_rfl) (by kernel_rfl) (fun _ _ _ h => h) (yieldsIf_load_mid (by rfl) _ _ rfl _ _ rfl _ _ ?s1s3 Tryz.underlying34 rfl i33a) (by assumption) ?s1r3
              case s1s3 =>
                intro w hSw
                (try dsimp only at hSw)
                go_split_ands
                assumption
              try simp only [List.getElem_toArray, List.getElem_cons_zero, List.getElem_cons_succ, Act.put, List.setIfInBounds_toArray, List.set_cons_zero, List.set_cons_succ]
              refine wpAnyH_take (i := 4) (v := ?_) rfl (by kernel_rfl) (by kernel_rfl) (by kernel_rfl) (fun _ _ _ h => h) (Or.inl ⟨by rfl, ?s1y4⟩) (by assumption) ?s1r4
              case s1y4 =>
                intro w hSw
                (try dsimp only at hSw)
                go_simp
                all_goals with_reducible rfl
              try simp only [List.getElem_toArray, List.getElem_cons_zero, List.getElem_cons_succ, Act.put, List.setIfInBounds_toArray, List.set_cons_zero, List.set_cons_succ]
              refine wpAnyH_take (i := 5) (v := ?_) rfl (by kernel_rfl) (by kernel_rfl) (by kernel_rfl) (fun _ _ _ h => h) (Or.inl ⟨by rfl, ?s1y5⟩) (by assumption) ?s1r5
              case s1y5 =>
                intro w hSw
                (try dsimp only at hSw)
                go_simp
                all_goals with_reducible rfl
              try simp only [List.getElem_toArray, List.getElem_cons_zero, List.getElem_cons_succ, Act.put, List.setIfInBounds_toArray, List.set_cons_zero, List.set_cons_succ]
              refine wpAnyH_take (i := 6) (v := ?_) rfl (by kernel_rfl) (by kernel_rfl) (by kernel_rfl) (fun _ _ _ h => h) (Or.inl ⟨by rfl, ?s1y6⟩) (by assumption) ?s1r6
              case s1y6 =>
                intro w hSw
                (try dsimp only at hSw)
                go_simp
                all_goals with_reducible rfl
              try simp only [List.getElem_toArray, List.getElem_cons_zero, List.getElem_cons_succ, Act.put, List.setIfInBounds_toArray, List.set_cons_zero, List.set_cons_succ]
              refine wpAnyH_take (i := 7) (v := _) rfl (by kernel_rfl) (by kernel_rfl) (by kernel_rfl) (fun _ _ _ h => h) (yieldsIf_load_mid (by rfl) _ _ rfl _ _ rfl _ _ ?s1s7 Tryz.underlying34 rfl i33) (by assumption) ?s1r7
              case s1s7 =>
                intro w hSw
                (try dsimp only at hSw)
                go_split_ands
                assumption
              try simp only [List.getElem_toArray, List.getElem_cons_zero, List.getElem_cons_succ, Act.put, List.setIfInBounds_toArray, List.set_cons_zero, List.set_cons_succ]
              refine wpAnyH_ready (rs := [8]) (by kernel_rfl) (by simp) ?_
              refine AllReadyH.cons rfl (fun K hK => ?_) AllReadyH.nil
              go_simp
              with_reducible refine (C5).mono ?_
              rintro e V5 ⟨rfl, hb5⟩
              try go_wp2_with fail
              refine hK.out _ _ (KS.out _ (HB9.out.trans (hb5.mono HB9.out.size))) (fun hHeld => ?_)
              clear hK K
              try simp only [List.getElem_toArray, List.getElem_cons_zero, List.getElem_cons_succ, Act.put, List.setIfInBounds_toArray, List.set_cons_zero, List.set_cons_succ]
              refine wpAnyH_take (i := 9) (v := ?_) rfl (by kernel_rfl) (by kernel_rfl) (by kernel_rfl) (fun _ _ _ h => h) (Or.inl ⟨by rfl, ?s1y9⟩) (by assumption) ?s1r9
              case s1y9 =>
                intro w hSw
                (try dsimp only at hSw)
                go_simp
                all_goals with_reducible rfl
              try simp only [List.getElem_toArray, List.getElem_cons_zero, List.getElem_cons_succ, Act.put, List.setIfInBounds_toArray, List.set_cons_zero, List.set_cons_succ]
              refine wpAnyH_done (by kernel_rfl) ?_ _
              have hbw5 : Below wr.heap.size wr V5 := HB8.out.trans (hb5.mono HB8.out.size)
              clear rr C5 KS HB8 HB9 hb5
              have HG := HF.out V5 hbw5
              have HG2 : Hid (Rv W0 V5 (.slice a m c) xs A B (i + 1) (k + 1)) := HG
              clear HG HF hbw5
              go_wp2_with fail
              go_roundw
              case rel => exact ⟨i + 1, k + 1, a, m, c, xs, by omega, by omega, rfl, by go_num, by go_num, HG2⟩
              case measure => simp [intOf]; omega
            · rw [decide_eq_false hS] at HSM0
              rw [if_neg hS] at hE
              have HAD0 : Hid _ := HPUT.out (i + 1) (k + 1) (by omega) hE
              have HRV : Hid (∀ V, Below wr.heap.size wr V → Rv W0 V (.slice a m c) xs A B i k) := fun V hV => HR.out.same hV rfl (Nat.le_refl _)
              have HSM : Hid _ := HSM0
              clear HSM0 HA HB HS HLT HGT HEQ HFIN HDEL HPUT HR hVa hVb q1 q2 q3 hrb hE hS
              generalize (A[i]'hiA) = za at *
              generalize (B[k]'hkB) = zb at *
              generalize hsa : za.1.name = sa at *
              generalize hsn : zb.1.name = sn at *
              clear hsa hsn
              go_upto_region 8 with fail
              go_quiet (fail)
              go_upto_region 11 with fail
              go_quiet (fail)
              clear cA cB d2 d3
              go_upto_region 5 with fail
              refine wp_letter (fun X => Below wr.heap.size wr X) (by first | exact Go.below_drewN (Below.refl _ _) _ | exact Go.below_drewN (below_drewN (Below.refl _ _) _) _) ?_
              intro V8 hb8
              have hb9 : Below W0.heap.size W0 V8.drew := HW.out.trans (hb8.drew.mono HW.out.size)
              have C5 := HSM.out V8.drew hb9
              have KS : Hid (∀ V, Below W0.heap.size W0 V → V.rangeAt ba (oa + i * 33) (zc za) ∧ V.rangeAt bb (ob + k * 33) (zc zb)) := fun V hV => ⟨(HCA.out V hV).2, (HCB.out V hV).2⟩
              have rr := KS.out V8.drew hb9
              have HB8 : Hid (Below wr.heap.size wr V8.drew) := hb8.drew
              have HB9 : Hid (Below W0.heap.size W0 V8.drew) := hb9
              clear HSM HCA hb8 hb9
              refine wp_region_held_drew (S := fun V => V.rangeAt ba (oa + i * 33) (zc za) ∧ V.rangeAt bb (ob + k * 33) (zc zb)) (by kernel_rfl) rr (fun hHeld => ?_)
              refine wpAnyH_take (i := 0) (v := ?_) rfl (by kernel_rfl) (by kernel_rfl) (by kernel_rfl) (fun _ _ _ h => h) (Or.inl ⟨by rfl, ?s0y0⟩) (by assumption) ?s0r0
              case s0y0 =>
                intro w hSw
                (try dsimp only at hSw)
                go_simp
                all_goals with_reducible rfl
              try simp only [List.getElem_toArray, List.getElem_cons_zero, List.getElem_cons_succ, Act.put, List.setIfInBounds_toArray, List.set_cons_zero, List.set_cons_succ]
              refine wpAnyH_take (i := 1) (v := ?_) rfl (by kernel_rfl) (by kernel_rfl) (by kernel_rfl) (fun _ _ _ h => h) (Or.inl ⟨by rfl, ?s0y1⟩) (by assumption) ?s0r1
              case s0y1 =>
                intro w hSw
                (try dsimp only at hSw)
                go_simp
                all_goals with_reducible rfl
              try simp only [List.getElem_toArray, List.getElem_cons_zero, List.getElem_cons_succ, Act.put, List.setIfInBounds_toArray, List.set_cons_zero, List.set_cons_succ]
              refine wpAnyH_take (i := 2) (v := ?_) rfl (by kernel_rfl) (by kernel_rfl) (by kernel_rfl) (fun _ _ _ h => h) (Or.inl ⟨by rfl, ?s0y2⟩) (by assumption) ?s0r2
              case s0y2 =>
                intro w hSw
                (try dsimp only at hSw)
                go_simp
                all_goals with_reducible rfl
              try simp only [List.getElem_toArray, List.getElem_cons_zero, List.getElem_cons_succ, Act.put, List.setIfInBounds_toArray, List.set_cons_zero, List.set_cons_succ]
              refine wpAnyH_take (i := 3) (v := _) rfl (by kernel_rfl) (by kernel_rfl) (by kernel_rfl) (fun _ _ _ h => h) (yieldsIf_load_mid (by rfl) _ _ rfl _ _ rfl _ _ ?s0s3 Tryz.underlying34 rfl i33a) (by assumption) ?s0r3
              case s0s3 =>
                intro w hSw
                (try dsimp only at hSw)
                go_split_ands
                assumption
              try simp only [List.getElem_toArray, List.getElem_cons_zero, List.getElem_cons_succ, Act.put, List.setIfInBounds_toArray, List.set_cons_zero, List.set_cons_succ]
              refine wpAnyH_take (i := 4) (v := ?_) rfl (by kernel_rfl) (by kernel_rfl) (by kernel_rfl) (fun _ _ _ h => h) (Or.inl ⟨by rfl, ?s0y4⟩) (by assumption) ?s0r4
              case s0y4 =>
                intro w hSw
                (try dsimp only at hSw)
                go_simp
                all_goals with_reducible rfl
              try simp only [List.getElem_toArray, List.getElem_cons_zero, List.getElem_cons_succ, Act.put, List.setIfInBounds_toArray, List.set_cons_zero, List.set_cons_succ]
              refine wpAnyH_take (i := 5) (v := ?_) rfl (by kernel_rfl) (by kernel_rfl) (by kernel_rfl) (fun _ _ _ h => h) (Or.inl ⟨by rfl, ?s0y5⟩) (by assumption) ?s0r5
              case s0y5 =>
                intro w hSw
                (try dsimp only at hSw)
                go_simp
                all_goals with_reducible rfl
              try simp only [List.getElem_toArray, List.getElem_cons_zero, List.getElem_cons_succ, Act.put, List.setIfInBounds_toArray, List.set_cons_zero, List.set_cons_succ]
              refine wpAnyH_take (i := 6) (v := ?_) rfl (by kernel_rfl) (by kernel_rfl) (by kernel_rfl) (fun _ _ _ h => h) (Or.inl ⟨by rfl, ?s0y6⟩) (by assumption) ?s0r6
              case s0y6 =>
                intro w hSw
                (try dsimp only at hSw)
                go_simp
                all_goals with_reducible rfl
              try simp only [List.getElem_toArray, List.getElem_cons_zero, List.getElem_cons_succ, Act.put, List.setIfInBounds_toArray, List.set_cons_zero, List.set_cons_succ]
              refine wpAnyH_take (i := 7) (v := _) rfl (by kernel_rfl) (by kernel_rfl) (by kernel_rfl) (fun _ _ _ h => h) (yieldsIf_load_mid (by rfl) _ _ rfl _ _ rfl _ _ ?s0s7 Tryz.underlying34 rfl i33) (by assumption) ?s0r7
              case s0s7 =>
                intro w hSw
                (try dsimp only at hSw)
                go_split_ands
                assumption
              try simp only [List.getElem_toArray, List.getElem_cons_zero, List.getElem_cons_succ, Act.put, List.setIfInBounds_toArray, List.set_cons_zero, List.set_cons_succ]
              refine wpAnyH_ready (rs := [8]) (by kernel_rfl) (by simp) ?_
              refine AllReadyH.cons rfl (fun K hK => ?_) AllReadyH.nil
              go_simp
              with_reducible refine (C5).mono ?_
              rintro e V5 ⟨rfl, hb5⟩
              try go_wp2_with fail
              refine hK.out _ _ (KS.out _ (HB9.out.trans (hb5.mono HB9.out.size))) (fun hHeld => ?_)
              clear hK K
              try simp only [List.getElem_toArray, List.getElem_cons_zero, List.getElem_cons_succ, Act.put, List.setIfInBounds_toArray, List.set_cons_zero, List.set_cons_succ]
              refine wpAnyH_take (i := 9) (v := ?_) rfl (by kernel_rfl) (by kernel_rfl) (by kernel_rfl) (fun _ _ _ h => h) (Or.inl ⟨by rfl, ?s0y9⟩) (by assumption) ?s0r9
              case s0y9 =>
                intro w hSw
                (try dsimp only at hSw)
                go_simp
                all_goals with_reducible rfl
              try simp only [List.getElem_toArray, List.getElem_cons_zero, List.getElem_cons_succ, Act.put, List.setIfInBounds_toArray, List.set_cons_zero, List.set_cons_succ]
              refine wpAnyH_done (by kernel_rfl) ?_ _
              have hbw5 : Below wr.heap.size wr V5 := HB8.out.trans (hb5.mono HB8.out.size)
              clear rr C5 KS HB8 HB9 hb5
              have HRV5 := HRV.out V5 hbw5
              have HADD : Hid _ := HAD0.out V5 HRV5
              have HW5 : Hid (Below W0.heap.size W0 V5) := HRV5.below
              clear HRV HRV5 HAD0 hbw5 HW
              have HW := HW5
              clear HW5
              go_upto_region 6 with fail
              obtain ⟨hbs, a', m', c', V3, hr3, hRF⟩ := HADD.out V5.drew (Below.refl V5.heap.size V5).drew
              have hbp := build_p sn zb hlb V5.drew
              have HO2 : Hid (Rv W0 V3 (.slice a' m' c') (xs ++ [yP sn zb]) A B (i + 1) (k + 1)) := hRF
              have hb9 : Below W0.heap.size W0 V5.drew := HW.out.trans ((Below.refl V5.heap.size V5).drew.mono HW.out.size)
              have rr := HCB.out V5.drew hb9
              have HX0 : Hid (Below W0.heap.size W0 (V5.drew.alloc (.cells (yc (yP sn zb)).toArray 47))) := hb9.alloc hb9.size _
              have HX3 : Hid (Below W0.heap.size W0 V3) := hRF.below
              clear HADD hRF hb9
              refine wp_region_held_drew (S := fun V => V.cell? ⟨bb, ob + k * 33, none⟩ = some (.string sn) ∧ V.rangeAt bb (ob + k * 33) (zc zb)) (by kernel_rfl) rr (fun hHeld => ?_)
              refine wpAnyH_take (i := 0) (v := ?_) rfl (by kernel_rfl) (by kernel_rfl) (by kernel_rfl) (fun _ _ _ h => h) (Or.inl ⟨by rfl, ?pcy0⟩) (by assumption) ?pcr0
              case pcy0 =>
                intro w hSw
                (try dsimp only at hSw)
                go_simp
                all_goals with_reducible rfl
              try simp only [List.getElem_toArray, List.getElem_cons_zero, List.getElem_cons_succ, Act.put, List.setIfInBounds_toArray, List.set_cons_zero, List.set_cons_succ]
              refine wpAnyH_take (i := 1) (v := ?_) rfl (by kernel_rfl) (by kernel_rfl) (by kernel_rfl) (fun _ _ _ h => h) (Or.inl ⟨by rfl, ?pcy1⟩) (by assumption) ?pcr1
              case pcy1 =>
                intro w hSw
                (try dsimp only at hSw)
                go_simp
                all_goals with_reducible rfl
              try simp only [List.getElem_toArray, List.getElem_cons_zero, List.getElem_cons_succ, Act.put, List.setIfInBounds_toArray, List.set_cons_zero, List.set_cons_succ]
              refine wpAnyH_take (i := 2) (v := ?_) rfl (by kernel_rfl) (by kernel_rfl) (by kernel_rfl) (fun _ _ _ h => h) (Or.inl ⟨by rfl, ?pcy2⟩) (by assumption) ?pcr2
              case pcy2 =>
                intro w hSw
                (try dsimp only at hSw)
                go_simp
                all_goals with_reducible rfl
              try simp only [List.getElem_toArray, List.getElem_cons_zero, List.getElem_cons_succ, Act.put, List.setIfInBounds_toArray, List.set_cons_zero, List.set_cons_succ]
              refine wpAnyH_take (i := 3) (v := ?_) rfl (by kernel_rfl) (by kernel_rfl) (by kernel_rfl) (fun _ _ _ h => h) (Or.inl ⟨by rfl, ?pcy3⟩) (by assumption) ?pcr3
              case pcy3 =>
                intro w hSw
                (try dsimp only at hSw)
                go_simp
                all_goals with_reducible rfl
              try simp only [List.getElem_toArray, List.getElem_cons_zero, List.getElem_cons_succ, Act.put, List.setIfInBounds_toArray, List.set_cons_zero, List.set_cons_succ]
              refine wpAnyH_take (i := 4) (v := ?_) rfl (by kernel_rfl) (by kernel_rfl) (by kernel_rfl) (fun _ _ _ h => h) (Or.inl ⟨by rfl, ?pcy4⟩) (by assumption) ?pcr4
              case pcy4 =>
                intro w hSw
                (try dsimp only at hSw)
                go_simp
                all_goals with_reducible rfl
              try simp only [List.getElem_toArray, List.getElem_cons_zero, List.getElem_cons_succ, Act.put, List.setIfInBounds_toArray, List.set_cons_zero, List.set_cons_succ]
              refine wpAnyH_take (i := 5) (v := ?_) rfl (by kernel_rfl) (by kernel_rfl) (by kernel_rfl) (fun _ _ _ h => h) (Or.inl ⟨by rfl, ?pcy5⟩) (by assumption) ?pcr5
              case pcy5 =>
                intro w hSw
                (try dsimp only at hSw)
                have hS1 := hSw.1
                go_simp
                all_goals with_reducible rfl
              try simp only [List.getElem_toArray, List.getElem_cons_zero, List.getElem_cons_succ, Act.put, List.setIfInBounds_toArray, List.set_cons_zero, List.set_cons_succ]
              refine wpAnyH_take (i := 6) (v := ?_) rfl (by kernel_rfl) (by kernel_rfl) (by kernel_rfl) (fun _ _ _ h => h) (Or.inl ⟨by rfl, ?pcy6⟩) (by assumption) ?pcr6
              case pcy6 =>
                intro w hSw
                (try dsimp only at hSw)
                go_simp
                all_goals with_reducible rfl
              try simp only [List.getElem_toArray, List.getElem_cons_zero, List.getElem_cons_succ, Act.put, List.setIfInBounds_toArray, List.set_cons_zero, List.set_cons_succ]
              refine wpAnyH_take (i := 7) (v := ?_) rfl (by kernel_rfl) (by kernel_rfl) (by kernel_rfl) (fun _ _ _ h => h) (Or.inl ⟨by rfl, ?pcy7⟩) (by assumption) ?pcr7
              case pcy7 =>
                intro w hSw
                (try dsimp only at hSw)
                go_simp
                all_goals with_reducible rfl
              try simp only [List.getElem_toArray, List.getElem_cons_zero, List.getElem_cons_succ, Act.put, List.setIfInBounds_toArray, List.set_cons_zero, List.set_cons_succ]
              refine wpAnyH_take (i := 8) (v := ?_) rfl (by kernel_rfl) (by kernel_rfl) (by kernel_rfl) (fun _ _ _ h => h) (Or.inl ⟨by rfl, ?pcy8⟩) (by assumption) ?pcr8
              case pcy8 =>
                intro w hSw
                (try dsimp only at hSw)
                go_simp
                all_goals with_reducible rfl
              try simp only [List.getElem_toArray, List.getElem_cons_zero, List.getElem_cons_succ, Act.put, List.setIfInBounds_toArray, List.set_cons_zero, List.set_cons_succ]
              refine wpAnyH_take (i := 9) (v := _) rfl (by kernel_rfl) (by kernel_rfl) (by kernel_rfl) (fun _ _ _ h => h) (yieldsIf_load_mid (by rfl) _ _ rfl _ _ rfl _ _ ?pcs9 Tryz.underlying34 rfl i33) (by assumption) ?pcr9
              case pcs9 =>
                intro w hSw
                (try dsimp only at hSw)
                go_split_ands
                assumption
              try simp only [List.getElem_toArray, List.getElem_cons_zero, List.getElem_cons_succ, Act.put, List.setIfInBounds_toArray, List.set_cons_zero, List.set_cons_succ]
              refine wpAnyH_ready (rs := [10]) (by kernel_rfl) (by simp) ?_
              refine AllReadyH.cons rfl (fun K hK => ?_) AllReadyH.nil
              refine step_bld_g (by rfl) 47 _ rfl hbp (by first | kernel_rfl | simp [Act.eval]; rfl) ?_
              refine hK.out _ _ rr (fun hHeld => ?_)
              clear hK K
              try simp only [List.getElem_toArray, List.getElem_cons_zero, List.getElem_cons_succ, Act.put, List.setIfInBounds_toArray, List.set_cons_zero, List.set_cons_succ]
              refine wpAnyH_ready (rs := [11]) (by kernel_rfl) (by simp) ?_
              refine AllReadyH.cons rfl (fun K hK => ?_) AllReadyH.nil
              refine step_bsl_g (by rfl) 23 1 _ rfl hbs (by first | kernel_rfl | simp [Act.eval]) ?_
              refine hK.out _ _ (HCB.out _ HX0.out) (fun hHeld => ?_)
              clear hK K
              try simp only [List.getElem_toArray, List.getElem_cons_zero, List.getElem_cons_succ, Act.put, List.setIfInBounds_toArray, List.set_cons_zero, List.set_cons_succ]
              refine wpAnyH_ready (rs := [12]) (by kernel_rfl) (by simp) ?_
              refine AllReadyH.cons rfl (fun K hK => ?_) AllReadyH.nil
              refine step_append_run rfl (.tmp 34) (.tmp 45) 23 23 rfl (by first | rfl | simp [Act.eval]) (by first | rfl | simp [Act.eval]) hr3 ?_
              refine hK.out _ _ (HCB.out _ HX3.out) (fun hHeld => ?_)
              clear hK K
              try simp only [List.getElem_toArray, List.getElem_cons_zero, List.getElem_cons_succ, Act.put, List.setIfInBounds_toArray, List.set_cons_zero, List.set_cons_succ]
              refine wpAnyH_take (i := 13) (v := ?_) rfl (by kernel_rfl) (by kernel_rfl) (by kernel_rfl) (fun _ _ _ h => h) (Or.inl ⟨by rfl, ?pczy13⟩) (by assumption) ?pczr13
              case pczy13 =>
                intro w hSw
                (try dsimp only at hSw)
                go_simp
                all_goals with_reducible rfl
              try simp only [List.getElem_toArray, List.getElem_cons_zero, List.getElem_cons_succ, Act.put, List.setIfInBounds_toArray, List.set_cons_zero, List.set_cons_succ]
              refine wpAnyH_done (by kernel_rfl) ?_ _
              clear rr hr3 hbs hbp HCB HX0 HX3
              go_wp2_with fail
              go_roundw
              case rel => exact ⟨i + 1, k + 1, a', m', c', xs ++ [yP sn zb], by omega, by omega, rfl, by first | rfl | go_num, by first | rfl | go_num, HO2⟩
              case measure => simp [intOf]; omega
      · have h2 : ¬ (k : Int) < K := by omega
        obtain rfl : k = K := by omega
        have HADD : Hid _ := HDEL.out (fun h => absurd h (by omega))
        clear HA HB HS HLT HGT HEQ HFIN HDEL HR hVa
        generalize (A[i]'hiA).1.name = sa at *
        go_upto_region 8 with fail
        go_quiet (fail)
        go_upto_region 9 with fail
        refine wp_letter (fun X => Below wr.heap.size wr X) (by first | exact Go.below_drewN (Below.refl _ _) _ | exact Go.below_drewN (below_drewN (Below.refl _ _) _) _) ?_
        intro V8 hb8
        obtain ⟨hbs, a', m', c', V3, hr3, hRF⟩ := HADD.out V8 hb8
        have hbn := build_n sa V8
        have HO2 : Hid (Rv W0 V3 (.slice a' m' c') (xs ++ [yN sa]) A B (i + 1) k) := hRF
        have cA := (HCA.out V8 (HW.out.trans (hb8.mono HW.out.size))).1
        clear HADD hRF HCA hb8 HW
        go_wp2_with (first | (refine wpList_bld rfl 47 _ (by with_reducible rfl) hbn (by first | kernel_rfl | rfl | simp [Act.eval]) ?_) | (refine wpList_bsl rfl 23 1 #[(0, .tmp 81)] (by with_reducible rfl) hbs (by first | kernel_rfl | rfl | simp [Act.eval]) ?_) | (at_builtin; refine wpList_append_run (.tmp 75) (.tmp 82) 23 23 (by with_reducible rfl) hr3 rfl rfl (by first | rfl | simp [Act.eval]) (by first | rfl | simp [Act.eval]) ?_) | fail)
        go_roundw
        case rel => exact ⟨i + 1, k, a', m', c', xs ++ [yN sa], by omega, by omega, rfl, by go_num, rfl, HO2⟩
        case measure => simp [intOf]; omega
    · have h1 : ¬ (i : Int) < N := by omega
      obtain rfl : i = N := by omega
      have d1 : decide ((i : Int) < i) = false := decide_eq_false h1
      by_cases hkK : k < K
      · have h2 : (k : Int) < K := by omega
        have e2 : ((k : Int) == (K : Int)) = false := by rw [beq_eq_false_iff_ne]; omega
        have hkB : k < B.length := by omega
        obtain ⟨⟨bb, ob, rfl, hVb⟩, hlb, hrb⟩ := HB.out k hkK
        have HCB : Hid (∀ V, Below W0.heap.size W0 V → V.cell? ⟨bb, ob + k * 33, none⟩ = some (.string (B[k]'hkB).1.name) ∧ V.rangeAt bb (ob + k * 33) (zc (B[k]'hkB))) := hVb
        have i33 : (Tryz.prog.info? 34).map (·.size) = some (zc (B[k]'hkB)).length := by rw [zc33 hlb]; kernel_rfl
        have HPUT : Hid (∀ i' k', i + k + 1 ≤ i' + k' → lft A B i k = ⟨true, (B[k]'hkB).1.name, (B[k]'hkB).1⟩ :: lft A B i' k' → ∀ W, Rv W0 W (.slice a m c) xs A B i k → ∀ V, Below W.heap.size W V → (Instr.buildSlice 23 1 #[(0, .agg (yc (yP (B[k]'hkB).1.name (B[k]'hkB))).toArray)]).run Tryz.prog V = .ok (.slice (some ⟨V.heap.size, 0, none⟩) 1 1) (V.alloc (.cells (yc (yP (B[k]'hkB).1.name (B[k]'hkB))).toArray 47)) ∧
            ∃ a' m' c' V', (Builtin.append_ #[23, 23] 23 #[.slice a m c, .slice (some ⟨V.heap.size, 0, none⟩) 1 1]).run Tryz.prog (V.alloc (.cells (yc (yP (B[k]'hkB).1.name (B[k]'hkB))).toArray 47)) = .ok (.slice a' m' c') V' ∧ Rv W0 V' (.slice a' m' c') (xs ++ [yP (B[k]'hkB).1.name (B[k]'hkB)]) A B i' k') :=
          fun i' k' h1 h2 W hW V hV => hW.add (by omega) (yP (B[k]'hkB).1.name (B[k]'hkB)) hlb hrb h2 h1 hV
        have HADD : Hid _ := HPUT.out i (k + 1) (by omega) (HGT.out i k hkK (fun h => absurd h (by omega))) wr HR.out
        clear HA HB HS HLT HGT HEQ HFIN HPUT HR hVb hrb
        generalize (B[k]'hkB) = zb at *
        generalize hsn : zb.1.name = sn at *
        clear hsn
        go_upto_region 8 with fail
        go_quiet (fail)
        go_upto_region 11 with fail
        go_quiet (fail)
        go_upto_region 12 with fail
        refine wp_letter (fun X => Below wr.heap.size wr X) (by first | exact Go.below_drewN (Below.refl _ _) _ | exact Go.below_drewN (below_drewN (Below.refl _ _) _) _) ?_
        intro V8 hb8
        obtain ⟨hbs, a', m', c', V3, hr3, hRF⟩ := HADD.out V8.drew hb8.drew
        have hbp := build_p sn zb hlb V8.drew
        have HO2 : Hid (Rv W0 V3 (.slice a' m' c') (xs ++ [yP sn zb]) A B (i) (k + 1)) := hRF
        have hb9 : Below W0.heap.size W0 V8.drew := HW.out.trans (hb8.drew.mono HW.out.size)
        have rr := HCB.out V8.drew hb9
        have HX0 : Hid (Below W0.heap.size W0 (V8.drew.alloc (.cells (yc (yP sn zb)).toArray 47))) := hb9.alloc hb9.size _
        have HX3 : Hid (Below W0.heap.size W0 V3) := hRF.below
        clear HADD hRF hb8 hb9
        refine wp_region_held_drew (S := fun V => V.cell? ⟨bb, ob + k * 33, none⟩ = some (.string sn) ∧ V.rangeAt bb (ob + k * 33) (zc zb)) (by kernel_rfl) rr (fun hHeld => ?_)
        refine wpAnyH_take (i := 0) (v := ?_) rfl (by kernel_rfl) (by kernel_rfl) (by kernel_rfl) (fun _ _ _ h => h) (Or.inl ⟨by rfl, ?pby0⟩) (by assumption) ?pbr0
        case pby0 =>
          intro w hSw
          (try dsimp only at hSw)
          go_simp
          all_goals with_reducible rfl
        try simp only [List.getElem_toArray, List.getElem_cons_zero, List.getElem_cons_succ, Act.put, List.setIfInBounds_toArray, List.set_cons_zero, List.set_cons_succ]
        refine wpAnyH_take (i := 1) (v := ?_) rfl (by kernel_rfl) (by kernel_rfl) (by kernel_rfl) (fun _ _ _ h => h) (Or.inl ⟨by rfl, ?pby1⟩) (by assumption) ?pbr1
        case pby1 =>
          intro w hSw
          (try dsimp only at hSw)
          go_simp
          all_goals with_reducible rfl
        try simp only [List.getElem_toArray, List.getElem_cons_zero, List.getElem_cons_succ, Act.put, List.setIfInBounds_toArray, List.set_cons_zero, List.set_cons_succ]
        refine wpAnyH_take (i := 2) (v := ?_) rfl (by kernel_rfl) (by kernel_rfl) (by kernel_rfl) (fun _ _ _ h => h) (Or.inl ⟨by rfl, ?pby2⟩) (by assumption) ?pbr2
        case pby2 =>
          intro w hSw
          (try dsimp only at hSw)
          go_simp
          all_goals with_reducible rfl
        try simp only [List.getElem_toArray, List.getElem_cons_zero, List.getElem_cons_succ, Act.put, List.setIfInBounds_toArray, List.set_cons_zero, List.set_cons_succ]
        refine wpAnyH_take (i := 3) (v := ?_) rfl (by kernel_rfl) (by kernel_rfl) (by kernel_rfl) (fun _ _ _ h => h) (Or.inl ⟨by rfl, ?pby3⟩) (by assumption) ?pbr3
        case pby3 =>
          intro w hSw
          (try dsimp only at hSw)
          go_simp
          all_goals with_reducible rfl
        try simp only [List.getElem_toArray, List.getElem_cons_zero, List.getElem_cons_succ, Act.put, List.setIfInBounds_toArray, List.set_cons_zero, List.set_cons_succ]
        refine wpAnyH_take (i := 4) (v := ?_) rfl (by kernel_rfl) (by kernel_rfl) (by kernel_rfl) (fun _ _ _ h => h) (Or.inl ⟨by rfl, ?pby4⟩) (by assumption) ?pbr4
        case pby4 =>
          intro w hSw
          (try dsimp only at hSw)
          go_simp
          all_goals with_reducible rfl
        try simp only [List.getElem_toArray, List.getElem_cons_zero, List.getElem_cons_succ, Act.put, List.setIfInBounds_toArray, List.set_cons_zero, List.set_cons_succ]
        refine wpAnyH_take (i := 5) (v := ?_) rfl (by kernel_rfl) (by kernel_rfl) (by kernel_rfl) (fun _ _ _ h => h) (Or.inl ⟨by rfl, ?pby5⟩) (by assumption) ?pbr5
        case pby5 =>
          intro w hSw
          (try dsimp only at hSw)
          have hS1 := hSw.1
          go_simp
          all_goals with_reducible rfl
        try simp only [List.getElem_toArray, List.getElem_cons_zero, List.getElem_cons_succ, Act.put, List.setIfInBounds_toArray, List.set_cons_zero, List.set_cons_succ]
        refine wpAnyH_take (i := 6) (v := ?_) rfl (by kernel_rfl) (by kernel_rfl) (by kernel_rfl) (fun _ _ _ h => h) (Or.inl ⟨by rfl, ?pby6⟩) (by assumption) ?pbr6
        case pby6 =>
          intro w hSw
          (try dsimp only at hSw)
          go_simp
          all_goals with_reducible rfl
        try simp only [List.getElem_toArray, List.getElem_cons_zero, List.getElem_cons_succ, Act.put, List.setIfInBounds_toArray, List.set_cons_zero, List.set_cons_succ]
        refine wpAnyH_take (i := 7) (v := ?_) rfl (by kernel_rfl) (by kernel_rfl) (by kernel_rfl) (fun _ _ _ h => h) (Or.inl ⟨by rfl, ?pby7⟩) (by assumption) ?pbr7
        case pby7 =>
          intro w hSw
          (try dsimp only at hSw)
          go_simp
          all_goals with_reducible rfl
        try simp only [List.getElem_toArray, List.getElem_cons_zero, List.getElem_cons_succ, Act.put, List.setIfInBounds_toArray, List.set_cons_zero, List.set_cons_succ]
        refine wpAnyH_take (i := 8) (v := ?_) rfl (by kernel_rfl) (by kernel_rfl) (by kernel_rfl) (fun _ _ _ h => h) (Or.inl ⟨by rfl, ?pby8⟩) (by assumption) ?pbr8
        case pby8 =>
          intro w hSw
          (try dsimp only at hSw)
          go_simp
          all_goals with_reducible rfl
        try simp only [List.getElem_toArray, List.getElem_cons_zero, List.getElem_cons_succ, Act.put, List.setIfInBounds_toArray, List.set_cons_zero, List.set_cons_succ]
        refine wpAnyH_take (i := 9) (v := _) rfl (by kernel_rfl) (by kernel_rfl) (by kernel_rfl) (fun _ _ _ h => h) (yieldsIf_load_mid (by rfl) _ _ rfl _ _ rfl _ _ ?pbs9 Tryz.underlying34 rfl i33) (by assumption) ?pbr9
        case pbs9 =>
          intro w hSw
          (try dsimp only at hSw)
          go_split_ands
          assumption
        try simp only [List.getElem_toArray, List.getElem_cons_zero, List.getElem_cons_succ, Act.put, List.setIfInBounds_toArray, List.set_cons_zero, List.set_cons_succ]
        refine wpAnyH_ready (rs := [10]) (by kernel_rfl) (by simp) ?_
        refine AllReadyH.cons rfl (fun K hK => ?_) AllReadyH.nil
        refine step_bld_g (by rfl) 47 _ rfl hbp (by first | kernel_rfl | simp [Act.eval]; rfl) ?_
        refine hK.out _ _ rr (fun hHeld => ?_)
        clear hK K
        try simp only [List.getElem_toArray, List.getElem_cons_zero, List.getElem_cons_succ, Act.put, List.setIfInBounds_toArray, List.set_cons_zero, List.set_cons_succ]
        refine wpAnyH_ready (rs := [11]) (by kernel_rfl) (by simp) ?_
        refine AllReadyH.cons rfl (fun K hK => ?_) AllReadyH.nil
        refine step_bsl_g (by rfl) 23 1 _ rfl hbs (by first | kernel_rfl | simp [Act.eval]) ?_
        refine hK.out _ _ (HCB.out _ HX0.out) (fun hHeld => ?_)
        clear hK K
        try simp only [List.getElem_toArray, List.getElem_cons_zero, List.getElem_cons_succ, Act.put, List.setIfInBounds_toArray, List.set_cons_zero, List.set_cons_succ]
        refine wpAnyH_ready (rs := [12]) (by kernel_rfl) (by simp) ?_
        refine AllReadyH.cons rfl (fun K hK => ?_) AllReadyH.nil
        refine step_append_run rfl (.tmp 104) (.tmp 115) 23 23 rfl (by first | rfl | simp [Act.eval]) (by first | rfl | simp [Act.eval]) hr3 ?_
        refine hK.out _ _ (HCB.out _ HX3.out) (fun hHeld => ?_)
        clear hK K
        try simp only [List.getElem_toArray, List.getElem_cons_zero, List.getElem_cons_succ, Act.put, List.setIfInBounds_toArray, List.set_cons_zero, List.set_cons_succ]
        refine wpAnyH_take (i := 13) (v := ?_) rfl (by kernel_rfl) (by kernel_rfl) (by kernel_rfl) (fun _ _ _ h => h) (Or.inl ⟨by rfl, ?pbzy13⟩) (by assumption) ?pbzr13
        case pbzy13 =>
          intro w hSw
          (try dsimp only at hSw)
          go_simp
          all_goals with_reducible rfl
        try simp only [List.getElem_toArray, List.getElem_cons_zero, List.getElem_cons_succ, Act.put, List.setIfInBounds_toArray, List.set_cons_zero, List.set_cons_succ]
        refine wpAnyH_done (by kernel_rfl) ?_ _
        clear rr hr3 hbs hbp HCB HX0 HX3
        go_wp2_with fail
        go_roundw
        case rel => exact ⟨i, k + 1, a', m', c', xs ++ [yP sn zb], by omega, by omega, rfl, by first | rfl | go_num, by first | rfl | go_num, HO2⟩
        case measure => simp [intOf]; omega
      · have h2 : ¬ (k : Int) < K := by omega
        obtain rfl : k = K := by omega
        have HF := HFIN.out _ _ _ HR.out
        have HF2 : Hid (YV wr (.slice a m c) xs ∧ xs.map Prod.fst = dif (A.map Prod.fst) (B.map Prod.fst) ∧ Below w.heap.size w wr) := ⟨HF.1, HF.2, HBW.out.trans (HW.out.mono HBW.out.size)⟩
        clear HA HB HS HLT HGT HEQ HFIN HR HF
        go_wp2_with fail
        go_ret
        exact ⟨_, rfl, xs, HF2.out⟩
end Df
end Go.Proofs.YtbccadbnaggkhaaGreat

