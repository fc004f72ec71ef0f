/-
  What is changed: the document's set, walked.
-/
import Derived.Test.YtbccadbnaggkhaaGreatKE39
import Derived.Test.YtbccadbnaggkhaaGreatKE17
import Derived.BigQuiet
namespace Go.Proofs.YtbccadbnaggkhaaGreat
open Go.RowKit
open Sm
open Cf
open Df
set_option linter.unusedVariables false
set_option linter.unusedSimpArgs false
set_option maxRecDepth 20000

namespace Df
set_option maxHeartbeats 16000000 in
theorem rset_any {w W : World} {v : Value} {zs : List Tv} {z : Tv} {again : Bool} (hO : Dl w W v zs) (hl : ∀ y ∈ zs, TLen y.1) (ho : ∀ y ∈ zs, (zc y).toArray.all (·.oneCell') = true) (hz : TLen z.1) (hzo : (zc z).toArray.all (·.oneCell') = true) (hn : zs.length ≤ 1000) :
    Calls Tryz.prog 25 #[v, tv z, .bool again] W fun e W' => ∃ a n c, e = .returned (.slice a n c) ∧ Dl w W' (.slice a n c) (put fk z again zs) := by
  obtain ⟨a0, c0, hv, hc1, hc2, -⟩ := hO.slice
  subst hv
  have HB0 : Hid (Below w.heap.size w W) := hO.below
  -- what is read of the list at its places
  have HRD : Hid (∀ k (hk : k < zs.length), ∃ b off, a0 = some ⟨b, off, none⟩ ∧ ∀ V, Below W.heap.size W V → V.cell? ⟨b, off + k * 33, none⟩ = some (.string zs[k].1.name)) := by
    intro k hk
    obtain ⟨b, off, e1, hc⟩ := rw_at (hO.rw hl) k (by rw [List.length_map]; exact hk)
    refine ⟨b, off, e1, fun V hV => ?_⟩
    have := hc 0 (.string zs[k].1.name) (by simp [List.getD, List.getElem?_eq_getElem hk]; rfl)
    rw [Nat.add_zero] at this
    rw [hV.cell (p := ⟨b, off + k * 33, none⟩) (cell_lt this)]
    exact this
  have HPT : Hid (∀ k, k ≤ zs.length → ∃ a s2, (∀ V, (Instr.slice 22 (.slice a0 zs.length c0) none (some (.int .i64 (k : Int))) (some (.int .i64 (k : Int)))).run Tryz.prog V = .ok (.slice a k k) V) ∧ (∀ V, (Instr.slice 22 (.slice a0 zs.length c0) (some (.int .i64 (k : Int))) none none).run Tryz.prog V = .ok s2 V) ∧ (∃ a2 m2 c2, s2 = .slice a2 m2 c2) ∧
      ∀ V, Below W.heap.size W V → ∃ a1 m1 d1 X1, (Builtin.append_ #[22, 22] 22 #[.slice (some ⟨V.heap.size, 0, none⟩) 1 1, s2]).run Tryz.prog (V.alloc (.cells (zc z).toArray 34)) = .ok (.slice a1 m1 d1) X1 ∧ Below V.heap.size V X1 ∧
      ∃ v2 X2, (Builtin.append_ #[22, 22] 22 #[.slice a k k, .slice a1 m1 d1]).run Tryz.prog X1 = .ok v2 X2 ∧ Below V.heap.size V X2 ∧ Dl w X2 v2 (zs.take k ++ z :: zs.drop k)) := by
    intro k hk
    obtain ⟨a, s2, p1, p2, p3, p4, p5, -⟩ := dl_parts hO hl hk
    refine ⟨a, s2, p1, p2, p3, fun V hV => ?_⟩
    exact set_app (v := .slice none 0 0) hk hl ho hz hzo hn (hO.below.trans (hV.mono hO.below.size)) (p4.below zc_ne hV (Nat.le_refl _)) ⟨a, rfl⟩ (p5.below zc_ne hV (Nat.le_refl _))
  have HPH : Hid (∀ k, k ≤ zs.length → (∀ j (hj : j < zs.length), j < k → fk (zs[j]'hj) < fk z) → (∀ h : k < zs.length, ¬ fk zs[k] < fk z) → ((∃ h : k < zs.length, fk zs[k] = fk z) → put fk z again zs = if again then zs.set k z else zs) ∧ ((∀ h : k < zs.length, fk zs[k] ≠ fk z) → put fk z again zs = zs.take k ++ z :: zs.drop k)) := fun k hk h1 h2 => put_here hk h1 h2
  have HDL : Hid (Dl w W (.slice a0 zs.length c0) zs) := hO
  have hbz : ∀ V, (Instr.buildSlice 22 1 #[(0, .agg (zc z).toArray)]).run Tryz.prog V = .ok (.slice (some ⟨V.heap.size, 0, none⟩) 1 1) (V.alloc (.cells (zc z).toArray 34)) := fun V => bsliceT z hz V
  obtain ⟨gb, hgb⟩ : ∃ g, W.heap.size = g := ⟨_, rfl⟩
  have HM0 : Hid (Mem W (W.alloc (.cells (zc z).toArray 34)) [(gb, .cells (zc z).toArray 34 (0, 0))]) := (Mem.nil W).push1 hgb.symm
  have HBX : Hid (∀ V, Mem W V [(gb, .cells (zc z).toArray 34 (0, 0))] → V.cell? ⟨gb, 0, none⟩ = some (.string z.1.name) ∧ V.rangeAt gb 0 (zc z) ∧ V.heap[gb]? = some (.cells (zc z).toArray 34 (0, 0))) := by
    intro V hV
    refine ⟨by rw [hV.cell 0 rfl]; exact (tc_at hz _ _ _).1, fun j u hj => by rw [Nat.zero_add, hV.cell 0 rfl]; simpa using hj, hV.get 0 rfl⟩
  have i33 : (Tryz.prog.info? 34).map (·.size) = some (zc z).length := by rw [zc33 hz]; kernel_rfl
  have j33 : (Tryz.prog.info? 34).map (·.size) = some (zc z).toArray.size := by rw [zc_sz hz]; kernel_rfl
  -- l[at] = t
  have HST : Hid (∀ k (hk : k < zs.length) V, Below W.heap.size W V → ∃ g, a0 = some ⟨g, 0, none⟩ ∧ V.there g (k * 33) 33 ∧ Dl w (V.setCells g (k * 33) (zc z)) (.slice a0 zs.length c0) (zs.set k z)) := fun k hk V hV => dl_set hO hl hz hk hV
  have hzo' : (zc z).toArray.all (·.oneCell') = true := hzo
  have z33 : (zc z).toArray.size = 33 := zc_sz hz
  clear hO hl ho hzo hz
  obtain ⟨N, hN⟩ : ∃ N, zs.length = N := ⟨_, rfl⟩
  rw [hN] at hc1 hn HDL
  simp only [hN] at HRD HPT HST ⊢
  show Calls Tryz.prog 25 #[.slice a0 N c0, .agg (zc z).toArray, .bool again] W _
  go_enter Tryz.func25, Tryz.ntmps25
  go_upto_region 1 with fail
  refine wp_letter (fun X => Mem W X [(gb, .cells (zc z).toArray 34 (0, 0))]) (by exact HM0.out) ?_
  intro V0 hM0
  try simp only [hgb]
  have H0 : Hid (Mem W V0 [(gb, .cells (zc z).toArray 34 (0, 0))]) := hM0
  clear HM0 hM0 hgb
  go_wp2_with fail
  go_loopw [7] (fun u7 w' => ∃ k : Nat, k ≤ N ∧ u7 = .int .i64 k ∧ Hid (Mem W w' [(gb, .cells (zc z).toArray 34 (0, 0))] ∧ ∀ j (hj : j < zs.length), j < k → fk zs[j] < fk z)) (fun u7 w' => N - (intOf u7).toNat)
  case atStart => exact ⟨0, Nat.zero_le _, rfl, H0.out, fun j _ h => absurd h (by omega)⟩
  case round =>
    obtain ⟨k, hk, rfl, HR⟩ := hrel
    clear H0
    obtain ⟨cb, -, -⟩ := HBX.out _ HR.out.1
    by_cases hlt : k < N
    · have h1 : (k : Int) < N := by omega
      have d1 : decide ((k : Int) < N) = true := decide_eq_true h1
      have hkz : k < zs.length := by omega
      obtain ⟨b, off, rfl, hV⟩ := HRD.out k hlt
      have cz0 := hV _ HR.out.1.below
      by_cases q : fk (zs[k]'hkz) < fk z
      · have d2 := less_yes (a := (zs[k]'hkz).1.name) (b := z.1.name) q
        have HF : Hid (∀ m, Mem W (wr.drewN m) [(gb, .cells (zc z).toArray 34 (0, 0))] ∧ ∀ j (hj : j < zs.length), j < k + 1 → fk zs[j] < fk z) := by
          intro m
          refine ⟨HR.out.1.drewN m, fun j hj hjk => ?_⟩
          rcases Nat.lt_or_ge j k with h | h
          · exact HR.out.2 j hj h
          · obtain rfl : j = k := by omega
            exact q
        clear hV HRD HPT HPH HDL HST HBX HR q hbz
        generalize (zs[k]'hkz).1.name = s1 at *
        go_upto_region 2 with fail
        go_quiet (fail)
        go_wp2_with fail
        go_roundw
        case rel => exact ⟨k + 1, by omega, by go_num, HF.out _⟩
        case measure => simp [intOf]; omega
      · have d2 := less_no (a := (zs[k]'hkz).1.name) (b := z.1.name) q
        have hph := HPH.out k (by omega) HR.out.2 (fun _ => q)
        by_cases qe : fk (zs[k]'hkz) = fk z
        · have d3 := name_yes (a := (zs[k]'hkz).1.name) (b := z.1.name) qe
          have hpe := hph.1 ⟨hkz, qe⟩
          have HM : Hid (Mem W wr [(gb, .cells (zc z).toArray 34 (0, 0))]) := HR.out.1
          clear hV HRD HPT HPH HR q qe hbz hph
          obtain ⟨g, eg, -⟩ := HST.out k hlt wr HM.out.below
          simp only [Option.some.injEq, Addr.mk.injEq] at eg
          obtain ⟨rfl, rfl, -⟩ := eg
          simp only [Nat.zero_add] at cz0
          cases again with
          | false =>
            have HF : Hid (∀ m n, Dl w ((wr.drewN m).drewN n) (.slice (some ⟨b, 0, none⟩) N c0) (put fk z false zs)) := by
              intro m n
              rw [hpe]
              exact HDL.out.after ((HM.out.drewN m).drewN n).below
            clear HDL HST hpe HM
            go_upto_region 2 with fail
            go_quiet (fail)
            go_upto_region 4 with fail
            go_quiet (fail)
            go_wp2_with fail
            go_ret
            exact ⟨_, _, _, rfl, HF.out _ _⟩
          | true =>
            have HF : Hid (∀ m, Dl w ((wr.drewN m).setCells b (k * 33) (zc z)) (.slice (some ⟨b, 0, none⟩) N c0) (put fk z true zs)) := by
              intro m
              obtain ⟨g, eg, -, h⟩ := HST.out k hlt _ (HM.out.drewN m).below
              simp only [Option.some.injEq, Addr.mk.injEq] at eg
              obtain ⟨rfl, -, -⟩ := eg
              rw [hpe]
              exact h
            have HTH : Hid (∀ m, (wr.drewN m).there b (k * 33) (zc z).toArray.size) := by
              intro m
              obtain ⟨g, eg, h, -⟩ := HST.out k hlt _ (HM.out.drewN m).below
              simp only [Option.some.injEq, Addr.mk.injEq] at eg
              obtain ⟨rfl, -, -⟩ := eg
              rw [z33]
              exact h
            have HKB : Hid (∀ m n, ((wr.drewN m).drewN n).heap[gb]? = some (.cells (zc z).toArray 34 (0, 0))) := fun m n => (HBX.out _ ((HM.out.drewN m).drewN n)).2.2
            clear HDL HST hpe HM
            go_upto_region 2 with fail
            go_quiet (fail)
            go_upto_region 4 with fail
            go_quiet (fail)
            go_wp2_with (first | (refine wpList_load_row_g rfl 34 (.tmp 4) (by with_reducible rfl) gb (by first | rfl | simp [Act.eval]) 34 (zc z).toArray (0, 0) _ (HKB.out _ _) Tryz.underlying34 j33 ?_) | (refine wpList_store_mid rfl 34 (.tmp 42) (.tmp 41) (by with_reducible rfl) b (k * 33) (zc z).toArray (by simp [Act.eval]) (by first | rfl | simp [Act.eval]) (by exact HTH.out _) j33 hzo' ?_) | fail)
            go_ret
            exact ⟨_, _, _, rfl, HF.out _⟩
        · have d3 := name_ne (a := (zs[k]'hkz).1.name) (b := z.1.name) qe
          have hpe := hph.2 (fun _ => qe)
          have HM : Hid (Mem W wr [(gb, .cells (zc z).toArray 34 (0, 0))]) := HR.out.1
          obtain ⟨a, s2, p1, p2, ⟨a2, m2, c2, rfl⟩, hAP⟩ := HPT.out k hk
          clear hV HRD HPT HPH HR q qe hph HDL HST
          go_upto_region 2 with fail
          go_quiet (fail)
          go_upto_region 4 with fail
          go_quiet (fail)
          go_upto_region 8 with fail
          refine wp_letter (fun X => Mem W X [(gb, .cells (zc z).toArray 34 (0, 0))]) (by exact (HM.out.drewN _).drewN _) ?_
          intro V8 hM8
          obtain ⟨a1, m1, d1', X1, hr1, hbx1, v2, X2, hr2, hbx2, hD⟩ := hAP V8.drew hM8.drew.below
          obtain ⟨a3, c3, rfl, -⟩ := hD.slice
          obtain ⟨n3, hn3⟩ : ∃ n, (zs.take k ++ z :: zs.drop k).length = n := ⟨_, rfl⟩
          rw [hn3] at hr2 hD
          rw [← hpe] at hD
          clear hn3
          have HD : Hid (Dl w X2 (.slice a3 n3 c3) (put fk z again zs)) := hD
          have KS : Hid (∀ V, Below V8.drew.heap.size V8.drew V → V.rangeAt gb 0 (zc z)) := fun V hV => (HBX.out V (hM8.drew.after hV)).2.1
          have rr := (HBX.out V8.drew hM8.drew).2.1
          have HX1 : Hid (Below V8.drew.heap.size V8.drew X1) := hbx1
          have HX2 : Hid (Below V8.drew.heap.size V8.drew X2) := hbx2
          have HX0 : Hid (Below V8.drew.heap.size V8.drew (V8.drew.alloc (.cells (zc z).toArray 34))) := (Below.refl _ _).alloc (Nat.le_refl _) _
          have hbz8 := hbz V8.drew
          clear hAP hM8 HM HBX hD hbx1 hbx2 hpe hbz
          refine wp_region_held_drew (S := fun V => V.rangeAt gb 0 (zc z)) (by kernel_rfl) rr (fun hHeld => ?_)
          refine wpAnyH_take (i := 0) (v := ?_) rfl (by kernel_rfl) (by kernel_rfl) (by kernel_rfl) (fun _ _ _ h => h) (Or.inl ⟨by rfl, ?qay0⟩) (by assumption) ?qar0
          case qay0 =>
            intro w hSw
            (try dsimp only at hSw)
            go_simp
            all_goals with_reducible rfl
          try simp only [List.getElem_toArray, List.getElem_cons_zero, List.getElem_cons_succ, Act.put, List.setIfInBounds_toArray, List.set_cons_zero, List.set_cons_succ]
          refine wpAnyH_take (i := 1) (v := ?_) rfl (by kernel_rfl) (by kernel_rfl) (by kernel_rfl) (fun _ _ _ h => h) (Or.inl ⟨by rfl, ?qay1⟩) (by assumption) ?qar1
          case qay1 =>
            intro w hSw
            (try dsimp only at hSw)
            go_simp
            all_goals with_reducible rfl
          try simp only [List.getElem_toArray, List.getElem_cons_zero, List.getElem_cons_succ, Act.put, List.setIfInBounds_toArray, List.set_cons_zero, List.set_cons_succ]
          refine wpAnyH_take (i := 2) (v := ?_) rfl (by kernel_rfl) (by kernel_rfl) (by kernel_rfl) (fun _ _ _ h => h) (Or.inl ⟨by rfl, ?qay2⟩) (by assumption) ?qar2
          case qay2 =>
            intro w hSw
            (try dsimp only at hSw)
            go_simp
            all_goals with_reducible rfl
          try simp only [List.getElem_toArray, List.getElem_cons_zero, List.getElem_cons_succ, Act.put, List.setIfInBounds_toArray, List.set_cons_zero, List.set_cons_succ]
          refine wpAnyH_take (i := 3) (v := ?_) rfl (by kernel_rfl) (by kernel_rfl) (by kernel_rfl) (fun _ _ _ h => h) (Or.inl ⟨by rfl, ?qay3⟩) (by assumption) ?qar3
          case qay3 =>
            intro w hSw
            (try dsimp only at hSw)
            go_simp
            all_goals with_reducible rfl
          try simp only [List.getElem_toArray, List.getElem_cons_zero, List.getElem_cons_succ, Act.put, List.setIfInBounds_toArray, List.set_cons_zero, List.set_cons_succ]
          refine wpAnyH_take (i := 4) (v := _) rfl (by kernel_rfl) (by kernel_rfl) (by kernel_rfl) (fun _ _ _ h => h) (yieldsIf_load_mid (by rfl) _ _ rfl _ _ rfl _ _ ?qas4 Tryz.underlying34 rfl i33) (by assumption) ?qar4
          case qas4 =>
            intro w hSw
            (try dsimp only at hSw)
            go_split_ands
            assumption
          try simp only [List.getElem_toArray, List.getElem_cons_zero, List.getElem_cons_succ, Act.put, List.setIfInBounds_toArray, List.set_cons_zero, List.set_cons_succ]
          refine wpAnyH_take (i := 6) (v := ?_) rfl (by kernel_rfl) (by kernel_rfl) (by kernel_rfl) (fun _ _ _ h => h) (Or.inl ⟨by rfl, ?qay6⟩) (by assumption) ?qar6
          case qay6 =>
            intro w hSw
            (try dsimp only at hSw)
            go_simp
            all_goals with_reducible rfl
          try simp only [List.getElem_toArray, List.getElem_cons_zero, List.getElem_cons_succ, Act.put, List.setIfInBounds_toArray, List.set_cons_zero, List.set_cons_succ]
          refine wpAnyH_take (i := 7) (v := ?_) rfl (by kernel_rfl) (by kernel_rfl) (by kernel_rfl) (fun _ _ _ h => h) (Or.inl ⟨by rfl, ?qay7⟩) (by assumption) ?qar7
          case qay7 =>
            intro w hSw
            (try dsimp only at hSw)
            go_simp
            all_goals with_reducible rfl
          try simp only [List.getElem_toArray, List.getElem_cons_zero, List.getElem_cons_succ, Act.put, List.setIfInBounds_toArray, List.set_cons_zero, List.set_cons_succ]
          refine wpAnyH_take (i := 8) (v := ?_) rfl (by kernel_rfl) (by kernel_rfl) (by kernel_rfl) (fun _ _ _ h => h) (Or.inl ⟨by rfl, ?qay8⟩) (by assumption) ?qar8
          case qay8 =>
            intro w hSw
            (try dsimp only at hSw)
            go_simp
            all_goals with_reducible rfl
          try simp only [List.getElem_toArray, List.getElem_cons_zero, List.getElem_cons_succ, Act.put, List.setIfInBounds_toArray, List.set_cons_zero, List.set_cons_succ]
          refine wpAnyH_ready (rs := [5]) (by kernel_rfl) (by simp) ?_
          refine AllReadyH.cons rfl (fun K hK => ?_) AllReadyH.nil
          refine step_bsl_g (by rfl) 22 1 _ rfl hbz8 (by first | kernel_rfl | simp [Act.eval]) ?_
          refine hK.out _ _ (KS.out _ HX0.out) (fun hHeld => ?_)
          clear hK K
          try simp only [List.getElem_toArray, List.getElem_cons_zero, List.getElem_cons_succ, Act.put, List.setIfInBounds_toArray, List.set_cons_zero, List.set_cons_succ]
          refine wpAnyH_ready (rs := [9]) (by kernel_rfl) (by simp) ?_
          refine AllReadyH.cons rfl (fun K hK => ?_) AllReadyH.nil
          refine step_append_run rfl (.tmp 49) (.tmp 52) 22 22 rfl (by first | rfl | simp [Act.eval]) (by first | rfl | simp [Act.eval]) hr1 ?_
          refine hK.out _ _ (KS.out _ HX1.out) (fun hHeld => ?_)
          clear hK K
          try simp only [List.getElem_toArray, List.getElem_cons_zero, List.getElem_cons_succ, Act.put, List.setIfInBounds_toArray, List.set_cons_zero, List.set_cons_succ]
          refine wpAnyH_ready (rs := [10]) (by kernel_rfl) (by simp) ?_
          refine AllReadyH.cons rfl (fun K hK => ?_) AllReadyH.nil
          refine step_append_run rfl (.tmp 47) (.tmp 53) 22 22 rfl (by first | rfl | simp [Act.eval]) (by first | rfl | simp [Act.eval]) hr2 ?_
          refine hK.out _ _ (KS.out _ HX2.out) (fun hHeld => ?_)
          clear hK K
          try simp only [List.getElem_toArray, List.getElem_cons_zero, List.getElem_cons_succ, Act.put, List.setIfInBounds_toArray, List.set_cons_zero, List.set_cons_succ]
          refine wpAnyH_take (i := 11) (v := ?_) rfl (by kernel_rfl) (by kernel_rfl) (by kernel_rfl) (fun _ _ _ h => h) (Or.inl ⟨by rfl, ?qazy11⟩) (by assumption) ?qazr11
          case qazy11 =>
            intro w hSw
            (try dsimp only at hSw)
            go_simp
            all_goals with_reducible rfl
          try simp only [List.getElem_toArray, List.getElem_cons_zero, List.getElem_cons_succ, Act.put, List.setIfInBounds_toArray, List.set_cons_zero, List.set_cons_succ]
          refine wpAnyH_done (by kernel_rfl) ?_ _
          clear rr hr1 hr2 hbz8 p1 p2
          go_wp2_with fail
          go_ret
          exact ⟨_, _, _, rfl, HD.out⟩
    · have h1 : ¬ ((k : Int) < N) := by omega
      have d1 : decide ((k : Int) < N) = false := decide_eq_false h1
      have hph := HPH.out k (by omega) HR.out.2 (fun h => absurd h (by omega))
      have hpe := hph.2 (fun h => absurd h (by omega))
      have HM : Hid (Mem W wr [(gb, .cells (zc z).toArray 34 (0, 0))]) := HR.out.1
      obtain ⟨a, s2, p1, p2, ⟨a2, m2, c2, rfl⟩, hAP⟩ := HPT.out k hk
      clear HRD HPT HPH HR hph HDL HST
      go_upto_region 2 with fail
      go_quiet (fail)
      go_upto_region 4 with fail
      go_quiet (fail)
      go_upto_region 8 with fail
      refine wp_letter (fun X => Mem W X [(gb, .cells (zc z).toArray 34 (0, 0))]) (by exact (HM.out.drewN _).drewN _) ?_
      intro V8 hM8
      obtain ⟨a1, m1, d1', X1, hr1, hbx1, v2, X2, hr2, hbx2, hD⟩ := hAP V8.drew hM8.drew.below
      obtain ⟨a3, c3, rfl, -⟩ := hD.slice
      obtain ⟨n3, hn3⟩ : ∃ n, (zs.take k ++ z :: zs.drop k).length = n := ⟨_, rfl⟩
      rw [hn3] at hr2 hD
      rw [← hpe] at hD
      clear hn3
      have HD : Hid (Dl w X2 (.slice a3 n3 c3) (put fk z again zs)) := hD
      have KS : Hid (∀ V, Below V8.drew.heap.size V8.drew V → V.rangeAt gb 0 (zc z)) := fun V hV => (HBX.out V (hM8.drew.after hV)).2.1
      have rr := (HBX.out V8.drew hM8.drew).2.1
      have HX1 : Hid (Below V8.drew.heap.size V8.drew X1) := hbx1
      have HX2 : Hid (Below V8.drew.heap.size V8.drew X2) := hbx2
      have HX0 : Hid (Below V8.drew.heap.size V8.drew (V8.drew.alloc (.cells (zc z).toArray 34))) := (Below.refl _ _).alloc (Nat.le_refl _) _
      have hbz8 := hbz V8.drew
      clear hAP hM8 HM HBX hD hbx1 hbx2 hpe hbz
      refine wp_region_held_drew (S := fun V => V.rangeAt gb 0 (zc z)) (by kernel_rfl) rr (fun hHeld => ?_)
      refine wpAnyH_take (i := 0) (v := ?_) rfl (by kernel_rfl) (by kernel_rfl) (by kernel_rfl) (fun _ _ _ h => h) (Or.inl ⟨by rfl, ?qby0⟩) (by assumption) ?qbr0
      case qby0 =>
        intro w hSw
        (try dsimp only at hSw)
        go_simp
        all_goals with_reducible rfl
      try simp only [List.getElem_toArray, List.getElem_cons_zero, List.getElem_cons_succ, Act.put, List.setIfInBounds_toArray, List.set_cons_zero, List.set_cons_succ]
      refine wpAnyH_take (i := 1) (v := ?_) rfl (by kernel_rfl) (by kernel_rfl) (by kernel_rfl) (fun _ _ _ h => h) (Or.inl ⟨by rfl, ?qby1⟩) (by assumption) ?qbr1
      case qby1 =>
        intro w hSw
        (try dsimp only at hSw)
        go_simp
        all_goals with_reducible rfl
      try simp only [List.getElem_toArray, List.getElem_cons_zero, List.getElem_cons_succ, Act.put, List.setIfInBounds_toArray, List.set_cons_zero, List.set_cons_succ]
      refine wpAnyH_take (i := 2) (v := ?_) rfl (by kernel_rfl) (by kernel_rfl) (by kernel_rfl) (fun _ _ _ h => h) (Or.inl ⟨by rfl, ?qby2⟩) (by assumption) ?qbr2
      case qby2 =>
        intro w hSw
        (try dsimp only at hSw)
        go_simp
        all_goals with_reducible rfl
      try simp only [List.getElem_toArray, List.getElem_cons_zero, List.getElem_cons_succ, Act.put, List.setIfInBounds_toArray, List.set_cons_zero, List.set_cons_succ]
      refine wpAnyH_take (i := 3) (v := ?_) rfl (by kernel_rfl) (by kernel_rfl) (by kernel_rfl) (fun _ _ _ h => h) (Or.inl ⟨by rfl, ?qby3⟩) (by assumption) ?qbr3
      case qby3 =>
        intro w hSw
        (try dsimp only at hSw)
        go_simp
        all_goals with_reducible rfl
      try simp only [List.getElem_toArray, List.getElem_cons_zero, List.getElem_cons_succ, Act.put, List.setIfInBounds_toArray, List.set_cons_zero, List.set_cons_succ]
      refine wpAnyH_take (i := 4) (v := _) rfl (by kernel_rfl) (by kernel_rfl) (by kernel_rfl) (fun _ _ _ h => h) (yieldsIf_load_mid (by rfl) _ _ rfl _ _ rfl _ _ ?qbs4 Tryz.underlying34 rfl i33) (by assumption) ?qbr4
      case qbs4 =>
        intro w hSw
        (try dsimp only at hSw)
        go_split_ands
        assumption
      try simp only [List.getElem_toArray, List.getElem_cons_zero, List.getElem_cons_succ, Act.put, List.setIfInBounds_toArray, List.set_cons_zero, List.set_cons_succ]
      refine wpAnyH_take (i := 6) (v := ?_) rfl (by kernel_rfl) (by kernel_rfl) (by kernel_rfl) (fun _ _ _ h => h) (Or.inl ⟨by rfl, ?qby6⟩) (by assumption) ?qbr6
      case qby6 =>
        intro w hSw
        (try dsimp only at hSw)
        go_simp
        all_goals with_reducible rfl
      try simp only [List.getElem_toArray, List.getElem_cons_zero, List.getElem_cons_succ, Act.put, List.setIfInBounds_toArray, List.set_cons_zero, List.set_cons_succ]
      refine wpAnyH_take (i := 7) (v := ?_) rfl (by kernel_rfl) (by kernel_rfl) (by kernel_rfl) (fun _ _ _ h => h) (Or.inl ⟨by rfl, ?qby7⟩) (by assumption) ?qbr7
      case qby7 =>
        intro w hSw
        (try dsimp only at hSw)
        go_simp
        all_goals with_reducible rfl
      try simp only [List.getElem_toArray, List.getElem_cons_zero, List.getElem_cons_succ, Act.put, List.setIfInBounds_toArray, List.set_cons_zero, List.set_cons_succ]
      refine wpAnyH_take (i := 8) (v := ?_) rfl (by kernel_rfl) (by kernel_rfl) (by kernel_rfl) (fun _ _ _ h => h) (Or.inl ⟨by rfl, ?qby8⟩) (by assumption) ?qbr8
      case qby8 =>
        intro w hSw
        (try dsimp only at hSw)
        go_simp
        all_goals with_reducible rfl
      try simp only [List.getElem_toArray, List.getElem_cons_zero, List.getElem_cons_succ, Act.put, List.setIfInBounds_toArray, List.set_cons_zero, List.set_cons_succ]
      refine wpAnyH_ready (rs := [5]) (by kernel_rfl) (by simp) ?_
      refine AllReadyH.cons rfl (fun K hK => ?_) AllReadyH.nil
      refine step_bsl_g (by rfl) 22 1 _ rfl hbz8 (by first | kernel_rfl | simp [Act.eval]) ?_
      refine hK.out _ _ (KS.out _ HX0.out) (fun hHeld => ?_)
      clear hK K
      try simp only [List.getElem_toArray, List.getElem_cons_zero, List.getElem_cons_succ, Act.put, List.setIfInBounds_toArray, List.set_cons_zero, List.set_cons_succ]
      refine wpAnyH_ready (rs := [9]) (by kernel_rfl) (by simp) ?_
      refine AllReadyH.cons rfl (fun K hK => ?_) AllReadyH.nil
      refine step_append_run rfl (.tmp 49) (.tmp 52) 22 22 rfl (by first | rfl | simp [Act.eval]) (by first | rfl | simp [Act.eval]) hr1 ?_
      refine hK.out _ _ (KS.out _ HX1.out) (fun hHeld => ?_)
      clear hK K
      try simp only [List.getElem_toArray, List.getElem_cons_zero, List.getElem_cons_succ, Act.put, List.setIfInBounds_toArray, List.set_cons_zero, List.set_cons_succ]
      refine wpAnyH_ready (rs := [10]) (by kernel_rfl) (by simp) ?_
      refine AllReadyH.cons rfl (fun K hK => ?_) AllReadyH.nil
      refine step_append_run rfl (.tmp 47) (.tmp 53) 22 22 rfl (by first | rfl | simp [Act.eval]) (by first | rfl | simp [Act.eval]) hr2 ?_
      refine hK.out _ _ (KS.out _ HX2.out) (fun hHeld => ?_)
      clear hK K
      try simp only [List.getElem_toArray, List.getElem_cons_zero, List.getElem_cons_succ, Act.put, List.setIfInBounds_toArray, List.set_cons_zero, List.set_cons_succ]
      refine wpAnyH_take (i := 11) (v := ?_) rfl (by kernel_rfl) (by kernel_rfl) (by kernel_rfl) (fun _ _ _ h => h) (Or.inl ⟨by rfl, ?qbzy11⟩) (by assumption) ?qbzr11
      case qbzy11 =>
        intro w hSw
        (try dsimp only at hSw)
        go_simp
        all_goals with_reducible rfl
      try simp only [List.getElem_toArray, List.getElem_cons_zero, List.getElem_cons_succ, Act.put, List.setIfInBounds_toArray, List.set_cons_zero, List.set_cons_succ]
      refine wpAnyH_done (by kernel_rfl) ?_ _
      clear rr hr1 hr2 hbz8 p1 p2
      go_wp2_with fail
      go_ret
      exact ⟨_, _, _, rfl, HD.out⟩
end Df
end Go.Proofs.YtbccadbnaggkhaaGreat

