/-
  P12.3 at every two tenants that are light.
  Settings as bytes: the document's tenants, one behind the other: numbers.
-/
import Derived.Test.YtngegdamcfmonaaGreatM35
import Derived.Test.YtngegdamcfmonaaGreatM23
import Derived.Test.YtngegdamcfmonaaGreatM28
namespace Go.Proofs.YtngegdamcfmonaaGreat
open Go.RowKit
open Sm
open Cf
set_option linter.unusedVariables false
set_option maxRecDepth 20000
set_option linter.unusedSimpArgs false

theorem TV.at_ {w V : World} {v : Value} {t : Ten} (h : TV w v t) {B : Nat} (hb : Below B w V) (hB : w.heap.size ≤ B) : TV V v t := by
  obtain ⟨hl, p, s, q, rfl, h1, h2, h3⟩ := h
  exact ⟨hl, p, s, q, rfl, h1.below ux_ne hb hB, h2.below px_ne hb hB, h3.below px_ne hb hB⟩
theorem TV.row {w : World} {v : Value} {t : Ten} (h : TV w v t) : ∃ tl : List Value, v = .agg tl.toArray ∧ tl.length = 33 ∧ ∀ v ∈ tl, v.oneCell' = true := by
  obtain ⟨hl, p, s, q, rfl, h1, h2, h3⟩ := h
  refine ⟨_, rfl, tc_len hl p s q, fun v hv => ?_⟩
  have := tc_one2 t (rw_one h1) (rw_one h2) (rw_one h3)
  rw [Array.all_eq_true_iff_forall_mem] at this
  exact this v (by simpa using hv)
theorem lgt_in {t : Ten} (h : Lgt t) (hl : TLen t) (h1 : IsBytes t.key) (h2 : IsBytes t.vmac) (h3 : IsBytes t.host) : TIn t := by
  obtain ⟨a, b, c, d⟩ := h
  exact ⟨hl, h1, h2, h3, by omega, by omega, by omega, by omega⟩
theorem wpList_load_row_g {ops : Array Oper} {rest : List Oper} {o : Oper} {a : Act} {w : World} {Q : Exit → Act → World → Prop} (hw : Region.wanted o (yielded ops a.tmps) = true) (ty : TypeId) (x : Operand) (ho : o.op = .load ty x)
    (g : Nat) (hx : a.eval x = .pointer (some ⟨g, 0, none⟩)) (t : TypeId) (cs : Array Value) (fr : Nat × Nat) (fs : Array Field) (hg : w.heap[g]? = some (.cells cs t fr))
    (hu : Tryz.prog.underlying ty = some (.struct fs)) (hi : (Tryz.prog.info? ty).map (·.size) = some cs.size)
    (h : wpList Tryz.prog ops Q rest (a.put o.dst (.agg cs)) w) : wpList Tryz.prog ops Q (o :: rest) a w := by
  unfold wpList
  rw [if_pos hw]
  exact Or.inl (wp_load_row ty x ho g hx t cs fr _ hg hu rfl hi h)
theorem load_range {V : World} {g n : Nat} {tl : List Value} (hr : V.rangeAt g 0 tl) (hn : tl.length = n) : (loadCellsFrom ⟨g, 0, none⟩ 0 n #[]).run Tryz.prog V = .ok tl.toArray V := by
  subst hn
  have := run_loadCells_list (P := Tryz.prog) V ⟨g, 0, none⟩ tl (fun j v hv => by
    have hadd : (⟨g, 0, none⟩ : Addr).add j = ⟨g, j, none⟩ := by unfold Addr.add; split <;> simp_all
    rw [hadd]
    simpa using hr j v hv)
  simpa [loadCells] using this
set_option maxHeartbeats 8000000 in
theorem same_law {w : World} {va vb : Value} {t z : Ten} (ha : TV w va t) (hb : TV w vb z) (k1 : IsBytes t.key) (k2 : IsBytes t.vmac) (k3 : IsBytes t.host) (j1 : IsBytes z.key) (j2 : IsBytes z.vmac) (j3 : IsBytes z.host) :
    Calls Tryz.prog 6 #[va, vb] w fun e w' => e = .returned (.bool true) ∧ Below w.heap.size w w' := by
  obtain ⟨tl, rfl, hs, ho⟩ := ha.row
  obtain ⟨tl', rfl, hs', ho'⟩ := hb.row
  have HA : Hid (TV w (.agg tl.toArray) t) := ha
  have HZ : Hid (TV w (.agg tl'.toArray) z) := hb
  have hM0 : Hid (Mem w ((w.alloc (.cells tl.toArray 33)).alloc (.cells tl'.toArray 33)) [(w.heap.size + 1, .cells tl'.toArray 33 (0, 0)), (w.heap.size, .cells tl.toArray 33 (0, 0))]) := two_blocks' w _ _
  have hi33 : (Tryz.prog.info? 33).map (·.size) = some tl.toArray.size := by rw [List.size_toArray, hs]; kernel_rfl
  have hi33' : (Tryz.prog.info? 33).map (·.size) = some tl'.toArray.size := by rw [List.size_toArray, hs']; kernel_rfl
  clear ha hb
  go_enter Tryz.func6, Tryz.ntmps6
  go_wp2_with fail
  have hm0 := hM0.out
  obtain ⟨g, hg⟩ : ∃ g, w.heap.size = g := ⟨_, rfl⟩
  rw [hg] at hm0
  generalize ((w.alloc (.cells tl.toArray 33)).alloc (.cells tl'.toArray 33)) = W0 at hm0 ⊢
  refine (known_any W0).mono ?_
  rintro e W1 ⟨rfl, hb1⟩
  have hm1 := hm0.after hb1
  have HB : Hid (Below w.heap.size w W1) := hm1.below
  have hk := hm1.at_ (g, .cells tl.toArray 33 (0, 0)) (by simp)
  have hk' := hm1.at_ (g + 1, .cells tl'.toArray 33 (0, 0)) (by simp)
  have C1 := light_any (HA.out.at_ hm1.below (Nat.le_refl _))
  clear hm0 hM0
  by_cases q1 : Lgt t
  rotate_left
  · rw [decide_eq_false q1] at C1
    go_wp2_with (refine wpList_load_row rfl 33 (.tmp 2) (by with_reducible rfl) g rfl 33 tl.toArray (0, 0) _ hk Tryz.underlying33 rfl hi33 ?_)
    refine C1.mono ?_
    rintro e W2 ⟨rfl, hb2⟩
    go_wp2_with fail
    go_ret
    exact ⟨rfl, HB.out.trans (hb2.mono HB.out.size)⟩
  rw [decide_eq_true q1] at C1
  go_wp2_with (refine wpList_load_row rfl 33 (.tmp 2) (by with_reducible rfl) g rfl 33 tl.toArray (0, 0) _ hk Tryz.underlying33 rfl hi33 ?_)
  refine C1.mono ?_
  rintro e W2 ⟨rfl, hb2⟩
  have hm2 := hm1.after hb2
  have h2' := hm2.at_ (g + 1, .cells tl'.toArray 33 (0, 0)) (by simp)
  have HB2 : Hid (Below w.heap.size w W2) := hm2.below
  have C2 := light_any (HZ.out.at_ hm2.below (Nat.le_refl _))
  clear C1
  by_cases q2 : Lgt z
  rotate_left
  · rw [decide_eq_false q2] at C2
    go_wp2_with (refine wpList_load_row_g rfl 33 (.tmp 3) (by with_reducible rfl) (g + 1) rfl 33 tl'.toArray (0, 0) _ h2' Tryz.underlying33 hi33' ?_)
    refine C2.mono ?_
    rintro e W3 ⟨rfl, hb3⟩
    go_wp2_with fail
    go_ret
    exact ⟨rfl, HB2.out.trans (hb3.mono HB2.out.size)⟩
  rw [decide_eq_true q2] at C2
  go_wp2_with (refine wpList_load_row_g rfl 33 (.tmp 3) (by with_reducible rfl) (g + 1) rfl 33 tl'.toArray (0, 0) _ h2' Tryz.underlying33 hi33' ?_)
  refine C2.mono ?_
  rintro e W3 ⟨rfl, hb3⟩
  have hm3 := hm2.after hb3
  have I1 := lgt_in q1 HA.out.1 k1 k2 k3
  have I2 := lgt_in q2 HZ.out.1 j1 j2 j3
  have KS : Hid (∀ V, Mem w V [(g + 1, .cells tl'.toArray 33 (0, 0)), (g, .cells tl.toArray 33 (0, 0))] → V.rangeAt g 0 tl ∧ V.rangeAt (g + 1) 0 tl') := by
    intro V hV
    refine ⟨fun j v hj => ?_, fun j v hj => ?_⟩
    · rw [Nat.zero_add, hV.cell 1 rfl]; simpa using hj
    · rw [Nat.zero_add, hV.cell 0 rfl]; simpa using hj
  have CS : ∀ V, Mem w V [(g + 1, .cells tl'.toArray 33 (0, 0)), (g, .cells tl.toArray 33 (0, 0))] → Calls Tryz.prog 29 #[.agg tl.toArray, .agg tl'.toArray] V fun e V' => e = .returned (.bool (decide (TSame t z))) ∧ Mem w V' [(g + 1, .cells tl'.toArray 33 (0, 0)), (g, .cells tl.toArray 33 (0, 0))] := by
    intro V hV
    have h := cfgSame_any (HA.out.at_ hV.below (Nat.le_refl _)) I1 (HZ.out.at_ hV.below (Nat.le_refl _)) I2
    rw [eq_same] at h
    exact h.mono fun e V' ⟨he, hb⟩ => ⟨he, hV.after hb⟩
  have CA : ∀ V, Mem w V [(g + 1, .cells tl'.toArray 33 (0, 0)), (g, .cells tl.toArray 33 (0, 0))] → Calls Tryz.prog 29 #[.agg tl.toArray, .agg tl.toArray] V fun e V' => e = .returned (.bool true) ∧ Mem w V' [(g + 1, .cells tl'.toArray 33 (0, 0)), (g, .cells tl.toArray 33 (0, 0))] := by
    intro V hV
    have h := cfgSame_any (HA.out.at_ hV.below (Nat.le_refl _)) I1 (HA.out.at_ hV.below (Nat.le_refl _)) I1
    have e1 : decide (TSame t t) = true := decide_eq_true ⟨rfl, rfl, rfl, rfl, rfl, rfl, rfl, rfl, rfl, rfl, rfl, rfl, rfl, rfl, rfl, rfl⟩
    rw [eq_same, e1] at h
    exact h.mono fun e V' ⟨he, hb⟩ => ⟨he, hV.after hb⟩
  have CT : ∀ V, Mem w V [(g + 1, .cells tl'.toArray 33 (0, 0)), (g, .cells tl.toArray 33 (0, 0))] → Calls Tryz.prog 26 #[.agg tl.toArray, .agg tl'.toArray] V fun e V' => e = .returned (.bool (decide (TSame t z))) ∧ Mem w V' [(g + 1, .cells tl'.toArray 33 (0, 0)), (g, .cells tl.toArray 33 (0, 0))] := by
    intro V hV
    have h := htenant_any (HA.out.at_ hV.below (Nat.le_refl _)) (HZ.out.at_ hV.below (Nat.le_refl _)) I1.pool I1.stat I1.twi
    exact h.mono fun e V' ⟨he, hb⟩ => ⟨he, hV.after hb⟩
  generalize decide (TSame t z) = R at CS CT
  have hRR : (R == R) = true := by simp
  have hM := hm3.drew
  have rr := KS.out _ hM
  have hi : (Tryz.prog.info? 33).map (·.size) = some tl.length := by rw [hs]; kernel_rfl
  have hi' : (Tryz.prog.info? 33).map (·.size) = some tl'.length := by rw [hs']; kernel_rfl
  clear hm1 hm2 hm3 HA HZ I1 I2 q1 q2 hk hk' h2' hb1 hb2 hb3 C2 HB HB2 hi33 hi33' k1 k2 k3 j1 j2 j3
  go_upto_region 5 with fail
  refine wp_region_held_drew (S := fun V => V.rangeAt g 0 tl ∧ V.rangeAt (g + 1) 0 tl') (by kernel_rfl) rr (fun hHeld => ?_)
  refine wpAnyH_take (i := 0) (v := _) rfl (by kernel_rfl) (by kernel_rfl) (by kernel_rfl) (fun _ _ _ h => h) (yieldsIf_load_mid (by rfl) _ _ rfl _ _ rfl _ _ ?qs0 Tryz.underlying33 rfl hi) (by assumption) ?qr0
  case qs0 =>
    intro w hSw
    (try dsimp only at hSw)
    go_split_ands
    assumption
  try simp only [List.getElem_toArray, List.getElem_cons_zero, List.getElem_cons_succ, Act.put, List.setIfInBounds_toArray, List.set_cons_zero, List.set_cons_succ]
  refine wpAnyH_take (i := 1) (v := _) rfl (by kernel_rfl) (by kernel_rfl) (by kernel_rfl) (fun _ _ _ h => h) (yieldsIf_load_mid (by rfl) _ _ rfl _ _ rfl _ _ ?qs1 Tryz.underlying33 rfl hi') (by assumption) ?qr1
  case qs1 =>
    intro w hSw
    (try dsimp only at hSw)
    go_split_ands
    assumption
  try simp only [List.getElem_toArray, List.getElem_cons_zero, List.getElem_cons_succ, Act.put, List.setIfInBounds_toArray, List.set_cons_zero, List.set_cons_succ]
  refine wpAnyH_take (i := 3) (v := _) rfl (by kernel_rfl) (by kernel_rfl) (by kernel_rfl) (fun _ _ _ h => h) (yieldsIf_load_mid (by rfl) _ _ rfl _ _ rfl _ _ ?qs3 Tryz.underlying33 rfl hi) (by assumption) ?qr3
  case qs3 =>
    intro w hSw
    (try dsimp only at hSw)
    go_split_ands
    assumption
  try simp only [List.getElem_toArray, List.getElem_cons_zero, List.getElem_cons_succ, Act.put, List.setIfInBounds_toArray, List.set_cons_zero, List.set_cons_succ]
  refine wpAnyH_take (i := 4) (v := _) rfl (by kernel_rfl) (by kernel_rfl) (by kernel_rfl) (fun _ _ _ h => h) (yieldsIf_load_mid (by rfl) _ _ rfl _ _ rfl _ _ ?qs4 Tryz.underlying33 rfl hi') (by assumption) ?qr4
  case qs4 =>
    intro w hSw
    (try dsimp only at hSw)
    go_split_ands
    assumption
  try simp only [List.getElem_toArray, List.getElem_cons_zero, List.getElem_cons_succ, Act.put, List.setIfInBounds_toArray, List.set_cons_zero, List.set_cons_succ]
  refine wpAnyH_ready (rs := [2]) (by kernel_rfl) (by simp) ?_
  refine AllReadyH.cons rfl (fun K hK => ?_) AllReadyH.nil
  go_simp
  with_reducible refine (CS _ (by assumption)).mono ?_
  rintro e V1 ⟨rfl, hM1⟩
  try go_wp2_with fail
  refine hK.out _ _ (KS.out _ hM1) (fun hHeld => ?_)
  clear hK K
  try simp only [List.getElem_toArray, List.getElem_cons_zero, List.getElem_cons_succ, Act.put, List.setIfInBounds_toArray, List.set_cons_zero, List.set_cons_succ]
  refine wpAnyH_ready (rs := [5]) (by kernel_rfl) (by simp) ?_
  refine AllReadyH.cons rfl (fun K hK => ?_) AllReadyH.nil
  go_simp
  with_reducible refine (CT _ (by assumption)).mono ?_
  rintro e V2 ⟨rfl, hM2⟩
  try go_wp2_with fail
  refine hK.out _ _ (KS.out _ hM2) (fun hHeld => ?_)
  clear hK K
  try simp only [List.getElem_toArray, List.getElem_cons_zero, List.getElem_cons_succ, Act.put, List.setIfInBounds_toArray, List.set_cons_zero, List.set_cons_succ]
  refine wpAnyH_take (i := 6) (v := ?_) rfl (by kernel_rfl) (by kernel_rfl) (by kernel_rfl) (fun _ _ _ h => h) (Or.inl ⟨by rfl, ?qy6⟩) (by assumption) ?qr6
  case qy6 =>
    intro w hSw
    (try dsimp only at hSw)
    go_simp
    all_goals with_reducible rfl
  try simp only [List.getElem_toArray, List.getElem_cons_zero, List.getElem_cons_succ, Act.put, List.setIfInBounds_toArray, List.set_cons_zero, List.set_cons_succ]
  refine wpAnyH_take (i := 7) (v := ?_) rfl (by kernel_rfl) (by kernel_rfl) (by kernel_rfl) (fun _ _ _ h => h) (Or.inl ⟨by rfl, ?qy7⟩) (by assumption) ?qr7
  case qy7 =>
    intro w hSw
    (try dsimp only at hSw)
    go_simp
    all_goals with_reducible rfl
  try simp only [List.getElem_toArray, List.getElem_cons_zero, List.getElem_cons_succ, Act.put, List.setIfInBounds_toArray, List.set_cons_zero, List.set_cons_succ]
  refine wpAnyH_take (i := 8) (v := _) rfl (by kernel_rfl) (by kernel_rfl) (by kernel_rfl) (fun _ _ _ h => h) (yieldsIf_load_mid (by rfl) _ _ rfl _ _ rfl _ _ ?qs8 Tryz.underlying33 rfl hi) (by assumption) ?qr8
  case qs8 =>
    intro w hSw
    (try dsimp only at hSw)
    go_split_ands
    assumption
  try simp only [List.getElem_toArray, List.getElem_cons_zero, List.getElem_cons_succ, Act.put, List.setIfInBounds_toArray, List.set_cons_zero, List.set_cons_succ]
  refine wpAnyH_take (i := 9) (v := _) rfl (by kernel_rfl) (by kernel_rfl) (by kernel_rfl) (fun _ _ _ h => h) (yieldsIf_load_mid (by rfl) _ _ rfl _ _ rfl _ _ ?qs9 Tryz.underlying33 rfl hi) (by assumption) ?qr9
  case qs9 =>
    intro w hSw
    (try dsimp only at hSw)
    go_split_ands
    assumption
  try simp only [List.getElem_toArray, List.getElem_cons_zero, List.getElem_cons_succ, Act.put, List.setIfInBounds_toArray, List.set_cons_zero, List.set_cons_succ]
  refine wpAnyH_ready (rs := [10]) (by kernel_rfl) (by simp) ?_
  refine AllReadyH.cons rfl (fun K hK => ?_) AllReadyH.nil
  go_simp
  with_reducible refine (CA _ (by assumption)).mono ?_
  rintro e V3 ⟨rfl, hM3⟩
  try go_wp2_with fail
  refine hK.out _ _ (KS.out _ hM3) (fun hHeld => ?_)
  clear hK K
  try simp only [List.getElem_toArray, List.getElem_cons_zero, List.getElem_cons_succ, Act.put, List.setIfInBounds_toArray, List.set_cons_zero, List.set_cons_succ]
  refine wpAnyH_take (i := 11) (v := ?_) rfl (by kernel_rfl) (by kernel_rfl) (by kernel_rfl) (fun _ _ _ h => h) (Or.inl ⟨by rfl, ?qy11⟩) (by assumption) ?qr11
  case qy11 =>
    intro w hSw
    (try dsimp only at hSw)
    go_simp
    all_goals with_reducible rfl
  try simp only [List.getElem_toArray, List.getElem_cons_zero, List.getElem_cons_succ, Act.put, List.setIfInBounds_toArray, List.set_cons_zero, List.set_cons_succ]
  refine wpAnyH_take (i := 12) (v := ?_) rfl (by kernel_rfl) (by kernel_rfl) (by kernel_rfl) (fun _ _ _ h => h) (Or.inl ⟨by rfl, ?qy12⟩) (by assumption) ?qr12
  case qy12 =>
    intro w hSw
    (try dsimp only at hSw)
    go_simp
    all_goals with_reducible rfl
  try simp only [List.getElem_toArray, List.getElem_cons_zero, List.getElem_cons_succ, Act.put, List.setIfInBounds_toArray, List.set_cons_zero, List.set_cons_succ]
  refine wpAnyH_done (by kernel_rfl) ?_ _
  go_wp2_with fail
  go_ret
  exact ⟨rfl, hM3.below⟩
end Go.Proofs.YtngegdamcfmonaaGreat

namespace Go.Proofs.YtngegdamcfmonaaGreat
open Go.RowKit
open Sm
open Cf
set_option linter.unusedVariables false
set_option linter.unusedSimpArgs false
set_option maxRecDepth 20000

/-- So many tenants, while there are bytes; and what is left. -/
def trs : Nat → Option (List Int) → List Ten × Option (List Int)
  | 0, σ => ([], σ)
  | _ + 1, none => ([], none)
  | n + 1, some r => ((rt (some r)).1 :: (trs n (rt (some r)).2).1, (trs n (rt (some r)).2).2)
theorem trs_none : ∀ n, trs n none = ([], none)
  | 0 => rfl
  | _ + 1 => rfl
theorem trs_dec : ∀ (m i : Nat) (l : List Int) (xs : List Ten), xs.length = i + m → (∀ j, i ≤ j → xs.getD j ten0 = ten0) → (sq (itd ten0 spT) i m l xs = none ∧ (trs m (some l)).2 = none) ∨ ∃ r, sq (itd ten0 spT) i m l xs = some (xs.take i ++ (trs m (some l)).1, r) ∧ (trs m (some l)).2 = some r
  | 0, i, l, xs, h, hz => Or.inr ⟨l, by rw [sq, trs, List.append_nil, List.take_of_length_le (by omega)], rfl⟩
  | m + 1, i, l, xs, h, hz => by
    rw [trs, sq]
    simp only [itd, hz i (Nat.le_refl _)]
    rcases tdec_rt l with ⟨d1, d2⟩ | ⟨t, r, d1, d2, d3⟩
    · have d1' : spT.dec l ten0 = none := d1
      rw [d1', d2, trs_none]
      exact Or.inl ⟨rfl, rfl⟩
    · have d1' : spT.dec l ten0 = some (t, r) := d1
      rw [d1', d2, d3]
      simp only [Option.map_some]
      rcases trs_dec m (i + 1) r (xs.set i t) (by rw [List.length_set]; omega) (fun j hj => by
        have := hz j (by omega)
        simp only [List.getD_eq_getElem?_getD] at this ⊢
        rw [List.getElem?_set_ne (by omega)]; exact this) with ⟨k1, k2⟩ | ⟨r', k1, k2⟩
      · exact Or.inl ⟨k1, k2⟩
      · refine Or.inr ⟨r', ?_, k2⟩
        rw [take_set xs i _ (by omega), List.append_assoc] at k1
        exact k1
end Go.Proofs.YtngegdamcfmonaaGreat

