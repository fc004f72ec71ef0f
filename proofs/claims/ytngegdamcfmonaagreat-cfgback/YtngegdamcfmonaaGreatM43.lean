/-
  P12.3 at every two tenants that are light.
  Settings as bytes: the program's Config and OpenConfig, at all settings and all bytes.
-/
import Derived.Test.YtngegdamcfmonaaGreatM42
import Derived.Test.YtngegdamcfmonaaGreatM31
import Derived.Test.YtngegdamcfmonaaGreatM38
namespace Go.Proofs.YtngegdamcfmonaaGreat
open Go.RowKit
open Sm
open Cf
set_option linter.unusedVariables false
set_option maxRecDepth 20000
set_option linter.unusedSimpArgs false

theorem TV.at_ {w V : World} {v : Value} {t : Ten} (h : TV w v t) {B : Nat} (hb : Below B w V) (hB : w.heap.size ≤ B) : TV V v t := by
  obtain ⟨hl, p, s, q, rfl, h1, h2, h3⟩ := h
  exact ⟨hl, p, s, q, rfl, h1.below ux_ne hb hB, h2.below px_ne hb hB, h3.below px_ne hb hB⟩
theorem TV.row {w : World} {v : Value} {t : Ten} (h : TV w v t) : ∃ tl : List Value, v = .agg tl.toArray ∧ tl.length = 33 ∧ ∀ v ∈ tl, v.oneCell' = true := by
  obtain ⟨hl, p, s, q, rfl, h1, h2, h3⟩ := h
  refine ⟨_, rfl, tc_len hl p s q, fun v hv => ?_⟩
  have := tc_one2 t (rw_one h1) (rw_one h2) (rw_one h3)
  rw [Array.all_eq_true_iff_forall_mem] at this
  exact this v (by simpa using hv)
theorem lgt_in {t : Ten} (h : Lgt t) (hl : TLen t) (h1 : IsBytes t.key) (h2 : IsBytes t.vmac) (h3 : IsBytes t.host) : TIn t := by
  obtain ⟨a, b, c, d⟩ := h
  exact ⟨hl, h1, h2, h3, by omega, by omega, by omega, by omega⟩
theorem wpList_load_row_g {ops : Array Oper} {rest : List Oper} {o : Oper} {a : Act} {w : World} {Q : Exit → Act → World → Prop} (hw : Region.wanted o (yielded ops a.tmps) = true) (ty : TypeId) (x : Operand) (ho : o.op = .load ty x)
    (g : Nat) (hx : a.eval x = .pointer (some ⟨g, 0, none⟩)) (t : TypeId) (cs : Array Value) (fr : Nat × Nat) (fs : Array Field) (hg : w.heap[g]? = some (.cells cs t fr))
    (hu : Tryz.prog.underlying ty = some (.struct fs)) (hi : (Tryz.prog.info? ty).map (·.size) = some cs.size)
    (h : wpList Tryz.prog ops Q rest (a.put o.dst (.agg cs)) w) : wpList Tryz.prog ops Q (o :: rest) a w := by
  unfold wpList
  rw [if_pos hw]
  exact Or.inl (wp_load_row ty x ho g hx t cs fr _ hg hu rfl hi h)
theorem load_range {V : World} {g n : Nat} {tl : List Value} (hr : V.rangeAt g 0 tl) (hn : tl.length = n) : (loadCellsFrom ⟨g, 0, none⟩ 0 n #[]).run Tryz.prog V = .ok tl.toArray V := by
  subst hn
  have := run_loadCells_list (P := Tryz.prog) V ⟨g, 0, none⟩ tl (fun j v hv => by
    have hadd : (⟨g, 0, none⟩ : Addr).add j = ⟨g, j, none⟩ := by unfold Addr.add; split <;> simp_all
    rw [hadd]
    simpa using hr j v hv)
  simpa [loadCells] using this
set_option maxHeartbeats 8000000 in
theorem same_law {w : World} {va vb : Value} {t z : Ten} (ha : TV w va t) (hb : TV w vb z) (k1 : IsBytes t.key) (k2 : IsBytes t.vmac) (k3 : IsBytes t.host) (j1 : IsBytes z.key) (j2 : IsBytes z.vmac) (j3 : IsBytes z.host) :
    Calls Tryz.prog 6 #[va, vb] w fun e w' => e = .returned (.bool true) ∧ Below w.heap.size w w' := by
  obtain ⟨tl, rfl, hs, ho⟩ := ha.row
  obtain ⟨tl', rfl, hs', ho'⟩ := hb.row
  have HA : Hid (TV w (.agg tl.toArray) t) := ha
  have HZ : Hid (TV w (.agg tl'.toArray) z) := hb
  have hM0 : Hid (Mem w ((w.alloc (.cells tl.toArray 33)).alloc (.cells tl'.toArray 33)) [(w.heap.size + 1, .cells tl'.toArray 33 (0, 0)), (w.heap.size, .cells tl.toArray 33 (0, 0))]) := two_blocks' w _ _
  have hi33 : (Tryz.prog.info? 33).map (·.size) = some tl.toArray.size := by rw [List.size_toArray, hs]; kernel_rfl
  have hi33' : (Tryz.prog.info? 33).map (·.size) = some tl'.toArray.size := by rw [List.size_toArray, hs']; kernel_rfl
  clear ha hb
  go_enter Tryz.func6, Tryz.ntmps6
  go_wp2_with fail
  have hm0 := hM0.out
  obtain ⟨g, hg⟩ : ∃ g, w.heap.size = g := ⟨_, rfl⟩
  rw [hg] at hm0
  generalize ((w.alloc (.cells tl.toArray 33)).alloc (.cells tl'.toArray 33)) = W0 at hm0 ⊢
  refine (known_any W0).mono ?_
  rintro e W1 ⟨rfl, hb1⟩
  have hm1 := hm0.after hb1
  have HB : Hid (Below w.heap.size w W1) := hm1.below
  have hk := hm1.at_ (g, .cells tl.toArray 33 (0, 0)) (by simp)
  have hk' := hm1.at_ (g + 1, .cells tl'.toArray 33 (0, 0)) (by simp)
  have C1 := light_any (HA.out.at_ hm1.below (Nat.le_refl _))
  clear hm0 hM0
  by_cases q1 : Lgt t
  rotate_left
  · rw [decide_eq_false q1] at C1
    go_wp2_with (refine wpList_load_row rfl 33 (.tmp 2) (by with_reducible rfl) g rfl 33 tl.toArray (0, 0) _ hk Tryz.underlying33 rfl hi33 ?_)
    refine C1.mono ?_
    rintro e W2 ⟨rfl, hb2⟩
    go_wp2_with fail
    go_ret
    exact ⟨rfl, HB.out.trans (hb2.mono HB.out.size)⟩
  rw [decide_eq_true q1] at C1
  go_wp2_with (refine wpList_load_row rfl 33 (.tmp 2) (by with_reducible rfl) g rfl 33 tl.toArray (0, 0) _ hk Tryz.underlying33 rfl hi33 ?_)
  refine C1.mono ?_
  rintro e W2 ⟨rfl, hb2⟩
  have hm2 := hm1.after hb2
  have h2' := hm2.at_ (g + 1, .cells tl'.toArray 33 (0, 0)) (by simp)
  have HB2 : Hid (Below w.heap.size w W2) := hm2.below
  have C2 := light_any (HZ.out.at_ hm2.below (Nat.le_refl _))
  clear C1
  by_cases q2 : Lgt z
  rotate_left
  · rw [decide_eq_false q2] at C2
    go_wp2_with (refine wpList_load_row_g rfl 33 (.tmp 3) (by with_reducible rfl) (g + 1) rfl 33 tl'.toArray (0, 0) _ h2' Tryz.underlying33 hi33' ?_)
    refine C2.mono ?_
    rintro e W3 ⟨rfl, hb3⟩
    go_wp2_with fail
    go_ret
    exact ⟨rfl, HB2.out.trans (hb3.mono HB2.out.size)⟩
  rw [decide_eq_true q2] at C2
  go_wp2_with (refine wpList_load_row_g rfl 33 (.tmp 3) (by with_reducible rfl) (g + 1) rfl 33 tl'.toArray (0, 0) _ h2' Tryz.underlying33 hi33' ?_)
  refine C2.mono ?_
  rintro e W3 ⟨rfl, hb3⟩
  have hm3 := hm2.after hb3
  have I1 := lgt_in q1 HA.out.1 k1 k2 k3
  have I2 := lgt_in q2 HZ.out.1 j1 j2 j3
  have KS : Hid (∀ V, Mem w V [(g + 1, .cells tl'.toArray 33 (0, 0)), (g, .cells tl.toArray 33 (0, 0))] → V.rangeAt g 0 tl ∧ V.rangeAt (g + 1) 0 tl') := by
    intro V hV
    refine ⟨fun j v hj => ?_, fun j v hj => ?_⟩
    · rw [Nat.zero_add, hV.cell 1 rfl]; simpa using hj
    · rw [Nat.zero_add, hV.cell 0 rfl]; simpa using hj
  have CS : ∀ V, Mem w V [(g + 1, .cells tl'.toArray 33 (0, 0)), (g, .cells tl.toArray 33 (0, 0))] → Calls Tryz.prog 29 #[.agg tl.toArray, .agg tl'.toArray] V fun e V' => e = .returned (.bool (decide (TSame t z))) ∧ Mem w V' [(g + 1, .cells tl'.toArray 33 (0, 0)), (g, .cells tl.toArray 33 (0, 0))] := by
    intro V hV
    have h := cfgSame_any (HA.out.at_ hV.below (Nat.le_refl _)) I1 (HZ.out.at_ hV.below (Nat.le_refl _)) I2
    rw [eq_same] at h
    exact h.mono fun e V' ⟨he, hb⟩ => ⟨he, hV.after hb⟩
  have CA : ∀ V, Mem w V [(g + 1, .cells tl'.toArray 33 (0, 0)), (g, .cells tl.toArray 33 (0, 0))] → Calls Tryz.prog 29 #[.agg tl.toArray, .agg tl.toArray] V fun e V' => e = .returned (.bool true) ∧ Mem w V' [(g + 1, .cells tl'.toArray 33 (0, 0)), (g, .cells tl.toArray 33 (0, 0))] := by
    intro V hV
    have h := cfgSame_any (HA.out.at_ hV.below (Nat.le_refl _)) I1 (HA.out.at_ hV.below (Nat.le_refl _)) I1
    have e1 : decide (TSame t t) = true := decide_eq_true ⟨rfl, rfl, rfl, rfl, rfl, rfl, rfl, rfl, rfl, rfl, rfl, rfl, rfl, rfl, rfl, rfl⟩
    rw [eq_same, e1] at h
    exact h.mono fun e V' ⟨he, hb⟩ => ⟨he, hV.after hb⟩
  have CT : ∀ V, Mem w V [(g + 1, .cells tl'.toArray 33 (0, 0)), (g, .cells tl.toArray 33 (0, 0))] → Calls Tryz.prog 26 #[.agg tl.toArray, .agg tl'.toArray] V fun e V' => e = .returned (.bool (decide (TSame t z))) ∧ Mem w V' [(g + 1, .cells tl'.toArray 33 (0, 0)), (g, .cells tl.toArray 33 (0, 0))] := by
    intro V hV
    have h := htenant_any (HA.out.at_ hV.below (Nat.le_refl _)) (HZ.out.at_ hV.below (Nat.le_refl _)) I1.pool I1.stat I1.twi
    exact h.mono fun e V' ⟨he, hb⟩ => ⟨he, hV.after hb⟩
  generalize decide (TSame t z) = R at CS CT
  have hRR : (R == R) = true := by simp
  have hM := hm3.drew
  have rr := KS.out _ hM
  have hi : (Tryz.prog.info? 33).map (·.size) = some tl.length := by rw [hs]; kernel_rfl
  have hi' : (Tryz.prog.info? 33).map (·.size) = some tl'.length := by rw [hs']; kernel_rfl
  clear hm1 hm2 hm3 HA HZ I1 I2 q1 q2 hk hk' h2' hb1 hb2 hb3 C2 HB HB2 hi33 hi33' k1 k2 k3 j1 j2 j3
  go_upto_region 5 with fail
  refine wp_region_held_drew (S := fun V => V.rangeAt g 0 tl ∧ V.rangeAt (g + 1) 0 tl') (by kernel_rfl) rr (fun hHeld => ?_)
  refine wpAnyH_take (i := 0) (v := _) rfl (by kernel_rfl) (by kernel_rfl) (by kernel_rfl) (fun _ _ _ h => h) (yieldsIf_load_mid (by rfl) _ _ rfl _ _ rfl _ _ ?qs0 Tryz.underlying33 rfl hi) (by assumption) ?qr0
  case qs0 =>
    intro w hSw
    (try dsimp only at hSw)
    go_split_ands
    assumption
  try simp only [List.getElem_toArray, List.getElem_cons_zero, List.getElem_cons_succ, Act.put, List.setIfInBounds_toArray, List.set_cons_zero, List.set_cons_succ]
  refine wpAnyH_take (i := 1) (v := _) rfl (by kernel_rfl) (by kernel_rfl) (by kernel_rfl) (fun _ _ _ h => h) (yieldsIf_load_mid (by rfl) _ _ rfl _ _ rfl _ _ ?qs1 Tryz.underlying33 rfl hi') (by assumption) ?qr1
  case qs1 =>
    intro w hSw
    (try dsimp only at hSw)
    go_split_ands
    assumption
  try simp only [List.getElem_toArray, List.getElem_cons_zero, List.getElem_cons_succ, Act.put, List.setIfInBounds_toArray, List.set_cons_zero, List.set_cons_succ]
  refine wpAnyH_take (i := 3) (v := _) rfl (by kernel_rfl) (by kernel_rfl) (by kernel_rfl) (fun _ _ _ h => h) (yieldsIf_load_mid (by rfl) _ _ rfl _ _ rfl _ _ ?qs3 Tryz.underlying33 rfl hi) (by assumption) ?qr3
  case qs3 =>
    intro w hSw
    (try dsimp only at hSw)
    go_split_ands
    assumption
  try simp only [List.getElem_toArray, List.getElem_cons_zero, List.getElem_cons_succ, Act.put, List.setIfInBounds_toArray, List.set_cons_zero, List.set_cons_succ]
  refine wpAnyH_take (i := 4) (v := _) rfl (by kernel_rfl) (by kernel_rfl) (by kernel_rfl) (fun _ _ _ h => h) (yieldsIf_load_mid (by rfl) _ _ rfl _ _ rfl _ _ ?qs4 Tryz.underlying33 rfl hi') (by assumption) ?qr4
  case qs4 =>
    intro w hSw
    (try dsimp only at hSw)
    go_split_ands
    assumption
  try simp only [List.getElem_toArray, List.getElem_cons_zero, List.getElem_cons_succ, Act.put, List.setIfInBounds_toArray, List.set_cons_zero, List.set_cons_succ]
  refine wpAnyH_ready (rs := [2]) (by kernel_rfl) (by simp) ?_
  refine AllReadyH.cons rfl (fun K hK => ?_) AllReadyH.nil
  go_simp
  with_reducible refine (CS _ (by assumption)).mono ?_
  rintro e V1 ⟨rfl, hM1⟩
  try go_wp2_with fail
  refine hK.out _ _ (KS.out _ hM1) (fun hHeld => ?_)
  clear hK K
  try simp only [List.getElem_toArray, List.getElem_cons_zero, List.getElem_cons_succ, Act.put, List.setIfInBounds_toArray, List.set_cons_zero, List.set_cons_succ]
  refine wpAnyH_ready (rs := [5]) (by kernel_rfl) (by simp) ?_
  refine AllReadyH.cons rfl (fun K hK => ?_) AllReadyH.nil
  go_simp
  with_reducible refine (CT _ (by assumption)).mono ?_
  rintro e V2 ⟨rfl, hM2⟩
  try go_wp2_with fail
  refine hK.out _ _ (KS.out _ hM2) (fun hHeld => ?_)
  clear hK K
  try simp only [List.getElem_toArray, List.getElem_cons_zero, List.getElem_cons_succ, Act.put, List.setIfInBounds_toArray, List.set_cons_zero, List.set_cons_succ]
  refine wpAnyH_take (i := 6) (v := ?_) rfl (by kernel_rfl) (by kernel_rfl) (by kernel_rfl) (fun _ _ _ h => h) (Or.inl ⟨by rfl, ?qy6⟩) (by assumption) ?qr6
  case qy6 =>
    intro w hSw
    (try dsimp only at hSw)
    go_simp
    all_goals with_reducible rfl
  try simp only [List.getElem_toArray, List.getElem_cons_zero, List.getElem_cons_succ, Act.put, List.setIfInBounds_toArray, List.set_cons_zero, List.set_cons_succ]
  refine wpAnyH_take (i := 7) (v := ?_) rfl (by kernel_rfl) (by kernel_rfl) (by kernel_rfl) (fun _ _ _ h => h) (Or.inl ⟨by rfl, ?qy7⟩) (by assumption) ?qr7
  case qy7 =>
    intro w hSw
    (try dsimp only at hSw)
    go_simp
    all_goals with_reducible rfl
  try simp only [List.getElem_toArray, List.getElem_cons_zero, List.getElem_cons_succ, Act.put, List.setIfInBounds_toArray, List.set_cons_zero, List.set_cons_succ]
  refine wpAnyH_take (i := 8) (v := _) rfl (by kernel_rfl) (by kernel_rfl) (by kernel_rfl) (fun _ _ _ h => h) (yieldsIf_load_mid (by rfl) _ _ rfl _ _ rfl _ _ ?qs8 Tryz.underlying33 rfl hi) (by assumption) ?qr8
  case qs8 =>
    intro w hSw
    (try dsimp only at hSw)
    go_split_ands
    assumption
  try simp only [List.getElem_toArray, List.getElem_cons_zero, List.getElem_cons_succ, Act.put, List.setIfInBounds_toArray, List.set_cons_zero, List.set_cons_succ]
  refine wpAnyH_take (i := 9) (v := _) rfl (by kernel_rfl) (by kernel_rfl) (by kernel_rfl) (fun _ _ _ h => h) (yieldsIf_load_mid (by rfl) _ _ rfl _ _ rfl _ _ ?qs9 Tryz.underlying33 rfl hi) (by assumption) ?qr9
  case qs9 =>
    intro w hSw
    (try dsimp only at hSw)
    go_split_ands
    assumption
  try simp only [List.getElem_toArray, List.getElem_cons_zero, List.getElem_cons_succ, Act.put, List.setIfInBounds_toArray, List.set_cons_zero, List.set_cons_succ]
  refine wpAnyH_ready (rs := [10]) (by kernel_rfl) (by simp) ?_
  refine AllReadyH.cons rfl (fun K hK => ?_) AllReadyH.nil
  go_simp
  with_reducible refine (CA _ (by assumption)).mono ?_
  rintro e V3 ⟨rfl, hM3⟩
  try go_wp2_with fail
  refine hK.out _ _ (KS.out _ hM3) (fun hHeld => ?_)
  clear hK K
  try simp only [List.getElem_toArray, List.getElem_cons_zero, List.getElem_cons_succ, Act.put, List.setIfInBounds_toArray, List.set_cons_zero, List.set_cons_succ]
  refine wpAnyH_take (i := 11) (v := ?_) rfl (by kernel_rfl) (by kernel_rfl) (by kernel_rfl) (fun _ _ _ h => h) (Or.inl ⟨by rfl, ?qy11⟩) (by assumption) ?qr11
  case qy11 =>
    intro w hSw
    (try dsimp only at hSw)
    go_simp
    all_goals with_reducible rfl
  try simp only [List.getElem_toArray, List.getElem_cons_zero, List.getElem_cons_succ, Act.put, List.setIfInBounds_toArray, List.set_cons_zero, List.set_cons_succ]
  refine wpAnyH_take (i := 12) (v := ?_) rfl (by kernel_rfl) (by kernel_rfl) (by kernel_rfl) (fun _ _ _ h => h) (Or.inl ⟨by rfl, ?qy12⟩) (by assumption) ?qr12
  case qy12 =>
    intro w hSw
    (try dsimp only at hSw)
    go_simp
    all_goals with_reducible rfl
  try simp only [List.getElem_toArray, List.getElem_cons_zero, List.getElem_cons_succ, Act.put, List.setIfInBounds_toArray, List.set_cons_zero, List.set_cons_succ]
  refine wpAnyH_done (by kernel_rfl) ?_ _
  go_wp2_with fail
  go_ret
  exact ⟨rfl, hM3.below⟩
end Go.Proofs.YtngegdamcfmonaaGreat

namespace Go.Proofs.YtngegdamcfmonaaGreat
open Go.RowKit
open Sm
open Cf
set_option linter.unusedVariables false
set_option maxRecDepth 20000

/-- A slice of tenants. -/
def TSV (V : World) (v : Value) (ts : List Ten) : Prop := ∃ zs : List Tv, zs.map Prod.fst = ts ∧ Rw V 33 v (zs.map zc) ∧ ∀ z ∈ zs, TLen z.1 ∧ Rws V z
/-- A value that is settings. -/
def CV (V : World) (v : Value) (c : Cgf) : Prop := CLen c ∧ ∃ u, v = .agg (cc c u).toArray ∧ TSV V u c.ten
theorem zc_ne {zs : List Tv} : ∀ x ∈ zs.map zc, x ≠ [] := by
  intro x hx
  obtain ⟨z, -, rfl⟩ := List.mem_map.mp hx
  simp [zc, tc]
theorem Rws.below {V V' : World} {z : Tv} (h : Rws V z) {B : Nat} (hb : Below B V V') (hB : V.heap.size ≤ B) : Rws V' z := ⟨h.1.below ux_ne hb hB, h.2.1.below px_ne hb hB, h.2.2.below px_ne hb hB⟩
theorem TSV.at_ {w V : World} {v : Value} {ts : List Ten} (h : TSV w v ts) {B : Nat} (hb : Below B w V) (hB : w.heap.size ≤ B) : TSV V v ts := by
  obtain ⟨zs, h1, h2, h3⟩ := h
  exact ⟨zs, h1, h2.below zc_ne hb hB, fun z hz => ⟨(h3 z hz).1, (h3 z hz).2.below hb hB⟩⟩
theorem CV.at_ {w V : World} {v : Value} {c : Cgf} (h : CV w v c) {B : Nat} (hb : Below B w V) (hB : w.heap.size ≤ B) : CV V v c := by
  obtain ⟨h1, u, h2, h3⟩ := h
  exact ⟨h1, u, h2, h3.at_ hb hB⟩
theorem TSV.one {w : World} {v : Value} {ts : List Ten} (h : TSV w v ts) : v.oneCell' = true := by
  obtain ⟨zs, -, h, -⟩ := h
  exact rw_slice h
theorem cc_one (c : Cgf) {v : Value} (h : v.oneCell' = true) : (cc c v).toArray.all (·.oneCell') = true := by
  apply all_oneCell_toArray
  intro u hu
  simp only [cc, List.mem_cons, List.mem_append, List.mem_map, List.not_mem_nil, or_false] at hu
  rcases hu with rfl | ⟨x, _, rfl⟩ | ⟨x, _, rfl⟩ | ⟨x, _, rfl⟩ | ⟨x, _, rfl⟩ | rfl | rfl <;> first | rfl | exact h
/-- Tenants of the call's own. -/
theorem tsv_own {w V : World} {h : Nat} {zs : List Tz} {K : List (Nat × Obj)} (hok : ∀ z ∈ zs, tok z) (hl : zs.length ≤ 255) (hM : Mem w V (tbk h zs ++ K)) : TSV V (lv h (zs.map tcs)) (zs.map Prod.fst) := by
  have ec : ∀ z : Tz, zc (z.1, lv z.2.1 (ux z.1.pool), lv z.2.2.1 (px z.1.stat), lv z.2.2.2 (px z.1.twi)) = tcs z := fun z => rfl
  refine ⟨zs.map (fun z => (z.1, lv z.2.1 (ux z.1.pool), lv z.2.2.1 (px z.1.stat), lv z.2.2.2 (px z.1.twi))), by simp [Function.comp_def], ?_, ?_⟩
  · have e2 : (zs.map (fun z : Tz => (z.1, lv z.2.1 (ux z.1.pool), lv z.2.2.1 (px z.1.stat), lv z.2.2.2 (px z.1.twi)))).map zc = zs.map tcs := by
      rw [List.map_map]; rfl
    rw [e2]
    by_cases h0 : zs = []
    · subst h0; exact ⟨none, 0, rfl, Nat.le_refl _, by omega, fun _ => rfl, Or.inl rfl⟩
    · have hne : zs.map tcs ≠ [] := fun e => h0 (List.map_eq_nil_iff.mp e)
      rw [tbk_ne h0] at hM
      rw [lv_one hne]
      refine ⟨_, _, rfl, Nat.le_refl _, by rw [List.length_map]; omega, (fun e => by cases e), Or.inr ⟨h, 0, rfl, fun i hi j u hj => ?_⟩⟩
      rw [List.length_map] at hi
      obtain ⟨A, z, B, rfl, hA⟩ := pick zs i hi
      have ex : ((A ++ z :: B).map tcs).getD i [] = tcs z := by subst hA; simp [List.getD]
      rw [ex] at hj
      have hcell := hM.cell 0 rfl (0 + i * 33 + j)
      rw [hcell]
      have := get_mid (A.flatMap tcs) (tcs z) (B.flatMap tcs) j u hj
      rw [tcs_len (fun z hz => hok z (List.mem_append_left _ hz)), hA] at this
      rw [show (A ++ z :: B).flatMap tcs = A.flatMap tcs ++ (tcs z ++ B.flatMap tcs) by simp, Nat.zero_add]
      exact this
  · intro y hy
    obtain ⟨z, hz, rfl⟩ := List.mem_map.mp hy
    have ho := hok z hz
    refine ⟨ho.1, ?_⟩
    obtain ⟨A, B, rfl⟩ := List.append_of_mem hz
    rw [tbk_ne (by simp)] at hM
    have hM2 : Mem w V (lb z.2.1 22 (ux z.1.pool) ++ (lb z.2.2.1 142 (px z.1.stat) ++ (lb z.2.2.2 142 (px z.1.twi) ++ (A.flatMap tbs ++ (B.flatMap tbs ++ K))))) := (show Mem w V ((A ++ z :: B).flatMap tbs ++ K) from hM.sub).perm (by
      classical
      rw [List.perm_iff_count]
      intro q
      simp only [List.flatMap_append, List.flatMap_cons, tbs, List.count_append]
      omega)
    exact ⟨rw_own_U _ _ hM2 ho.2.1, rw_own_P _ _ hM2.dropA ho.2.2.1, rw_own_P _ _ hM2.dropA.dropA ho.2.2.2⟩
theorem IC_box {w : World} {c : Cgf} {u : Value} {zs : List Tv} (hi : CIn c) (ht : ∀ t ∈ c.ten, TIn t) (hz : zs.map Prod.fst = c.ten) (hr : Rw w 33 u (zs.map zc)) (hq : ∀ z ∈ zs, TLen z.1 ∧ Rws w z) {g : Nat} {pre post : List Value} {T : TypeId} {K : List (Nat × Obj)} (hm : (g, .cells (pre ++ (cc c u ++ post)).toArray T (0, 0)) ∈ K) :
    ∀ V, Mem w V K → IC c (u, zs) V g pre.length := by
  intro V hV
  refine ⟨hi, fun j v hj => ?_, hz, hV.rw' hr zc_ne, fun z h => ⟨ht _ (by rw [← hz]; exact List.mem_map_of_mem h), (hq z h).2.below hV.below (Nat.le_refl _)⟩⟩
  rw [mem_box hV hm]
  exact get_mid _ _ _ j v hj
def cenc (c : Cgf) : List Int := spC.enc c
set_option maxHeartbeats 4000000 in
theorem cfgConfig_any {w : World} {v : Value} {c : Cgf} (h : CV w v c) (hi : CIn c) (ht : ∀ t ∈ c.ten, TIn t) (hb : (cenc c).length ≤ 1000000000) :
    Calls Tryz.prog 13 #[v] w fun e w' => ∃ u, e = .returned u ∧ Out w w' u (cenc c) [] := by
  obtain ⟨-, u, rfl, zs, h1, h2, h3⟩ := h
  have hM0 : Mem w (w.alloc (.cells (cc c u).toArray 28)) [(w.heap.size, .cells (cc c u).toArray 28 (0, 0))] := (Mem.nil w).push1 rfl
  have C := config_any hM0
  obtain ⟨g, hg⟩ : ∃ g, w.heap.size = g := ⟨_, rfl⟩
  rw [hg] at C
  have HI := fun K (hm : (g, Obj.cells ([] ++ (cc c u ++ [])).toArray 28 (0, 0)) ∈ K) => IC_box (w := w) hi ht h1 h2 h3 hm
  simp only [List.nil_append, List.append_nil, List.length_nil] at HI
  have HII : Hid (∀ K, (g, Obj.cells (cc c u).toArray 28 (0, 0)) ∈ K → ∀ V, Mem w V K → IC c (u, zs) V g 0) := HI
  clear HI hM0 h1 h2 h3 hi ht
  generalize cc c u = tl at C HII
  go_enter Tryz.func13, Tryz.ntmps13
  go_wp2_with fail
  refine C.mono ?_
  rintro e V ⟨⟨k1, k2, k3, c1, c2, c3⟩, E, rfl, hM, hF⟩
  have CW := hF.wr (E ++ [(g, .cells tl.toArray 28 (0, 0))]) (fun q hq => List.mem_append_left _ hq) c (u, zs) g 0 (HII.out _ (by simp)) (.slice none 0 0) [] V (Out.nil hM) (by simpa [cenc] using hb)
  have eg : ∀ args V, (callFunc k1 args).run Tryz.prog V = .ok (.enter k1 args) V := hF.ew
  have hfd : ∀ V, (Instr.field 71 (.agg #[.func (.func k1) #[] c1, .func (.func k2) #[] c2, .func (.func k3) #[] c3]) 0).run Tryz.prog V = .ok (.func (.func k1) #[] c1) V := fun V => by kernel_rfl
  simp only at CW
  simp only [Fv.val]
  clear hF HII C hM
  go_wp2_with fail
  refine CW.mono ?_
  rintro e V2 ⟨u, rfl, hO⟩
  go_wp2_with fail
  go_ret
  refine ⟨u, rfl, ?_⟩
  rw [List.nil_append] at hO
  have hdrop : ∀ K, Out w V2 u (spC.enc c) K → Out w V2 u (spC.enc c) [] := by
    intro K
    induction K with
    | nil => exact id
    | cons p K ih => exact fun h => ih h.drop
  exact hdrop _ hO
/-- Settings that stand on blocks from n on. -/
def CVs (n : Nat) (V : World) (v : Value) (c : Cgf) : Prop := ∀ w1 V' : World, w1.heap.size ≤ n → Below w1.heap.size w1 V' → (∀ b, n ≤ b → b < V.heap.size → V'.heap[b]? = V.heap[b]?) → CV V' v c
theorem Mem.move {w V w1 V' : World} {L : List (Nat × Obj)} (h : Mem w V L) (h1 : w1.heap.size ≤ w.heap.size) (hb : Below w1.heap.size w1 V') (ha : ∀ b, w.heap.size ≤ b → b < V.heap.size → V'.heap[b]? = V.heap[b]?) : Mem w1 V' L :=
  ⟨hb, fun p hp => Nat.le_trans h1 (h.low p hp), fun p hp => (ha _ (h.low p hp) (h.lt hp)).trans (h.at_ p hp), h.apart⟩
theorem fin_C {w : World} {g0 : Nat} {z0 : Array Value} : ∀ x g rb z V K, (g0, Obj.cells z0 28 (0, 0)) ∈ K → JC w x g 28 [] [] V ((rb, .cells z 28 (0, 0)) :: K) → ∃ tl, V.heap[g]? = some (.cells tl 28 (0, 0)) ∧ tl.size = 29 ∧ tl.all (·.oneCell') = true ∧ V.heap[rb]? = some (.cells z 28 (0, 0)) ∧ Mem w (V.setRow rb tl) ((rb, .cells tl 28 (0, 0)) :: K) ∧ ∀ B, CVs w.heap.size ((V.setRow rb tl).setRow g0 B) (.agg tl) x := by
  rintro t g rb z V K hK ⟨hlen, hbd, h, zs, hz, hok, hM2⟩
  simp only [List.nil_append, List.append_nil] at hM2
  have hzl : zs.length ≤ 255 := by rw [← hz, List.length_map] at hbd; exact hbd
  have hone := cc_one t (v := lv h (zs.map tcs)) (by cases zs <;> rfl)
  obtain ⟨tl, htl⟩ : ∃ tl, (cc t (lv h (zs.map tcs))).toArray = tl := ⟨_, rfl⟩
  rw [htl] at hM2 hone
  have hM3 : Mem w V ((rb, .cells z 28 (0, 0)) :: (g, .cells tl 28 (0, 0)) :: (tbk h zs ++ K)) := hM2.perm (by
    classical
    rw [List.perm_iff_count]
    intro q
    simp only [List.count_append, List.count_cons]
    omega)
  have hg3 := hM3.get 0 rfl
  have hM4 : Mem w (V.setRow rb tl) ((rb, .cells tl 28 (0, 0)) :: (g, .cells tl 28 (0, 0)) :: (tbk h zs ++ K)) := hM3.wrote 0 rfl (wrote_setRow V rb z _ _ hg3)
  refine ⟨tl, hM2.get 0 rfl, by rw [← htl, List.size_toArray]; exact cc_len hlen _, hone, hg3, hM4.subl ?_, fun B w1 V' h1 hb ha => ⟨hlen, _, by rw [← htl], ?_⟩⟩
  · exact List.Sublist.cons_cons _ (List.Sublist.cons _ (List.sublist_append_right _ _))
  · rw [← hz]
    obtain ⟨K1, K2, rfl⟩ := List.append_of_mem hK
    have hM5 : Mem w (V.setRow rb tl) ((g0, .cells z0 28 (0, 0)) :: (tbk h zs ++ (K1 ++ K2))) := (show Mem w (V.setRow rb tl) (tbk h zs ++ (K1 ++ (g0, .cells z0 28 (0, 0)) :: K2)) from hM4.sub.sub).perm (by
      classical
      rw [List.perm_iff_count]
      intro q
      simp only [List.count_append, List.count_cons]
      omega)
    exact tsv_own hok hzl ((hM5.wrote 0 rfl (wrote_setRow _ g0 z0 B _ (hM5.get 0 rfl))).sub.move h1 hb ha)
theorem JC_mem {w : World} {x : Cgf} {g : Nat} {V : World} {K : List (Nat × Obj)} {T : TypeId} {pre post : List Value} (h : JC w x g T pre post V K) : Mem w V K := by
  obtain ⟨h1, h2, h, zs, h3, h4, h5⟩ := h
  exact h5.sub.dropA
theorem JC_zero {w V : World} {g : Nat} {T : TypeId} {K : List (Nat × Obj)} (h : Mem w V ((g, .cells cz T (0, 0)) :: K)) : JC w cfg0 g T [] [] V K :=
  ⟨cfg0_len, by decide, 0, [], rfl, (by simp), h⟩
/-- Settings that all bytes are. -/
def cdec (l : List Int) : Option Cgf := match spC.dec l cfg0 with | some (x, []) => some x | _ => none
/-- What OpenConfig answers. -/
def OPC (w : World) (r : Option Cgf) (e : Ending) (w' : World) : Prop := Below w.heap.size w w' ∧ match r with
  | none => e = .returned (.tuple #[.agg cz, .int .i64 70])
  | some h => ∃ v, e = .returned (.tuple #[v, .int .i64 0]) ∧ CVs w.heap.size w' v h
theorem CV.row {w : World} {v : Value} {c : Cgf} (h : CV w v c) : ∃ tl : Array Value, v = .agg tl ∧ tl.size = 29 ∧ tl.all (·.oneCell') = true := by
  obtain ⟨h1, u, rfl, h2⟩ := h
  exact ⟨_, rfl, by rw [List.size_toArray]; exact cc_len h1 _, cc_one c h2.one⟩
set_option maxHeartbeats 8000000 in
theorem openConfig_any {w : World} {a : Option Addr} {l : List Int} {c : Nat} (hS : Sl w a l c) :
    Calls Tryz.prog 19 #[.slice a l.length c] w (OPC w (cdec l)) := by
  obtain ⟨g, hg⟩ : ∃ g, w.heap.size = g := ⟨_, rfl⟩
  have hM0 : Mem w (w.alloc (.cells cz 28)) ((g, .cells cz 28 (0, 0)) :: []) := (Mem.nil w).push1 hg.symm
  have hCW := fun {f : Fv} {E : List (Nat × Obj)} {V : World} (hM : Mem w V (E ++ [(g, .cells cz 28 (0, 0))])) (hF : Fw w E IC JC f spC) => whole_C (I := IC) (Q := fun x V v => ∃ tl, v = .agg tl ∧ tl.size = 29 ∧ tl.all (·.oneCell') = true ∧ ∀ B, CVs w.heap.size (V.setRow g B) v x) hM hF.er hF.rd hS cfg0 (fun g V K h => JC_zero h) (fun x V K h => JC_mem h) (fun x g' rb z V K hs h => by
    obtain ⟨tl, h1, h2, h3, h4, h5, h6⟩ := fin_C (g0 := g) (z0 := cz) x g' rb z V K (hs _ (by simp)) h
    exact ⟨tl, h1, h2, h3, h4, h5, tl, rfl, h2, h3, h6⟩)
  obtain ⟨R, hR⟩ : ∃ R, cdec l = R := ⟨_, rfl⟩
  have HCW : Hid (∀ (k1 k2 k3 : Nat) (c1' c2 c3 : Array Value) (E : List (Nat × Obj)) (V : World), Mem w V (E ++ [(g, .cells cz 28 (0, 0))]) → Fw w E IC JC ⟨k1, k2, k3, c1', c2, c3⟩ spC →
          Calls Tryz.prog 38 #[.agg #[.func (.func k1) #[] c1', .func (.func k2) #[] c2, .func (.func k3) #[] c3], .slice a l.length c] V fun e W' => ∃ (tl : Array Value) (er : Int), e = .returned (.tuple #[.agg tl, .int .i64 er]) ∧ tl.size = 29 ∧ tl.all (·.oneCell') = true ∧ Mem w W' (E ++ [(g, .cells cz 28 (0, 0))]) ∧
            (Below w.heap.size w (W'.setRow g tl) → OPC w R (.returned (.tuple #[.agg tl, .int .i64 er])) (W'.setRow g tl))) := by
    intro k1 k2 k3 c1' c2 c3 E V hM hF
    have h := hCW hM hF
    have hzo : (cz : Array Value).all (·.oneCell') = true := by kernel_rfl
    rw [← hR]
    unfold cdec
    cases hd : spC.dec l cfg0 with
    | none =>
      rw [hd] at h
      exact h.mono (fun e W' h => ⟨cz, 70, h.2, rfl, hzo, h.1, fun hb => ⟨hb, rfl⟩⟩)
    | some x =>
      obtain ⟨s, l'⟩ := x
      rw [hd] at h
      cases l' with
      | nil =>
        refine h.mono ?_
        rintro e W' ⟨h1, v, h2, tl, rfl, h4, h5, h6⟩
        exact ⟨tl, 0, h2, h4, h5, h1, fun hb => ⟨hb, _, rfl, h6 tl⟩⟩
      | cons x xs => exact h.mono (fun e W' h => ⟨cz, 70, h.2, rfl, hzo, h.1, fun hb => ⟨hb, rfl⟩⟩)
  rw [hR]
  have C := config_any hM0
  clear hCW hS hR
  generalize l.length = n at *
  go_enter Tryz.func19, Tryz.ntmps19
  go_upto_region 1 with fail
  refine wp_letter (fun V => V = w.alloc (.cells cz 28)) rfl ?_
  rintro V0 rfl
  clear hM0
  go_wp2_with fail
  refine C.mono ?_
  rintro e V ⟨⟨k1, k2, k3, q1, q2, q3⟩, E, rfl, hM, hF⟩
  simp only [Fv.val]
  have CW := HCW.out _ _ _ _ _ _ _ _ hM hF
  clear HCW C hM hF
  go_wp2_with fail
  refine CW.mono ?_
  rintro e V2 ⟨tl, er, rfl, hs1, hs2, hM2, hP⟩
  have hM3 : Mem w V2 ((g, .cells cz 28 (0, 0)) :: E) := hM2.perm List.perm_append_comm
  have hg3 := hM3.get 0 rfl
  have hM4 : Mem w (V2.setRow g tl) ((g, .cells tl 28 (0, 0)) :: E) := hM3.wrote 0 rfl (wrote_setRow V2 g _ _ _ hg3)
  have hi29 : (Tryz.prog.info? 28).map (·.size) = some tl.size := by rw [hs1]; kernel_rfl
  have HP : Hid (OPC w R (.returned (.tuple #[.agg tl, .int .i64 er])) (V2.setRow g tl)) := hP hM4.below
  clear CW hP hM2 hM3
  go_wp2_with (refine wpList_store_row rfl 28 (.tmp 2) (.tmp 7) (by with_reducible rfl) g tl (by first | rfl | simp [Act.eval]) (by first | rfl | simp [Act.eval]) 28 cz hg3 hi29 (by rw [hs1]; rfl) hs2 ?_)
  refine bodyPost_ret (v := .tuple #[.agg tl, .int .i64 er]) ?_ rfl HP.out
  exact results_two' (p := 2) (q := 3) (ty := 28) rfl _ _ g _ rfl (run_loadVar_row _ _ 28 28 _ (0, 0) _ (hM4.get 0 rfl) Tryz.underlying28 rfl hi29)
end Go.Proofs.YtngegdamcfmonaaGreat

