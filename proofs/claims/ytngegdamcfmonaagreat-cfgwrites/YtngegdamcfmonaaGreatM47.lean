/-
  Settings as bytes: the document's own Change, at all changes.
  Settings held against one another: which lists of tenants the statements speak of.
-/
import Derived.Test.YtngegdamcfmonaaGreatM46
import Derived.Test.YtngegdamcfmonaaGreatM37
namespace Go.Proofs.YtngegdamcfmonaaGreat
open Go.RowKit
open Sm
open Cf
set_option linter.unusedVariables false
set_option linter.unusedSimpArgs false
set_option maxRecDepth 20000

set_option maxHeartbeats 8000000 in
theorem rchange_any {w : World} {v : Value} {h : Chg} (hv : HV w v h) (hi : TIn h.t) :
    Calls Tryz.prog 16 #[v] w fun e w' => ∃ u, e = .returned u ∧ Ob w w' u (henc h) [] 6000 := by
  obtain ⟨hlen, p, s, q, rfl, h1, h2, h3⟩ := hv
  obtain ⟨put, name, t⟩ := h
  simp only at hi hlen h1 h2 h3
  obtain ⟨g, hg⟩ : ∃ g, w.heap.size = g := ⟨_, rfl⟩
  have hM0 : Mem w (w.alloc (.cells (hc ⟨put, name, t⟩ p s q).toArray 35)) [(g, .cells (hc ⟨put, name, t⟩ p s q).toArray 35 (0, 0))] := (Mem.nil w).push1 hg.symm
  have d0 : ∀ V, Mem w V [(g, .cells (hc ⟨put, name, t⟩ p s q).toArray 35 (0, 0))] → V.cell? ⟨g, 0, none⟩ = some (.bool put) := fun V hV => hV.cell 0 rfl 0
  have d1 : ∀ V, Mem w V [(g, .cells (hc ⟨put, name, t⟩ p s q).toArray 35 (0, 0))] → V.cell? ⟨g, 1, none⟩ = some (.string name) := fun V hV => hV.cell 0 rfl 1
  have d2 : ∀ V, Mem w V [(g, .cells (hc ⟨put, name, t⟩ p s q).toArray 35 (0, 0))] → V.rangeAt g 2 (tc t p s q) := fun V hV j u hj => by
    rw [hV.cell 0 rfl, Nat.add_comm]
    simpa [hc] using hj
  have HT : Hid (∀ V, Below w.heap.size w V → TV V (.agg (tc t p s q).toArray) t) := fun V hV => ⟨hlen, p, s, q, rfl, h1.below ux_ne hV (Nat.le_refl _), h2.below px_ne hV (Nat.le_refl _), h3.below px_ne hV (Nat.le_refl _)⟩
  have hi33 : (Tryz.prog.info? 33).map (·.size) = some (tc t p s q).length := by rw [tc_len hlen]; kernel_rfl
  have HI : Hid (TIn t) := hi
  have HP : Hid (0 < (tenc t).length) := tenc_pos' t
  obtain ⟨L0, hL0⟩ : ∃ L0 : List (Nat × Obj), L0 = [(g, .cells (hc ⟨put, name, t⟩ p s q).toArray 35 (0, 0))] := ⟨_, rfl⟩
  rw [← hL0] at hM0 d0 d1 d2
  have D1 : Hid (∀ V, Mem w V L0 → V.cell? ⟨g, 1, none⟩ = some (.string name)) := d1
  have D2 : Hid (∀ V, Mem w V L0 → V.rangeAt g 2 (tc t p s q)) := d2
  clear h1 h2 h3 hlen hi hL0 d1 d2
  generalize (hc ⟨put, name, t⟩ p s q).toArray = tl at *
  generalize tc t p s q = x at *
  cases put with
  | true =>
    simp only [henc, if_true]
    go_enter Tryz.func16, Tryz.ntmps16
    go_upto_region 1 with fail
    refine wp_letter (fun V => Mem w V L0) hM0 ?_
    intro V0 hM
    have c0 := d0 _ hM
    have hl := out_lit hM 1 (by omega)
    have hra := D2.out _ hl.mem
    have CT := rtenant_any (HT.out _ hl.mem.below) HI.out
    have HLI : Hid (Ob w (V0.alloc (.cells #[.int .u8 1] 5)) (.slice (some ⟨V0.heap.size, 0, none⟩) 1 1) [1] L0 1) := ⟨hl, by simp⟩
    clear hM0 d0 hl hM
    go_wp2_with (refine wpList_load_mid rfl 33 (.tmp 6) (by with_reducible rfl) g 2 (by simp [Act.eval]) x _ hra Tryz.underlying33 rfl hi33 ?_)
    refine CT.mono ?_
    rintro e W1 ⟨u1, rfl, hO1⟩
    obtain ⟨v2, W2, hrun, hO2⟩ := out_other HLI.out hO1 HP.out (by omega) 40
    rw [List.singleton_append] at hO2
    have HH : Hid (Ob w W2 v2 (1 :: tenc t) [] 6000) := ⟨hO2.1.none, Nat.le_trans hO2.2 (by omega)⟩
    clear hO1 hO2 HLI CT hra c0
    go_wp2_with (at_builtin; refine wpList_append_run (.tmp 5) (.tmp 8) 40 40 (by with_reducible rfl) hrun rfl rfl (by simp [Act.eval]) (by simp [Act.eval]) ?_)
    go_ret
    exact ⟨_, rfl, HH.out⟩
  | false =>
    simp only [henc, Bool.false_eq_true, if_false]
    go_enter Tryz.func16, Tryz.ntmps16
    go_upto_region 1 with fail
    refine wp_letter (fun V => Mem w V L0) hM0 ?_
    intro V0 hM
    have c0 := d0 _ hM
    have hl := out_lit hM 0 (by omega)
    have c1 := D1.out _ hl.mem
    have CN := rname_any (n := 1) ⟨hl, by simp⟩ name (by omega)
    clear hM0 d0 hl hM
    go_wp2_with fail
    refine CN.mono ?_
    rintro e W1 ⟨u1, rfl, hO1⟩
    rw [List.singleton_append] at hO1
    have HH : Hid (Ob w W1 u1 (0 :: nm name) [] 6000) := ⟨hO1.1.none, Nat.le_trans hO1.2 (by omega)⟩
    clear hO1 CN c0 c1
    go_wp2_with fail
    go_ret
    exact ⟨_, rfl, HH.out⟩
end Go.Proofs.YtngegdamcfmonaaGreat

namespace Go.Proofs.YtngegdamcfmonaaGreat
open Go.RowKit
open Sm
open Cf
set_option linter.unusedVariables false
set_option maxRecDepth 20000

/-- A slice of tenants, taken apart: each tenant's cells where the slice says. -/
theorem TSV.parts {w : World} {v : Value} {ts : List Ten} (h : TSV w v ts) : ∃ sa sc, v = .slice sa ts.length sc ∧ ts.length ≤ sc ∧ sc ≤ 9223372036854775807 ∧ ∀ i, i < ts.length → ∃ b off x, sa = some ⟨b, off, none⟩ ∧ x.length = 33 ∧ x.toArray.all (·.oneCell') = true ∧ ∀ V, Below w.heap.size w V → V.rangeAt b (off + i * 33) x ∧ TV V (.agg x.toArray) (ts.getD i ten0) := by
  obtain ⟨zs, hz, hr, hq⟩ := h
  have hN0 : (zs.map zc).length = ts.length := by rw [List.length_map, ← hz, List.length_map]
  have hrr := hr
  obtain ⟨sa, sc, rfl, hl, hb, -⟩ := hrr
  rw [hN0] at hr hl ⊢
  refine ⟨sa, sc, rfl, hl, hb, fun i hi => ?_⟩
  have hil : i < zs.length := by rw [List.length_map] at hN0; omega
  obtain ⟨b, off, x, e1, e2, e3, e4, e5⟩ := tsv_at hr hq i hil
  rw [hz] at e5
  refine ⟨b, off, x, e1, e3, e4, fun V hV => ⟨fun j u hj => ?_, ?_⟩⟩
  · have h := e2 j u hj
    rw [hV.cell (p := ⟨b, off + i * 33 + j, none⟩) (cell_lt h)]
    exact h
  · obtain ⟨hl, p, s, q, e, h1, h2, h3⟩ := e5
    exact ⟨hl, p, s, q, e, h1.below ux_ne hV (Nat.le_refl _), h2.below px_ne hV (Nat.le_refl _), h3.below px_ne hV (Nat.le_refl _)⟩
def Lgts (ts : List Ten) (m : Nat) : Prop := ts.length ≤ m ∧ ∀ i, i < ts.length → Lgt (ts.getD i ten0)
instance (ts : List Ten) (m : Nat) : Decidable (Lgts ts m) := by unfold Lgts; infer_instance
set_option maxHeartbeats 4000000 in
theorem lights_any {w : World} {v : Value} {ts : List Ten} (h : TSV w v ts) (m : Nat) (hm : m ≤ 1000) :
    Calls Tryz.prog 10 #[v, .int .i64 m] w fun e w' => e = .returned (.bool (decide (Lgts ts m))) ∧ Below w.heap.size w w' := by
  obtain ⟨sa, sc, rfl, hlc, hcb, hx⟩ := h.parts
  clear h
  obtain ⟨R, hR⟩ : ∃ R, decide (Lgts ts m) = R := ⟨_, rfl⟩
  rw [hR]
  have HR1 : Hid (∀ i, i < ts.length → ¬ Lgt (ts.getD i ten0) → R = false) := by
    intro i hi hn
    rw [← hR]
    exact decide_eq_false (fun h => hn (h.2 i hi))
  have HR2 : Hid ((∀ i, i < ts.length → i < m → Lgt (ts.getD i ten0)) → R = decide (((ts.length : Nat) : Int) ≤ (m : Int))) := by
    intro h
    rw [← hR]
    by_cases hl : ts.length ≤ m
    · rw [decide_eq_true (show Lgts ts m from ⟨hl, fun i hi => h i hi (by omega)⟩), decide_eq_true (by omega)]
    · rw [decide_eq_false (show ¬ Lgts ts m from fun h => hl h.1), decide_eq_false (by omega)]
  have HX : Hid (∀ i, i < ts.length → ∃ b off x, sa = some ⟨b, off, none⟩ ∧ x.length = 33 ∧ x.toArray.all (·.oneCell') = true ∧ ∀ V, Below w.heap.size w V → V.rangeAt b (off + i * 33) x ∧ TV V (.agg x.toArray) (ts.getD i ten0)) := hx
  have HB : Hid (Below w.heap.size w w) := Below.refl _ _
  clear hR hx
  generalize ts.length = N at *
  go_enter Tryz.func10, Tryz.ntmps10
  go_wp2_with fail
  go_loopw [5] (fun u5 w' => ∃ i : Nat, i ≤ N ∧ i ≤ m ∧ u5 = .int .i64 i ∧ Hid ((∀ j, j < i → Lgt (ts.getD j ten0)) ∧ Below w.heap.size w w')) (fun u5 w' => N - (intOf u5).toNat)
  case atStart => exact ⟨0, Nat.zero_le _, Nat.zero_le _, rfl, fun j hj => absurd hj (by omega), HB.out⟩
  case round =>
    obtain ⟨i, hi, hi2, rfl, HRR⟩ := hrel
    by_cases hlt : i < N
    · have h1 : (i : Int) < N := by omega
      by_cases hlm : i < m
      · have h2 : (i : Int) < m := by omega
        obtain ⟨b, off, x, rfl, hsz, hone, hV⟩ := HX.out i hlt
        obtain ⟨hra, hTV⟩ := hV _ HRR.out.2
        have CL := light_any hTV
        have hi33 : (Tryz.prog.info? 33).map (·.size) = some x.length := by rw [hsz]; kernel_rfl
        clear hV hTV hone hsz
        by_cases q1 : Lgt (ts.getD i ten0)
        · rw [decide_eq_true q1] at CL
          go_wp2_with (refine wpList_load_mid rfl 33 (.tmp 19) (by with_reducible rfl) b (off + i * 33) (by simp [Act.eval]) x _ hra Tryz.underlying33 rfl hi33 ?_)
          refine CL.mono ?_
          rintro e W1 ⟨rfl, hb1⟩
          have HH : Hid ((∀ j, j < i + 1 → Lgt (ts.getD j ten0)) ∧ Below w.heap.size w W1) := ⟨fun j hj => by
            rcases Nat.lt_or_ge j i with h | h
            · exact HRR.out.1 j h
            · obtain rfl : j = i := by omega
              exact q1, HRR.out.2.trans (hb1.mono HRR.out.2.size)⟩
          clear CL hra HRR hb1 q1
          go_wp2_with fail
          go_roundw
          case rel => exact ⟨i + 1, by omega, by omega, by go_num, HH⟩
          case measure => simp [intOf]; omega
        · rw [decide_eq_false q1] at CL
          obtain rfl := HR1.out i hlt q1
          go_wp2_with (refine wpList_load_mid rfl 33 (.tmp 19) (by with_reducible rfl) b (off + i * 33) (by simp [Act.eval]) x _ hra Tryz.underlying33 rfl hi33 ?_)
          refine CL.mono ?_
          rintro e W1 ⟨rfl, hb1⟩
          have HH : Hid (Below w.heap.size w W1) := HRR.out.2.trans (hb1.mono HRR.out.2.size)
          clear CL hra HRR hb1 q1
          go_wp2_with fail
          go_ret
          exact ⟨rfl, HH.out⟩
      · have h2 : ¬ ((i : Int) < m) := by omega
        have hR3 := HR2.out (fun j hj hjm => HRR.out.1 j (by omega))
        subst hR3
        go_wp2_with fail
        go_ret
        exact ⟨rfl, HRR.out.2⟩
    · have h1 : ¬ ((i : Int) < N) := by omega
      have hR3 := HR2.out (fun j hj hjm => HRR.out.1 j (by omega))
      subst hR3
      go_wp2_with fail
      go_ret
      exact ⟨rfl, HRR.out.2⟩
end Go.Proofs.YtngegdamcfmonaaGreat

