/-
  Settings held against one another: which lists of tenants the statements speak of.
  Settings as bytes: settings that were written are read back, no part of them is read, and nothing longer; what fits is read back as it was.
  Settings as bytes: the document's own OpenChange: a change that puts a tenant.
-/
import Derived.Test.YtbccadbnaggkhaaGreatKE26
import Derived.Test.YtbccadbnaggkhaaGreatKE17
import Derived.Test.YtbccadbnaggkhaaGreatKE19
import Derived.Test.YtbccadbnaggkhaaGreatKE25
namespace Go.Proofs.YtbccadbnaggkhaaGreat
open Go.RowKit
open Sm
open Cf
set_option linter.unusedVariables false
set_option maxRecDepth 20000

theorem TSV.parts {w : World} {v : Value} {ts : List Ten} (h : TSV w v ts) : ∃ sa sc, v = .slice sa ts.length sc ∧ ts.length ≤ sc ∧ sc ≤ 9223372036854775807 ∧ ∀ i, i < ts.length → ∃ b off x, sa = some ⟨b, off, none⟩ ∧ x.length = 33 ∧ x.toArray.all (·.oneCell') = true ∧ ∀ V, Below w.heap.size w V → V.rangeAt b (off + i * 33) x ∧ TV V (.agg x.toArray) (ts.getD i ten0) := by
  obtain ⟨zs, hz, hr, hq⟩ := h
  have hN0 : (zs.map zc).length = ts.length := by rw [List.length_map, ← hz, List.length_map]
  have hrr := hr
  obtain ⟨sa, sc, rfl, hl, hb, -⟩ := hrr
  rw [hN0] at hr hl ⊢
  refine ⟨sa, sc, rfl, hl, hb, fun i hi => ?_⟩
  have hil : i < zs.length := by rw [List.length_map] at hN0; omega
  obtain ⟨b, off, x, e1, e2, e3, e4, e5⟩ := tsv_at hr hq i hil
  rw [hz] at e5
  refine ⟨b, off, x, e1, e3, e4, fun V hV => ⟨fun j u hj => ?_, ?_⟩⟩
  · have h := e2 j u hj
    rw [hV.cell (p := ⟨b, off + i * 33 + j, none⟩) (cell_lt h)]
    exact h
  · obtain ⟨hl, p, s, q, e, h1, h2, h3⟩ := e5
    exact ⟨hl, p, s, q, e, h1.below ux_ne hV (Nat.le_refl _), h2.below px_ne hV (Nat.le_refl _), h3.below px_ne hV (Nat.le_refl _)⟩
def Lgts (ts : List Ten) (m : Nat) : Prop := ts.length ≤ m ∧ ∀ i, i < ts.length → Lgt (ts.getD i ten0)
instance (ts : List Ten) (m : Nat) : Decidable (Lgts ts m) := by unfold Lgts; infer_instance
set_option maxHeartbeats 4000000 in
theorem lights_any {w : World} {v : Value} {ts : List Ten} (h : TSV w v ts) (m : Nat) (hm : m ≤ 1000) :
    Calls Tryz.prog 21 #[v, .int .i64 m] w fun e w' => e = .returned (.bool (decide (Lgts ts m))) ∧ Below w.heap.size w w' := by
  obtain ⟨sa, sc, rfl, hlc, hcb, hx⟩ := h.parts
  clear h
  obtain ⟨R, hR⟩ : ∃ R, decide (Lgts ts m) = R := ⟨_, rfl⟩
  rw [hR]
  have HR1 : Hid (∀ i, i < ts.length → ¬ Lgt (ts.getD i ten0) → R = false) := by
    intro i hi hn
    rw [← hR]
    exact decide_eq_false (fun h => hn (h.2 i hi))
  have HR2 : Hid ((∀ i, i < ts.length → i < m → Lgt (ts.getD i ten0)) → R = decide (((ts.length : Nat) : Int) ≤ (m : Int))) := by
    intro h
    rw [← hR]
    by_cases hl : ts.length ≤ m
    · rw [decide_eq_true (show Lgts ts m from ⟨hl, fun i hi => h i hi (by omega)⟩), decide_eq_true (by omega)]
    · rw [decide_eq_false (show ¬ Lgts ts m from fun h => hl h.1), decide_eq_false (by omega)]
  have HX : Hid (∀ i, i < ts.length → ∃ b off x, sa = some ⟨b, off, none⟩ ∧ x.length = 33 ∧ x.toArray.all (·.oneCell') = true ∧ ∀ V, Below w.heap.size w V → V.rangeAt b (off + i * 33) x ∧ TV V (.agg x.toArray) (ts.getD i ten0)) := hx
  have HB : Hid (Below w.heap.size w w) := Below.refl _ _
  clear hR hx
  generalize ts.length = N at *
  go_enter Tryz.func21, Tryz.ntmps21
  go_wp2_with fail
  go_loopw [5] (fun u5 w' => ∃ i : Nat, i ≤ N ∧ i ≤ m ∧ u5 = .int .i64 i ∧ Hid ((∀ j, j < i → Lgt (ts.getD j ten0)) ∧ Below w.heap.size w w')) (fun u5 w' => N - (intOf u5).toNat)
  case atStart => exact ⟨0, Nat.zero_le _, Nat.zero_le _, rfl, fun j hj => absurd hj (by omega), HB.out⟩
  case round =>
    obtain ⟨i, hi, hi2, rfl, HRR⟩ := hrel
    by_cases hlt : i < N
    · have h1 : (i : Int) < N := by omega
      by_cases hlm : i < m
      · have h2 : (i : Int) < m := by omega
        obtain ⟨b, off, x, rfl, hsz, hone, hV⟩ := HX.out i hlt
        obtain ⟨hra, hTV⟩ := hV _ HRR.out.2
        have CL := light_any hTV
        have hi33 : (Tryz.prog.info? 34).map (·.size) = some x.length := by rw [hsz]; kernel_rfl
        clear hV hTV hone hsz
        by_cases q1 : Lgt (ts.getD i ten0)
        · rw [decide_eq_true q1] at CL
          go_wp2_with (refine wpList_load_mid rfl 34 (.tmp 19) (by with_reducible rfl) b (off + i * 33) (by simp [Act.eval]) x _ hra Tryz.underlying34 rfl hi33 ?_)
          refine CL.mono ?_
          rintro e W1 ⟨rfl, hb1⟩
          have HH : Hid ((∀ j, j < i + 1 → Lgt (ts.getD j ten0)) ∧ Below w.heap.size w W1) := ⟨fun j hj => by
            rcases Nat.lt_or_ge j i with h | h
            · exact HRR.out.1 j h
            · obtain rfl : j = i := by omega
              exact q1, HRR.out.2.trans (hb1.mono HRR.out.2.size)⟩
          clear CL hra HRR hb1 q1
          go_wp2_with fail
          go_roundw
          case rel => exact ⟨i + 1, by omega, by omega, by go_num, HH⟩
          case measure => simp [intOf]; omega
        · rw [decide_eq_false q1] at CL
          obtain rfl := HR1.out i hlt q1
          go_wp2_with (refine wpList_load_mid rfl 34 (.tmp 19) (by with_reducible rfl) b (off + i * 33) (by simp [Act.eval]) x _ hra Tryz.underlying34 rfl hi33 ?_)
          refine CL.mono ?_
          rintro e W1 ⟨rfl, hb1⟩
          have HH : Hid (Below w.heap.size w W1) := HRR.out.2.trans (hb1.mono HRR.out.2.size)
          clear CL hra HRR hb1 q1
          go_wp2_with fail
          go_ret
          exact ⟨rfl, HH.out⟩
      · have h2 : ¬ ((i : Int) < m) := by omega
        have hR3 := HR2.out (fun j hj hjm => HRR.out.1 j (by omega))
        subst hR3
        go_wp2_with fail
        go_ret
        exact ⟨rfl, HRR.out.2⟩
    · have h1 : ¬ ((i : Int) < N) := by omega
      have hR3 := HR2.out (fun j hj hjm => HRR.out.1 j (by omega))
      subst hR3
      go_wp2_with fail
      go_ret
      exact ⟨rfl, HRR.out.2⟩
end Go.Proofs.YtbccadbnaggkhaaGreat

namespace Go.Proofs.YtbccadbnaggkhaaGreat
open Go.RowKit
open Sm
open Cf
set_option linter.unusedVariables false
set_option maxRecDepth 20000

theorem TSame.symm {t z : Ten} (h : TSame t z) : TSame z t := by
  obtain ⟨a, b, c, d, e, f, g, h, i, j, k, l, m, n, o, p⟩ := h
  exact ⟨a.symm, b.symm, c.symm, d.symm, e.symm, f.symm, g.symm, h.symm, i.symm, j.symm, k.symm, l.symm, m.symm, n.symm, o.symm, p.symm⟩
end Go.Proofs.YtbccadbnaggkhaaGreat

namespace Go.Proofs.YtbccadbnaggkhaaGreat
open Go.RowKit
open Sm
open Cf
set_option linter.unusedVariables false
set_option linter.unusedSimpArgs false
set_option maxRecDepth 20000

theorem owb_rw' {V : World} {T : TypeId} {sz : Nat} {v : Value} {xs : List (List Value)} {B : List (Nat × Obj)} (hx : ∀ x ∈ xs, x.length = sz) (h : OwB T sz v xs.length xs.flatten B) (hB : ∀ p ∈ B, V.heap[p.1]? = some p.2) : Rw V sz v xs := by
  rcases h.2 with ⟨rfl, e, rfl⟩ | ⟨g, cap, cur, rfl, rfl, h1, h2, h3, h4⟩
  · have : xs = [] := List.eq_nil_of_length_eq_zero e
    subst this
    exact ⟨none, 0, rfl, Nat.le_refl _, by omega, fun _ => rfl, Or.inl rfl⟩
  · have hg := hB _ (List.mem_cons_self ..)
    refine ⟨some ⟨g, 0, none⟩, cap, rfl, h1, by simpa [maxLen] using h2, nofun, Or.inr ⟨g, 0, rfl, fun i hi j u hj => ?_⟩⟩
    have h5 := flat_at xs i j u hx hj
    rw [← h4] at h5
    have hc : V.cell? ⟨g, 0 + i * sz + j, none⟩ = cur[0 + i * sz + j]? := by
      unfold World.cell?
      simp [hg]
    rw [hc, Nat.zero_add]
    rw [List.getElem?_take] at h5
    split at h5
    · rw [← Array.getElem?_toList]; exact h5
    · cases h5
end Go.Proofs.YtbccadbnaggkhaaGreat

