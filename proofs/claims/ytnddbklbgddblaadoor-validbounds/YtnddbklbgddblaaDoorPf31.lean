/-
  Settings held against one another: which lists of tenants the statements speak of.
  Settings as bytes: the document's own OpenChange: a change that puts a tenant.
  Settings as bytes: settings that were written are read back, no part of them is read, and nothing longer; what fits is read back as it was.
-/
import Derived.Test.YtnddbklbgddblaaDoorPf30
import Derived.Test.YtnddbklbgddblaaDoorPf20
import Derived.Test.YtnddbklbgddblaaDoorPf29
import Derived.Test.YtnddbklbgddblaaDoorPf22
namespace Go.Proofs.YtnddbklbgddblaaDoor
open Go.RowKit
open Sm
open Cf
set_option linter.unusedVariables false
set_option maxRecDepth 20000

theorem TSV.parts {w : World} {v : Value} {ts : List Ten} (h : TSV w v ts) : ∃ sa sc, v = .slice sa ts.length sc ∧ ts.length ≤ sc ∧ sc ≤ 9223372036854775807 ∧ ∀ i, i < ts.length → ∃ b off x, sa = some ⟨b, off, none⟩ ∧ x.length = 33 ∧ x.toArray.all (·.oneCell') = true ∧ ∀ V, Below w.heap.size w V → V.rangeAt b (off + i * 33) x ∧ TV V (.agg x.toArray) (ts.getD i ten0) := by
  obtain ⟨zs, hz, hr, hq⟩ := h
  have hN0 : (zs.map zc).length = ts.length := by rw [List.length_map, ← hz, List.length_map]
  have hrr := hr
  obtain ⟨sa, sc, rfl, hl, hb, -⟩ := hrr
  rw [hN0] at hr hl ⊢
  refine ⟨sa, sc, rfl, hl, hb, fun i hi => ?_⟩
  have hil : i < zs.length := by rw [List.length_map] at hN0; omega
  obtain ⟨b, off, x, e1, e2, e3, e4, e5⟩ := tsv_at hr hq i hil
  rw [hz] at e5
  refine ⟨b, off, x, e1, e3, e4, fun V hV => ⟨fun j u hj => ?_, ?_⟩⟩
  · have h := e2 j u hj
    rw [hV.cell (p := ⟨b, off + i * 33 + j, none⟩) (cell_lt h)]
    exact h
  · obtain ⟨hl, p, s, q, e, h1, h2, h3⟩ := e5
    exact ⟨hl, p, s, q, e, h1.below ux_ne hV (Nat.le_refl _), h2.below px_ne hV (Nat.le_refl _), h3.below px_ne hV (Nat.le_refl _)⟩
def Lgts (ts : List Ten) (m : Nat) : Prop := ts.length ≤ m ∧ ∀ i, i < ts.length → Lgt (ts.getD i ten0)
instance (ts : List Ten) (m : Nat) : Decidable (Lgts ts m) := by unfold Lgts; infer_instance
end Go.Proofs.YtnddbklbgddblaaDoor

namespace Go.Proofs.YtnddbklbgddblaaDoor
open Go.RowKit
open Sm
open Cf
set_option linter.unusedVariables false
set_option linter.unusedSimpArgs false
set_option maxRecDepth 20000

theorem owb_rw' {V : World} {T : TypeId} {sz : Nat} {v : Value} {xs : List (List Value)} {B : List (Nat × Obj)} (hx : ∀ x ∈ xs, x.length = sz) (h : OwB T sz v xs.length xs.flatten B) (hB : ∀ p ∈ B, V.heap[p.1]? = some p.2) : Rw V sz v xs := by
  rcases h.2 with ⟨rfl, e, rfl⟩ | ⟨g, cap, cur, rfl, rfl, h1, h2, h3, h4⟩
  · have : xs = [] := List.eq_nil_of_length_eq_zero e
    subst this
    exact ⟨none, 0, rfl, Nat.le_refl _, by omega, fun _ => rfl, Or.inl rfl⟩
  · have hg := hB _ (List.mem_cons_self ..)
    refine ⟨some ⟨g, 0, none⟩, cap, rfl, h1, by simpa [maxLen] using h2, nofun, Or.inr ⟨g, 0, rfl, fun i hi j u hj => ?_⟩⟩
    have h5 := flat_at xs i j u hx hj
    rw [← h4] at h5
    have hc : V.cell? ⟨g, 0 + i * sz + j, none⟩ = cur[0 + i * sz + j]? := by
      unfold World.cell?
      simp [hg]
    rw [hc, Nat.zero_add]
    rw [List.getElem?_take] at h5
    split at h5
    · rw [← Array.getElem?_toList]; exact h5
    · cases h5
end Go.Proofs.YtnddbklbgddblaaDoor

namespace Go.Proofs.YtnddbklbgddblaaDoor
open Go.RowKit
open Sm
open Cf
set_option linter.unusedVariables false
set_option maxRecDepth 20000

theorem TSame.symm {t z : Ten} (h : TSame t z) : TSame z t := by
  obtain ⟨a, b, c, d, e, f, g, h, i, j, k, l, m, n, o, p⟩ := h
  exact ⟨a.symm, b.symm, c.symm, d.symm, e.symm, f.symm, g.symm, h.symm, i.symm, j.symm, k.symm, l.symm, m.symm, n.symm, o.symm, p.symm⟩
end Go.Proofs.YtnddbklbgddblaaDoor

