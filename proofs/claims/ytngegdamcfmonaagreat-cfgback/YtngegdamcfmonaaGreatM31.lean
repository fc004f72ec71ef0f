/-
  Settings as bytes: whether nothing of a tenant is cut off; a place.
  Settings held against one another: which tenants the statements speak of.
-/
import Derived.Test.YtngegdamcfmonaaGreatM30
namespace Go.Proofs.YtngegdamcfmonaaGreat
open Go.RowKit
open Sm
open Cf
set_option linter.unusedVariables false
set_option maxRecDepth 20000

/-- Nothing of a tenant is cut off. -/
def Fit (t : Ten) : Prop := t.name.size ≤ 255 ∧ t.pool.length ≤ 255 ∧ t.stat.length ≤ 255 ∧ t.twi.length ≤ 255 ∧ 0 ≤ t.filter ∧ t.filter ≤ 255 ∧ 0 ≤ t.sess ∧ t.sess ≤ 65535 ∧ 0 ≤ t.queue ∧ t.queue ≤ 65535
instance (t : Ten) : Decidable (Fit t) := by unfold Fit; infer_instance
set_option maxHeartbeats 8000000 in
theorem fits_any {w : World} {v : Value} {t : Ten} (h : TV w v t) :
    Calls Tryz.prog 28 #[v] w fun e w' => e = .returned (.bool (decide (Fit t))) ∧ Below w.heap.size w w' := by
  obtain ⟨R, hR⟩ : ∃ R, decide (Fit t) = R := ⟨_, rfl⟩
  rw [hR]
  have hR' : ∀ b : Bool, (b = true ↔ Fit t) → R = b := by
    intro b hb
    rw [← hR]
    cases b with
    | true => exact decide_eq_true (hb.mp rfl)
    | false => exact decide_eq_false (fun e => by cases hb.mpr e)
  clear hR
  obtain ⟨hl, p, s, q, rfl, ⟨pa, pc, rfl, -⟩, ⟨sa, sc, rfl, -⟩, ⟨qa, qc, rfl, -⟩⟩ := h
  obtain ⟨n, vn, key, vt, vm, ho, po, lo, hi, fi, st, tw, se, qu, ra, bu⟩ := t
  obtain ⟨h1, h2, h3⟩ := hl
  obtain ⟨a, b, c, d, f, g, x, y, rfl⟩ := eight8 h1
  obtain ⟨a1, b1, c1, d1, f1, g1, rfl⟩ := six6 h2
  obtain ⟨a2, b2, c2, d2, f2, g2, rfl⟩ := six6 h3
  have k1 : (ux po).length = po.length := by simp [ux]
  have k2 : (px st).length = st.length := by simp [px]
  have k3 : (px tw).length = tw.length := by simp [px]
  simp only [tc, List.map_cons, List.map_nil, List.cons_append, List.nil_append, Fit, k1, k2, k3] at hR' ⊢
  clear k1 k2 k3 h1 h2 h3
  generalize po.length = pn at *
  generalize st.length = sn at *
  generalize tw.length = qn at *
  go_enter Tryz.func28, Tryz.ntmps28
  by_cases e0 : n.size ≤ 255
  rotate_left
  · have d0 : decide ((n.size : Int) ≤ 255) = false := decide_eq_false (by omega)
    obtain rfl := hR' false ⟨(fun e => by cases e), fun e => absurd e.1 e0⟩
    go_wp2_with fail
    go_ret
    exact ⟨rfl, (Below.refl _ _).alloc (Nat.le_refl _) _⟩
  have d0 : decide ((n.size : Int) ≤ 255) = true := decide_eq_true (by omega)
  by_cases e1 : pn ≤ 255
  rotate_left
  · have d1 : decide ((pn : Int) ≤ 255) = false := decide_eq_false (by omega)
    obtain rfl := hR' false ⟨(fun e => by cases e), fun e => absurd e.2.1 e1⟩
    go_wp2_with fail
    go_ret
    exact ⟨rfl, (Below.refl _ _).alloc (Nat.le_refl _) _⟩
  have d1 : decide ((pn : Int) ≤ 255) = true := decide_eq_true (by omega)
  by_cases e2 : sn ≤ 255
  rotate_left
  · have d2 : decide ((sn : Int) ≤ 255) = false := decide_eq_false (by omega)
    obtain rfl := hR' false ⟨(fun e => by cases e), fun e => absurd e.2.2.1 e2⟩
    go_wp2_with fail
    go_ret
    exact ⟨rfl, (Below.refl _ _).alloc (Nat.le_refl _) _⟩
  have d2 : decide ((sn : Int) ≤ 255) = true := decide_eq_true (by omega)
  by_cases e3 : qn ≤ 255
  rotate_left
  · have d3 : decide ((qn : Int) ≤ 255) = false := decide_eq_false (by omega)
    obtain rfl := hR' false ⟨(fun e => by cases e), fun e => absurd e.2.2.2.1 e3⟩
    go_wp2_with fail
    go_ret
    exact ⟨rfl, (Below.refl _ _).alloc (Nat.le_refl _) _⟩
  have d3 : decide ((qn : Int) ≤ 255) = true := decide_eq_true (by omega)
  by_cases e4 : 0 ≤ fi
  rotate_left
  · have d4 : decide (fi ≥ 0) = false := decide_eq_false (by omega)
    obtain rfl := hR' false ⟨(fun e => by cases e), fun e => absurd e.2.2.2.2.1 e4⟩
    go_wp2_with fail
    go_ret
    exact ⟨rfl, (Below.refl _ _).alloc (Nat.le_refl _) _⟩
  have d4 : decide (fi ≥ 0) = true := decide_eq_true (by omega)
  by_cases e5 : fi ≤ 255
  rotate_left
  · have d5 : decide (fi ≤ 255) = false := decide_eq_false (by omega)
    obtain rfl := hR' false ⟨(fun e => by cases e), fun e => absurd e.2.2.2.2.2.1 e5⟩
    go_wp2_with fail
    go_ret
    exact ⟨rfl, (Below.refl _ _).alloc (Nat.le_refl _) _⟩
  have d5 : decide (fi ≤ 255) = true := decide_eq_true (by omega)
  by_cases e6 : 0 ≤ se
  rotate_left
  · have d6 : decide (se ≥ 0) = false := decide_eq_false (by omega)
    obtain rfl := hR' false ⟨(fun e => by cases e), fun e => absurd e.2.2.2.2.2.2.1 e6⟩
    go_wp2_with fail
    go_ret
    exact ⟨rfl, (Below.refl _ _).alloc (Nat.le_refl _) _⟩
  have d6 : decide (se ≥ 0) = true := decide_eq_true (by omega)
  by_cases e7 : se ≤ 65535
  rotate_left
  · have d7 : decide (se ≤ 65535) = false := decide_eq_false (by omega)
    obtain rfl := hR' false ⟨(fun e => by cases e), fun e => absurd e.2.2.2.2.2.2.2.1 e7⟩
    go_wp2_with fail
    go_ret
    exact ⟨rfl, (Below.refl _ _).alloc (Nat.le_refl _) _⟩
  have d7 : decide (se ≤ 65535) = true := decide_eq_true (by omega)
  by_cases e8 : 0 ≤ qu
  rotate_left
  · have d8 : decide (qu ≥ 0) = false := decide_eq_false (by omega)
    obtain rfl := hR' false ⟨(fun e => by cases e), fun e => absurd e.2.2.2.2.2.2.2.2.1 e8⟩
    go_wp2_with fail
    go_ret
    exact ⟨rfl, (Below.refl _ _).alloc (Nat.le_refl _) _⟩
  have d8 : decide (qu ≥ 0) = true := decide_eq_true (by omega)
  by_cases e9 : qu ≤ 65535
  rotate_left
  · have d9 : decide (qu ≤ 65535) = false := decide_eq_false (by omega)
    obtain rfl := hR' false ⟨(fun e => by cases e), fun e => absurd e.2.2.2.2.2.2.2.2.2 e9⟩
    go_wp2_with fail
    go_ret
    exact ⟨rfl, (Below.refl _ _).alloc (Nat.le_refl _) _⟩
  have d9 : decide (qu ≤ 65535) = true := decide_eq_true (by omega)
  obtain rfl := hR' true ⟨fun _ => ⟨e0, e1, e2, e3, e4, e5, e6, e7, e8, e9⟩, fun _ => rfl⟩
  go_wp2_with fail
  go_ret
  exact ⟨rfl, (Below.refl _ _).alloc (Nat.le_refl _) _⟩
end Go.Proofs.YtngegdamcfmonaaGreat

namespace Go.Proofs.YtngegdamcfmonaaGreat
open Go.RowKit
open Sm
open Cf
set_option linter.unusedVariables false
set_option maxRecDepth 20000

/-- A tenant that is light. -/
def Lgt (t : Ten) : Prop := t.name.size ≤ 300 ∧ t.pool.length ≤ 300 ∧ t.stat.length ≤ 300 ∧ t.twi.length ≤ 300
instance (t : Ten) : Decidable (Lgt t) := by unfold Lgt; infer_instance
set_option maxHeartbeats 8000000 in
theorem light_any {w : World} {v : Value} {t : Ten} (h : TV w v t) :
    Calls Tryz.prog 11 #[v] w fun e w' => e = .returned (.bool (decide (Lgt t))) ∧ Below w.heap.size w w' := by
  obtain ⟨R, hR⟩ : ∃ R, decide (Lgt t) = R := ⟨_, rfl⟩
  rw [hR]
  have hR' : ∀ b : Bool, (b = true ↔ Lgt t) → R = b := by
    intro b hb
    rw [← hR]
    cases b with
    | true => exact decide_eq_true (hb.mp rfl)
    | false => exact decide_eq_false (fun e => by cases hb.mpr e)
  clear hR
  obtain ⟨hl, p, s, q, rfl, ⟨pa, pc, rfl, -⟩, ⟨sa, sc, rfl, -⟩, ⟨qa, qc, rfl, -⟩⟩ := h
  obtain ⟨n, vn, key, vt, vm, ho, po, lo, hi, fi, st, tw, se, qu, ra, bu⟩ := t
  obtain ⟨h1, h2, h3⟩ := hl
  obtain ⟨a, b, c, d, f, g, x, y, rfl⟩ := eight8 h1
  obtain ⟨a1, b1, c1, d1, f1, g1, rfl⟩ := six6 h2
  obtain ⟨a2, b2, c2, d2, f2, g2, rfl⟩ := six6 h3
  have k1 : (ux po).length = po.length := by simp [ux]
  have k2 : (px st).length = st.length := by simp [px]
  have k3 : (px tw).length = tw.length := by simp [px]
  simp only [tc, List.map_cons, List.map_nil, List.cons_append, List.nil_append, Lgt, k1, k2, k3] at hR' ⊢
  clear k1 k2 k3 h1 h2 h3
  generalize po.length = pn at *
  generalize st.length = sn at *
  generalize tw.length = qn at *
  go_enter Tryz.func11, Tryz.ntmps11
  by_cases e1 : n.size ≤ 300
  rotate_left
  · have d1 : decide ((n.size : Int) ≤ 300) = false := decide_eq_false (by omega)
    obtain rfl := hR' false ⟨(fun e => by cases e), fun e => absurd e.1 e1⟩
    go_wp2_with fail
    go_ret
    exact ⟨rfl, (Below.refl _ _).alloc (Nat.le_refl _) _⟩
  have d1 : decide ((n.size : Int) ≤ 300) = true := decide_eq_true (by omega)
  by_cases e2 : pn ≤ 300
  rotate_left
  · have d2 : decide ((pn : Int) ≤ 300) = false := decide_eq_false (by omega)
    obtain rfl := hR' false ⟨(fun e => by cases e), fun e => absurd e.2.1 e2⟩
    go_wp2_with fail
    go_ret
    exact ⟨rfl, (Below.refl _ _).alloc (Nat.le_refl _) _⟩
  have d2 : decide ((pn : Int) ≤ 300) = true := decide_eq_true (by omega)
  by_cases e3 : sn ≤ 300
  rotate_left
  · have d3 : decide ((sn : Int) ≤ 300) = false := decide_eq_false (by omega)
    obtain rfl := hR' false ⟨(fun e => by cases e), fun e => absurd e.2.2.1 e3⟩
    go_wp2_with fail
    go_ret
    exact ⟨rfl, (Below.refl _ _).alloc (Nat.le_refl _) _⟩
  have d3 : decide ((sn : Int) ≤ 300) = true := decide_eq_true (by omega)
  by_cases e4 : qn ≤ 300
  rotate_left
  · have d4 : decide ((qn : Int) ≤ 300) = false := decide_eq_false (by omega)
    obtain rfl := hR' false ⟨(fun e => by cases e), fun e => absurd e.2.2.2 e4⟩
    go_wp2_with fail
    go_ret
    exact ⟨rfl, (Below.refl _ _).alloc (Nat.le_refl _) _⟩
  have d4 : decide ((qn : Int) ≤ 300) = true := decide_eq_true (by omega)
  obtain rfl := hR' true ⟨fun _ => ⟨e1, e2, e3, e4⟩, fun _ => rfl⟩
  go_wp2_with fail
  go_ret
  exact ⟨rfl, (Below.refl _ _).alloc (Nat.le_refl _) _⟩
end Go.Proofs.YtngegdamcfmonaaGreat

