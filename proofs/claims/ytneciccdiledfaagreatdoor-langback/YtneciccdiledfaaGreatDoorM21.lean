/-
  Settings held against one another: which tenants the statements speak of.
  What a tenant that comes in is.
  Settings as bytes: the program's OpenTenant, at all bytes.
  Settings as bytes: the document's own put16, put32, name, pairs.
  Settings as bytes: whether nothing of a tenant is cut off; a place.
  Settings as bytes: the document's own reader: take and n.
-/
import Derived.Test.YtneciccdiledfaaGreatDoorM20
import Derived.Test.YtneciccdiledfaaGreatDoorM06
import Derived.ProofKit
import Derived.OpenShut
import Derived.Deep.Slices
namespace Go.Proofs.YtneciccdiledfaaGreatDoor
open Go.RowKit
open Sm
open Cf
set_option linter.unusedVariables false
set_option maxRecDepth 20000

/-- A tenant that is light. -/
def Lgt (t : Ten) : Prop := t.name.size ≤ 300 ∧ t.pool.length ≤ 300 ∧ t.stat.length ≤ 300 ∧ t.twi.length ≤ 300
instance (t : Ten) : Decidable (Lgt t) := by unfold Lgt; infer_instance
set_option maxHeartbeats 8000000 in
theorem light_any {w : World} {v : Value} {t : Ten} (h : TV w v t) :
    Calls Tryz.prog 31 #[v] w fun e w' => e = .returned (.bool (decide (Lgt t))) ∧ Below w.heap.size w w' := by
  obtain ⟨R, hR⟩ : ∃ R, decide (Lgt t) = R := ⟨_, rfl⟩
  rw [hR]
  have hR' : ∀ b : Bool, (b = true ↔ Lgt t) → R = b := by
    intro b hb
    rw [← hR]
    cases b with
    | true => exact decide_eq_true (hb.mp rfl)
    | false => exact decide_eq_false (fun e => by cases hb.mpr e)
  clear hR
  obtain ⟨hl, p, s, q, rfl, ⟨pa, pc, rfl, -⟩, ⟨sa, sc, rfl, -⟩, ⟨qa, qc, rfl, -⟩⟩ := h
  obtain ⟨n, vn, key, vt, vm, ho, po, lo, hi, fi, st, tw, se, qu, ra, bu⟩ := t
  obtain ⟨h1, h2, h3⟩ := hl
  obtain ⟨a, b, c, d, f, g, x, y, rfl⟩ := eight8 h1
  obtain ⟨a1, b1, c1, d1, f1, g1, rfl⟩ := six6 h2
  obtain ⟨a2, b2, c2, d2, f2, g2, rfl⟩ := six6 h3
  have k1 : (ux po).length = po.length := by simp [ux]
  have k2 : (px st).length = st.length := by simp [px]
  have k3 : (px tw).length = tw.length := by simp [px]
  simp only [tc, List.map_cons, List.map_nil, List.cons_append, List.nil_append, Lgt, k1, k2, k3] at hR' ⊢
  clear k1 k2 k3 h1 h2 h3
  generalize po.length = pn at *
  generalize st.length = sn at *
  generalize tw.length = qn at *
  go_enter Tryz.func31, Tryz.ntmps31
  by_cases e1 : n.size ≤ 300
  rotate_left
  · have d1 : decide ((n.size : Int) ≤ 300) = false := decide_eq_false (by omega)
    obtain rfl := hR' false ⟨(fun e => by cases e), fun e => absurd e.1 e1⟩
    go_wp2_with fail
    go_ret
    exact ⟨rfl, (Below.refl _ _).alloc (Nat.le_refl _) _⟩
  have d1 : decide ((n.size : Int) ≤ 300) = true := decide_eq_true (by omega)
  by_cases e2 : pn ≤ 300
  rotate_left
  · have d2 : decide ((pn : Int) ≤ 300) = false := decide_eq_false (by omega)
    obtain rfl := hR' false ⟨(fun e => by cases e), fun e => absurd e.2.1 e2⟩
    go_wp2_with fail
    go_ret
    exact ⟨rfl, (Below.refl _ _).alloc (Nat.le_refl _) _⟩
  have d2 : decide ((pn : Int) ≤ 300) = true := decide_eq_true (by omega)
  by_cases e3 : sn ≤ 300
  rotate_left
  · have d3 : decide ((sn : Int) ≤ 300) = false := decide_eq_false (by omega)
    obtain rfl := hR' false ⟨(fun e => by cases e), fun e => absurd e.2.2.1 e3⟩
    go_wp2_with fail
    go_ret
    exact ⟨rfl, (Below.refl _ _).alloc (Nat.le_refl _) _⟩
  have d3 : decide ((sn : Int) ≤ 300) = true := decide_eq_true (by omega)
  by_cases e4 : qn ≤ 300
  rotate_left
  · have d4 : decide ((qn : Int) ≤ 300) = false := decide_eq_false (by omega)
    obtain rfl := hR' false ⟨(fun e => by cases e), fun e => absurd e.2.2.2 e4⟩
    go_wp2_with fail
    go_ret
    exact ⟨rfl, (Below.refl _ _).alloc (Nat.le_refl _) _⟩
  have d4 : decide ((qn : Int) ≤ 300) = true := decide_eq_true (by omega)
  obtain rfl := hR' true ⟨fun _ => ⟨e1, e2, e3, e4⟩, fun _ => rfl⟩
  go_wp2_with fail
  go_ret
  exact ⟨rfl, (Below.refl _ _).alloc (Nat.le_refl _) _⟩
end Go.Proofs.YtneciccdiledfaaGreatDoor

namespace Go.Proofs.YtneciccdiledfaaGreatDoor
open Go.ChangeShapes Go.WideShapes Go.ChangeAt Go.RowKit Go.Joins
open Sm
open Cf
set_option linter.unusedVariables false
set_option maxRecDepth 100000

theorem map_of {k : IntKind} {P : Int → Prop} : ∀ (cs : List Value), (∀ i, i < cs.length → ∃ a, cs[i]? = some (.int k a) ∧ P a) → ∃ l : List Int, cs = l.map (Value.int k) ∧ ∀ a ∈ l, P a
  | [], _ => ⟨[], rfl, by simp⟩
  | c :: cs, h => by
    obtain ⟨a, e, ha⟩ := h 0 (by simp)
    simp at e
    subst e
    obtain ⟨l, rfl, hl⟩ := map_of cs (fun i hi => by simpa using h (i + 1) (by simpa using hi))
    exact ⟨a :: l, rfl, fun b hb => by
      rcases List.mem_cons.mp hb with rfl | hb
      · exact ha
      · exact hl b hb⟩
theorem bytes_all : ∀ {l : List Int}, (∀ a ∈ l, 0 ≤ a ∧ a ≤ 255) → IsBytes l
  | [], _ => bytes_nil
  | a :: l, h => bytes_cons (h a (by simp)) (bytes_all fun b hb => h b (List.mem_cons_of_mem _ hb))
section
variable {H : Type} {enc : TypeId × Value → H} {W : World} {base : Nat} {held : Bool}
theorem open_arr {t : TypeId} {n : Nat} (ht : Tryz.prog.underlying t = some (.array n 5)) (hc : Tryz.prog.cellsOf t = n) {fuel : Nat} {cs : List Value} {x : DataW H × List MemPlace} (h : DataW.trod enc Tryz.prog W base (fun _ => true) held fuel t cs = some x) :
    ∃ l : List Int, cs = l.map (Value.int .u8) ∧ l.length = n ∧ IsBytes l := by
  obtain ⟨xs, m, -, -, hcl, hlen, hel⟩ := DataW.trod_array ht h
  rw [hc] at hcl
  rw [show Tryz.prog.cellsOf 5 = 1 by kernel_rfl] at hel
  obtain ⟨l, rfl, hl⟩ := map_of (k := .u8) (P := fun a => 0 ≤ a ∧ a ≤ 255) cs (fun i hi => by
    have h1 := hel i (by omega)
    rw [List.getElem?_eq_getElem (by omega)] at h1
    obtain ⟨a, e0, -, wa⟩ := DataW.trod_int Tryz.underlying5 h1
    refine ⟨a, ?_, bounds_u8 wa⟩
    have := congrArg (·[0]?) e0
    simpa [List.getElem?_take, List.getElem?_drop] using this)
  exact ⟨l, rfl, by simpa using hcl, bytes_all hl⟩
theorem addr_add (b off j : Nat) : (Addr.mk b off none).add j = ⟨b, off + j, none⟩ := by
  by_cases e : j = 0
  · subst e; simp [Addr.add]
  · simp [Addr.add, e]
theorem open_nums {fuel : Nat} {cs : List Value} {x : DataW H × List MemPlace} (h : DataW.trod enc Tryz.prog W base (fun _ => true) held fuel 41 cs = some x) :
    ∃ (v : Value) (l : List Int), cs = [v] ∧ Rw W 1 v (ux l) := by
  rcases open_ints Tryz.underlying41 Tryz.underlying23 (by kernel_rfl) h with ⟨rfl, _⟩ | ⟨a, len, cap, zs, rfl, _, hl, hm, hz, _, hcell, hwz⟩
  · exact ⟨_, [], rfl, none, 0, rfl, Nat.le_refl _, by omega, fun _ => rfl, Or.inl rfl⟩
  · simp only [if_true] at hz
    have e : (ux (zs.take len)).length = len := by simp [ux]; omega
    refine ⟨_, zs.take len, rfl, some a, cap, by rw [e], by omega, hm, (fun e => by cases e), ?_⟩
    by_cases h0 : len = 0
    · left
      subst h0
      simp [ux]
    · right
      obtain ⟨b, off, spot⟩ := a
      have hspot : spot = none := by
        have hc := hcell 0 (by omega)
        simpa [Addr.add] using World.cell?_spot hc
      subst hspot
      refine ⟨b, off, rfl, fun i hi j u hu => ?_⟩
      rw [e] at hi
      have hi' : i < (zs.take len).length := by simp; omega
      have hg : (ux (zs.take len)).getD i [] = [.int .u32 (zs.getD i 0)] := by
        rw [List.getD, ux, List.getElem?_map, List.getElem?_take, if_pos hi, List.getD, List.getElem?_eq_getElem (by omega)]
        rfl
      rw [hg] at hu
      match j, hu with
      | 0, hu =>
        simp at hu
        subst hu
        have hc := hcell i (by omega)
        rw [addr_add] at hc
        simpa using hc
theorem trod_struct2 {t : TypeId} {f0 f1 : Field} {fuel : Nat} {cs : List Value} {x : DataW H × List MemPlace} (ht : Tryz.prog.underlying t = some (.struct #[f0, f1])) (h : DataW.trod enc Tryz.prog W base (fun _ => true) held fuel t cs = some x) :
    ∃ y0 y1 n, DataW.trod enc Tryz.prog W base (fun _ => true) held n f0.type ((cs.drop f0.offset).take (Tryz.prog.cellsOf f0.type)) = some y0 ∧ DataW.trod enc Tryz.prog W base (fun _ => true) held n f1.type ((cs.drop f1.offset).take (Tryz.prog.cellsOf f1.type)) = some y1 := by
  obtain ⟨xs, n, _, _, hl, hlen, hf⟩ := DataW.trod_struct ht h
  match xs, hlen with
  | [y0, y1], _ => exact ⟨y0, y1, n, by simpa using hf 0 f0 rfl, by simpa using hf 1 f1 rfl⟩
theorem list_of {β : Type} (Q : Nat → β → Prop) : ∀ n, (∀ i, i < n → ∃ x, Q i x) → ∃ l : List β, l.length = n ∧ ∀ i x, l[i]? = some x → Q i x
  | 0, _ => ⟨[], rfl, by simp⟩
  | n + 1, h => by
    obtain ⟨l, hl, hq⟩ := list_of Q n (fun i hi => h i (by omega))
    obtain ⟨x, hx⟩ := h n (by omega)
    refine ⟨l ++ [x], by simp [hl], fun i y hy => ?_⟩
    rw [List.getElem?_append] at hy
    split at hy
    · exact hq i y hy
    · rename_i hi
      have : i = n := by
        have := (List.getElem?_eq_some_iff.1 hy).1
        simp at this
        omega
      subst this
      rw [hl, Nat.sub_self] at hy
      simp at hy
      subst hy
      exact hx
theorem open_pairs {fuel : Nat} {cs : List Value} {x : DataW H × List MemPlace} (h : DataW.trod enc Tryz.prog W base (fun _ => true) held fuel 43 cs = some x) :
    ∃ (v : Value) (l : List (Int × Int)), cs = [v] ∧ Rw W 2 v (px l) := by
  rcases Go.Deep.open_slice Tryz.underlying43 h with ⟨rfl, _⟩ | ⟨a, len, cap, m, n, D, Pl, rfl, _, hl, hm, hmm, _, hx⟩
  · exact ⟨_, [], rfl, none, 0, rfl, Nat.le_refl _, by omega, fun _ => rfl, Or.inl rfl⟩
  · have hlm : len ≤ m := by simp at hmm; omega
    by_cases h0 : len = 0
    · subst h0
      exact ⟨_, [], rfl, some a, cap, rfl, Nat.zero_le _, hm, (fun e => by cases e), Or.inl rfl⟩
    · rw [show Tryz.prog.cellsOf 96 = 2 by kernel_rfl] at hx
      obtain ⟨b, off, spot⟩ := a
      have hspot : spot = none := by
        obtain ⟨cs', h1, h2⟩ := hx 0 (by omega)
        obtain ⟨_, hlen, hcell⟩ := World.cells?_some h1
        have hc := hcell 0 (by omega)
        rw [List.getElem?_eq_getElem (by omega)] at hc
        simpa [Addr.add] using World.cell?_spot hc
      subst hspot
      obtain ⟨l, hll, hq⟩ := list_of (fun i (x : Int × Int) => W.cell? ⟨b, off + i * 2, none⟩ = some (.int .u32 x.1) ∧ W.cell? ⟨b, off + i * 2 + 1, none⟩ = some (.int .u32 x.2)) len (fun i hi => by
        obtain ⟨cs', h1, h2⟩ := hx i (by omega)
        obtain ⟨_, hlen, hcell⟩ := World.cells?_some h1
        match cs', hlen with
        | [v0, v1], _ =>
          have e0 := hcell 0 (by omega)
          have e1 := hcell 1 (by omega)
          rw [Go.Deep.add_add] at e0 e1
          rw [addr_add] at e0 e1
          obtain ⟨y0, y1, n', g0, g1⟩ := trod_struct2 Tryz.underlying96 h2
          have k0 : DataW.trod enc Tryz.prog W base (fun _ => true) held n' 23 [v0] = some y0 := by
            have := g0; simp only [show Tryz.prog.cellsOf 23 = 1 by kernel_rfl] at this; exact this
          have k1 : DataW.trod enc Tryz.prog W base (fun _ => true) held n' 23 [v1] = some y1 := by
            have := g1; simp only [show Tryz.prog.cellsOf 23 = 1 by kernel_rfl] at this; exact this
          obtain ⟨x0, rfl, q0⟩ := open_cell Tryz.underlying23 k0
          obtain ⟨x1, rfl, q1⟩ := open_cell Tryz.underlying23 k1
          exact ⟨(x0, x1), by simpa using e0, by simpa [Nat.add_assoc] using e1⟩)
      have e : (px l).length = len := by simp [px, hll]
      refine ⟨_, l, rfl, some ⟨b, off, none⟩, cap, by rw [e], by omega, hm, (fun e => by cases e), Or.inr ⟨b, off, rfl, fun i hi j u hu => ?_⟩⟩
      rw [e] at hi
      have hg : (px l).getD i [] = [.int .u32 (l[i]'(by omega)).1, .int .u32 (l[i]'(by omega)).2] := by
        rw [List.getD, px, List.getElem?_map, List.getElem?_eq_getElem (by omega)]
        rfl
      rw [hg] at hu
      obtain ⟨q0, q1⟩ := hq i _ (List.getElem?_eq_getElem (by omega))
      match j, hu with
      | 0, hu =>
        simp at hu
        subst hu
        simpa using q0
      | 1, hu =>
        simp at hu
        subst hu
        exact q1
theorem open_num {fuel : Nat} {t : TypeId} {k : IntKind} {cs : List Value} {x : DataW H × List MemPlace} (ht : Tryz.prog.underlying t = some (.int k)) (h : DataW.trod enc Tryz.prog W base (fun _ => true) held fuel t cs = some x) : ∃ a, cs = [.int k a] := by
  obtain ⟨a, e, -, -⟩ := DataW.trod_int ht h
  exact ⟨a, e⟩
theorem trod_struct16 {t : TypeId} {f0 f1 f2 f3 f4 f5 f6 f7 f8 f9 f10 f11 f12 f13 f14 f15 : Field} {fuel : Nat} {cs : List Value} {x : DataW H × List MemPlace} (ht : Tryz.prog.underlying t = some (.struct #[f0, f1, f2, f3, f4, f5, f6, f7, f8, f9, f10, f11, f12, f13, f14, f15])) (h : DataW.trod enc Tryz.prog W base (fun _ => true) held fuel t cs = some x) :
    ∃ n, cs.length = Tryz.prog.cellsOf t ∧ (∃ y, DataW.trod enc Tryz.prog W base (fun _ => true) held n f0.type ((cs.drop f0.offset).take (Tryz.prog.cellsOf f0.type)) = some y) ∧ (∃ y, DataW.trod enc Tryz.prog W base (fun _ => true) held n f1.type ((cs.drop f1.offset).take (Tryz.prog.cellsOf f1.type)) = some y) ∧ (∃ y, DataW.trod enc Tryz.prog W base (fun _ => true) held n f2.type ((cs.drop f2.offset).take (Tryz.prog.cellsOf f2.type)) = some y) ∧ (∃ y, DataW.trod enc Tryz.prog W base (fun _ => true) held n f3.type ((cs.drop f3.offset).take (Tryz.prog.cellsOf f3.type)) = some y) ∧ (∃ y, DataW.trod enc Tryz.prog W base (fun _ => true) held n f4.type ((cs.drop f4.offset).take (Tryz.prog.cellsOf f4.type)) = some y) ∧ (∃ y, DataW.trod enc Tryz.prog W base (fun _ => true) held n f5.type ((cs.drop f5.offset).take (Tryz.prog.cellsOf f5.type)) = some y) ∧ (∃ y, DataW.trod enc Tryz.prog W base (fun _ => true) held n f6.type ((cs.drop f6.offset).take (Tryz.prog.cellsOf f6.type)) = some y) ∧ (∃ y, DataW.trod enc Tryz.prog W base (fun _ => true) held n f7.type ((cs.drop f7.offset).take (Tryz.prog.cellsOf f7.type)) = some y) ∧ (∃ y, DataW.trod enc Tryz.prog W base (fun _ => true) held n f8.type ((cs.drop f8.offset).take (Tryz.prog.cellsOf f8.type)) = some y) ∧ (∃ y, DataW.trod enc Tryz.prog W base (fun _ => true) held n f9.type ((cs.drop f9.offset).take (Tryz.prog.cellsOf f9.type)) = some y) ∧ (∃ y, DataW.trod enc Tryz.prog W base (fun _ => true) held n f10.type ((cs.drop f10.offset).take (Tryz.prog.cellsOf f10.type)) = some y) ∧ (∃ y, DataW.trod enc Tryz.prog W base (fun _ => true) held n f11.type ((cs.drop f11.offset).take (Tryz.prog.cellsOf f11.type)) = some y) ∧ (∃ y, DataW.trod enc Tryz.prog W base (fun _ => true) held n f12.type ((cs.drop f12.offset).take (Tryz.prog.cellsOf f12.type)) = some y) ∧ (∃ y, DataW.trod enc Tryz.prog W base (fun _ => true) held n f13.type ((cs.drop f13.offset).take (Tryz.prog.cellsOf f13.type)) = some y) ∧ (∃ y, DataW.trod enc Tryz.prog W base (fun _ => true) held n f14.type ((cs.drop f14.offset).take (Tryz.prog.cellsOf f14.type)) = some y) ∧ (∃ y, DataW.trod enc Tryz.prog W base (fun _ => true) held n f15.type ((cs.drop f15.offset).take (Tryz.prog.cellsOf f15.type)) = some y) := by
  obtain ⟨xs, n, _, _, hl, hlen, hf⟩ := DataW.trod_struct ht h
  have hlen' : xs.length = 16 := hlen
  exact ⟨n, hl, ⟨_, (hf 0 f0 rfl).trans (List.getElem?_eq_getElem (by omega))⟩, ⟨_, (hf 1 f1 rfl).trans (List.getElem?_eq_getElem (by omega))⟩, ⟨_, (hf 2 f2 rfl).trans (List.getElem?_eq_getElem (by omega))⟩, ⟨_, (hf 3 f3 rfl).trans (List.getElem?_eq_getElem (by omega))⟩, ⟨_, (hf 4 f4 rfl).trans (List.getElem?_eq_getElem (by omega))⟩, ⟨_, (hf 5 f5 rfl).trans (List.getElem?_eq_getElem (by omega))⟩, ⟨_, (hf 6 f6 rfl).trans (List.getElem?_eq_getElem (by omega))⟩, ⟨_, (hf 7 f7 rfl).trans (List.getElem?_eq_getElem (by omega))⟩, ⟨_, (hf 8 f8 rfl).trans (List.getElem?_eq_getElem (by omega))⟩, ⟨_, (hf 9 f9 rfl).trans (List.getElem?_eq_getElem (by omega))⟩, ⟨_, (hf 10 f10 rfl).trans (List.getElem?_eq_getElem (by omega))⟩, ⟨_, (hf 11 f11 rfl).trans (List.getElem?_eq_getElem (by omega))⟩, ⟨_, (hf 12 f12 rfl).trans (List.getElem?_eq_getElem (by omega))⟩, ⟨_, (hf 13 f13 rfl).trans (List.getElem?_eq_getElem (by omega))⟩, ⟨_, (hf 14 f14 rfl).trans (List.getElem?_eq_getElem (by omega))⟩, ⟨_, (hf 15 f15 rfl).trans (List.getElem?_eq_getElem (by omega))⟩⟩
theorem open_cells {fuel : Nat} {cs : List Value} {x : DataW H × List MemPlace} (hf : DataW.trod enc Tryz.prog W base (fun _ => true) held fuel 45 cs = some x) :
    ∃ (t : Ten) (p s q : Value), cs = tc t p s q ∧ TLen t ∧ Rw W 1 p (ux t.pool) ∧ Rw W 2 s (px t.stat) ∧ Rw W 2 q (px t.twi) ∧ IsBytes t.key ∧ IsBytes t.vmac ∧ IsBytes t.host := by
  obtain ⟨n, hl, ⟨y0, g0⟩, ⟨y1, g1⟩, ⟨y2, g2⟩, ⟨y3, g3⟩, ⟨y4, g4⟩, ⟨y5, g5⟩, ⟨y6, g6⟩, ⟨y7, g7⟩, ⟨y8, g8⟩, ⟨y9, g9⟩, ⟨y10, g10⟩, ⟨y11, g11⟩, ⟨y12, g12⟩, ⟨y13, g13⟩, ⟨y14, g14⟩, ⟨y15, g15⟩⟩ := trod_struct16 Tryz.underlying45 hf
  rw [show Tryz.prog.cellsOf 45 = 33 by kernel_rfl] at hl
  have c1 : Tryz.prog.cellsOf 9 = 1 := by kernel_rfl
  have c2 : Tryz.prog.cellsOf 23 = 1 := by kernel_rfl
  have c3 : Tryz.prog.cellsOf 26 = 8 := by kernel_rfl
  have c4 : Tryz.prog.cellsOf 25 = 6 := by kernel_rfl
  have c5 : Tryz.prog.cellsOf 41 = 1 := by kernel_rfl
  have c6 : Tryz.prog.cellsOf 42 = 1 := by kernel_rfl
  have c7 : Tryz.prog.cellsOf 3 = 1 := by kernel_rfl
  have c8 : Tryz.prog.cellsOf 43 = 1 := by kernel_rfl
  simp only [c1, c2, c3, c4, c5, c6, c7, c8] at g0 g1 g2 g3 g4 g5 g6 g7 g8 g9 g10 g11 g12 g13 g14 g15
  obtain ⟨nm, e0, -⟩ := DataW.trod_string Tryz.underlying9 g0
  obtain ⟨vni, e1⟩ := open_num Tryz.underlying23 g1
  obtain ⟨key, e2, l2, b2⟩ := open_arr Tryz.underlying26 c3 g2
  obtain ⟨vtep, e3⟩ := open_num Tryz.underlying23 g3
  obtain ⟨vmac, e4, l4, b4⟩ := open_arr Tryz.underlying25 c4 g4
  obtain ⟨host, e5, l5, b5⟩ := open_arr Tryz.underlying25 c4 g5
  obtain ⟨p, pool, e6, r6⟩ := open_nums g6
  obtain ⟨lo, e7⟩ := open_num Tryz.underlying42 g7
  obtain ⟨hi, e8⟩ := open_num Tryz.underlying42 g8
  obtain ⟨fi, e9⟩ := open_num Tryz.underlying3 g9
  obtain ⟨s, stat, e10, r10⟩ := open_pairs g10
  obtain ⟨q, twi, e11, r11⟩ := open_pairs g11
  obtain ⟨se, e12⟩ := open_num Tryz.underlying3 g12
  obtain ⟨qu, e13⟩ := open_num Tryz.underlying3 g13
  obtain ⟨ra, e14⟩ := open_num Tryz.underlying23 g14
  obtain ⟨bu, e15⟩ := open_num Tryz.underlying23 g15
  have step : ∀ o n o', o + n = o' → cs.drop o = (cs.drop o).take n ++ cs.drop o' := by
    intro o n o' e
    subst e
    rw [← List.drop_drop, List.take_append_drop]
  refine ⟨⟨nm, vni, key, vtep, vmac, host, pool, lo, hi, fi, stat, twi, se, qu, ra, bu⟩, p, s, q, ?_, ⟨l2, l4, l5⟩, r6, r10, r11, b2, b4, b5⟩
  have hend : cs.drop 33 = [] := by rw [List.drop_eq_nil_iff]; omega
  refine (List.drop_zero (l := cs)).symm.trans ?_
  rw [step 0 1 1 rfl, e0, step 1 1 2 rfl, e1, step 2 8 10 rfl, e2, step 10 1 11 rfl, e3, step 11 6 17 rfl, e4, step 17 6 23 rfl, e5, step 23 1 24 rfl, e6, step 24 1 25 rfl, e7, step 25 1 26 rfl, e8, step 26 1 27 rfl, e9, step 27 1 28 rfl, e10, step 28 1 29 rfl, e11, step 29 1 30 rfl, e12, step 30 1 31 rfl, e13, step 31 1 32 rfl, e14, step 32 1 33 rfl, e15, hend]
  simp only [tc, List.cons_append, List.nil_append, List.append_nil]
theorem open_tenant {r : Reach} {b0 : Nat} {v : Value} {d : DataW H} {p : List MemPlace} (hv : Value.okWide Tryz.prog W r b0 45 v) (h : DataW.Trod enc Tryz.prog W base (fun _ => true) held 45 v d p) :
    ∃ t : Ten, TV W v t ∧ IsBytes t.key ∧ IsBytes t.vmac ∧ IsBytes t.host := by
  obtain ⟨cs, rfl, hsz⟩ := okWide_struct Tryz.underlying45 hv
  obtain ⟨fuel, hf⟩ := h
  obtain ⟨t, p, s, q, e, h1, h2, h3, h4, h5, h6, h7⟩ := open_cells hf
  refine ⟨t, ⟨h1, p, s, q, ?_, h2, h3, h4⟩, h5, h6, h7⟩
  have e' : cs.toList = tc t p s q := e
  rw [← e']
end
end Go.Proofs.YtneciccdiledfaaGreatDoor

namespace Go.Proofs.YtneciccdiledfaaGreatDoor
open Go.RowKit
open Sm
open Cf
set_option linter.unusedVariables false
set_option maxRecDepth 20000

theorem rw_own_U {w V : World} {K : List (Nat × Obj)} (l : List Int) (hp : Nat) (h : Mem w V (lb hp 23 (ux l) ++ K)) (hl : l.length ≤ 255) : Rw V 1 (lv hp (ux l)) (ux l) := by
  have hlen : (ux l).length = l.length := by simp [ux]
  by_cases h0 : l = []
  · subst h0; exact ⟨none, 0, rfl, Nat.le_refl _, by omega, fun _ => rfl, Or.inl rfl⟩
  · have hne : ux l ≠ [] := by simpa [ux] using h0
    rw [lb_one hne] at h
    rw [lv_one hne]
    refine ⟨_, _, rfl, Nat.le_refl _, by omega, (fun e => by cases e), Or.inr ⟨hp, 0, rfl, fun i hi j u hj => ?_⟩⟩
    obtain ⟨x, hx⟩ : ∃ x, l[i]? = some x := ⟨_, List.getElem?_eq_getElem (by omega)⟩
    have ex : (ux l).getD i [] = [.int .u32 x] := by simp [ux, List.getD, hx]
    rw [ex] at hj
    rw [h.cell 0 rfl, flat_TU l i x hx]
    have := get_mid (ux (l.take i)).flatten [.int .u32 x] (ux (l.drop (i + 1))).flatten j u hj
    rw [flatl_TU, List.length_take, Nat.min_eq_left (by omega)] at this
    rw [Nat.zero_add]; exact this
theorem rw_own_P {w V : World} {K : List (Nat × Obj)} (l : List (Int × Int)) (hp : Nat) (h : Mem w V (lb hp 96 (px l) ++ K)) (hl : l.length ≤ 255) : Rw V 2 (lv hp (px l)) (px l) := by
  have hlen : (px l).length = l.length := by simp [px]
  by_cases h0 : l = []
  · subst h0; exact ⟨none, 0, rfl, Nat.le_refl _, by omega, fun _ => rfl, Or.inl rfl⟩
  · have hne : px l ≠ [] := by simpa [px] using h0
    rw [lb_one hne] at h
    rw [lv_one hne]
    refine ⟨_, _, rfl, Nat.le_refl _, by omega, (fun e => by cases e), Or.inr ⟨hp, 0, rfl, fun i hi j u hj => ?_⟩⟩
    obtain ⟨x, hx⟩ : ∃ x, l[i]? = some x := ⟨_, List.getElem?_eq_getElem (by omega)⟩
    have ex : (px l).getD i [] = [.int .u32 x.1, .int .u32 x.2] := by simp [px, List.getD, hx]
    rw [ex] at hj
    rw [h.cell 0 rfl, flat_TP l i x hx]
    have := get_mid (px (l.take i)).flatten [.int .u32 x.1, .int .u32 x.2] (px (l.drop (i + 1))).flatten j u hj
    rw [flatl_TP, List.length_take, Nat.min_eq_left (by omega)] at this
    rw [Nat.zero_add]; exact this
theorem tc_one (t : Ten) (hp hs hq : Nat) (x y z : List (List Value)) : (tc t (lv hp x) (lv hs y) (lv hq z)).toArray.all (·.oneCell') = true := by
  have ho : ∀ h xs, (lv h xs).oneCell' = true := by intro h xs; cases xs <;> rfl
  apply all_oneCell_toArray
  intro v hv
  simp only [tc, List.mem_cons, List.mem_append, List.mem_map, List.not_mem_nil, or_false] at hv
  rcases hv with rfl | rfl | ⟨x, _, rfl⟩ | rfl | ⟨x, _, rfl⟩ | ⟨x, _, rfl⟩ | rfl | rfl | rfl | rfl | rfl | rfl | rfl | rfl | rfl | rfl <;> first | rfl | exact ho _ _
theorem perm4 {α : Type} (d b c a : α) (l : List α) : (c :: b :: d :: a :: l).Perm (c :: b :: d :: a :: l) := List.Perm.refl _
/-- A tenant that bytes begin with, and those behind. -/
def tdec (l : List Int) : Option (Ten × List Int) := spT.dec l ten0
abbrev tz : Array Value := (tc ten0 nilV nilV nilV).toArray
theorem JT_zero {w V : World} {g : Nat} {T : TypeId} {K : List (Nat × Obj)} (h : Mem w V ((g, .cells tz T (0, 0)) :: K)) : JT w ten0 g T [] [] V K :=
  ⟨ten0_len, ⟨by decide, by decide, by decide⟩, 0, 0, 0, h⟩
theorem build_T (V : World) : (Instr.build 45 #[]).run Tryz.prog V = .ok (.agg tz) V := by kernel_rfl
theorem sizeT : (Tryz.prog.info? 45).map (·.size) = some 33 := by kernel_rfl

theorem results_two' {fn : Func} {p q : Tmp} {ty : TypeId} (h : fn.results = #[.cell p ty, .tmp q]) (tmps : Array Value) (w : World) (g : Nat) (cs : Array Value)
    (hp : tmps.getD p undef = .pointer (some ⟨g, 0, none⟩)) (hl : (loadVar ty ⟨g, 0, none⟩).run Tryz.prog w = .ok (.agg cs) w) :
    (results fn tmps).run Tryz.prog w = .ok (.tuple #[.agg cs, tmps.getD q undef]) w := by
  have hp' : tmps[p]?.getD undef = .pointer (some ⟨g, 0, none⟩) := by simpa using hp
  simp [results, h, hp', asAddr, hl]
theorem results_three {fn : Func} {p q r : Tmp} {ty : TypeId} (h : fn.results = #[.cell p ty, .tmp q, .tmp r]) (tmps : Array Value) (w : World) (g : Nat) (cs : Array Value)
    (hp : tmps.getD p undef = .pointer (some ⟨g, 0, none⟩)) (hl : (loadVar ty ⟨g, 0, none⟩).run Tryz.prog w = .ok (.agg cs) w) :
    (results fn tmps).run Tryz.prog w = .ok (.tuple #[.agg cs, tmps.getD q undef, tmps.getD r undef]) w := by
  have hp' : tmps[p]?.getD undef = .pointer (some ⟨g, 0, none⟩) := by simpa using hp
  simp [results, h, hp', asAddr, hl]
end Go.Proofs.YtneciccdiledfaaGreatDoor

namespace Go.Proofs.YtneciccdiledfaaGreatDoor
open Go.RowKit
open Sm
open Cf
set_option linter.unusedVariables false
set_option maxRecDepth 20000

/-- Bytes of the call's own, at most n of them. -/
def Ob (w W : World) (v : Value) (l : List Int) (L : List (Nat × Obj)) (n : Nat) : Prop := Out w W v l L ∧ l.length ≤ n
section
variable {w W W' : World} {v : Value} {l : List Int} {L : List (Nat × Obj)} {n : Nat}
theorem Ob.mem (h : Ob w W v l L n) : Mem w W L := h.1.mem
theorem Ob.after (h : Ob w W v l L n) (hb : Below W.heap.size W W') : Ob w W' v l L n := ⟨h.1.after hb, h.2⟩
theorem Ob.drew (h : Ob w W v l L n) : Ob w W.drew v l L n := h.after ((Below.refl _ _).drew)
theorem be4 (x : Int) : be 4 x = [x / 16777216 % 256, x / 65536 % 256, x / 256 % 256, x % 256] := by simp [be]
theorem be2 (x : Int) : be 2 x = [x / 256 % 256, x % 256] := by simp [be]
theorem be1 (x : Int) : be 1 x = [x % 256] := by simp [be]
theorem be2_wrap (x : Int) : be 2 (IntKind.u16.wrap x) = be 2 x := by
  have : IntKind.u16.wrap x = x % 65536 := by simp [IntKind.wrap, IntKind.bits, IntKind.signed]
  rw [be2, be2, this]
  congr 1
  · omega
  · congr 1; omega
theorem out_lits (h : Out w W v l L) (k : List Int) (hk : IsBytes k) (m : Nat) (hm : k.length = m) (hb : l.length + m ≤ 1000000000) (ty : TypeId) :
    ∃ v' W', (Builtin.append_ #[49, 49] ty #[v, .slice (some ⟨W.heap.size, 0, none⟩) m m]).run Tryz.prog (W.alloc (.cells (k.map (Value.int .u8)).toArray 5)) = .ok v' W' ∧ Out w W' v' (l ++ k) L :=
  out_append (h.after ((Below.refl _ _).alloc (Nat.le_refl _) _)) _ m m k hm (row_lit W k hk (by omega) 5) hb ty
/-- As one step of a region that draws its order. -/
theorem step_append_run {ops : Array Oper} {o : Oper} {a : Act} {W : World} {K : Act → World → Prop} {Q : Exit → Act → World → Prop} {E : Prop} (hgd : o.guard = none)
    (s x : Operand) (t tn : TypeId) (ho : o.op = .call { callee := .builtin .append, args := #[s, x], argTypes := #[t, tn] }) {vs vx : Value} (hs : a.eval s = vs) (hx : a.eval x = vx)
    {v' : Value} {w' : World} (hr : (Builtin.append_ #[t, tn] o.type #[vs, vx]).run Tryz.prog W = .ok v' w') (h : K (a.put o.dst v') w') :
    if Region.wanted o (yielded ops a.tmps) = true then Oper.wp Tryz.prog o a W K Q else E := by
  have hw : Region.wanted o (yielded ops a.tmps) = true := by simp [Region.wanted, hgd]
  rw [if_pos hw]
  exact wp_append_out s x t tn ho hs hx hr h
theorem step_out {ops : Array Oper} {o : Oper} {a : Act} {K : Act → World → Prop} {Q : Exit → Act → World → Prop} {E : Prop} (hgd : o.guard = none)
    (s x : Operand) (ho : o.op = .call { callee := .builtin .append, args := #[s, x], argTypes := #[49, 49] }) (hs : a.eval s = v) (ad : Addr) (m c : Nat) (hx : a.eval x = .slice (some ad) m c)
    (h : Ob w W v l L n) (k : List Int) (hk : k.length = m) (hr : Row W (some ad) k) (hn : n + m ≤ 1000000000) (hK : ∀ v' W', Ob w W' v' (l ++ k) L (n + m) → K (a.put o.dst v') W') :
    if Region.wanted o (yielded ops a.tmps) = true then Oper.wp Tryz.prog o a W K Q else E := by
  have hl := h.2
  obtain ⟨v', W', h1, h2⟩ := out_append h.1 ad m c k hk hr (by omega) o.type
  exact step_append_run hgd s x _ _ ho hs hx h1 (hK v' W' ⟨h2, by rw [List.length_append]; omega⟩)
theorem step_str {ops : Array Oper} {o : Oper} {a : Act} {K : Act → World → Prop} {Q : Exit → Act → World → Prop} {E : Prop} (hgd : o.guard = none)
    (s x : Operand) (ho : o.op = .call { callee := .builtin .append, args := #[s, x], argTypes := #[49, 9] }) (hs : a.eval s = v) (t : ByteArray) (hx : a.eval x = .string t)
    (h : Ob w W v l L n) (m : Nat) (hk : t.size ≤ m) (hn : n + m ≤ 1000000000) (hK : ∀ v' W', Ob w W' v' (l ++ sb t) L (n + m) → K (a.put o.dst v') W') :
    if Region.wanted o (yielded ops a.tmps) = true then Oper.wp Tryz.prog o a W K Q else E := by
  have hl := h.2
  obtain ⟨v', W', h1, h2⟩ := out_str h.1 t (by omega) o.type
  exact step_append_run hgd s x _ _ ho hs hx h1 (hK v' W' ⟨h2, by rw [List.length_append, sb_len]; omega⟩)
theorem spP_enc (x : Int × Int) : spP.enc x = be 4 x.1 ++ be 4 x.2 := by
  simp [spP, spAll, cat, spA, spB, spNum]
theorem rw_at {V : World} {sz : Nat} {a : Option Addr} {n c : Nat} {xs : List (List Value)} (h : Rw V sz (.slice a n c) xs) (i : Nat) (hi : i < xs.length) : ∃ b off, a = some ⟨b, off, none⟩ ∧ ∀ j u, (xs.getD i [])[j]? = some u → V.cell? ⟨b, off + i * sz + j, none⟩ = some u := by
  obtain ⟨a', c', e, _, _, _, hr⟩ := h
  simp only [Value.slice.injEq] at e
  obtain ⟨rfl, -, rfl⟩ := e
  rcases hr with e | ⟨b, off, rfl, hc⟩
  · rw [e] at hi; simp at hi
  · exact ⟨b, off, rfl, hc i hi⟩
end
end Go.Proofs.YtneciccdiledfaaGreatDoor

namespace Go.Proofs.YtneciccdiledfaaGreatDoor
open Go.RowKit
open Sm
open Cf
set_option linter.unusedVariables false
set_option maxRecDepth 20000

/-- Nothing of a tenant is cut off. -/
def Fit (t : Ten) : Prop := t.name.size ≤ 255 ∧ t.pool.length ≤ 255 ∧ t.stat.length ≤ 255 ∧ t.twi.length ≤ 255 ∧ 0 ≤ t.filter ∧ t.filter ≤ 255 ∧ 0 ≤ t.sess ∧ t.sess ≤ 65535 ∧ 0 ≤ t.queue ∧ t.queue ≤ 65535
instance (t : Ten) : Decidable (Fit t) := by unfold Fit; infer_instance
end Go.Proofs.YtneciccdiledfaaGreatDoor

namespace Go.Proofs.YtneciccdiledfaaGreatDoor
open Go.RowKit
open Sm
open Cf
set_option linter.unusedVariables false
set_option linter.unusedSimpArgs false
set_option maxRecDepth 20000

/-- n bytes off what is left, or noughts. -/
def tk (n : Nat) : Option (List Int) → List Int
  | some r => if n ≤ r.length then r.take n else List.replicate n 0
  | none => List.replicate n 0
/-- What is left behind them. -/
def nx (n : Nat) : Option (List Int) → Option (List Int)
  | some r => if n ≤ r.length then some (r.drop n) else none
  | none => none
theorem tk_len (n : Nat) (σ : Option (List Int)) : (tk n σ).length = n := by
  cases σ with
  | none => simp [tk]
  | some r =>
    simp only [tk]
    split
    · rw [List.length_take]; omega
    · simp
/-- A part of a slice. -/
theorem sl_part {a : Option Addr} {l : List Int} {c : Nat} {w : World} (hS : Sl w a l c) (i n : Nat) (h : i + n ≤ l.length) : ∃ a1 c1, (∀ V, (Instr.slice 49 (.slice a l.length c) (some (.int .i64 i)) (some (.int .i64 ((i + n : Nat) : Int))) none).run Tryz.prog V = .ok (.slice a1 n c1) V) ∧ n ≤ c1 ∧ c1 ≤ 9223372036854775807 ∧ (a1 = none → c1 = 0) ∧ ∀ V, Row V a l → Row V a1 ((l.drop i).take n) := by
  have hc := hS.le
  have hb := hS.big
  have hsz : ∀ V, (sizeOf (Tryz.prog.elem 49)).run Tryz.prog V = .ok 1 V := fun V => by kernel_rfl
  have hrun : ∀ V, (Instr.slice 49 (.slice a l.length c) (some (.int .i64 i)) (some (.int .i64 ((i + n : Nat) : Int))) none).run Tryz.prog V = .ok (sliced a i (i + n) c 1) V := by
    intro V
    rw [run_slice_lh (P := Tryz.prog) V 49 a l.length c (by kernel_rfl) .i64 .i64 i ((i + n : Nat) : Int) (by omega) (by omega) (by omega), hsz]
    rfl
  cases a with
  | none =>
    have h0 : c = 0 := hS.nil rfl
    have hl0 : l.length = 0 := by omega
    have e : l = [] := List.eq_nil_of_length_eq_zero hl0
    subst e
    obtain rfl : i = 0 := by omega
    obtain rfl : n = 0 := by simp at h; exact h
    subst h0
    exact ⟨none, 0, fun V => by rw [hrun]; rfl, Nat.le_refl _, by omega, fun _ => rfl, fun V hV => row_empty V none⟩
  | some ad =>
    obtain ⟨b0, off, sp⟩ := ad
    by_cases hci : c = i
    · obtain rfl : n = 0 := by omega
      exact ⟨some ⟨b0, off, sp⟩, 0, fun V => by rw [hrun]; simp [sliced, hci], Nat.zero_le _, by omega, (fun e => by cases e), fun V hV => by rw [List.take_zero]; exact row_empty V _⟩
    · by_cases hn : n = 0
      · subst hn
        exact ⟨some ((⟨b0, off, sp⟩ : Addr).add i), c - i, fun V => by rw [hrun]; simp [sliced, hci], Nat.zero_le _, by omega, (fun e => by cases e), fun V hV => by rw [List.take_zero]; exact row_empty V _⟩
      · have hsp : sp = none := by
          rcases hS.row.cells with e | ⟨b, o, e, -⟩
          · rw [e] at h; simp at h; omega
          · simp only [Option.some.injEq, Addr.mk.injEq] at e; exact e.2.2
        subst hsp
        refine ⟨some ⟨b0, off + i, none⟩, c - i, fun V => ?_, by omega, by omega, (fun e => by cases e), fun V hV => hV.part i n h⟩
        rw [hrun]
        by_cases hi : i = 0
        · subst hi; simp [sliced, Addr.add, hci]
        · simp [sliced, Addr.add, hci, hi]
theorem tk_bytes (n : Nat) {σ : Option (List Int)} (h : ∀ r, σ = some r → IsBytes r) : IsBytes (tk n σ) := by
  cases σ with
  | none => exact bytes_noughts n
  | some r =>
    simp only [tk]
    split
    · exact bytes_tk (h r rfl) n
    · exact bytes_noughts n
end Go.Proofs.YtneciccdiledfaaGreatDoor

