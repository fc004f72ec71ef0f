/-
  Settings held against one another: which tenants the statements speak of.
  Settings as bytes: the program's OpenTenant, at all bytes.
  What a tenant that comes in is.
  Settings as bytes: the document's own reader: take and n.
  Settings as bytes: the document's own put16, put32, name, pairs.
  Settings as bytes: whether nothing of a tenant is cut off; a place.
-/
import Derived.Test.YtbccadbnaggkhaaGreatKE16
import Derived.Test.YtbccadbnaggkhaaGreatKE03
import Derived.ProofKit
import Derived.OpenShut
import Derived.Deep.Slices
namespace Go.Proofs.YtbccadbnaggkhaaGreat
open Go.RowKit
open Sm
open Cf
set_option linter.unusedVariables false
set_option maxRecDepth 20000

/-- A tenant that is light. -/
def Lgt (t : Ten) : Prop := t.name.size ≤ 300 ∧ t.pool.length ≤ 300 ∧ t.stat.length ≤ 300 ∧ t.twi.length ≤ 300
instance (t : Ten) : Decidable (Lgt t) := by unfold Lgt; infer_instance
set_option maxHeartbeats 8000000 in
theorem light_any {w : World} {v : Value} {t : Ten} (h : TV w v t) :
    Calls Tryz.prog 20 #[v] w fun e w' => e = .returned (.bool (decide (Lgt t))) ∧ Below w.heap.size w w' := by
  obtain ⟨R, hR⟩ : ∃ R, decide (Lgt t) = R := ⟨_, rfl⟩
  rw [hR]
  have hR' : ∀ b : Bool, (b = true ↔ Lgt t) → R = b := by
    intro b hb
    rw [← hR]
    cases b with
    | true => exact decide_eq_true (hb.mp rfl)
    | false => exact decide_eq_false (fun e => by cases hb.mpr e)
  clear hR
  obtain ⟨hl, p, s, q, rfl, ⟨pa, pc, rfl, -⟩, ⟨sa, sc, rfl, -⟩, ⟨qa, qc, rfl, -⟩⟩ := h
  obtain ⟨n, vn, key, vt, vm, ho, po, lo, hi, fi, st, tw, se, qu, ra, bu⟩ := t
  obtain ⟨h1, h2, h3⟩ := hl
  obtain ⟨a, b, c, d, f, g, x, y, rfl⟩ := eight8 h1
  obtain ⟨a1, b1, c1, d1, f1, g1, rfl⟩ := six6 h2
  obtain ⟨a2, b2, c2, d2, f2, g2, rfl⟩ := six6 h3
  have k1 : (ux po).length = po.length := by simp [ux]
  have k2 : (px st).length = st.length := by simp [px]
  have k3 : (px tw).length = tw.length := by simp [px]
  simp only [tc, List.map_cons, List.map_nil, List.cons_append, List.nil_append, Lgt, k1, k2, k3] at hR' ⊢
  clear k1 k2 k3 h1 h2 h3
  generalize po.length = pn at *
  generalize st.length = sn at *
  generalize tw.length = qn at *
  go_enter Tryz.func20, Tryz.ntmps20
  by_cases e1 : n.size ≤ 300
  rotate_left
  · have d1 : decide ((n.size : Int) ≤ 300) = false := decide_eq_false (by omega)
    obtain rfl := hR' false ⟨(fun e => by cases e), fun e => absurd e.1 e1⟩
    go_wp2_with fail
    go_ret
    exact ⟨rfl, (Below.refl _ _).alloc (Nat.le_refl _) _⟩
  have d1 : decide ((n.size : Int) ≤ 300) = true := decide_eq_true (by omega)
  by_cases e2 : pn ≤ 300
  rotate_left
  · have d2 : decide ((pn : Int) ≤ 300) = false := decide_eq_false (by omega)
    obtain rfl := hR' false ⟨(fun e => by cases e), fun e => absurd e.2.1 e2⟩
    go_wp2_with fail
    go_ret
    exact ⟨rfl, (Below.refl _ _).alloc (Nat.le_refl _) _⟩
  have d2 : decide ((pn : Int) ≤ 300) = true := decide_eq_true (by omega)
  by_cases e3 : sn ≤ 300
  rotate_left
  · have d3 : decide ((sn : Int) ≤ 300) = false := decide_eq_false (by omega)
    obtain rfl := hR' false ⟨(fun e => by cases e), fun e => absurd e.2.2.1 e3⟩
    go_wp2_with fail
    go_ret
    exact ⟨rfl, (Below.refl _ _).alloc (Nat.le_refl _) _⟩
  have d3 : decide ((sn : Int) ≤ 300) = true := decide_eq_true (by omega)
  by_cases e4 : qn ≤ 300
  rotate_left
  · have d4 : decide ((qn : Int) ≤ 300) = false := decide_eq_false (by omega)
    obtain rfl := hR' false ⟨(fun e => by cases e), fun e => absurd e.2.2.2 e4⟩
    go_wp2_with fail
    go_ret
    exact ⟨rfl, (Below.refl _ _).alloc (Nat.le_refl _) _⟩
  have d4 : decide ((qn : Int) ≤ 300) = true := decide_eq_true (by omega)
  obtain rfl := hR' true ⟨fun _ => ⟨e1, e2, e3, e4⟩, fun _ => rfl⟩
  go_wp2_with fail
  go_ret
  exact ⟨rfl, (Below.refl _ _).alloc (Nat.le_refl _) _⟩
end Go.Proofs.YtbccadbnaggkhaaGreat

namespace Go.Proofs.YtbccadbnaggkhaaGreat
open Go.RowKit
open Sm
open Cf
set_option linter.unusedVariables false
set_option maxRecDepth 20000

abbrev tz : Array Value := (tc ten0 nilV nilV nilV).toArray
end Go.Proofs.YtbccadbnaggkhaaGreat

namespace Go.Proofs.YtbccadbnaggkhaaGreat
open Go.ChangeShapes Go.WideShapes Go.ChangeAt Go.RowKit Go.Joins
open Sm
open Cf
set_option linter.unusedVariables false
set_option maxRecDepth 100000

theorem map_of {k : IntKind} {P : Int → Prop} : ∀ (cs : List Value), (∀ i, i < cs.length → ∃ a, cs[i]? = some (.int k a) ∧ P a) → ∃ l : List Int, cs = l.map (Value.int k) ∧ ∀ a ∈ l, P a
  | [], _ => ⟨[], rfl, by simp⟩
  | c :: cs, h => by
    obtain ⟨a, e, ha⟩ := h 0 (by simp)
    simp at e
    subst e
    obtain ⟨l, rfl, hl⟩ := map_of cs (fun i hi => by simpa using h (i + 1) (by simpa using hi))
    exact ⟨a :: l, rfl, fun b hb => by
      rcases List.mem_cons.mp hb with rfl | hb
      · exact ha
      · exact hl b hb⟩
theorem bytes_all : ∀ {l : List Int}, (∀ a ∈ l, 0 ≤ a ∧ a ≤ 255) → IsBytes l
  | [], _ => bytes_nil
  | a :: l, h => bytes_cons (h a (by simp)) (bytes_all fun b hb => h b (List.mem_cons_of_mem _ hb))
section
variable {H : Type} {enc : TypeId × Value → H} {W : World} {base : Nat} {held : Bool}
theorem open_arr {t : TypeId} {n : Nat} (ht : Tryz.prog.underlying t = some (.array n 5)) (hc : Tryz.prog.cellsOf t = n) {fuel : Nat} {cs : List Value} {x : DataW H × List MemPlace} (h : DataW.trod enc Tryz.prog W base (fun _ => true) held fuel t cs = some x) :
    ∃ l : List Int, cs = l.map (Value.int .u8) ∧ l.length = n ∧ IsBytes l := by
  obtain ⟨xs, m, -, -, hcl, hlen, hel⟩ := DataW.trod_array ht h
  rw [hc] at hcl
  rw [show Tryz.prog.cellsOf 5 = 1 by kernel_rfl] at hel
  obtain ⟨l, rfl, hl⟩ := map_of (k := .u8) (P := fun a => 0 ≤ a ∧ a ≤ 255) cs (fun i hi => by
    have h1 := hel i (by omega)
    rw [List.getElem?_eq_getElem (by omega)] at h1
    obtain ⟨a, e0, -, wa⟩ := DataW.trod_int Tryz.underlying5 h1
    refine ⟨a, ?_, bounds_u8 wa⟩
    have := congrArg (·[0]?) e0
    simpa [List.getElem?_take, List.getElem?_drop] using this)
  exact ⟨l, rfl, by simpa using hcl, bytes_all hl⟩
theorem addr_add (b off j : Nat) : (Addr.mk b off none).add j = ⟨b, off + j, none⟩ := by
  by_cases e : j = 0
  · subst e; simp [Addr.add]
  · simp [Addr.add, e]
theorem trod_struct2 {t : TypeId} {f0 f1 : Field} {fuel : Nat} {cs : List Value} {x : DataW H × List MemPlace} (ht : Tryz.prog.underlying t = some (.struct #[f0, f1])) (h : DataW.trod enc Tryz.prog W base (fun _ => true) held fuel t cs = some x) :
    ∃ y0 y1 n, DataW.trod enc Tryz.prog W base (fun _ => true) held n f0.type ((cs.drop f0.offset).take (Tryz.prog.cellsOf f0.type)) = some y0 ∧ DataW.trod enc Tryz.prog W base (fun _ => true) held n f1.type ((cs.drop f1.offset).take (Tryz.prog.cellsOf f1.type)) = some y1 := by
  obtain ⟨xs, n, _, _, hl, hlen, hf⟩ := DataW.trod_struct ht h
  match xs, hlen with
  | [y0, y1], _ => exact ⟨y0, y1, n, by simpa using hf 0 f0 rfl, by simpa using hf 1 f1 rfl⟩
theorem list_of {β : Type} (Q : Nat → β → Prop) : ∀ n, (∀ i, i < n → ∃ x, Q i x) → ∃ l : List β, l.length = n ∧ ∀ i x, l[i]? = some x → Q i x
  | 0, _ => ⟨[], rfl, by simp⟩
  | n + 1, h => by
    obtain ⟨l, hl, hq⟩ := list_of Q n (fun i hi => h i (by omega))
    obtain ⟨x, hx⟩ := h n (by omega)
    refine ⟨l ++ [x], by simp [hl], fun i y hy => ?_⟩
    rw [List.getElem?_append] at hy
    split at hy
    · exact hq i y hy
    · rename_i hi
      have : i = n := by
        have := (List.getElem?_eq_some_iff.1 hy).1
        simp at this
        omega
      subst this
      rw [hl, Nat.sub_self] at hy
      simp at hy
      subst hy
      exact hx
theorem trod_struct16 {t : TypeId} {f0 f1 f2 f3 f4 f5 f6 f7 f8 f9 f10 f11 f12 f13 f14 f15 : Field} {fuel : Nat} {cs : List Value} {x : DataW H × List MemPlace} (ht : Tryz.prog.underlying t = some (.struct #[f0, f1, f2, f3, f4, f5, f6, f7, f8, f9, f10, f11, f12, f13, f14, f15])) (h : DataW.trod enc Tryz.prog W base (fun _ => true) held fuel t cs = some x) :
    ∃ n, cs.length = Tryz.prog.cellsOf t ∧ (∃ y, DataW.trod enc Tryz.prog W base (fun _ => true) held n f0.type ((cs.drop f0.offset).take (Tryz.prog.cellsOf f0.type)) = some y) ∧ (∃ y, DataW.trod enc Tryz.prog W base (fun _ => true) held n f1.type ((cs.drop f1.offset).take (Tryz.prog.cellsOf f1.type)) = some y) ∧ (∃ y, DataW.trod enc Tryz.prog W base (fun _ => true) held n f2.type ((cs.drop f2.offset).take (Tryz.prog.cellsOf f2.type)) = some y) ∧ (∃ y, DataW.trod enc Tryz.prog W base (fun _ => true) held n f3.type ((cs.drop f3.offset).take (Tryz.prog.cellsOf f3.type)) = some y) ∧ (∃ y, DataW.trod enc Tryz.prog W base (fun _ => true) held n f4.type ((cs.drop f4.offset).take (Tryz.prog.cellsOf f4.type)) = some y) ∧ (∃ y, DataW.trod enc Tryz.prog W base (fun _ => true) held n f5.type ((cs.drop f5.offset).take (Tryz.prog.cellsOf f5.type)) = some y) ∧ (∃ y, DataW.trod enc Tryz.prog W base (fun _ => true) held n f6.type ((cs.drop f6.offset).take (Tryz.prog.cellsOf f6.type)) = some y) ∧ (∃ y, DataW.trod enc Tryz.prog W base (fun _ => true) held n f7.type ((cs.drop f7.offset).take (Tryz.prog.cellsOf f7.type)) = some y) ∧ (∃ y, DataW.trod enc Tryz.prog W base (fun _ => true) held n f8.type ((cs.drop f8.offset).take (Tryz.prog.cellsOf f8.type)) = some y) ∧ (∃ y, DataW.trod enc Tryz.prog W base (fun _ => true) held n f9.type ((cs.drop f9.offset).take (Tryz.prog.cellsOf f9.type)) = some y) ∧ (∃ y, DataW.trod enc Tryz.prog W base (fun _ => true) held n f10.type ((cs.drop f10.offset).take (Tryz.prog.cellsOf f10.type)) = some y) ∧ (∃ y, DataW.trod enc Tryz.prog W base (fun _ => true) held n f11.type ((cs.drop f11.offset).take (Tryz.prog.cellsOf f11.type)) = some y) ∧ (∃ y, DataW.trod enc Tryz.prog W base (fun _ => true) held n f12.type ((cs.drop f12.offset).take (Tryz.prog.cellsOf f12.type)) = some y) ∧ (∃ y, DataW.trod enc Tryz.prog W base (fun _ => true) held n f13.type ((cs.drop f13.offset).take (Tryz.prog.cellsOf f13.type)) = some y) ∧ (∃ y, DataW.trod enc Tryz.prog W base (fun _ => true) held n f14.type ((cs.drop f14.offset).take (Tryz.prog.cellsOf f14.type)) = some y) ∧ (∃ y, DataW.trod enc Tryz.prog W base (fun _ => true) held n f15.type ((cs.drop f15.offset).take (Tryz.prog.cellsOf f15.type)) = some y) := by
  obtain ⟨xs, n, _, _, hl, hlen, hf⟩ := DataW.trod_struct ht h
  have hlen' : xs.length = 16 := hlen
  exact ⟨n, hl, ⟨_, (hf 0 f0 rfl).trans (List.getElem?_eq_getElem (by omega))⟩, ⟨_, (hf 1 f1 rfl).trans (List.getElem?_eq_getElem (by omega))⟩, ⟨_, (hf 2 f2 rfl).trans (List.getElem?_eq_getElem (by omega))⟩, ⟨_, (hf 3 f3 rfl).trans (List.getElem?_eq_getElem (by omega))⟩, ⟨_, (hf 4 f4 rfl).trans (List.getElem?_eq_getElem (by omega))⟩, ⟨_, (hf 5 f5 rfl).trans (List.getElem?_eq_getElem (by omega))⟩, ⟨_, (hf 6 f6 rfl).trans (List.getElem?_eq_getElem (by omega))⟩, ⟨_, (hf 7 f7 rfl).trans (List.getElem?_eq_getElem (by omega))⟩, ⟨_, (hf 8 f8 rfl).trans (List.getElem?_eq_getElem (by omega))⟩, ⟨_, (hf 9 f9 rfl).trans (List.getElem?_eq_getElem (by omega))⟩, ⟨_, (hf 10 f10 rfl).trans (List.getElem?_eq_getElem (by omega))⟩, ⟨_, (hf 11 f11 rfl).trans (List.getElem?_eq_getElem (by omega))⟩, ⟨_, (hf 12 f12 rfl).trans (List.getElem?_eq_getElem (by omega))⟩, ⟨_, (hf 13 f13 rfl).trans (List.getElem?_eq_getElem (by omega))⟩, ⟨_, (hf 14 f14 rfl).trans (List.getElem?_eq_getElem (by omega))⟩, ⟨_, (hf 15 f15 rfl).trans (List.getElem?_eq_getElem (by omega))⟩⟩
end
end Go.Proofs.YtbccadbnaggkhaaGreat

namespace Go.Proofs.YtbccadbnaggkhaaGreat
open Go.RowKit
open Sm
open Cf
set_option linter.unusedVariables false
set_option linter.unusedSimpArgs false
set_option maxRecDepth 20000

/-- n bytes off what is left, or noughts. -/
def tk (n : Nat) : Option (List Int) → List Int
  | some r => if n ≤ r.length then r.take n else List.replicate n 0
  | none => List.replicate n 0
/-- What is left behind them. -/
def nx (n : Nat) : Option (List Int) → Option (List Int)
  | some r => if n ≤ r.length then some (r.drop n) else none
  | none => none
end Go.Proofs.YtbccadbnaggkhaaGreat

namespace Go.Proofs.YtbccadbnaggkhaaGreat
open Go.RowKit
open Sm
open Cf
set_option linter.unusedVariables false
set_option maxRecDepth 20000

/-- Bytes of the call's own, at most n of them. -/
def Ob (w W : World) (v : Value) (l : List Int) (L : List (Nat × Obj)) (n : Nat) : Prop := Out w W v l L ∧ l.length ≤ n
section
variable {w W W' : World} {v : Value} {l : List Int} {L : List (Nat × Obj)} {n : Nat}
theorem Ob.mem (h : Ob w W v l L n) : Mem w W L := h.1.mem
theorem Ob.after (h : Ob w W v l L n) (hb : Below W.heap.size W W') : Ob w W' v l L n := ⟨h.1.after hb, h.2⟩
theorem Ob.drew (h : Ob w W v l L n) : Ob w W.drew v l L n := h.after ((Below.refl _ _).drew)
theorem step_append_run {ops : Array Oper} {o : Oper} {a : Act} {W : World} {K : Act → World → Prop} {Q : Exit → Act → World → Prop} {E : Prop} (hgd : o.guard = none)
    (s x : Operand) (t tn : TypeId) (ho : o.op = .call { callee := .builtin .append, args := #[s, x], argTypes := #[t, tn] }) {vs vx : Value} (hs : a.eval s = vs) (hx : a.eval x = vx)
    {v' : Value} {w' : World} (hr : (Builtin.append_ #[t, tn] o.type #[vs, vx]).run Tryz.prog W = .ok v' w') (h : K (a.put o.dst v') w') :
    if Region.wanted o (yielded ops a.tmps) = true then Oper.wp Tryz.prog o a W K Q else E := by
  have hw : Region.wanted o (yielded ops a.tmps) = true := by simp [Region.wanted, hgd]
  rw [if_pos hw]
  exact wp_append_out s x t tn ho hs hx hr h
theorem rw_at {V : World} {sz : Nat} {a : Option Addr} {n c : Nat} {xs : List (List Value)} (h : Rw V sz (.slice a n c) xs) (i : Nat) (hi : i < xs.length) : ∃ b off, a = some ⟨b, off, none⟩ ∧ ∀ j u, (xs.getD i [])[j]? = some u → V.cell? ⟨b, off + i * sz + j, none⟩ = some u := by
  obtain ⟨a', c', e, _, _, _, hr⟩ := h
  simp only [Value.slice.injEq] at e
  obtain ⟨rfl, -, rfl⟩ := e
  rcases hr with e | ⟨b, off, rfl, hc⟩
  · rw [e] at hi; simp at hi
  · exact ⟨b, off, rfl, hc i hi⟩
end
end Go.Proofs.YtbccadbnaggkhaaGreat

namespace Go.Proofs.YtbccadbnaggkhaaGreat
open Go.RowKit
open Sm
open Cf
set_option linter.unusedVariables false
set_option maxRecDepth 20000

/-- Nothing of a tenant is cut off. -/
def Fit (t : Ten) : Prop := t.name.size ≤ 255 ∧ t.pool.length ≤ 255 ∧ t.stat.length ≤ 255 ∧ t.twi.length ≤ 255 ∧ 0 ≤ t.filter ∧ t.filter ≤ 255 ∧ 0 ≤ t.sess ∧ t.sess ≤ 65535 ∧ 0 ≤ t.queue ∧ t.queue ≤ 65535
instance (t : Ten) : Decidable (Fit t) := by unfold Fit; infer_instance
end Go.Proofs.YtbccadbnaggkhaaGreat

