/-
  Sessions: what comes in: points, numbers, a script's acts.
-/
import Derived.Test.YtgeeijinhneoiaaSsFace
import Derived.Test.YtgeeijinhneoiaaKit
import Derived.Deep.Slices
import Derived.OpenShut
import Derived.Below
import Derived.ProofKit
namespace Go.Proofs.Ytgeeijinhneoiaa
open Go.ChangeShapes Go.WideShapes Go.ChangeAt Go.RowKit Go.Joins
open Sm
open Po
open Wh
set_option linter.unusedVariables false
set_option linter.unusedSimpArgs false
set_option maxRecDepth 100000

namespace Ss
theorem addr_add19 (b off j : Nat) : (Addr.mk b off none).add j = ⟨b, off + j, none⟩ := by
  simp [Addr.add]
theorem list_of19 {β : Type} (Q : Nat → β → Prop) : ∀ n, (∀ i, i < n → ∃ x, Q i x) → ∃ l : List β, l.length = n ∧ ∀ i x, l[i]? = some x → Q i x
  | 0, _ => ⟨[], rfl, by simp⟩
  | n + 1, h => by
    obtain ⟨l, hl, hq⟩ := list_of19 Q n (fun i hi => h i (by omega))
    obtain ⟨x, hx⟩ := h n (by omega)
    refine ⟨l ++ [x], by simp [hl], fun i y hy => ?_⟩
    rw [List.getElem?_append] at hy
    split at hy
    · exact hq i y hy
    · rename_i hi
      have : i = n := by
        have := (List.getElem?_eq_some_iff.1 hy).1
        simp at this
        omega
      subst this
      rw [hl, Nat.sub_self] at hy
      simp at hy
      subst hy
      exact hx
section
variable {H : Type} {enc : TypeId × Value → H} {W : World} {base : Nat} {held : Bool} {r : Reach}
theorem open_elems19 {a : Option Addr} {len cap : Nat} {d : DataW H} {p : List MemPlace} {t e : TypeId} (ht : Try.prog.underlying t = some (.slice e)) (hc : Try.prog.cellsOf e = 1) (h : DataW.Trod enc Try.prog W base (fun _ => true) held t (.slice a len cap) d p) :
    ∀ i, i < len → ∃ b off v fuel y, a = some ⟨b, off, none⟩ ∧ W.cell? ⟨b, off + i, none⟩ = some v ∧ DataW.trod enc Try.prog W base (fun _ => true) held fuel e [v] = some y := by
  obtain ⟨fuel, hf⟩ := h
  rcases Go.Deep.open_slice1 ht hc hf with ⟨hcs, _⟩ | ⟨x, l, c, m, n, V, D, Pl, hcs, _, hl, hm, hmm, _, hx⟩
  · simp [Value.cells] at hcs
    obtain ⟨rfl, rfl, rfl⟩ := hcs
    intro i hi; omega
  · simp [Value.cells] at hcs
    obtain ⟨rfl, rfl, rfl⟩ := hcs
    have hlm : len ≤ m := by simp at hmm; omega
    intro i hi
    obtain ⟨b, off, spot⟩ := x
    have hspot : spot = none := by simpa [Addr.add] using World.cell?_spot (hx 0 (by omega)).1
    subst hspot
    obtain ⟨h1, h2⟩ := hx i (by omega)
    refine ⟨b, off, V i, n, _, rfl, ?_, h2⟩
    by_cases e0 : i = 0
    · subst e0; simpa [Addr.add] using h1
    · simpa [Addr.add, e0] using h1
open Classical in
theorem open_n16 {v : Value} {d : DataW H} {p : List MemPlace} {b0 : Nat} (ho : Value.okWide Try.prog W r b0 58 v) (h : DataW.Trod enc Try.prog W base (fun _ => true) held 58 v d p) :
    ∃ (a : Option Addr) (n c : Nat) (ks : Nat → Int), v = .slice a n c ∧ ∀ i, i < n → ∃ b off, a = some ⟨b, off, none⟩ ∧ W.cell? ⟨b, off + i, none⟩ = some (.int .u16 (ks i)) ∧ 0 ≤ ks i ∧ ks i ≤ 65535 := by
  obtain ⟨a, len, cap, rfl⟩ := okWide_slice Try.underlying58 ho
  have h1 : ∀ i, ∃ x : Int, i < len → ∃ b off, a = some ⟨b, off, none⟩ ∧ W.cell? ⟨b, off + i, none⟩ = some (.int .u16 x) ∧ 0 ≤ x ∧ x ≤ 65535 := by
    intro i
    by_cases hi : i < len
    · obtain ⟨b, off, v, fuel, y, h2, h3, h4⟩ := open_elems19 Try.underlying58 (by kernel_rfl) h i hi
      obtain ⟨x, rfl, hw⟩ := open_cell (k := .u16) Try.underlying32 h4
      exact ⟨x, fun _ => ⟨b, off, h2, h3, bounds_u16 hw⟩⟩
    · exact ⟨0, fun h => absurd h hi⟩
  exact ⟨a, len, cap, fun i => (h1 i).choose, rfl, fun i => (h1 i).choose_spec⟩
theorem trod_struct2q {t : TypeId} {f0 f1 : Field} {fuel : Nat} {cs : List Value} {x : DataW H × List MemPlace} (ht : Try.prog.underlying t = some (.struct #[f0, f1])) (h : DataW.trod enc Try.prog W base (fun _ => true) held fuel t cs = some x) :
  ∃ n, cs.length = Try.prog.cellsOf t ∧ (∃ y, DataW.trod enc Try.prog W base (fun _ => true) held n f0.type ((cs.drop f0.offset).take (Try.prog.cellsOf f0.type)) = some y) ∧ (∃ y, DataW.trod enc Try.prog W base (fun _ => true) held n f1.type ((cs.drop f1.offset).take (Try.prog.cellsOf f1.type)) = some y) := by
 obtain ⟨xs, n, _, _, hl, hlen, hf⟩ := DataW.trod_struct ht h
 have hlen' : xs.length = 2 := hlen
 exact ⟨n, hl, ⟨_, (hf 0 f0 rfl).trans (List.getElem?_eq_getElem (by omega))⟩, ⟨_, (hf 1 f1 rfl).trans (List.getElem?_eq_getElem (by omega))⟩⟩
theorem trod_struct6q {t : TypeId} {f0 f1 f2 f3 f4 f5 : Field} {fuel : Nat} {cs : List Value} {x : DataW H × List MemPlace} (ht : Try.prog.underlying t = some (.struct #[f0, f1, f2, f3, f4, f5])) (h : DataW.trod enc Try.prog W base (fun _ => true) held fuel t cs = some x) :
  ∃ n, cs.length = Try.prog.cellsOf t ∧ (∃ y, DataW.trod enc Try.prog W base (fun _ => true) held n f0.type ((cs.drop f0.offset).take (Try.prog.cellsOf f0.type)) = some y) ∧ (∃ y, DataW.trod enc Try.prog W base (fun _ => true) held n f1.type ((cs.drop f1.offset).take (Try.prog.cellsOf f1.type)) = some y) ∧ (∃ y, DataW.trod enc Try.prog W base (fun _ => true) held n f2.type ((cs.drop f2.offset).take (Try.prog.cellsOf f2.type)) = some y) ∧ (∃ y, DataW.trod enc Try.prog W base (fun _ => true) held n f3.type ((cs.drop f3.offset).take (Try.prog.cellsOf f3.type)) = some y) ∧ (∃ y, DataW.trod enc Try.prog W base (fun _ => true) held n f4.type ((cs.drop f4.offset).take (Try.prog.cellsOf f4.type)) = some y) ∧ (∃ y, DataW.trod enc Try.prog W base (fun _ => true) held n f5.type ((cs.drop f5.offset).take (Try.prog.cellsOf f5.type)) = some y) := by
 obtain ⟨xs, n, _, _, hl, hlen, hf⟩ := DataW.trod_struct ht h
 have hlen' : xs.length = 6 := hlen
 exact ⟨n, hl, ⟨_, (hf 0 f0 rfl).trans (List.getElem?_eq_getElem (by omega))⟩, ⟨_, (hf 1 f1 rfl).trans (List.getElem?_eq_getElem (by omega))⟩, ⟨_, (hf 2 f2 rfl).trans (List.getElem?_eq_getElem (by omega))⟩, ⟨_, (hf 3 f3 rfl).trans (List.getElem?_eq_getElem (by omega))⟩, ⟨_, (hf 4 f4 rfl).trans (List.getElem?_eq_getElem (by omega))⟩, ⟨_, (hf 5 f5 rfl).trans (List.getElem?_eq_getElem (by omega))⟩⟩
theorem trod_struct5q {t : TypeId} {f0 f1 f2 f3 f4 : Field} {fuel : Nat} {cs : List Value} {x : DataW H × List MemPlace} (ht : Try.prog.underlying t = some (.struct #[f0, f1, f2, f3, f4])) (h : DataW.trod enc Try.prog W base (fun _ => true) held fuel t cs = some x) :
  ∃ n, cs.length = Try.prog.cellsOf t ∧ (∃ y, DataW.trod enc Try.prog W base (fun _ => true) held n f0.type ((cs.drop f0.offset).take (Try.prog.cellsOf f0.type)) = some y) ∧ (∃ y, DataW.trod enc Try.prog W base (fun _ => true) held n f1.type ((cs.drop f1.offset).take (Try.prog.cellsOf f1.type)) = some y) ∧ (∃ y, DataW.trod enc Try.prog W base (fun _ => true) held n f2.type ((cs.drop f2.offset).take (Try.prog.cellsOf f2.type)) = some y) ∧ (∃ y, DataW.trod enc Try.prog W base (fun _ => true) held n f3.type ((cs.drop f3.offset).take (Try.prog.cellsOf f3.type)) = some y) ∧ (∃ y, DataW.trod enc Try.prog W base (fun _ => true) held n f4.type ((cs.drop f4.offset).take (Try.prog.cellsOf f4.type)) = some y) := by
 obtain ⟨xs, n, _, _, hl, hlen, hf⟩ := DataW.trod_struct ht h
 have hlen' : xs.length = 5 := hlen
 exact ⟨n, hl, ⟨_, (hf 0 f0 rfl).trans (List.getElem?_eq_getElem (by omega))⟩, ⟨_, (hf 1 f1 rfl).trans (List.getElem?_eq_getElem (by omega))⟩, ⟨_, (hf 2 f2 rfl).trans (List.getElem?_eq_getElem (by omega))⟩, ⟨_, (hf 3 f3 rfl).trans (List.getElem?_eq_getElem (by omega))⟩, ⟨_, (hf 4 f4 rfl).trans (List.getElem?_eq_getElem (by omega))⟩⟩
theorem open_point19 {fuel : Nat} {cs : List Value} {x : DataW H × List MemPlace} (h : DataW.trod enc Try.prog W base (fun _ => true) held fuel 34 cs = some x) :
  ∃ q : Pn, cs = pc q ∧ cs.length = 2 ∧ PIn q := by
 obtain ⟨n, hl, ⟨y0, g0⟩, ⟨y1, g1⟩⟩ := trod_struct2q Try.underlying34 h
 rw [show Try.prog.cellsOf 34 = 2 by kernel_rfl] at hl
 have c0 : Try.prog.cellsOf 31 = 1 := by kernel_rfl
 have c1 : Try.prog.cellsOf 32 = 1 := by kernel_rfl
 simp only [c0, c1] at g0 g1
 obtain ⟨a, e0, -, w0⟩ := DataW.trod_int Try.underlying31 g0
 obtain ⟨b, e1, -, w1⟩ := DataW.trod_int Try.underlying32 g1
 have step : ∀ o n o', o + n = o' → cs.drop o = (cs.drop o).take n ++ cs.drop o' := by
  intro o n o' e
  subst e
  rw [← List.drop_drop, List.take_append_drop]
 have hend : cs.drop 2 = [] := by rw [List.drop_eq_nil_iff]; omega
 refine ⟨(a, b), ?_, hl, bounds_u32 w0, bounds_u16 w1⟩
 refine (List.drop_zero (l := cs)).symm.trans ?_
 rw [step 0 1 1 rfl, e0, step 1 1 2 rfl, e1, hend]
 rfl
abbrev ptq (q : Pn) : Array Value := #[.int .u32 q.1, .int .u16 q.2]
theorem open_pt {v : Value} {d : DataW H} {p : List MemPlace} {b0 : Nat} (ho : Value.okWide Try.prog W r b0 34 v) (h : DataW.Trod enc Try.prog W base (fun _ => true) held 34 v d p) :
    ∃ q : Pn, v = .agg #[.int .u32 q.1, .int .u16 q.2] ∧ PIn q := by
  obtain ⟨cs, rfl, hsz⟩ := okWide_struct Try.underlying34 ho
  obtain ⟨fuel, hf⟩ := h
  obtain ⟨q, e, -, hq⟩ := open_point19 hf
  refine ⟨q, ?_, hq⟩
  have e2 : cs.toList = [.int .u32 q.1, .int .u16 q.2] := by simpa [Value.cells, pc] using e
  have e3 : cs = #[.int .u32 q.1, .int .u16 q.2] := by
    apply Array.ext'
    rw [e2]
  rw [e3]
theorem open_ptsl {fuel : Nat} {cs : List Value} {x : DataW H × List MemPlace} (h : DataW.trod enc Try.prog W base (fun _ => true) held fuel 37 cs = some x) :
    ∃ (v : Value) (l : List Pn), cs = [v] ∧ PR W v l ∧ ∀ q ∈ l, PIn q := by
  rcases Go.Deep.open_slice Try.underlying37 h with ⟨rfl, _⟩ | ⟨a, len, cap, m, n, D, Pl, rfl, _, hl, hm, hmm, _, hx⟩
  · exact ⟨_, [], rfl, ⟨none, 0, rfl, Nat.le_refl _, by omega, fun _ => rfl, Or.inl rfl⟩, by simp⟩
  · have hlm : len ≤ m := by simp at hmm; omega
    by_cases h0 : len = 0
    · subst h0
      exact ⟨_, [], rfl, ⟨some a, cap, rfl, Nat.zero_le _, hm, (fun e => by cases e), Or.inl rfl⟩, by simp⟩
    · rw [show Try.prog.cellsOf 34 = 2 by kernel_rfl] at hx
      obtain ⟨b, off, spot⟩ := a
      have hspot : spot = none := by
        obtain ⟨cs', h1, h2⟩ := hx 0 (by omega)
        obtain ⟨_, hlen, hcell⟩ := World.cells?_some h1
        have hc := hcell 0 (by omega)
        rw [List.getElem?_eq_getElem (by omega)] at hc
        simpa [Addr.add] using World.cell?_spot hc
      subst hspot
      obtain ⟨l, hll, hq⟩ := list_of19 (fun i (x : Pn) => (W.cell? ⟨b, off + i * 2, none⟩ = some (.int .u32 x.1) ∧ W.cell? ⟨b, off + i * 2 + 1, none⟩ = some (.int .u16 x.2)) ∧ PIn x) len (fun i hi => by
        obtain ⟨cs', h1, h2⟩ := hx i (by omega)
        obtain ⟨_, hlen, hcell⟩ := World.cells?_some h1
        obtain ⟨q, e, hl2, hq⟩ := open_point19 h2
        have e0 := hcell 0 (by omega)
        have e1 := hcell 1 (by omega)
        rw [Go.Deep.add_add] at e0 e1
        rw [addr_add19] at e0 e1
        rw [e] at e0 e1
        exact ⟨q, ⟨by simpa [pc] using e0, by simpa [pc, Nat.add_assoc] using e1⟩, hq⟩)
      have e : (px l).length = len := by simp [px, hll]
      refine ⟨_, l, rfl, ⟨some ⟨b, off, none⟩, cap, by rw [e], by omega, hm, (fun e => by cases e), Or.inr ⟨b, off, rfl, fun i hi j u hu => ?_⟩⟩, fun q hq' => ?_⟩
      · rw [e] at hi
        have hg : (px l).getD i [] = pc (l[i]'(by omega)) := by
          rw [List.getD, px, List.getElem?_map, List.getElem?_eq_getElem (by omega)]
          rfl
        rw [hg] at hu
        obtain ⟨⟨q0, q1⟩, -⟩ := hq i _ (List.getElem?_eq_getElem (by omega))
        match j, hu with
        | 0, hu =>
          simp [pc] at hu
          subst hu
          simpa using q0
        | 1, hu =>
          simp [pc] at hu
          subst hu
          simpa using q1
        | j + 2, hu => simp [pc] at hu
      · obtain ⟨i, hi, rfl⟩ := List.getElem_of_mem hq'
        exact (hq i _ (List.getElem?_eq_getElem hi)).2
theorem open_pts {v : Value} {d : DataW H} {p : List MemPlace} {b0 : Nat} (ho : Value.okWide Try.prog W r b0 37 v) (h : DataW.Trod enc Try.prog W base (fun _ => true) held 37 v d p) :
    ∃ l : List Pn, PR W v l ∧ ∀ q ∈ l, PIn q := by
  obtain ⟨a, len, cap, rfl⟩ := okWide_slice Try.underlying37 ho
  obtain ⟨fuel, hf⟩ := h
  obtain ⟨v, l, e, h1, h2⟩ := open_ptsl hf
  simp [Value.cells] at e
  subst e
  exact ⟨l, h1, h2⟩
/-- An act of a script. -/
structure A19 where
  what : Int
  s : Sn
  most : Int
  k : Int
  own : Bool
def ac19 (x : A19) (pv : Value) : List Value := .int .i64 x.what :: (sc x.s pv ++ [.int .i64 x.most, .int .i64 x.k, .bool x.own])
def I64 (z : Int) : Prop := -9223372036854775808 ≤ z ∧ z ≤ 9223372036854775807
def A19W (x : A19) : Prop := I64 x.what ∧ SIn x.s ∧ I64 x.most ∧ I64 x.k
/-- The acts that come in. -/
def Acts19 (W : World) (a : Option Addr) (n : Nat) (X : Nat → A19) : Prop := ∀ i, i < n → A19W (X i) ∧ ∃ b off pv, a = some ⟨b, off, none⟩ ∧ PR W pv (X i).s.ps ∧ ∀ j u, (ac19 (X i) pv)[j]? = some u → W.cell? ⟨b, off + i * 13 + j, none⟩ = some u
theorem open_key19 {fuel : Nat} {cs : List Value} {x : DataW H × List MemPlace} (h : DataW.trod enc Try.prog W base (fun _ => true) held fuel 36 cs = some x) :
  ∃ k : Ky, cs = [.int .u8 k.1, .int .u32 k.2.1, .int .u16 k.2.2] ∧ KIn k := by
 obtain ⟨n, hl, ⟨y0, g0⟩, ⟨y1, g1⟩⟩ := trod_struct2q Try.underlying36 h
 rw [show Try.prog.cellsOf 36 = 3 by kernel_rfl] at hl
 have c0 : Try.prog.cellsOf 5 = 1 := by kernel_rfl
 have c1 : Try.prog.cellsOf 34 = 2 := by kernel_rfl
 simp only [c0, c1] at g0 g1
 obtain ⟨a, e0, -, w0⟩ := DataW.trod_int Try.underlying5 g0
 obtain ⟨q, e1, -, hq⟩ := open_point19 g1
 have step : ∀ o n o', o + n = o' → cs.drop o = (cs.drop o).take n ++ cs.drop o' := by
  intro o n o' e
  subst e
  rw [← List.drop_drop, List.take_append_drop]
 have hend : cs.drop 3 = [] := by rw [List.drop_eq_nil_iff]; omega
 refine ⟨(a, q.1, q.2), ?_, bounds_u8 w0, hq.1, hq.2⟩
 refine (List.drop_zero (l := cs)).symm.trans ?_
 rw [step 0 1 1 rfl, e0, step 1 2 3 rfl, e1, hend]
 rfl
theorem open_sess19 {fuel : Nat} {cs : List Value} {x : DataW H × List MemPlace} (h : DataW.trod enc Try.prog W base (fun _ => true) held fuel 39 cs = some x) :
  ∃ (s : Sn) (pv : Value), cs = sc s pv ∧ PR W pv s.ps ∧ SIn s := by
 obtain ⟨n, hl, ⟨y0, g0⟩, ⟨y1, g1⟩, ⟨y2, g2⟩, ⟨y3, g3⟩, ⟨y4, g4⟩, ⟨y5, g5⟩⟩ := trod_struct6q Try.underlying39 h
 rw [show Try.prog.cellsOf 39 = 9 by kernel_rfl] at hl
 have c0 : Try.prog.cellsOf 36 = 3 := by kernel_rfl
 have c1 : Try.prog.cellsOf 34 = 2 := by kernel_rfl
 have c2 : Try.prog.cellsOf 31 = 1 := by kernel_rfl
 have c3 : Try.prog.cellsOf 37 = 1 := by kernel_rfl
 have c4 : Try.prog.cellsOf 3 = 1 := by kernel_rfl
 simp only [c0, c1, c2, c3, c4] at g0 g1 g2 g3 g4 g5
 obtain ⟨k, e0, hk⟩ := open_key19 g0
 obtain ⟨q, e1, -, hq⟩ := open_point19 g1
 obtain ⟨gen, e2, -, w2⟩ := DataW.trod_int Try.underlying31 g2
 obtain ⟨pv, l, e3, hp, hpi⟩ := open_ptsl g3
 obtain ⟨st, e4, -, w4⟩ := DataW.trod_int Try.underlying3 g4
 obtain ⟨un, e5, -, w5⟩ := DataW.trod_int Try.underlying31 g5
 have step : ∀ o n o', o + n = o' → cs.drop o = (cs.drop o).take n ++ cs.drop o' := by
  intro o n o' e
  subst e
  rw [← List.drop_drop, List.take_append_drop]
 have hend : cs.drop 9 = [] := by rw [List.drop_eq_nil_iff]; omega
 refine ⟨⟨k.1, k.2.1, k.2.2, q.1, q.2, gen, l, st, un⟩, pv, ?_, hp, hk, hq, bounds_u32 w2, hpi, bounds_i64 w4, bounds_u32 w5⟩
 refine (List.drop_zero (l := cs)).symm.trans ?_
 rw [step 0 3 3 rfl, e0, step 3 2 5 rfl, e1, step 5 1 6 rfl, e2, step 6 1 7 rfl, e3, step 7 1 8 rfl, e4, step 8 1 9 rfl, e5, hend]
 rfl
theorem open_act_cells19 {fuel : Nat} {cs : List Value} {x : DataW H × List MemPlace} (hf' : DataW.trod enc Try.prog W base (fun _ => true) held fuel 41 cs = some x) :
  ∃ (x : A19) (pv : Value), cs = ac19 x pv ∧ cs.length = 13 ∧ A19W x ∧ PR W pv x.s.ps := by
 obtain ⟨n, hl, ⟨y0, g0⟩, ⟨y1, g1⟩, ⟨y2, g2⟩, ⟨y3, g3⟩, ⟨y4, g4⟩⟩ := trod_struct5q Try.underlying41 hf'
 rw [show Try.prog.cellsOf 41 = 13 by kernel_rfl] at hl
 have c0 : Try.prog.cellsOf 3 = 1 := by kernel_rfl
 have c1 : Try.prog.cellsOf 39 = 9 := by kernel_rfl
 have c2 : Try.prog.cellsOf 4 = 1 := by kernel_rfl
 simp only [c0, c1, c2] at g0 g1 g2 g3 g4
 obtain ⟨what, e0, -, w0⟩ := DataW.trod_int Try.underlying3 g0
 obtain ⟨s, pv, e1, hp, hs⟩ := open_sess19 g1
 obtain ⟨most, e2, -, w2⟩ := DataW.trod_int Try.underlying3 g2
 obtain ⟨k, e3, -, w3⟩ := DataW.trod_int Try.underlying3 g3
 obtain ⟨own, e4, -⟩ := DataW.trod_bool Try.underlying4 g4
 have step : ∀ o n o', o + n = o' → cs.drop o = (cs.drop o).take n ++ cs.drop o' := by
  intro o n o' e
  subst e
  rw [← List.drop_drop, List.take_append_drop]
 have hend : cs.drop 13 = [] := by rw [List.drop_eq_nil_iff]; omega
 refine ⟨⟨what, s, most, k, own⟩, pv, ?_, hl, ⟨bounds_i64 w0, hs, bounds_i64 w2, bounds_i64 w3⟩, hp⟩
 refine (List.drop_zero (l := cs)).symm.trans ?_
 rw [step 0 1 1 rfl, e0, step 1 9 10 rfl, e1, step 10 1 11 rfl, e2, step 11 1 12 rfl, e3, step 12 1 13 rfl, e4, hend]
 rfl
def a190 : A19 := ⟨0, sn0, 0, 0, false⟩
open Classical in
theorem open_acts19a {a : Option Addr} {len cap : Nat} {d : DataW H} {p : List MemPlace} (h : DataW.Trod enc Try.prog W base (fun _ => true) held 22 (.slice a len cap) d p) :
  ∃ X : Nat → A19, Acts19 W a len X := by
 obtain ⟨fuel, hf⟩ := h
 rcases Go.Deep.open_slice Try.underlying22 hf with ⟨hcs, _⟩ | ⟨a, len', cap', m, n, D, Pl, hcs, _, hl, hm, hmm, _, hx⟩
 · simp [Value.cells] at hcs
   obtain ⟨rfl, rfl, rfl⟩ := hcs
   exact ⟨fun _ => a190, fun i hi => by omega⟩
 · simp [Value.cells] at hcs
   obtain ⟨rfl, rfl, rfl⟩ := hcs
   have hlm : len ≤ m := by simp at hmm; omega
   rw [show Try.prog.cellsOf 41 = 13 by kernel_rfl] at hx
   obtain ⟨b, off, spot⟩ := a
   have h1 : ∀ i, ∃ k : A19, i < len → A19W k ∧ ∃ b' off' pv, (some ⟨b, off, spot⟩ : Option Addr) = some ⟨b', off', none⟩ ∧ PR W pv k.s.ps ∧ ∀ j u, (ac19 k pv)[j]? = some u → W.cell? ⟨b', off' + i * 13 + j, none⟩ = some u := by
    intro i
    by_cases hi : i < len
    · have hspot : spot = none := by
       obtain ⟨cs', h1, h2⟩ := hx 0 (by omega)
       obtain ⟨_, hlen, hcell⟩ := World.cells?_some h1
       have hc := hcell 0 (by omega)
       rw [List.getElem?_eq_getElem (by omega)] at hc
       simpa [Addr.add] using World.cell?_spot hc
      subst hspot
      obtain ⟨cs', h1, h2⟩ := hx i (by omega)
      obtain ⟨_, hlen, hcell⟩ := World.cells?_some h1
      obtain ⟨k, pv, e, hk, hw, hp⟩ := open_act_cells19 h2
      refine ⟨k, fun _ => ⟨hw, b, off, pv, rfl, hp, fun j u hj => ?_⟩⟩
      rw [← e] at hj
      have hjl : j < 13 := by
       have := (List.getElem?_eq_some_iff.1 hj).1
       omega
      have hc := hcell j hjl
      rw [hj, Go.Deep.add_add, addr_add19] at hc
      simpa [Nat.add_assoc] using hc
    · exact ⟨a190, fun h => absurd h hi⟩
   exact ⟨fun i => (h1 i).choose, fun i => (h1 i).choose_spec⟩
theorem open_acts19 {v : Value} {d : DataW H} {p : List MemPlace} {b0 : Nat} (ho : Value.okWide Try.prog W r b0 22 v) (h : DataW.Trod enc Try.prog W base (fun _ => true) held 22 v d p) :
    ∃ (a : Option Addr) (n c : Nat) (X : Nat → A19), v = .slice a n c ∧ n ≤ c ∧ Acts19 W a n X := by
  obtain ⟨a, len, cap, rfl⟩ := okWide_slice Try.underlying22 ho
  obtain ⟨X, hX⟩ := open_acts19a h
  refine ⟨a, len, cap, X, rfl, ?_, hX⟩
  obtain ⟨fuel, hf⟩ := h
  rcases Go.Deep.open_slice Try.underlying22 hf with ⟨hcs, _⟩ | ⟨a, len', cap', m, n, D, Pl, hcs, _, hl, hm, hmm, _, hx⟩
  · simp [Value.cells] at hcs
    obtain ⟨rfl, rfl, rfl⟩ := hcs
    exact Nat.le_refl _
  · simp [Value.cells] at hcs
    obtain ⟨rfl, rfl, rfl⟩ := hcs
    exact hl
end
end Ss
end Go.Proofs.Ytgeeijinhneoiaa
