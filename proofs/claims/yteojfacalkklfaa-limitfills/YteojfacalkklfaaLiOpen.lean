/-
  Tokens: what comes in: numbers in a slice, a script's acts.
-/
import Derived.Test.YteojfacalkklfaaLiPl0
import Derived.Test.YteojfacalkklfaaKit
import Derived.Deep.Slices
import Derived.OpenShut
import Derived.Below
import Derived.ProofKit
namespace Go.Proofs.Yteojfacalkklfaa
open Go.ChangeShapes Go.WideShapes Go.ChangeAt Go.RowKit Go.Joins
open Sm
open Li
set_option linter.unusedVariables false
set_option linter.unusedSimpArgs false
set_option maxRecDepth 100000

namespace Li
theorem open_elems20 {H : Type} {enc : TypeId × Value → H} {W : World} {base : Nat} {held : Bool} {a : Option Addr} {len cap : Nat} {d : DataW H} {p : List MemPlace} {t e : TypeId} (ht : Try.prog.underlying t = some (.slice e)) (hc : Try.prog.cellsOf e = 1) (h : DataW.Trod enc Try.prog W base (fun _ => true) held t (.slice a len cap) d p) :
    ∀ i, i < len → ∃ b off v fuel y, a = some ⟨b, off, none⟩ ∧ W.cell? ⟨b, off + i, none⟩ = some v ∧ DataW.trod enc Try.prog W base (fun _ => true) held fuel e [v] = some y := by
  obtain ⟨fuel, hf⟩ := h
  rcases Go.Deep.open_slice1 ht hc hf with ⟨hcs, _⟩ | ⟨x, l, c, m, n, V, D, Pl, hcs, _, hl, hm, hmm, _, hx⟩
  · simp [Value.cells] at hcs
    obtain ⟨rfl, rfl, rfl⟩ := hcs
    intro i hi; omega
  · simp [Value.cells] at hcs
    obtain ⟨rfl, rfl, rfl⟩ := hcs
    have hlm : len ≤ m := by simp at hmm; omega
    intro i hi
    obtain ⟨b, off, spot⟩ := x
    have hspot : spot = none := by simpa [Addr.add] using World.cell?_spot (hx 0 (by omega)).1
    subst hspot
    obtain ⟨h1, h2⟩ := hx i (by omega)
    refine ⟨b, off, V i, n, _, rfl, ?_, h2⟩
    by_cases e0 : i = 0
    · subst e0; simpa [Addr.add] using h1
    · simpa [Addr.add, e0] using h1
theorem addr_add20 (b off j : Nat) : (Addr.mk b off none).add j = ⟨b, off + j, none⟩ := by
  simp [Addr.add]
section
variable {H : Type} {enc : TypeId × Value → H} {W : World} {base : Nat} {held : Bool} {r : Reach}
open Classical in
theorem open_ks {v : Value} {d : DataW H} {p : List MemPlace} {t e : TypeId} {k : IntKind} {b0 : Nat} (ht : Try.prog.underlying t = some (.slice e)) (he : Try.prog.underlying e = some (.int k)) (hc : Try.prog.cellsOf e = 1) (ho : Value.okWide Try.prog W r b0 t v) (h : DataW.Trod enc Try.prog W base (fun _ => true) held t v d p) :
    ∃ (a : Option Addr) (n c : Nat) (ks : Nat → Int), v = .slice a n c ∧ ∀ i, i < n → ∃ b off, a = some ⟨b, off, none⟩ ∧ W.cell? ⟨b, off + i, none⟩ = some (.int k (ks i)) ∧ (Lit.int k (ks i)).wf = true := by
  obtain ⟨a, len, cap, rfl⟩ := okWide_slice ht ho
  have h1 : ∀ i, ∃ x : Int, i < len → ∃ b off, a = some ⟨b, off, none⟩ ∧ W.cell? ⟨b, off + i, none⟩ = some (.int k x) ∧ (Lit.int k x).wf = true := by
    intro i
    by_cases hi : i < len
    · obtain ⟨b, off, v, fuel, y, h2, h3, h4⟩ := open_elems20 ht hc h i hi
      obtain ⟨x, rfl, hw⟩ := open_cell he h4
      exact ⟨x, fun _ => ⟨b, off, h2, h3, hw⟩⟩
    · exact ⟨0, fun h => absurd h hi⟩
  exact ⟨a, len, cap, fun i => (h1 i).choose, rfl, fun i => (h1 i).choose_spec⟩
theorem open_n32 {v : Value} {d : DataW H} {p : List MemPlace} {b0 : Nat} (ho : Value.okWide Try.prog W r b0 36 v) (h : DataW.Trod enc Try.prog W base (fun _ => true) held 36 v d p) :
    ∃ (a : Option Addr) (n c : Nat) (ks : Nat → Int), v = .slice a n c ∧ ∀ i, i < n → ∃ b off, a = some ⟨b, off, none⟩ ∧ W.cell? ⟨b, off + i, none⟩ = some (.int .u32 (ks i)) ∧ 0 ≤ ks i ∧ ks i ≤ 4294967295 := by
  obtain ⟨a, n, c, ks, e, hk⟩ := open_ks Try.underlying36 Try.underlying22 (by kernel_rfl) ho h
  refine ⟨a, n, c, ks, e, fun i hi => ?_⟩
  obtain ⟨b, off, e1, e2, e3⟩ := hk i hi
  exact ⟨b, off, e1, e2, bounds_u32 e3⟩
theorem trod_struct5q {t : TypeId} {f0 f1 f2 f3 f4 : Field} {fuel : Nat} {cs : List Value} {x : DataW H × List MemPlace} (ht : Try.prog.underlying t = some (.struct #[f0, f1, f2, f3, f4])) (h : DataW.trod enc Try.prog W base (fun _ => true) held fuel t cs = some x) :
  ∃ n, cs.length = Try.prog.cellsOf t ∧ (∃ y, DataW.trod enc Try.prog W base (fun _ => true) held n f0.type ((cs.drop f0.offset).take (Try.prog.cellsOf f0.type)) = some y) ∧ (∃ y, DataW.trod enc Try.prog W base (fun _ => true) held n f1.type ((cs.drop f1.offset).take (Try.prog.cellsOf f1.type)) = some y) ∧ (∃ y, DataW.trod enc Try.prog W base (fun _ => true) held n f2.type ((cs.drop f2.offset).take (Try.prog.cellsOf f2.type)) = some y) ∧ (∃ y, DataW.trod enc Try.prog W base (fun _ => true) held n f3.type ((cs.drop f3.offset).take (Try.prog.cellsOf f3.type)) = some y) ∧ (∃ y, DataW.trod enc Try.prog W base (fun _ => true) held n f4.type ((cs.drop f4.offset).take (Try.prog.cellsOf f4.type)) = some y) := by
 obtain ⟨xs, n, _, _, hl, hlen, hf⟩ := DataW.trod_struct ht h
 have hlen' : xs.length = 5 := hlen
 exact ⟨n, hl, ⟨_, (hf 0 f0 rfl).trans (List.getElem?_eq_getElem (by omega))⟩, ⟨_, (hf 1 f1 rfl).trans (List.getElem?_eq_getElem (by omega))⟩, ⟨_, (hf 2 f2 rfl).trans (List.getElem?_eq_getElem (by omega))⟩, ⟨_, (hf 3 f3 rfl).trans (List.getElem?_eq_getElem (by omega))⟩, ⟨_, (hf 4 f4 rfl).trans (List.getElem?_eq_getElem (by omega))⟩⟩
theorem open_act_cells20 {fuel : Nat} {cs : List Value} {x : DataW H × List MemPlace} (hf' : DataW.trod enc Try.prog W base (fun _ => true) held fuel 31 cs = some x) :
  ∃ x : A20, cs = ac20 x ∧ cs.length = 5 ∧ A20W x := by
 obtain ⟨n, hl, ⟨y0, g0⟩, ⟨y1, g1⟩, ⟨y2, g2⟩, ⟨y3, g3⟩, ⟨y4, g4⟩⟩ := trod_struct5q Try.underlying31 hf'
 rw [show Try.prog.cellsOf 31 = 5 by kernel_rfl] at hl
 have c0 : Try.prog.cellsOf 3 = 1 := by kernel_rfl
 have c1 : Try.prog.cellsOf 22 = 1 := by kernel_rfl
 have c2 : Try.prog.cellsOf 4 = 1 := by kernel_rfl
 simp only [c0, c1, c2] at g0 g1 g2 g3 g4
 obtain ⟨what, e0, -, w0⟩ := DataW.trod_int Try.underlying3 g0
 obtain ⟨m, e1, -, w1⟩ := DataW.trod_int Try.underlying22 g1
 obtain ⟨rt, e2, -, w2⟩ := DataW.trod_int Try.underlying22 g2
 obtain ⟨bt, e3, -, w3⟩ := DataW.trod_int Try.underlying22 g3
 obtain ⟨small, e4, -⟩ := DataW.trod_bool Try.underlying4 g4
 have step : ∀ o n o', o + n = o' → cs.drop o = (cs.drop o).take n ++ cs.drop o' := by
  intro o n o' e
  subst e
  rw [← List.drop_drop, List.take_append_drop]
 have hend : cs.drop 5 = [] := by rw [List.drop_eq_nil_iff]; omega
 refine ⟨⟨what, m, rt, bt, small⟩, ?_, hl, bounds_u32 w1, bounds_u32 w2, bounds_u32 w3⟩
 refine (List.drop_zero (l := cs)).symm.trans ?_
 rw [step 0 1 1 rfl, e0, step 1 1 2 rfl, e1, step 2 1 3 rfl, e2, step 3 1 4 rfl, e3, step 4 1 5 rfl, e4, hend]
 rfl
open Classical in
theorem open_acts20a {a : Option Addr} {len cap : Nat} {d : DataW H} {p : List MemPlace} (h : DataW.Trod enc Try.prog W base (fun _ => true) held 23 (.slice a len cap) d p) :
  ∃ X : Nat → A20, Acts20 W a len X := by
 obtain ⟨fuel, hf⟩ := h
 rcases Go.Deep.open_slice Try.underlying23 hf with ⟨hcs, _⟩ | ⟨a, len', cap', m, n, D, Pl, hcs, _, hl, hm, hmm, _, hx⟩
 · simp [Value.cells] at hcs
   obtain ⟨rfl, rfl, rfl⟩ := hcs
   exact ⟨fun _ => ⟨0, 0, 0, 0, false⟩, fun i hi => by omega⟩
 · simp [Value.cells] at hcs
   obtain ⟨rfl, rfl, rfl⟩ := hcs
   have hlm : len ≤ m := by simp at hmm; omega
   rw [show Try.prog.cellsOf 31 = 5 by kernel_rfl] at hx
   obtain ⟨b, off, spot⟩ := a
   have h1 : ∀ i, ∃ k : A20, i < len → A20W k ∧ ∃ b' off', (some ⟨b, off, spot⟩ : Option Addr) = some ⟨b', off', none⟩ ∧ ∀ j u, (ac20 k)[j]? = some u → W.cell? ⟨b', off' + i * 5 + j, none⟩ = some u := by
    intro i
    by_cases hi : i < len
    · have hspot : spot = none := by
       obtain ⟨cs', h1, h2⟩ := hx 0 (by omega)
       obtain ⟨_, hlen, hcell⟩ := World.cells?_some h1
       have hc := hcell 0 (by omega)
       rw [List.getElem?_eq_getElem (by omega)] at hc
       simpa [Addr.add] using World.cell?_spot hc
      subst hspot
      obtain ⟨cs', h1, h2⟩ := hx i (by omega)
      obtain ⟨_, hlen, hcell⟩ := World.cells?_some h1
      obtain ⟨k, e, hk, hw⟩ := open_act_cells20 h2
      refine ⟨k, fun _ => ⟨hw, b, off, rfl, fun j u hj => ?_⟩⟩
      rw [← e] at hj
      have hjl : j < 5 := by
       have := (List.getElem?_eq_some_iff.1 hj).1
       omega
      have hc := hcell j hjl
      rw [hj, Go.Deep.add_add, addr_add20] at hc
      simpa [Nat.add_assoc] using hc
    · exact ⟨⟨0, 0, 0, 0, false⟩, fun h => absurd h hi⟩
   exact ⟨fun i => (h1 i).choose, fun i => (h1 i).choose_spec⟩
theorem open_acts20 {v : Value} {d : DataW H} {p : List MemPlace} {b0 : Nat} (ho : Value.okWide Try.prog W r b0 23 v) (h : DataW.Trod enc Try.prog W base (fun _ => true) held 23 v d p) :
    ∃ (a : Option Addr) (n c : Nat) (X : Nat → A20), v = .slice a n c ∧ Acts20 W a n X := by
  obtain ⟨a, len, cap, rfl⟩ := okWide_slice Try.underlying23 ho
  obtain ⟨X, hX⟩ := open_acts20a h
  exact ⟨a, len, cap, X, rfl, hX⟩
end
end Li
end Go.Proofs.Yteojfacalkklfaa
