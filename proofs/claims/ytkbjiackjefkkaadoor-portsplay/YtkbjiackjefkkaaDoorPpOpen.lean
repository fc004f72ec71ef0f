/-
  Ports: a script's acts that come in.
-/
import Derived.Test.YtkbjiackjefkkaaDoorPoPl0
import Derived.Test.YtkbjiackjefkkaaDoorKit
import Derived.Deep.Slices
import Derived.OpenShut
import Derived.Below
import Derived.ProofKit
namespace Go.Proofs.YtkbjiackjefkkaaDoor
open Go.ChangeShapes Go.WideShapes Go.ChangeAt Go.RowKit Go.Joins
open Sm
open Po
set_option linter.unusedVariables false
set_option linter.unusedSimpArgs false
set_option maxRecDepth 100000

namespace Po
theorem open_elems17 {H : Type} {enc : TypeId × Value → H} {W : World} {base : Nat} {held : Bool} {a : Option Addr} {len cap : Nat} {d : DataW H} {p : List MemPlace} {t e : TypeId} (ht : Tryd.prog.underlying t = some (.slice e)) (hc : Tryd.prog.cellsOf e = 1) (h : DataW.Trod enc Tryd.prog W base (fun _ => true) held t (.slice a len cap) d p) :
    ∀ i, i < len → ∃ b off v fuel y, a = some ⟨b, off, none⟩ ∧ W.cell? ⟨b, off + i, none⟩ = some v ∧ DataW.trod enc Tryd.prog W base (fun _ => true) held fuel e [v] = some y := by
  obtain ⟨fuel, hf⟩ := h
  rcases Go.Deep.open_slice1 ht hc hf with ⟨hcs, _⟩ | ⟨x, l, c, m, n, V, D, Pl, hcs, _, hl, hm, hmm, _, hx⟩
  · simp [Value.cells] at hcs
    obtain ⟨rfl, rfl, rfl⟩ := hcs
    intro i hi; omega
  · simp [Value.cells] at hcs
    obtain ⟨rfl, rfl, rfl⟩ := hcs
    have hlm : len ≤ m := by simp at hmm; omega
    intro i hi
    obtain ⟨b, off, spot⟩ := x
    have hspot : spot = none := by simpa [Addr.add] using World.cell?_spot (hx 0 (by omega)).1
    subst hspot
    obtain ⟨h1, h2⟩ := hx i (by omega)
    refine ⟨b, off, V i, n, _, rfl, ?_, h2⟩
    by_cases e0 : i = 0
    · subst e0; simpa [Addr.add] using h1
    · simpa [Addr.add, e0] using h1
open Classical in
theorem open_hs17 {H : Type} {enc : TypeId × Value → H} {W : World} {base : Nat} {held : Bool} {a : Option Addr} {len cap : Nat} {d : DataW H} {p : List MemPlace} (h : DataW.Trod enc Tryd.prog W base (fun _ => true) held 53 (.slice a len cap) d p) :
    ∃ ks : Nat → Int, ∀ i, i < len → ∃ b off, a = some ⟨b, off, none⟩ ∧ W.cell? ⟨b, off + i, none⟩ = some (.int .u16 (ks i)) ∧ 0 ≤ ks i ∧ ks i ≤ 65535 := by
  have h1 : ∀ i, ∃ k : Int, i < len → ∃ b off, a = some ⟨b, off, none⟩ ∧ W.cell? ⟨b, off + i, none⟩ = some (.int .u16 k) ∧ 0 ≤ k ∧ k ≤ 65535 := by
    intro i
    by_cases hi : i < len
    · obtain ⟨b, off, v, fuel, y, h2, h3, h4⟩ := open_elems17 Tryd.underlying53 (by kernel_rfl) h i hi
      obtain ⟨k, rfl, hw⟩ := open_cell (k := .u16) Tryd.underlying32 h4
      exact ⟨k, fun _ => ⟨b, off, h2, h3, bounds_u16 hw⟩⟩
    · exact ⟨0, fun h => absurd h hi⟩
  exact ⟨fun i => (h1 i).choose, fun i => (h1 i).choose_spec⟩
theorem addr_add17 (b off j : Nat) : (Addr.mk b off none).add j = ⟨b, off + j, none⟩ := by
  simp [Addr.add]
section
variable {H : Type} {enc : TypeId × Value → H} {W : World} {base : Nat} {held : Bool}
theorem open_nums17 {fuel : Nat} {cs : List Value} {x : DataW H × List MemPlace} (h : DataW.trod enc Tryd.prog W base (fun _ => true) held fuel 31 cs = some x) :
    ∃ (v : Value) (l : List Int), cs = [v] ∧ Rw W 1 v (ux l) ∧ ∀ x ∈ l, 0 ≤ x ∧ x ≤ 4294967295 := by
  rcases open_ints Tryd.underlying31 Tryd.underlying33 (by kernel_rfl) h with ⟨rfl, _⟩ | ⟨a, len, cap, zs, rfl, _, hl, hm, hz, _, hcell, hwz⟩
  · exact ⟨_, [], rfl, ⟨none, 0, rfl, Nat.le_refl _, by omega, fun _ => rfl, Or.inl rfl⟩, by simp⟩
  · simp only [if_true] at hz
    have e : (ux (zs.take len)).length = len := by simp [ux]; omega
    refine ⟨_, zs.take len, rfl, ⟨some a, cap, by rw [e], by omega, hm, (fun e => by cases e), ?_⟩, fun x hx => bounds_u32 (hwz x (List.mem_of_mem_take hx))⟩
    by_cases h0 : len = 0
    · left
      subst h0
      simp [ux]
    · right
      obtain ⟨b, off, spot⟩ := a
      have hspot : spot = none := by
        have hc := hcell 0 (by omega)
        simpa [Addr.add] using World.cell?_spot hc
      subst hspot
      refine ⟨b, off, rfl, fun i hi j u hu => ?_⟩
      rw [e] at hi
      have hi' : i < (zs.take len).length := by simp; omega
      have hg : (ux (zs.take len)).getD i [] = [.int .u32 (zs.getD i 0)] := by
        rw [List.getD, ux, List.getElem?_map, List.getElem?_take, if_pos hi, List.getD, List.getElem?_eq_getElem (by omega)]
        rfl
      rw [hg] at hu
      match j, hu with
      | 0, hu =>
        simp at hu
        subst hu
        have hc := hcell i (by omega)
        rw [addr_add17] at hc
        simpa using hc
theorem trod_struct8p {t : TypeId} {f0 f1 f2 f3 f4 f5 f6 f7 : Field} {fuel : Nat} {cs : List Value} {x : DataW H × List MemPlace} (ht : Tryd.prog.underlying t = some (.struct #[f0, f1, f2, f3, f4, f5, f6, f7])) (h : DataW.trod enc Tryd.prog W base (fun _ => true) held fuel t cs = some x) :
  ∃ n, cs.length = Tryd.prog.cellsOf t ∧ (∃ y, DataW.trod enc Tryd.prog W base (fun _ => true) held n f0.type ((cs.drop f0.offset).take (Tryd.prog.cellsOf f0.type)) = some y) ∧ (∃ y, DataW.trod enc Tryd.prog W base (fun _ => true) held n f1.type ((cs.drop f1.offset).take (Tryd.prog.cellsOf f1.type)) = some y) ∧ (∃ y, DataW.trod enc Tryd.prog W base (fun _ => true) held n f2.type ((cs.drop f2.offset).take (Tryd.prog.cellsOf f2.type)) = some y) ∧ (∃ y, DataW.trod enc Tryd.prog W base (fun _ => true) held n f3.type ((cs.drop f3.offset).take (Tryd.prog.cellsOf f3.type)) = some y) ∧ (∃ y, DataW.trod enc Tryd.prog W base (fun _ => true) held n f4.type ((cs.drop f4.offset).take (Tryd.prog.cellsOf f4.type)) = some y) ∧ (∃ y, DataW.trod enc Tryd.prog W base (fun _ => true) held n f5.type ((cs.drop f5.offset).take (Tryd.prog.cellsOf f5.type)) = some y) ∧ (∃ y, DataW.trod enc Tryd.prog W base (fun _ => true) held n f6.type ((cs.drop f6.offset).take (Tryd.prog.cellsOf f6.type)) = some y) ∧ (∃ y, DataW.trod enc Tryd.prog W base (fun _ => true) held n f7.type ((cs.drop f7.offset).take (Tryd.prog.cellsOf f7.type)) = some y) := by
 obtain ⟨xs, n, _, _, hl, hlen, hf⟩ := DataW.trod_struct ht h
 have hlen' : xs.length = 8 := hlen
 exact ⟨n, hl, ⟨_, (hf 0 f0 rfl).trans (List.getElem?_eq_getElem (by omega))⟩, ⟨_, (hf 1 f1 rfl).trans (List.getElem?_eq_getElem (by omega))⟩, ⟨_, (hf 2 f2 rfl).trans (List.getElem?_eq_getElem (by omega))⟩, ⟨_, (hf 3 f3 rfl).trans (List.getElem?_eq_getElem (by omega))⟩, ⟨_, (hf 4 f4 rfl).trans (List.getElem?_eq_getElem (by omega))⟩, ⟨_, (hf 5 f5 rfl).trans (List.getElem?_eq_getElem (by omega))⟩, ⟨_, (hf 6 f6 rfl).trans (List.getElem?_eq_getElem (by omega))⟩, ⟨_, (hf 7 f7 rfl).trans (List.getElem?_eq_getElem (by omega))⟩⟩
theorem trod_struct2p {t : TypeId} {f0 f1 : Field} {fuel : Nat} {cs : List Value} {x : DataW H × List MemPlace} (ht : Tryd.prog.underlying t = some (.struct #[f0, f1])) (h : DataW.trod enc Tryd.prog W base (fun _ => true) held fuel t cs = some x) :
  ∃ n, cs.length = Tryd.prog.cellsOf t ∧ (∃ y, DataW.trod enc Tryd.prog W base (fun _ => true) held n f0.type ((cs.drop f0.offset).take (Tryd.prog.cellsOf f0.type)) = some y) ∧ (∃ y, DataW.trod enc Tryd.prog W base (fun _ => true) held n f1.type ((cs.drop f1.offset).take (Tryd.prog.cellsOf f1.type)) = some y) := by
 obtain ⟨xs, n, _, _, hl, hlen, hf⟩ := DataW.trod_struct ht h
 have hlen' : xs.length = 2 := hlen
 exact ⟨n, hl, ⟨_, (hf 0 f0 rfl).trans (List.getElem?_eq_getElem (by omega))⟩, ⟨_, (hf 1 f1 rfl).trans (List.getElem?_eq_getElem (by omega))⟩⟩
theorem open_point17 {fuel : Nat} {cs : List Value} {x : DataW H × List MemPlace} (h : DataW.trod enc Tryd.prog W base (fun _ => true) held fuel 35 cs = some x) :
  ∃ a b : Int, cs = [.int .u32 a, .int .u16 b] ∧ (0 ≤ a ∧ a ≤ 4294967295) ∧ 0 ≤ b ∧ b ≤ 65535 := by
 obtain ⟨n, hl, ⟨y0, g0⟩, ⟨y1, g1⟩⟩ := trod_struct2p Tryd.underlying35 h
 rw [show Tryd.prog.cellsOf 35 = 2 by kernel_rfl] at hl
 have c0 : Tryd.prog.cellsOf 33 = 1 := by kernel_rfl
 have c1 : Tryd.prog.cellsOf 32 = 1 := by kernel_rfl
 simp only [c0, c1] at g0 g1
 obtain ⟨a, e0, -, w0⟩ := DataW.trod_int Tryd.underlying33 g0
 obtain ⟨b, e1, -, w1⟩ := DataW.trod_int Tryd.underlying32 g1
 have step : ∀ o n o', o + n = o' → cs.drop o = (cs.drop o).take n ++ cs.drop o' := by
  intro o n o' e
  subst e
  rw [← List.drop_drop, List.take_append_drop]
 have hend : cs.drop 2 = [] := by rw [List.drop_eq_nil_iff]; omega
 refine ⟨a, b, ?_, bounds_u32 w0, bounds_u16 w1⟩
 refine (List.drop_zero (l := cs)).symm.trans ?_
 rw [step 0 1 1 rfl, e0, step 1 1 2 rfl, e1, hend]
 rfl
theorem open_act_cells17 {fuel : Nat} {cs : List Value} {x : DataW H × List MemPlace} (hf' : DataW.trod enc Tryd.prog W base (fun _ => true) held fuel 37 cs = some x) :
  ∃ x : A17, cs = ac x ∧ cs.length = 9 ∧ A17W W x := by
 obtain ⟨n, hl, ⟨y0, g0⟩, ⟨y1, g1⟩, ⟨y2, g2⟩, ⟨y3, g3⟩, ⟨y4, g4⟩, ⟨y5, g5⟩, ⟨y6, g6⟩, ⟨y7, g7⟩⟩ := trod_struct8p Tryd.underlying37 hf'
 rw [show Tryd.prog.cellsOf 37 = 9 by kernel_rfl] at hl
 have c0 : Tryd.prog.cellsOf 3 = 1 := by kernel_rfl
 have c1 : Tryd.prog.cellsOf 5 = 1 := by kernel_rfl
 have c2 : Tryd.prog.cellsOf 31 = 1 := by kernel_rfl
 have c3 : Tryd.prog.cellsOf 32 = 1 := by kernel_rfl
 have c6 : Tryd.prog.cellsOf 35 = 2 := by kernel_rfl
 simp only [c0, c1, c2, c3, c6] at g0 g1 g2 g3 g4 g5 g6 g7
 obtain ⟨what, e0, -, w0⟩ := DataW.trod_int Tryd.underlying3 g0
 obtain ⟨pr, e1, -, w1⟩ := DataW.trod_int Tryd.underlying5 g1
 obtain ⟨pv, pool, e2, k2, m2⟩ := open_nums17 g2
 obtain ⟨lo, e3, -, w3⟩ := DataW.trod_int Tryd.underlying32 g3
 obtain ⟨hi, e4, -, w4⟩ := DataW.trod_int Tryd.underlying32 g4
 obtain ⟨want, e5, -, w5⟩ := DataW.trod_int Tryd.underlying32 g5
 obtain ⟨ip, port, e6, k6, m6⟩ := open_point17 g6
 obtain ⟨k, e7, -, w7⟩ := DataW.trod_int Tryd.underlying3 g7
 have step : ∀ o n o', o + n = o' → cs.drop o = (cs.drop o).take n ++ cs.drop o' := by
  intro o n o' e
  subst e
  rw [← List.drop_drop, List.take_append_drop]
 have hend : cs.drop 9 = [] := by rw [List.drop_eq_nil_iff]; omega
 refine ⟨⟨what, pr, pool, pv, lo, hi, want, ip, port, k⟩, ?_, hl, ⟨bounds_u8 w1, bounds_u16 w3, bounds_u16 w4, bounds_u16 w5, k6, m6, bounds_i64 w7, k2, m2⟩⟩
 refine (List.drop_zero (l := cs)).symm.trans ?_
 rw [step 0 1 1 rfl, e0, step 1 1 2 rfl, e1, step 2 1 3 rfl, e2, step 3 1 4 rfl, e3, step 4 1 5 rfl, e4, step 5 1 6 rfl, e5, step 6 2 8 rfl, e6, step 8 1 9 rfl, e7, hend]
 rfl
open Classical in
theorem open_acts17 {a : Option Addr} {len cap : Nat} {d : DataW H} {p : List MemPlace} (h : DataW.Trod enc Tryd.prog W base (fun _ => true) held 22 (.slice a len cap) d p) :
  ∃ X : Nat → A17, ActsV W a len X := by
 obtain ⟨fuel, hf⟩ := h
 rcases Go.Deep.open_slice Tryd.underlying22 hf with ⟨hcs, _⟩ | ⟨a, len', cap', m, n, D, Pl, hcs, _, hl, hm, hmm, _, hx⟩
 · simp [Value.cells] at hcs
   obtain ⟨rfl, rfl, rfl⟩ := hcs
   exact ⟨fun _ => ⟨0, 0, [], .bool false, 0, 0, 0, 0, 0, 0⟩, fun i hi => by omega⟩
 · simp [Value.cells] at hcs
   obtain ⟨rfl, rfl, rfl⟩ := hcs
   have hlm : len ≤ m := by simp at hmm; omega
   rw [show Tryd.prog.cellsOf 37 = 9 by kernel_rfl] at hx
   obtain ⟨b, off, spot⟩ := a
   have h1 : ∀ i, ∃ k : A17, i < len → A17W W k ∧ ∃ b' off', (some ⟨b, off, spot⟩ : Option Addr) = some ⟨b', off', none⟩ ∧ ∀ j u, (ac k)[j]? = some u → W.cell? ⟨b', off' + i * 9 + j, none⟩ = some u := by
    intro i
    by_cases hi : i < len
    · have hspot : spot = none := by
       obtain ⟨cs', h1, h2⟩ := hx 0 (by omega)
       obtain ⟨_, hlen, hcell⟩ := World.cells?_some h1
       have hc := hcell 0 (by omega)
       rw [List.getElem?_eq_getElem (by omega)] at hc
       simpa [Addr.add] using World.cell?_spot hc
      subst hspot
      obtain ⟨cs', h1, h2⟩ := hx i (by omega)
      obtain ⟨_, hlen, hcell⟩ := World.cells?_some h1
      obtain ⟨k, e, hk, hw⟩ := open_act_cells17 h2
      refine ⟨k, fun _ => ⟨hw, b, off, rfl, fun j u hj => ?_⟩⟩
      rw [← e] at hj
      have hjl : j < 9 := by
       have := (List.getElem?_eq_some_iff.1 hj).1
       omega
      have hc := hcell j hjl
      rw [hj, Go.Deep.add_add, addr_add17] at hc
      simpa [Nat.add_assoc] using hc
    · exact ⟨⟨0, 0, [], .bool false, 0, 0, 0, 0, 0, 0⟩, fun h => absurd h hi⟩
   exact ⟨fun i => (h1 i).choose, fun i => (h1 i).choose_spec⟩
end
end Po
end Go.Proofs.YtkbjiackjefkkaaDoor
