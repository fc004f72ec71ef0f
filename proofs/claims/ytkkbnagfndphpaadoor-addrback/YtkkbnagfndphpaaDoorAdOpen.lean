/-
  What arrays of bytes that come in are.
-/
import Derived.Test.YtkkbnagfndphpaaDoorAdKey
import Derived.ProofKit
import Derived.OpenShut
namespace Go.Proofs.YtkkbnagfndphpaaDoor
open Go.ChangeShapes Go.WideShapes Go.ChangeAt Go.RowKit
open Ad
open Sm (IsBytes)
set_option linter.unusedVariables false
set_option maxRecDepth 20000

section
variable {H : Type} {enc : TypeId × Value → H} {W : World} {base : Nat} {spare : Nat → Bool} {held : Bool}

/-- An array of n bytes: its cells are bytes. -/
theorem open_arr_bytes {t : TypeId} {n : Nat} (ht : Tryd.prog.underlying t = some (.array n 5)) (hc : Tryd.prog.cellsOf t = n) {r : Reach} {b0 : Nat} {v : Value} {d : DataW H} {p : List MemPlace} (hv : Value.okWide Tryd.prog W r b0 t v) (h : DataW.Trod enc Tryd.prog W base spare held t v d p) :
    ∃ l : List Int, v = .agg (ab l) ∧ l.length = n ∧ IsBytes l := by
  simp only [Value.okWide, ht] at hv
  obtain ⟨cs, rfl, hsz, _⟩ := hv
  rw [hc] at hsz
  obtain ⟨fuel, hf⟩ := h
  obtain ⟨xs, m, -, -, -, hlen, hel⟩ := DataW.trod_array ht hf
  rw [show Tryd.prog.cellsOf 5 = 1 by kernel_rfl] at hel
  have key : ∀ i (hi : i < n), ∃ x : Int, cs[i]? = some (.int .u8 x) ∧ 0 ≤ x ∧ x ≤ 255 := by
    intro i hi
    have h1 := hel i hi
    rw [List.getElem?_eq_getElem (by omega)] at h1
    obtain ⟨a, e0, -, wa⟩ := DataW.trod_int Tryd.underlying5 h1
    refine ⟨a, ?_, bounds_u8 wa⟩
    have := congrArg (·[0]?) e0
    simpa [Value.cells, List.getElem?_take, List.getElem?_drop] using this
  have key2 : ∀ i (hi : i < n), ∃ x : Int, cs[i]? = some (.int .u8 x) ∧ intOf (cs.getD i undef) = x ∧ 0 ≤ x ∧ x ≤ 255 := by
    intro i hi
    obtain ⟨x, hx, hb⟩ := key i hi
    refine ⟨x, hx, ?_, hb⟩
    rw [Array.getD_eq_getD_getElem?, hx]; rfl
  refine ⟨(List.range n).map fun i => intOf (cs.getD i undef), ?_, by simp, ?_⟩
  · refine congrArg Value.agg ?_
    apply Array.ext_getElem?
    intro i
    by_cases hi : i < n
    · obtain ⟨x, hx, e, _⟩ := key2 i hi
      rw [hx, ab_at (by simpa using hi)]
      have : ((List.range n).map fun i => intOf (cs.getD i undef)).getD i 0 = x := by
        rw [List.getD, List.getElem?_map, List.getElem?_range hi]; exact e
      rw [this]
    · rw [Array.getElem?_eq_none (by omega), Array.getElem?_eq_none (by simp [ab]; omega)]
  · intro i
    by_cases hi : i < n
    · obtain ⟨x, hx, e, hb⟩ := key2 i hi
      have : ((List.range n).map fun i => intOf (cs.getD i undef)).getD i 0 = x := by
        rw [List.getD, List.getElem?_map, List.getElem?_range hi]; exact e
      rw [this]; exact hb
    · have : ((List.range n).map fun i => intOf (cs.getD i undef)).getD i 0 = 0 := by
        rw [List.getD, List.getElem?_eq_none (by simp; omega)]; rfl
      rw [this]; omega
end
end Go.Proofs.YtkkbnagfndphpaaDoor
