/-
  What a frame that comes in is: its fourteen cells, each fitting its kind, and its body's row.
-/
import Derived.Test.YtkkpjpelcnebeaaReads
import Derived.Test.YtkkpjpelcnebeaaBytes
import Derived.Test.YtkkpjpelcnebeaaRefBytes
import Derived.ProofKit
import Derived.OpenShut
import Derived.Lib.SmallJoins
namespace Go.Proofs.Ytkkpjpelcnebeaa
open Go.ChangeShapes Go.WideShapes Go.ChangeAt Go.RowKit Go.Joins
open Sm
set_option linter.unusedVariables false

theorem array14 {α : Type} {cs : Array α} (h : cs.size = 14) : ∃ c0 c1 c2 c3 c4 c5 c6 c7 c8 c9 c10 c11 c12 c13, cs = #[c0, c1, c2, c3, c4, c5, c6, c7, c8, c9, c10, c11, c12, c13] := by
  obtain ⟨l⟩ := cs
  simp only [List.size_toArray] at h
  rcases l with _ | ⟨c0, l⟩
  · simp at h
  rcases l with _ | ⟨c1, l⟩
  · simp at h
  rcases l with _ | ⟨c2, l⟩
  · simp at h
  rcases l with _ | ⟨c3, l⟩
  · simp at h
  rcases l with _ | ⟨c4, l⟩
  · simp at h
  rcases l with _ | ⟨c5, l⟩
  · simp at h
  rcases l with _ | ⟨c6, l⟩
  · simp at h
  rcases l with _ | ⟨c7, l⟩
  · simp at h
  rcases l with _ | ⟨c8, l⟩
  · simp at h
  rcases l with _ | ⟨c9, l⟩
  · simp at h
  rcases l with _ | ⟨c10, l⟩
  · simp at h
  rcases l with _ | ⟨c11, l⟩
  · simp at h
  rcases l with _ | ⟨c12, l⟩
  · simp at h
  rcases l with _ | ⟨c13, l⟩
  · simp at h
  rcases l with _ | ⟨c14, l⟩
  · exact ⟨c0, c1, c2, c3, c4, c5, c6, c7, c8, c9, c10, c11, c12, c13, rfl⟩
  · simp at h

section
variable {H : Type} {enc : TypeId × Value → H} {W : World} {base : Nat} {spare : Nat → Bool} {held : Bool}

theorem six_bytes {fuel : Nat} {c0 c1 c2 c3 c4 c5 : Value} {y : DataW H × List MemPlace} (h : DataW.trod enc Try.prog W base spare held fuel 26 [c0, c1, c2, c3, c4, c5] = some y) :
    ∃ x0 x1 x2 x3 x4 x5 : Int, c0 = .int .u8 x0 ∧ c1 = .int .u8 x1 ∧ c2 = .int .u8 x2 ∧ c3 = .int .u8 x3 ∧ c4 = .int .u8 x4 ∧ c5 = .int .u8 x5 ∧ IsBytes [x0, x1, x2, x3, x4, x5] := by
  obtain ⟨xs, m, -, -, -, hlen, hf⟩ := DataW.trod_array Try.underlying26 h
  rw [show Try.prog.cellsOf 5 = 1 by kernel_rfl] at hf
  have key : ∀ i (hi : i < 6) c, ([c0, c1, c2, c3, c4, c5].drop (i * 1)).take 1 = [c] → ∃ x : Int, c = .int .u8 x ∧ 0 ≤ x ∧ x ≤ 255 := by
    intro i hi c hc
    have h1 := hf i hi
    rw [hc, List.getElem?_eq_getElem (by omega)] at h1
    obtain ⟨a, e0, -, wa⟩ := DataW.trod_int Try.underlying5 h1
    simp only [List.cons.injEq, and_true] at e0
    exact ⟨a, e0, bounds_u8 wa⟩
  obtain ⟨x0, rfl, b0⟩ := key 0 (by decide) c0 rfl
  obtain ⟨x1, rfl, b1⟩ := key 1 (by decide) c1 rfl
  obtain ⟨x2, rfl, b2⟩ := key 2 (by decide) c2 rfl
  obtain ⟨x3, rfl, b3⟩ := key 3 (by decide) c3 rfl
  obtain ⟨x4, rfl, b4⟩ := key 4 (by decide) c4 rfl
  obtain ⟨x5, rfl, b5⟩ := key 5 (by decide) c5 rfl
  refine ⟨x0, x1, x2, x3, x4, x5, rfl, rfl, rfl, rfl, rfl, rfl, fun i => ?_⟩
  match i with
  | 0 => exact b0
  | 1 => exact b1
  | 2 => exact b2
  | 3 => exact b3
  | 4 => exact b4
  | 5 => exact b5
  | i + 6 => simp [List.getD]

theorem open_eth {r : Reach} {b0 : Nat} {v : Value} {d : DataW H} {p : List MemPlace} (hv : Value.okWide Try.prog W r b0 28 v) (h : DataW.Trod enc Try.prog W base (fun _ => true) held 28 v d p) :
    ∃ (x0 x1 x2 x3 x4 x5 x6 x7 x8 x9 x10 x11 t : Int) (a : Option Addr) (len cap : Nat) (l : List Int), v = .agg (ethA x0 x1 x2 x3 x4 x5 x6 x7 x8 x9 x10 x11 t (.slice a len cap)) ∧ IsBytes [x0, x1, x2, x3, x4, x5] ∧ IsBytes [x6, x7, x8, x9, x10, x11] ∧ (0 ≤ t ∧ t ≤ 65535) ∧
      len ≤ 9223372036854775807 ∧ (len ≤ 2000 → Row W a l ∧ l.length = len ∧ (a = none → cap = 0)) := by
  obtain ⟨cs, rfl, hsz⟩ := okWide_struct Try.underlying28 hv
  rw [show Try.prog.cellsOf 28 = 14 by kernel_rfl] at hsz
  obtain ⟨c0, c1, c2, c3, c4, c5, c6, c7, c8, c9, c10, c11, c12, c13, rfl⟩ := array14 hsz
  obtain ⟨fuel, hf⟩ := h
  obtain ⟨y0, y1, y2, y3, n, -, -, h0, h1, h2, h3⟩ := trod_struct4 Try.underlying28 hf
  have k0 : DataW.trod enc Try.prog W base (fun _ => true) held n 26 [c0, c1, c2, c3, c4, c5] = some y0 := by
    have := h0; simp only [show Try.prog.cellsOf 26 = 6 by kernel_rfl] at this; exact this
  have k1 : DataW.trod enc Try.prog W base (fun _ => true) held n 26 [c6, c7, c8, c9, c10, c11] = some y1 := by
    have := h1; simp only [show Try.prog.cellsOf 26 = 6 by kernel_rfl] at this; exact this
  have k2 : DataW.trod enc Try.prog W base (fun _ => true) held n 23 [c12] = some y2 := by
    have := h2; simp only [show Try.prog.cellsOf 23 = 1 by kernel_rfl] at this; exact this
  have k3 : DataW.trod enc Try.prog W base (fun _ => true) held n 22 [c13] = some y3 := by
    have := h3; simp only [show Try.prog.cellsOf 22 = 1 by kernel_rfl] at this; exact this
  obtain ⟨x0, x1, x2, x3, x4, x5, rfl, rfl, rfl, rfl, rfl, rfl, hx⟩ := six_bytes k0
  obtain ⟨x6, x7, x8, x9, x10, x11, rfl, rfl, rfl, rfl, rfl, rfl, hy⟩ := six_bytes k1
  obtain ⟨t, e2, -, wt⟩ := DataW.trod_int Try.underlying23 k2
  simp only [List.cons.injEq, and_true] at e2
  subst e2
  have bt := bounds_u16 wt
  rcases open_ints Try.underlying22 Try.underlying5 (by kernel_rfl) k3 with ⟨hcs, _⟩ | ⟨x, l, c, zs, hcs, _, hl, hm, hz, _, hcell, hwz⟩
  · simp only [List.cons.injEq, and_true] at hcs
    subst hcs
    exact ⟨x0, x1, x2, x3, x4, x5, x6, x7, x8, x9, x10, x11, t, none, 0, 0, [], rfl, hx, hy, bt, by omega, fun _ => ⟨row_nil W, rfl, fun _ => rfl⟩⟩
  · simp only [List.cons.injEq, and_true] at hcs
    subst hcs
    unfold maxLen at hm
    refine ⟨x0, x1, x2, x3, x4, x5, x6, x7, x8, x9, x10, x11, t, some x, l, c, zs.take l, rfl, hx, hy, bt, by omega, fun h2 => ?_⟩
    obtain ⟨hrow, hlen⟩ := row_of hl (by simpa using hz) hcell (fun n hn => bounds_u8 (hwz n hn)) (by omega)
    exact ⟨hrow, hlen, fun h => by cases h⟩
end
end Go.Proofs.Ytkkpjpelcnebeaa
