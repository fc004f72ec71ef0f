/-
  What a message that comes in is: its five cells, each fitting its kind, and its row.
-/
import Derived.Test.YtlcgfeddkpoekaaTen
import Derived.Test.YtlcgfeddkpoekaaIcmpWords
namespace Go.Proofs.Ytlcgfeddkpoekaa
open Go.ChangeShapes Go.WideShapes Go.ChangeAt Go.RowKit Go.Joins
open Sm
set_option linter.unusedVariables false

section
variable {H : Type} {enc : TypeId × Value → H} {W : World} {base : Nat} {held : Bool}

set_option maxHeartbeats 1000000 in
theorem open_icmp {r : Reach} {b0 : Nat} {v : Value} {d : DataW H} {p : List MemPlace} (hv : Value.okWide Try.prog W r b0 mgT v) (h : DataW.Trod enc Try.prog W base (fun _ => true) held mgT v d p) :
    ∃ (q : Mg) (bo : Option Addr) (lb cb : Nat), v = .agg (mgA q.typ q.code q.sum q.rest (.slice bo lb cb)) ∧ lb ≤ 9223372036854775807 ∧ (lb ≤ 140737488351232 → q.Ok ∧ q.body.length = lb ∧ MgV W 0 v q) := by
  obtain ⟨cs, rfl, hsz⟩ := okWide_struct Try.underlying27 hv
  rw [show Try.prog.cellsOf 27 = 5 by kernel_rfl] at hsz
  obtain ⟨c0, c1, c2, c3, c4, rfl⟩ := array5 hsz
  obtain ⟨fuel, hf⟩ := h
  obtain ⟨y0, y1, y2, y3, y4, n, h0, h1, h2, h3, h4⟩ := trod_struct5 Try.underlying27 hf
  have k0 : DataW.trod enc Try.prog W base (fun _ => true) held n 5 [c0] = some y0 := by
    have := h0; simp only [show Try.prog.cellsOf 5 = 1 by kernel_rfl] at this; exact this
  have k1 : DataW.trod enc Try.prog W base (fun _ => true) held n 5 [c1] = some y1 := by
    have := h1; simp only [show Try.prog.cellsOf 5 = 1 by kernel_rfl] at this; exact this
  have k2 : DataW.trod enc Try.prog W base (fun _ => true) held n 24 [c2] = some y2 := by
    have := h2; simp only [show Try.prog.cellsOf 24 = 1 by kernel_rfl] at this; exact this
  have k3 : DataW.trod enc Try.prog W base (fun _ => true) held n 25 [c3] = some y3 := by
    have := h3; simp only [show Try.prog.cellsOf 25 = 1 by kernel_rfl] at this; exact this
  have k4 : DataW.trod enc Try.prog W base (fun _ => true) held n 22 [c4] = some y4 := by
    have := h4; simp only [show Try.prog.cellsOf 22 = 1 by kernel_rfl] at this; exact this
  obtain ⟨x0, rfl, q0⟩ := open_cell Try.underlying5 k0
  obtain ⟨x1, rfl, q1⟩ := open_cell Try.underlying5 k1
  obtain ⟨x2, rfl, q2⟩ := open_cell Try.underlying24 k2
  obtain ⟨x3, rfl, q3⟩ := open_cell Try.underlying25 k3
  obtain ⟨bo, lb, cb, l, rfl, m9, hr⟩ := open_bytes k4
  refine ⟨⟨x0, x1, x2, x3, l⟩, bo, lb, cb, rfl, m9, fun g => ?_⟩
  obtain ⟨r9, e9, n9⟩ := hr g
  subst e9
  exact ⟨⟨bounds_u8 q0, bounds_u8 q1, bounds_u16 q2, bounds_u32 q3, r9.bytes⟩, rfl, bo, cb, rfl, r9, n9, fun _ _ => Nat.zero_le _⟩
end
end Go.Proofs.Ytlcgfeddkpoekaa
