/-
  What a datagram that comes in is: its four cells, each fitting its kind, and its row.
-/
import Derived.Test.YtekfeifdgbipnaaUdpParse
namespace Go.Proofs.Ytekfeifdgbipnaa
open Go.ChangeShapes Go.WideShapes Go.ChangeAt Go.RowKit Go.Joins
open Sm
set_option linter.unusedVariables false

theorem array4 {α : Type} {cs : Array α} (h : cs.size = 4) : ∃ c0 c1 c2 c3, cs = #[c0, c1, c2, c3] := by
  obtain ⟨l⟩ := cs
  simp only [List.size_toArray] at h
  rcases l with _ | ⟨c0, l⟩
  · simp at h
  rcases l with _ | ⟨c1, l⟩
  · simp at h
  rcases l with _ | ⟨c2, l⟩
  · simp at h
  rcases l with _ | ⟨c3, l⟩
  · simp at h
  rcases l with _ | ⟨c4, l⟩
  · exact ⟨c0, c1, c2, c3, rfl⟩
  · simp at h

section
variable {H : Type} {enc : TypeId × Value → H} {W : World} {base : Nat} {held : Bool}
theorem open_udp {r : Reach} {b0 : Nat} {v : Value} {d : DataW H} {p : List MemPlace} (hv : Value.okWide Try.prog W r b0 udT v) (h : DataW.Trod enc Try.prog W base (fun _ => true) held udT v d p) :
    ∃ (q : Dg) (bo : Option Addr) (lb cb : Nat), v = .agg (udA q.src q.dst q.sum (.slice bo lb cb)) ∧ lb ≤ 9223372036854775807 ∧ (lb ≤ 140737488351232 → q.Ok ∧ q.body.length = lb ∧ UdV W 0 v q) := by
  obtain ⟨cs, rfl, hsz⟩ := okWide_struct Try.underlying26 hv
  rw [show Try.prog.cellsOf 26 = 4 by kernel_rfl] at hsz
  obtain ⟨c0, c1, c2, c3, rfl⟩ := array4 hsz
  obtain ⟨fuel, hf⟩ := h
  obtain ⟨y0, y1, y2, y3, n, -, -, h0, h1, h2, h3⟩ := trod_struct4 Try.underlying26 hf
  have k0 : DataW.trod enc Try.prog W base (fun _ => true) held n 24 [c0] = some y0 := by
    have := h0; simp only [show Try.prog.cellsOf 24 = 1 by kernel_rfl] at this; exact this
  have k1 : DataW.trod enc Try.prog W base (fun _ => true) held n 24 [c1] = some y1 := by
    have := h1; simp only [show Try.prog.cellsOf 24 = 1 by kernel_rfl] at this; exact this
  have k2 : DataW.trod enc Try.prog W base (fun _ => true) held n 24 [c2] = some y2 := by
    have := h2; simp only [show Try.prog.cellsOf 24 = 1 by kernel_rfl] at this; exact this
  have k3 : DataW.trod enc Try.prog W base (fun _ => true) held n 22 [c3] = some y3 := by
    have := h3; simp only [show Try.prog.cellsOf 22 = 1 by kernel_rfl] at this; exact this
  obtain ⟨x0, rfl, q0⟩ := open_cell Try.underlying24 k0
  obtain ⟨x1, rfl, q1⟩ := open_cell Try.underlying24 k1
  obtain ⟨x2, rfl, q2⟩ := open_cell Try.underlying24 k2
  obtain ⟨bo, lb, cb, l, rfl, m9, hr⟩ := open_bytes k3
  refine ⟨⟨x0, x1, x2, l⟩, bo, lb, cb, rfl, m9, fun g => ?_⟩
  obtain ⟨r9, e9, n9⟩ := hr g
  subst e9
  exact ⟨⟨bounds_u16 q0, bounds_u16 q1, bounds_u16 q2, r9.bytes⟩, rfl, bo, cb, rfl, r9, n9, fun _ _ => Nat.zero_le _⟩
end
end Go.Proofs.Ytekfeifdgbipnaa
