/-
  What a segment that comes in is: its ten cells, each fitting its kind, and its two rows.
-/
import Derived.Test.YtemljieghamegaaTcpWords
namespace Go.Proofs.Ytemljieghamegaa
open Go.ChangeShapes Go.WideShapes Go.ChangeAt Go.RowKit Go.Joins
open Sm
set_option linter.unusedVariables false

theorem array10 {α : Type} {cs : Array α} (h : cs.size = 10) : ∃ c0 c1 c2 c3 c4 c5 c6 c7 c8 c9, cs = #[c0, c1, c2, c3, c4, c5, c6, c7, c8, c9] := by
  obtain ⟨l⟩ := cs
  simp only [List.size_toArray] at h
  rcases l with _ | ⟨c0, l⟩
  · simp at h
  rcases l with _ | ⟨c1, l⟩
  · simp at h
  rcases l with _ | ⟨c2, l⟩
  · simp at h
  rcases l with _ | ⟨c3, l⟩
  · simp at h
  rcases l with _ | ⟨c4, l⟩
  · simp at h
  rcases l with _ | ⟨c5, l⟩
  · simp at h
  rcases l with _ | ⟨c6, l⟩
  · simp at h
  rcases l with _ | ⟨c7, l⟩
  · simp at h
  rcases l with _ | ⟨c8, l⟩
  · simp at h
  rcases l with _ | ⟨c9, l⟩
  · simp at h
  rcases l with _ | ⟨c10, l⟩
  · exact ⟨c0, c1, c2, c3, c4, c5, c6, c7, c8, c9, rfl⟩
  · simp at h

section
variable {H : Type} {enc : TypeId × Value → H} {W : World} {base : Nat} {held : Bool}

theorem trod_struct10 {t : TypeId} {f0 f1 f2 f3 f4 f5 f6 f7 f8 f9 : Field} {fuel : Nat} {cs : List Value} {x : DataW H × List MemPlace} (ht : Try.prog.underlying t = some (.struct #[f0, f1, f2, f3, f4, f5, f6, f7, f8, f9])) (h : DataW.trod enc Try.prog W base (fun _ => true) held fuel t cs = some x) :
    ∃ y0 y1 y2 y3 y4 y5 y6 y7 y8 y9 n, DataW.trod enc Try.prog W base (fun _ => true) held n f0.type ((cs.drop f0.offset).take (Try.prog.cellsOf f0.type)) = some y0 ∧ DataW.trod enc Try.prog W base (fun _ => true) held n f1.type ((cs.drop f1.offset).take (Try.prog.cellsOf f1.type)) = some y1 ∧ DataW.trod enc Try.prog W base (fun _ => true) held n f2.type ((cs.drop f2.offset).take (Try.prog.cellsOf f2.type)) = some y2 ∧ DataW.trod enc Try.prog W base (fun _ => true) held n f3.type ((cs.drop f3.offset).take (Try.prog.cellsOf f3.type)) = some y3 ∧ DataW.trod enc Try.prog W base (fun _ => true) held n f4.type ((cs.drop f4.offset).take (Try.prog.cellsOf f4.type)) = some y4 ∧ DataW.trod enc Try.prog W base (fun _ => true) held n f5.type ((cs.drop f5.offset).take (Try.prog.cellsOf f5.type)) = some y5 ∧ DataW.trod enc Try.prog W base (fun _ => true) held n f6.type ((cs.drop f6.offset).take (Try.prog.cellsOf f6.type)) = some y6 ∧ DataW.trod enc Try.prog W base (fun _ => true) held n f7.type ((cs.drop f7.offset).take (Try.prog.cellsOf f7.type)) = some y7 ∧ DataW.trod enc Try.prog W base (fun _ => true) held n f8.type ((cs.drop f8.offset).take (Try.prog.cellsOf f8.type)) = some y8 ∧ DataW.trod enc Try.prog W base (fun _ => true) held n f9.type ((cs.drop f9.offset).take (Try.prog.cellsOf f9.type)) = some y9 := by
  obtain ⟨xs, n, _, _, hl, hlen, hf⟩ := DataW.trod_struct ht h
  match xs, hlen with
  | [y0, y1, y2, y3, y4, y5, y6, y7, y8, y9], _ => exact ⟨y0, y1, y2, y3, y4, y5, y6, y7, y8, y9, n, by simpa using hf 0 f0 rfl, by simpa using hf 1 f1 rfl, by simpa using hf 2 f2 rfl, by simpa using hf 3 f3 rfl, by simpa using hf 4 f4 rfl, by simpa using hf 5 f5 rfl, by simpa using hf 6 f6 rfl, by simpa using hf 7 f7 rfl, by simpa using hf 8 f8 rfl, by simpa using hf 9 f9 rfl⟩

set_option maxHeartbeats 1000000 in
theorem open_tcp {r : Reach} {b0 : Nat} {v : Value} {d : DataW H} {p : List MemPlace} (hv : Value.okWide Try.prog W r b0 tcT v) (h : DataW.Trod enc Try.prog W base (fun _ => true) held tcT v d p) :
    ∃ (q : Sg) (ao bo : Option Addr) (lo co lb cb : Nat), v = .agg (tcA q.src q.dst q.seq q.ack q.flags q.win q.sum q.urg (.slice ao lo co) (.slice bo lb cb)) ∧ lo ≤ 9223372036854775807 ∧ lb ≤ 9223372036854775807 ∧
      (lo ≤ 140737488351232 → lb ≤ 140737488351232 → q.Ok ∧ q.opts.length = lo ∧ q.body.length = lb ∧ TcV W 0 v q) := by
  obtain ⟨cs, rfl, hsz⟩ := okWide_struct Try.underlying27 hv
  rw [show Try.prog.cellsOf 27 = 10 by kernel_rfl] at hsz
  obtain ⟨c0, c1, c2, c3, c4, c5, c6, c7, c8, c9, rfl⟩ := array10 hsz
  obtain ⟨fuel, hf⟩ := h
  obtain ⟨y0, y1, y2, y3, y4, y5, y6, y7, y8, y9, n, h0, h1, h2, h3, h4, h5, h6, h7, h8, h9⟩ := trod_struct10 Try.underlying27 hf
  have k0 : DataW.trod enc Try.prog W base (fun _ => true) held n 24 [c0] = some y0 := by
    have := h0; simp only [show Try.prog.cellsOf 24 = 1 by kernel_rfl] at this; exact this
  have k1 : DataW.trod enc Try.prog W base (fun _ => true) held n 24 [c1] = some y1 := by
    have := h1; simp only [show Try.prog.cellsOf 24 = 1 by kernel_rfl] at this; exact this
  have k2 : DataW.trod enc Try.prog W base (fun _ => true) held n 25 [c2] = some y2 := by
    have := h2; simp only [show Try.prog.cellsOf 25 = 1 by kernel_rfl] at this; exact this
  have k3 : DataW.trod enc Try.prog W base (fun _ => true) held n 25 [c3] = some y3 := by
    have := h3; simp only [show Try.prog.cellsOf 25 = 1 by kernel_rfl] at this; exact this
  have k4 : DataW.trod enc Try.prog W base (fun _ => true) held n 5 [c4] = some y4 := by
    have := h4; simp only [show Try.prog.cellsOf 5 = 1 by kernel_rfl] at this; exact this
  have k5 : DataW.trod enc Try.prog W base (fun _ => true) held n 24 [c5] = some y5 := by
    have := h5; simp only [show Try.prog.cellsOf 24 = 1 by kernel_rfl] at this; exact this
  have k6 : DataW.trod enc Try.prog W base (fun _ => true) held n 24 [c6] = some y6 := by
    have := h6; simp only [show Try.prog.cellsOf 24 = 1 by kernel_rfl] at this; exact this
  have k7 : DataW.trod enc Try.prog W base (fun _ => true) held n 24 [c7] = some y7 := by
    have := h7; simp only [show Try.prog.cellsOf 24 = 1 by kernel_rfl] at this; exact this
  have k8 : DataW.trod enc Try.prog W base (fun _ => true) held n 22 [c8] = some y8 := by
    have := h8; simp only [show Try.prog.cellsOf 22 = 1 by kernel_rfl] at this; exact this
  have k9 : DataW.trod enc Try.prog W base (fun _ => true) held n 22 [c9] = some y9 := by
    have := h9; simp only [show Try.prog.cellsOf 22 = 1 by kernel_rfl] at this; exact this
  obtain ⟨x0, rfl, q0⟩ := open_cell Try.underlying24 k0
  obtain ⟨x1, rfl, q1⟩ := open_cell Try.underlying24 k1
  obtain ⟨x2, rfl, q2⟩ := open_cell Try.underlying25 k2
  obtain ⟨x3, rfl, q3⟩ := open_cell Try.underlying25 k3
  obtain ⟨x4, rfl, q4⟩ := open_cell Try.underlying5 k4
  obtain ⟨x5, rfl, q5⟩ := open_cell Try.underlying24 k5
  obtain ⟨x6, rfl, q6⟩ := open_cell Try.underlying24 k6
  obtain ⟨x7, rfl, q7⟩ := open_cell Try.underlying24 k7
  obtain ⟨ao, lo, co, l8, rfl, m8, hr8⟩ := open_bytes k8
  obtain ⟨bo, lb, cb, l9, rfl, m9, hr9⟩ := open_bytes k9
  refine ⟨⟨x0, x1, x2, x3, x4, x5, x6, x7, l8, l9⟩, ao, bo, lo, co, lb, cb, rfl, m8, m9, fun g8 g9 => ?_⟩
  obtain ⟨r8, e8, n8⟩ := hr8 g8
  obtain ⟨r9, e9, n9⟩ := hr9 g9
  refine ⟨⟨bounds_u16 q0, bounds_u16 q1, bounds_u32 q2, bounds_u32 q3, bounds_u8 q4, bounds_u16 q5, bounds_u16 q6, bounds_u16 q7, r8.bytes, r9.bytes⟩, e8, e9, ?_⟩
  subst e8 e9
  exact ⟨ao, co, bo, cb, rfl, r8, r9, n8, n9, fun _ _ => Nat.zero_le _, fun _ _ => Nat.zero_le _⟩
end
end Go.Proofs.Ytemljieghamegaa
