/-
  What a packet's few numbers, a point and a slice of bytes that come in are.
-/
import Derived.Test.YtjalpbkfpjfigaaGreatRwPacket
import Derived.Test.YtjalpbkfpjfigaaGreatTen
namespace Go.Proofs.YtjalpbkfpjfigaaGreat
open Go.ChangeShapes Go.WideShapes Go.ChangeAt Go.RowKit Go.Joins
open Sm
set_option linter.unusedVariables false
set_option maxRecDepth 100000

theorem array2 {α : Type} {cs : Array α} (h : cs.size = 2) : ∃ c0 c1, cs = #[c0, c1] := by
  obtain ⟨l⟩ := cs
  simp only [List.size_toArray] at h
  rcases l with _ | ⟨c0, l⟩
  · simp at h
  rcases l with _ | ⟨c1, l⟩
  · simp at h
  rcases l with _ | ⟨c2, l⟩
  · exact ⟨c0, c1, rfl⟩
  · simp at h

section
variable {H : Type} {enc : TypeId × Value → H} {W : World} {base : Nat} {held : Bool}
theorem trod_struct2 {t : TypeId} {f0 f1 : Field} {fuel : Nat} {cs : List Value} {x : DataW H × List MemPlace} (ht : Tryz.prog.underlying t = some (.struct #[f0, f1])) (h : DataW.trod enc Tryz.prog W base (fun _ => true) held fuel t cs = some x) :
    ∃ y0 y1 n, DataW.trod enc Tryz.prog W base (fun _ => true) held n f0.type ((cs.drop f0.offset).take (Tryz.prog.cellsOf f0.type)) = some y0 ∧ DataW.trod enc Tryz.prog W base (fun _ => true) held n f1.type ((cs.drop f1.offset).take (Tryz.prog.cellsOf f1.type)) = some y1 := by
  obtain ⟨xs, n, _, _, hl, hlen, hf⟩ := DataW.trod_struct ht h
  match xs, hlen with
  | [y0, y1], _ => exact ⟨y0, y1, n, by simpa using hf 0 f0 rfl, by simpa using hf 1 f1 rfl⟩
theorem open_point {r : Reach} {b0 : Nat} {v : Value} {d : DataW H} {p : List MemPlace} (hv : Value.okWide Tryz.prog W r b0 ptT v) (h : DataW.Trod enc Tryz.prog W base (fun _ => true) held ptT v d p) :
    ∃ s : Pt, v = .agg (ptA s) ∧ s.Ok := by
  obtain ⟨cs, rfl, hsz⟩ := okWide_struct Tryz.underlying32 hv
  rw [show Tryz.prog.cellsOf 32 = 2 by kernel_rfl] at hsz
  obtain ⟨c0, c1, rfl⟩ := array2 hsz
  obtain ⟨fuel, hf⟩ := h
  obtain ⟨y0, y1, n, h0, h1⟩ := trod_struct2 Tryz.underlying32 hf
  have k0 : DataW.trod enc Tryz.prog W base (fun _ => true) held n 29 [c0] = some y0 := by
    have := h0; simp only [show Tryz.prog.cellsOf 29 = 1 by kernel_rfl] at this; exact this
  have k1 : DataW.trod enc Tryz.prog W base (fun _ => true) held n 30 [c1] = some y1 := by
    have := h1; simp only [show Tryz.prog.cellsOf 30 = 1 by kernel_rfl] at this; exact this
  obtain ⟨x0, rfl, q0⟩ := open_cell Tryz.underlying29 k0
  obtain ⟨x1, rfl, q1⟩ := open_cell Tryz.underlying30 k1
  exact ⟨⟨x0, x1⟩, rfl, bounds_u32 q0, bounds_u16 q1⟩
theorem open_pack {r : Reach} {b0 : Nat} {v : Value} {d : DataW H} {p : List MemPlace} (hv : Value.okWide Tryz.prog W r b0 paT v) (h : DataW.Trod enc Tryz.prog W base (fun _ => true) held paT v d p) :
    ∃ P : Pa, v = .agg (paB P) ∧ P.Ok := by
  obtain ⟨cs, rfl, hsz⟩ := okWide_struct Tryz.underlying24 hv
  rw [show Tryz.prog.cellsOf 24 = 10 by kernel_rfl] at hsz
  obtain ⟨c0, c1, c2, c3, c4, c5, c6, c7, c8, c9, rfl⟩ := array10 hsz
  obtain ⟨fuel, hf⟩ := h
  obtain ⟨y0, y1, y2, y3, y4, y5, y6, y7, y8, y9, n, h0, h1, h2, h3, h4, h5, h6, h7, h8, h9⟩ := trod_struct10 Tryz.underlying24 hf
  have k0 : DataW.trod enc Tryz.prog W base (fun _ => true) held n 5 [c0] = some y0 := by
    have := h0; simp only [show Tryz.prog.cellsOf 5 = 1 by kernel_rfl] at this; exact this
  have k1 : DataW.trod enc Tryz.prog W base (fun _ => true) held n 5 [c1] = some y1 := by
    have := h1; simp only [show Tryz.prog.cellsOf 5 = 1 by kernel_rfl] at this; exact this
  have k2 : DataW.trod enc Tryz.prog W base (fun _ => true) held n 5 [c2] = some y2 := by
    have := h2; simp only [show Tryz.prog.cellsOf 5 = 1 by kernel_rfl] at this; exact this
  have k3 : DataW.trod enc Tryz.prog W base (fun _ => true) held n 5 [c3] = some y3 := by
    have := h3; simp only [show Tryz.prog.cellsOf 5 = 1 by kernel_rfl] at this; exact this
  have k4 : DataW.trod enc Tryz.prog W base (fun _ => true) held n 5 [c4] = some y4 := by
    have := h4; simp only [show Tryz.prog.cellsOf 5 = 1 by kernel_rfl] at this; exact this
  have k5 : DataW.trod enc Tryz.prog W base (fun _ => true) held n 5 [c5] = some y5 := by
    have := h5; simp only [show Tryz.prog.cellsOf 5 = 1 by kernel_rfl] at this; exact this
  have k6 : DataW.trod enc Tryz.prog W base (fun _ => true) held n 5 [c6] = some y6 := by
    have := h6; simp only [show Tryz.prog.cellsOf 5 = 1 by kernel_rfl] at this; exact this
  have k7 : DataW.trod enc Tryz.prog W base (fun _ => true) held n 5 [c7] = some y7 := by
    have := h7; simp only [show Tryz.prog.cellsOf 5 = 1 by kernel_rfl] at this; exact this
  have k8 : DataW.trod enc Tryz.prog W base (fun _ => true) held n 5 [c8] = some y8 := by
    have := h8; simp only [show Tryz.prog.cellsOf 5 = 1 by kernel_rfl] at this; exact this
  have k9 : DataW.trod enc Tryz.prog W base (fun _ => true) held n 5 [c9] = some y9 := by
    have := h9; simp only [show Tryz.prog.cellsOf 5 = 1 by kernel_rfl] at this; exact this
  obtain ⟨x0, rfl, q0⟩ := open_cell Tryz.underlying5 k0
  obtain ⟨x1, rfl, q1⟩ := open_cell Tryz.underlying5 k1
  obtain ⟨x2, rfl, q2⟩ := open_cell Tryz.underlying5 k2
  obtain ⟨x3, rfl, q3⟩ := open_cell Tryz.underlying5 k3
  obtain ⟨x4, rfl, q4⟩ := open_cell Tryz.underlying5 k4
  obtain ⟨x5, rfl, q5⟩ := open_cell Tryz.underlying5 k5
  obtain ⟨x6, rfl, q6⟩ := open_cell Tryz.underlying5 k6
  obtain ⟨x7, rfl, q7⟩ := open_cell Tryz.underlying5 k7
  obtain ⟨x8, rfl, q8⟩ := open_cell Tryz.underlying5 k8
  obtain ⟨x9, rfl, q9⟩ := open_cell Tryz.underlying5 k9
  exact ⟨⟨x0, x1, x2, x3, x4, x5, x6, x7, x8, x9⟩, rfl, bounds_u8 q0, bounds_u8 q1, bounds_u8 q2, bounds_u8 q3, bounds_u8 q4, bounds_u8 q5, bounds_u8 q6, bounds_u8 q7, bounds_u8 q8, bounds_u8 q9⟩
theorem open_slice {r : Reach} {b0 : Nat} {v : Value} {d : DataW H} {p : List MemPlace} (hv : Value.okWide Tryz.prog W r b0 22 v) (h : DataW.Trod enc Tryz.prog W base (fun _ => true) held 22 v d p) :
    ∃ a len cap l, v = .slice a len cap ∧ (len ≤ 140737488351232 → Row W a l ∧ l.length = len ∧ len ≤ cap) := by
  obtain ⟨a, len, cap, rfl⟩ := okWide_slice Tryz.underlying22 hv
  obtain ⟨fuel, hf⟩ := h
  rcases open_ints Tryz.underlying22 Tryz.underlying5 (by kernel_rfl) hf with ⟨hcs, _⟩ | ⟨x, l, c, zs, hcs, _, hl, hm, hz, _, hcell, hwz⟩
  · simp [Value.cells] at hcs
    obtain ⟨rfl, rfl, rfl⟩ := hcs
    exact ⟨none, 0, 0, [], rfl, fun _ => ⟨row_nil W, rfl, Nat.le_refl _⟩⟩
  · simp [Value.cells] at hcs
    obtain ⟨rfl, rfl, rfl⟩ := hcs
    refine ⟨some x, len, cap, zs.take len, rfl, fun h2 => ?_⟩
    obtain ⟨hrow, hlen⟩ := row_of hl (by simpa using hz) hcell (fun n hn => bounds_u8 (hwz n hn)) h2
    exact ⟨hrow, hlen, hl⟩
end
end Go.Proofs.YtjalpbkfpjfigaaGreat
