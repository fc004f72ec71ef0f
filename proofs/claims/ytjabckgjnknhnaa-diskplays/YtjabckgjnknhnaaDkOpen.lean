/-
  What a slice of bytes and a slice of lychlaw9.Act that come in are.
-/
import Derived.Test.YtjabckgjnknhnaaTen
import Derived.Deep.Slices
namespace Go.Proofs.Ytjabckgjnknhnaa
open Go.ChangeShapes Go.WideShapes Go.ChangeAt Go.RowKit Go.Joins
open Sm
set_option linter.unusedVariables false
set_option maxRecDepth 100000

/-- An act of a script. -/
structure Ac where
  what : Int
  i : Int
  n : Int
  p : Int
  x : Int
structure Ac.Ok (c : Ac) : Prop where
  what : -9223372036854775808 ≤ c.what ∧ c.what ≤ 9223372036854775807
  i : -9223372036854775808 ≤ c.i ∧ c.i ≤ 9223372036854775807
  n : -9223372036854775808 ≤ c.n ∧ c.n ≤ 9223372036854775807
  p : -9223372036854775808 ≤ c.p ∧ c.p ≤ 9223372036854775807
  x : 0 ≤ c.x ∧ c.x ≤ 255
/-- It lies at block b's place o. -/
structure AcAt (W : World) (b o : Nat) (c : Ac) : Prop where
  c0 : W.cell? ⟨b, o, none⟩ = some (.int .i64 c.what)
  c1 : W.cell? ⟨b, o + 1, none⟩ = some (.int .i64 c.i)
  c2 : W.cell? ⟨b, o + 2, none⟩ = some (.int .i64 c.n)
  c3 : W.cell? ⟨b, o + 3, none⟩ = some (.int .i64 c.p)
  c4 : W.cell? ⟨b, o + 4, none⟩ = some (.int .u8 c.x)
/-- A slice of n acts. -/
def Acts (W : World) (a : Option Addr) (n : Nat) : Prop := n = 0 ∨ ∃ b off, a = some ⟨b, off, none⟩ ∧ ∀ i, i < n → ∃ c : Ac, c.Ok ∧ AcAt W b (off + i * 5) c

theorem Acts.below {w w' : World} {a : Option Addr} {n : Nat} (h : Acts w a n) {B : Nat} (hb : Below B w w') (hB : w.heap.size ≤ B) : Acts w' a n := by
  rcases h with e | ⟨b, off, rfl, hc⟩
  · exact Or.inl e
  · refine Or.inr ⟨b, off, rfl, fun i hi => ?_⟩
    obtain ⟨c, ho, ha⟩ := hc i hi
    have hlt := cell_lt ha.c0
    have key : ∀ j, w'.cell? ⟨b, j, none⟩ = w.cell? ⟨b, j, none⟩ := fun j => hb.cell (p := ⟨b, j, none⟩) (by simp at hlt ⊢; omega)
    exact ⟨c, ho, by rw [key]; exact ha.c0, by rw [key]; exact ha.c1, by rw [key]; exact ha.c2, by rw [key]; exact ha.c3, by rw [key]; exact ha.c4⟩

section
variable {H : Type} {enc : TypeId × Value → H} {W : World} {base : Nat} {held : Bool}
theorem open_slice {r : Reach} {b0 : Nat} {v : Value} {d : DataW H} {p : List MemPlace} (hv : Value.okWide Try.prog W r b0 31 v) (h : DataW.Trod enc Try.prog W base (fun _ => true) held 31 v d p) :
    ∃ a len cap l, v = .slice a len cap ∧ (len ≤ 140737488351232 → Row W a l ∧ l.length = len ∧ len ≤ cap) := by
  obtain ⟨a, len, cap, rfl⟩ := okWide_slice Try.underlying31 hv
  obtain ⟨fuel, hf⟩ := h
  rcases open_ints Try.underlying31 Try.underlying5 (by kernel_rfl) hf with ⟨hcs, _⟩ | ⟨x, l, c, zs, hcs, _, hl, hm, hz, _, hcell, hwz⟩
  · simp [Value.cells] at hcs
    obtain ⟨rfl, rfl, rfl⟩ := hcs
    exact ⟨none, 0, 0, [], rfl, fun _ => ⟨row_nil W, rfl, Nat.le_refl _⟩⟩
  · simp [Value.cells] at hcs
    obtain ⟨rfl, rfl, rfl⟩ := hcs
    refine ⟨some x, len, cap, zs.take len, rfl, fun h2 => ?_⟩
    obtain ⟨hrow, hlen⟩ := row_of hl (by simpa using hz) hcell (fun n hn => bounds_u8 (hwz n hn)) h2
    exact ⟨hrow, hlen, hl⟩

/-- Bytes, however many. -/
theorem open_row {r : Reach} {b0 : Nat} {v : Value} {d : DataW H} {p : List MemPlace} (hv : Value.okWide Try.prog W r b0 31 v) (h : DataW.Trod enc Try.prog W base (fun _ => true) held 31 v d p) :
    ∃ a len cap, ∃ l : List Int, v = .slice a len cap ∧ l.length = len ∧ len ≤ cap ∧ ∀ k, k ≤ len → k ≤ 140737488351232 → Row W a (l.take k) := by
  obtain ⟨a, len, cap, rfl⟩ := okWide_slice Try.underlying31 hv
  obtain ⟨fuel, hf⟩ := h
  rcases open_ints Try.underlying31 Try.underlying5 (by kernel_rfl) hf with ⟨hcs, _⟩ | ⟨x, l, c, zs, hcs, _, hl, hm, hz, _, hcell, hwz⟩
  · simp [Value.cells] at hcs
    obtain ⟨rfl, rfl, rfl⟩ := hcs
    exact ⟨none, 0, 0, [], rfl, rfl, Nat.le_refl _, fun k _ _ => by rw [List.take_nil]; exact row_nil W⟩
  · simp [Value.cells] at hcs
    obtain ⟨rfl, rfl, rfl⟩ := hcs
    have hz' : zs.length = cap := by simpa using hz
    refine ⟨some x, len, cap, zs.take len, rfl, by simp; omega, hl, fun k hk h2 => ?_⟩
    have := (row_of (len := k) (Nat.le_trans hk hl) hz' hcell (fun n hn => bounds_u8 (hwz n hn)) h2).1
    rw [List.take_take, Nat.min_eq_left hk]
    exact this

theorem open_acts {r : Reach} {b0 : Nat} {v : Value} {d : DataW H} {p : List MemPlace} (hv : Value.okWide Try.prog W r b0 22 v) (h : DataW.Trod enc Try.prog W base (fun _ => true) held 22 v d p) :
    ∃ a len cap, v = .slice a len cap ∧ Acts W a len := by
  obtain ⟨a, len, cap, rfl⟩ := okWide_slice Try.underlying22 hv
  obtain ⟨fuel, hf⟩ := h
  rcases Go.Deep.open_slice Try.underlying22 hf with ⟨hcs, _⟩ | ⟨x, l, c, m, n, D, Pl, hcs, _, hl, hm, hmm, _, hx⟩
  · simp [Value.cells] at hcs
    obtain ⟨rfl, rfl, rfl⟩ := hcs
    exact ⟨none, 0, 0, rfl, Or.inl rfl⟩
  · simp [Value.cells] at hcs
    obtain ⟨rfl, rfl, rfl⟩ := hcs
    refine ⟨some x, len, cap, rfl, ?_⟩
    have hlm : len ≤ m := by simp at hmm; omega
    by_cases h0 : len = 0
    · exact Or.inl h0
    · right
      rw [show Try.prog.cellsOf 34 = 5 by kernel_rfl] at hx
      obtain ⟨b, off, spot⟩ := x
      have hspot : spot = none := by
        obtain ⟨cs', h1, h2⟩ := hx 0 (by omega)
        obtain ⟨_, hlen, hcell⟩ := World.cells?_some h1
        have hc := hcell 0 (by omega)
        rw [List.getElem?_eq_getElem (by omega)] at hc
        simpa [Addr.add] using World.cell?_spot hc
      subst hspot
      refine ⟨b, off, rfl, fun i hi => ?_⟩
      obtain ⟨cs', h1, h2⟩ := hx i (by omega)
      obtain ⟨_, hlen, hcell⟩ := World.cells?_some h1
      match cs', hlen with
      | [v0, v1, v2, v3, v4], _ =>
        have e0 := hcell 0 (by omega)
        have e1 := hcell 1 (by omega)
        have e2 := hcell 2 (by omega)
        have e3 := hcell 3 (by omega)
        have e4 := hcell 4 (by omega)
        rw [Go.Deep.add_add] at e0 e1 e2 e3 e4
        have ad : ∀ j, (Addr.mk b off none).add j = ⟨b, off + j, none⟩ := by
          intro j
          by_cases e : j = 0
          · subst e; simp [Addr.add]
          · simp [Addr.add, e]
        rw [ad] at e0 e1 e2 e3 e4
        obtain ⟨y0, y1, y2, y3, y4, n', g0, g1, g2, g3, g4⟩ := trod_struct5 Try.underlying34 h2
        have k0 : DataW.trod enc Try.prog W base (fun _ => true) held n' 3 [v0] = some y0 := by
          have := g0; simp only [show Try.prog.cellsOf 3 = 1 by kernel_rfl] at this; exact this
        have k1 : DataW.trod enc Try.prog W base (fun _ => true) held n' 3 [v1] = some y1 := by
          have := g1; simp only [show Try.prog.cellsOf 3 = 1 by kernel_rfl] at this; exact this
        have k2 : DataW.trod enc Try.prog W base (fun _ => true) held n' 3 [v2] = some y2 := by
          have := g2; simp only [show Try.prog.cellsOf 3 = 1 by kernel_rfl] at this; exact this
        have k3 : DataW.trod enc Try.prog W base (fun _ => true) held n' 3 [v3] = some y3 := by
          have := g3; simp only [show Try.prog.cellsOf 3 = 1 by kernel_rfl] at this; exact this
        have k4 : DataW.trod enc Try.prog W base (fun _ => true) held n' 5 [v4] = some y4 := by
          have := g4; simp only [show Try.prog.cellsOf 5 = 1 by kernel_rfl] at this; exact this
        obtain ⟨x0, rfl, q0⟩ := open_cell Try.underlying3 k0
        obtain ⟨x1, rfl, q1⟩ := open_cell Try.underlying3 k1
        obtain ⟨x2, rfl, q2⟩ := open_cell Try.underlying3 k2
        obtain ⟨x3, rfl, q3⟩ := open_cell Try.underlying3 k3
        obtain ⟨x4, rfl, q4⟩ := open_cell Try.underlying5 k4
        exact ⟨⟨x0, x1, x2, x3, x4⟩, ⟨bounds_i64 q0, bounds_i64 q1, bounds_i64 q2, bounds_i64 q3, bounds_u8 q4⟩, e0, e1, e2, e3, e4⟩
end
end Go.Proofs.Ytjabckgjnknhnaa
