/-
  Rows of bytes in memory: what a slice of bytes reads as, rows that the call itself made, and bytes or noughts appended to them. Of no one program.
  Plain mathematics: a text cut at a sign, at all of them, or at so many.
  Numbers as text: the program's Num and the document's own, at every text.
-/
import Derived.Test.YtnddbklbgddblaaDoorRows
import Derived.Test.YtnddbklbgddblaaDoorPf01
import Derived.WalkKit
import Derived.WalkSpells
import Derived.WalkLawsBesides
import Derived.Laws.AppendOwnNone
import Derived.Lib.AppendZerosOnto
import Derived.Lib.SplitLaws
import Derived.LoopTactic
import Derived.Below
namespace Go.Proofs.YtnddbklbgddblaaDoor
open Go.RowKit
open Sm
set_option linter.unusedVariables false

theorem ret_int {k : IntKind} {a b : Int} (h : a = b) : Ending.returned (.int k a) = .returned (.int k b) := by rw [h]

/-- A slice whose elements are the bytes l. -/
structure Row (w : World) (a : Option Addr) (l : List Int) : Prop where
  bytes : IsBytes l
  len : l.length ≤ 140737488351232
  cells : l = [] ∨ ∃ b off, a = some ⟨b, off, none⟩ ∧ ∀ i, i < l.length → w.cell? ⟨b, off + i, none⟩ = some (.int .u8 (l.getD i 0))

theorem cell_lt {w : World} {p : Addr} {v : Value} (h : w.cell? p = some v) : p.block < w.heap.size := by
  by_cases hc : p.block < w.heap.size
  · exact hc
  · have : w.heap[p.block]? = none := by simp; omega
    simp [World.cell?, this] at h

theorem Row.below {w w' : World} {a : Option Addr} {l : List Int} (h : Row w a l) {B : Nat} (hb : Below B w w') (hB : w.heap.size ≤ B) : Row w' a l := by
  refine ⟨h.bytes, h.len, ?_⟩
  rcases h.cells with e | ⟨b, off, rfl, hc⟩
  · exact Or.inl e
  · refine Or.inr ⟨b, off, rfl, fun i hi => ?_⟩
    have := cell_lt (hc i hi)
    rw [hb.cell (p := ⟨b, off + i, none⟩) (by simp at this ⊢; omega)]
    exact hc i hi

/-- A slice of the call's own that holds the bytes l. -/
def OwnB (w : World) (B g cap : Nat) (l : List Int) : Prop := w.ownsRow B 5 1 (.slice (some ⟨g, 0, none⟩) l.length cap) l.length (l.map (Value.int .u8))

theorem getD_eq {l : List Int} {i : Nat} (h : i < l.length) : l.getD i 0 = l[i] := by simp [List.getD, List.getElem?_eq_getElem h]

theorem OwnB.cell {w : World} {B g cap : Nat} {l : List Int} (h : OwnB w B g cap l) (i : Nat) (hi : i < l.length) : w.cell? ⟨g, i, none⟩ = some (.int .u8 (l.getD i 0)) := by
  rw [World.ownsRow.cellAt h i (by omega), getD_eq hi]
  simp [hi]

theorem OwnB.row {w : World} {B g cap : Nat} {l : List Int} (h : OwnB w B g cap l) (hb : IsBytes l) (hl : l.length ≤ 140737488351232) : Row w (some ⟨g, 0, none⟩) l :=
  ⟨hb, hl, Or.inr ⟨g, 0, rfl, fun i hi => by rw [Nat.zero_add]; exact h.cell i hi⟩⟩

theorem OwnB.free {w : World} {B g cap : Nat} {l : List Int} (h : OwnB w B g cap l) (j : Nat) : w.frozen? ⟨g, j, none⟩ = false := World.ownsRow.frozenAt h j

theorem Row.news {w : World} {b off : Nat} {l : List Int} (h : Row w (some ⟨b, off, none⟩) l) :
    ∀ (j : Nat) (u : Value), (l.map (Value.int .u8))[j]? = some u → w.cell? ((⟨b, off, none⟩ : Addr).add j) = some u := by
  intro j u hj
  have hjl : j < l.length := by
    have := (List.getElem?_eq_some_iff.mp hj).1
    simpa using this
  have e : ((⟨b, off, none⟩ : Addr).add j) = ⟨b, off + j, none⟩ := by
    by_cases e : j = 0
    · subst e; simp [Addr.add]
    · simp [Addr.add, e]
  rcases h.cells with e' | ⟨b', off', e', hc⟩
  · subst e'; simp at hjl
  · simp only [Option.some.injEq, Addr.mk.injEq] at e'
    obtain ⟨rfl, rfl, -⟩ := e'
    rw [e, hc j hjl]
    rw [getD_eq hjl]
    simpa [hjl] using hj

theorem wpList_wanted {P : Program} {ops : Array Oper} {Q : Exit → Act → World → Prop} {a : Act} {w : World} {rest : List Oper} {o : Oper} (hw : Region.wanted o (yielded ops a.tmps) = true)
    (h : ∀ K : Act → World → Prop, (∀ a w, wpList P ops Q rest a w → K a w) → o.wp P a w K Q) : wpList P ops Q (o :: rest) a w :=
  wpList_step fun K hK => by rw [if_pos hw]; exact h K hK

theorem wp_append_out {o : Oper} {a : Act} {w : World} {K : Act → World → Prop} {Q : Exit → Act → World → Prop} (s x : Operand) (t tn : TypeId)
    (ho : o.op = .call { callee := .builtin .append, args := #[s, x], argTypes := #[t, tn] }) {vs vx : Value} (hs : a.eval s = vs) (hx : a.eval x = vx)
    {v' : Value} {w' : World} (hr : (Builtin.append_ #[t, tn] o.type #[vs, vx]).run Tryd.prog w = .ok v' w') (h : K (a.put o.dst v') w') : o.wp Tryd.prog a w K Q :=
  Lib.wp_append_run w s x t tn ho vs vx hs hx v' w' hr h

namespace Sm
end Sm

end Go.Proofs.YtnddbklbgddblaaDoor

namespace Go.Proofs.YtnddbklbgddblaaDoor
namespace Ad
set_option linter.unusedVariables false

def cut (c : UInt8) : List UInt8 → List (List UInt8)
  | [] => [[]]
  | x :: l => if x = c then [] :: cut c l else match cut c l with
    | [] => [[x]]
    | p :: r => (x :: p) :: r
end Ad
end Go.Proofs.YtnddbklbgddblaaDoor

namespace Go.Proofs.YtnddbklbgddblaaDoor
open Go.RowKit
open Ad
set_option linter.unusedVariables false

theorem isDigit_any (r : Int) (w : World) : Calls Tryd.prog 92 #[.int .i32 r] w fun e w' => e = .returned (.bool (decide (48 ≤ r ∧ r ≤ 57))) ∧ w = w' := by
  by_cases h1 : 48 ≤ r
  · by_cases h2 : r ≤ 57
    · have hd : decide (48 ≤ r ∧ r ≤ 57) = true := by simp; omega
      rw [hd]
      go_enter Tryd.func92, Tryd.ntmps92
      go_wp2
      go_ret
      exact ⟨by first | rfl | simp [h2], rfl⟩
    · have hd : decide (48 ≤ r ∧ r ≤ 57) = false := by simp; omega
      rw [hd]
      go_enter Tryd.func92, Tryd.ntmps92
      go_wp2
      go_ret
      exact ⟨by first | rfl | simp [h2], rfl⟩
  · have hd : decide (48 ≤ r ∧ r ≤ 57) = false := by simp; omega
    rw [hd]
    go_enter Tryd.func92, Tryd.ntmps92
    go_wp2
    go_ret
    exact ⟨rfl, rfl⟩

theorem wrap64 {x : Int} (h0 : -9223372036854775808 ≤ x) (h1 : x ≤ 9223372036854775807) : IntKind.i64.wrap x = x := by
  simp [IntKind.wrap, IntKind.bits, IntKind.signed]; omega
theorem iter_below (w : World) (s : ByteArray) (p : Nat) : Below w.heap.size w (w.iter s p) := (Below.refl _ w).alloc (Nat.le_refl _) _
end Go.Proofs.YtnddbklbgddblaaDoor

