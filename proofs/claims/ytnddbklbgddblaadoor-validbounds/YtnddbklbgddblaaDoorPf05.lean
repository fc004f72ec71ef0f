/-
  Rows of bytes that the call itself made: what is read of them, what a store turns, and what changing one word does to the sums.
  Rows of the call's own that grow: bytes appended as a step of a region, and what lychref1's Put16 and Put32 answer.
-/
import Derived.Test.YtnddbklbgddblaaDoorPf04
namespace Go.Proofs.YtnddbklbgddblaaDoor
open Go.RowKit
open Sm
set_option linter.unusedVariables false

namespace Sm
end Sm
end Go.Proofs.YtnddbklbgddblaaDoor

namespace Go.Proofs.YtnddbklbgddblaaDoor
open Go.RowKit
open Sm
set_option linter.unusedVariables false

theorem own_after {B C : Nat} {w w' : World} {v : Value} {n : Nat} {xs : List Value} (h : w.ownsRow B 5 1 v n xs) (hb : Below C w w') (hC : w.heap.size ≤ C) : w'.ownsRow B 5 1 v n xs := by
  obtain ⟨h1, h2⟩ := h
  refine ⟨h1, ?_⟩
  rcases h2 with h2 | ⟨g, cap, cur, rfl, hg, hh, r⟩
  · exact Or.inl h2
  · refine Or.inr ⟨g, cap, cur, rfl, hg, ?_, r⟩
    have hlt : g < w.heap.size := (Array.getElem?_eq_some_iff.mp hh).1
    rw [hb.block g (by omega)]; exact hh

theorem Mem.over {w w' w2 : World} {L : List (Nat × Obj)} (h : Mem w w' L) {B : Nat} (hb : Below B w' w2) (hB : w.heap.size ≤ B) (hL : ∀ p ∈ L, p.1 < B) : Mem w w2 L :=
  ⟨h.below.trans (hb.mono hB), h.low, fun p hp => by rw [hb.block p.1 (hL p hp)]; exact h.at_ p hp, h.apart⟩
theorem Mem.bytes {w w' : World} {L : List (Nat × Obj)} (h : Mem w w' L) (i : Nat) {g : Nat} {c : Array Value} {t : TypeId} (hi : L[i]? = some (g, .cells c t (0, 0))) (off : Nat) (l : List Int) (hb : IsBytes l) (hl : l.length ≤ 1000)
    (hc : ∀ j, j < l.length → c[off + j]? = some (.int .u8 (l.getD j 0))) : Row w' (some ⟨g, off, none⟩) l :=
  ⟨hb, by omega, Or.inr ⟨g, off, rfl, fun j hj => by rw [h.cell i hi]; exact hc j hj⟩⟩

end Go.Proofs.YtnddbklbgddblaaDoor

