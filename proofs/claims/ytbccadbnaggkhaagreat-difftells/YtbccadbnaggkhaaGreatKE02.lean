/-
  What the statements' own helps answer: lychhelp.Bytes over two rows of the same bytes, lychref1's Get16, cut and Put16.
  What sum.Words answers (a new row of the words), and that the chapter's example stands (lychlaw1.known).
  Rows of the call's own that grow: bytes appended as a step of a region, and what lychref1's Put16 and Put32 answer.
  Rows of bytes that the call itself made: what is read of them, what a store turns, and what changing one word does to the sums.
-/
import Derived.Test.YtbccadbnaggkhaaGreatKE01
import Derived.Laws.BytesArg
import Derived.Lib.BufferRead
namespace Go.Proofs.YtbccadbnaggkhaaGreat
open Go.RowKit
open Sm
set_option linter.unusedVariables false

theorem row_string {w : World} {a : Option Addr} {l : List Int} (h : Row w a l) (cap : Nat) : (convert 87 9 (.slice a l.length cap)).run Tryz.prog w = .ok (.string (strOfNums l)) w := by
  rcases h.cells with e | ⟨b, off, rfl, hc⟩
  · subst e
    cases a with
    | none => exact Lib.run_convert_nil_bytes (P := Tryz.prog) w 87 9 5 cap Tryz.underlying87 Tryz.underlying5 Tryz.underlying9
    | some x => exact run_convert_bytes_back (P := Tryz.prog) w 87 9 5 x cap [] Tryz.underlying87 Tryz.underlying5 Tryz.underlying9 (fun j hj => by simp at hj)
  · rw [run_convert_bytes_string w 87 9 5 _ _ cap Tryz.underlying87 Tryz.underlying5 Tryz.underlying9]
    have hl := run_loadCells_list (P := Tryz.prog) w ⟨b, off, none⟩ (l.map (Value.int .u8)) h.news
    rw [List.length_map] at hl
    rw [run_bytesToString w ⟨b, off, none⟩ l.length cap l hl, foldl_push_bytes]
    simp [strOfNums]

end Go.Proofs.YtbccadbnaggkhaaGreat

namespace Go.Proofs.YtbccadbnaggkhaaGreat
open Go.RowKit
open Sm
set_option linter.unusedVariables false

end Go.Proofs.YtbccadbnaggkhaaGreat

namespace Go.Proofs.YtbccadbnaggkhaaGreat
open Go.RowKit
open Sm
set_option linter.unusedVariables false

theorem own_after {B C : Nat} {w w' : World} {v : Value} {n : Nat} {xs : List Value} (h : w.ownsRow B 5 1 v n xs) (hb : Below C w w') (hC : w.heap.size ≤ C) : w'.ownsRow B 5 1 v n xs := by
  obtain ⟨h1, h2⟩ := h
  refine ⟨h1, ?_⟩
  rcases h2 with h2 | ⟨g, cap, cur, rfl, hg, hh, r⟩
  · exact Or.inl h2
  · refine Or.inr ⟨g, cap, cur, rfl, hg, ?_, r⟩
    have hlt : g < w.heap.size := (Array.getElem?_eq_some_iff.mp hh).1
    rw [hb.block g (by omega)]; exact hh

theorem Mem.over {w w' w2 : World} {L : List (Nat × Obj)} (h : Mem w w' L) {B : Nat} (hb : Below B w' w2) (hB : w.heap.size ≤ B) (hL : ∀ p ∈ L, p.1 < B) : Mem w w2 L :=
  ⟨h.below.trans (hb.mono hB), h.low, fun p hp => by rw [hb.block p.1 (hL p hp)]; exact h.at_ p hp, h.apart⟩
theorem Mem.bytes {w w' : World} {L : List (Nat × Obj)} (h : Mem w w' L) (i : Nat) {g : Nat} {c : Array Value} {t : TypeId} (hi : L[i]? = some (g, .cells c t (0, 0))) (off : Nat) (l : List Int) (hb : IsBytes l) (hl : l.length ≤ 1000)
    (hc : ∀ j, j < l.length → c[off + j]? = some (.int .u8 (l.getD j 0))) : Row w' (some ⟨g, off, none⟩) l :=
  ⟨hb, by omega, Or.inr ⟨g, off, rfl, fun j hj => by rw [h.cell i hi]; exact hc j hj⟩⟩

theorem row_lit (w : World) (l : List Int) (hb : IsBytes l) (hl : l.length ≤ 140737488351232) (T : TypeId) : Row (w.alloc (.cells (l.map (Value.int .u8)).toArray T)) (some ⟨w.heap.size, 0, none⟩) l :=
  ⟨hb, hl, Or.inr ⟨_, 0, rfl, fun i hi => by rw [Nat.zero_add, World.cell?_alloc_new]; simp [hi]⟩⟩

end Go.Proofs.YtbccadbnaggkhaaGreat

namespace Go.Proofs.YtbccadbnaggkhaaGreat
open Go.RowKit
open Sm
set_option linter.unusedVariables false

namespace Sm
end Sm
end Go.Proofs.YtbccadbnaggkhaaGreat

