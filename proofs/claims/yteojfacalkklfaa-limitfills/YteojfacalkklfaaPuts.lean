/-
  Rows of the call's own that grow: bytes appended as a step of a region, and what lychref1's Put16 and Put32 answer.
-/
import Derived.Test.YteojfacalkklfaaHelp
namespace Go.Proofs.Yteojfacalkklfaa
open Go.RowKit
open Sm
set_option linter.unusedVariables false

theorem own_grown {B : Nat} {w w' : World} {v : Value} {n : Nat} {xs : List Value} (h : w.ownsRow B 5 1 v n xs) (hg : w.grownBy w' v.ownBlock) (hB : B ≤ w.heap.size) : Below B w w' :=
  (Below.refl _ _).grown hg hB (own_ge h)

/-- A row of the call's own stands where nothing from its base on is turned but behind it. -/
theorem own_after {B C : Nat} {w w' : World} {v : Value} {n : Nat} {xs : List Value} (h : w.ownsRow B 5 1 v n xs) (hb : Below C w w') (hC : w.heap.size ≤ C) : w'.ownsRow B 5 1 v n xs := by
  obtain ⟨h1, h2⟩ := h
  refine ⟨h1, ?_⟩
  rcases h2 with h2 | ⟨g, cap, cur, rfl, hg, hh, r⟩
  · exact Or.inl h2
  · refine Or.inr ⟨g, cap, cur, rfl, hg, ?_, r⟩
    have hlt : g < w.heap.size := (Array.getElem?_eq_some_iff.mp hh).1
    rw [hb.block g (by omega)]; exact hh

/-- What lies below the base stands. -/
theorem Row.under {w w' : World} {a : Option Addr} {l : List Int} (h : Row w a l) {B : Nat} (hb : Below B w w') (ha : ∀ x, a = some x → x.block < B) : Row w' a l := by
  refine ⟨h.bytes, h.len, ?_⟩
  rcases h.cells with e | ⟨b, off, rfl, hc⟩
  · exact Or.inl e
  · refine Or.inr ⟨b, off, rfl, fun i hi => ?_⟩
    rw [hb.cell (p := ⟨b, off + i, none⟩) (show b < B from ha ⟨b, off, none⟩ rfl)]
    exact hc i hi
theorem Mem.over {w w' w2 : World} {L : List (Nat × Obj)} (h : Mem w w' L) {B : Nat} (hb : Below B w' w2) (hB : w.heap.size ≤ B) (hL : ∀ p ∈ L, p.1 < B) : Mem w w2 L :=
  ⟨h.below.trans (hb.mono hB), h.low, fun p hp => by rw [hb.block p.1 (hL p hp)]; exact h.at_ p hp, h.apart⟩
/-- Bytes among the cells of a block of the call's own. -/
theorem Mem.bytes {w w' : World} {L : List (Nat × Obj)} (h : Mem w w' L) (i : Nat) {g : Nat} {c : Array Value} {t : TypeId} (hi : L[i]? = some (g, .cells c t (0, 0))) (off : Nat) (l : List Int) (hb : IsBytes l) (hl : l.length ≤ 1000)
    (hc : ∀ j, j < l.length → c[off + j]? = some (.int .u8 (l.getD j 0))) : Row w' (some ⟨g, off, none⟩) l :=
  ⟨hb, by omega, Or.inr ⟨g, off, rfl, fun j hj => by rw [h.cell i hi]; exact hc j hj⟩⟩

/-- Two bytes that were just laid. -/
theorem row_lit (w : World) (l : List Int) (hb : IsBytes l) (hl : l.length ≤ 140737488351232) (T : TypeId) : Row (w.alloc (.cells (l.map (Value.int .u8)).toArray T)) (some ⟨w.heap.size, 0, none⟩) l :=
  ⟨hb, hl, Or.inr ⟨_, 0, rfl, fun i hi => by rw [Nat.zero_add, World.cell?_alloc_new]; simp [hi]⟩⟩

theorem bytes_two {x y : Int} (h0 : 0 ≤ x) (h1 : x ≤ 255) (h2 : 0 ≤ y) (h3 : y ≤ 255) : IsBytes [x, y] := by
  intro i
  match i with
  | 0 => exact ⟨h0, h1⟩
  | 1 => exact ⟨h2, h3⟩
  | i + 2 => simp [List.getD]

theorem bytes_noughts (m : Nat) : IsBytes (List.replicate m 0) := by
  intro i
  by_cases h : i < m
  · simp [List.getD, h]
  · simp [List.getD, h]
theorem map_noughts (l : List Int) (m : Nat) : l.map (Value.int .u8) ++ List.replicate m (Value.int .u8 0) = (l ++ List.replicate m 0).map (Value.int .u8) := by simp
theorem noughts_at (w : World) (k : Nat) (h : k ≤ 140737488351232) (g : Nat) (hg : g = w.heap.size) : Row (w.alloc (.cells (madeCells #[Value.int .u8 0] k) 5)) (some ⟨g, 0, none⟩) (List.replicate k 0) := by
  subst hg
  have e : madeCells #[Value.int .u8 0] k = ((List.replicate k (0 : Int)).map (Value.int .u8)).toArray := by
    apply Array.toList_inj.mp; rw [toList_madeCells_one]; simp
  rw [e]
  exact row_lit w _ (bytes_noughts k) (by simpa using h) 5

end Go.Proofs.Yteojfacalkklfaa
