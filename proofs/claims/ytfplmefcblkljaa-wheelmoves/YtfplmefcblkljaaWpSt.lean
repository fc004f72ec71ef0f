/-
  Wheel, the program's own: what its box, its map and its slots hold.
-/
import Derived.Test.YtfplmefcblkljaaWpPl
namespace Go.Proofs.Ytfplmefcblkljaa
open Go.RowKit
open Sm
open Po
open Wh
set_option linter.unusedVariables false
set_option linter.unusedSimpArgs false
set_option maxRecDepth 20000

namespace Wp
abbrev Sl := Nat → Option (Nat × Array MapEntry × Nat)
def sbl (x : Nat × Array MapEntry × Nat) : Nat × Obj := (x.1, .map x.2.1 x.2.2)
/-- The blocks of all slots. -/
def blk (sl : Sl) : List (Nat × Obj) := (List.range 128).filterMap fun i => (sl i).map sbl
def ups (sl : Sl) (i : Nat) (x : Option (Nat × Array MapEntry × Nat)) : Sl := fun j => if j = i then x else sl j
theorem ups_at (sl : Sl) (i : Nat) (x : Option (Nat × Array MapEntry × Nat)) : ups sl i x i = x := by simp [ups]
theorem ups_off (sl : Sl) {i j : Nat} (x : Option (Nat × Array MapEntry × Nat)) (h : j ≠ i) : ups sl i x j = sl j := by simp [ups, h]
theorem ups_ups (sl : Sl) (i : Nat) (x y : Option (Nat × Array MapEntry × Nat)) : ups (ups sl i x) i y = ups sl i y := by
  funext j
  unfold ups
  split <;> rfl
theorem ups_same (sl : Sl) (i : Nat) : ups sl i (sl i) = sl := by
  funext j
  unfold ups
  split
  · rename_i h; rw [h]
  · rfl
theorem fm_congr {α β : Type} {f g : α → Option β} : ∀ {l : List α}, (∀ x ∈ l, f x = g x) → l.filterMap f = l.filterMap g
  | [], _ => rfl
  | x :: l, h => by
    rw [List.filterMap_cons, List.filterMap_cons, h x (by simp), fm_congr fun y hy => h y (by simp [hy])]
theorem blk_some {sl : Sl} {i : Nat} (hi : i < 128) {x : Nat × Array MapEntry × Nat} (h : sl i = some x) : (blk sl).Perm (sbl x :: blk (ups sl i none)) := by
  obtain ⟨a, b, e⟩ := List.append_of_mem (List.mem_range.2 hi)
  have hn : (List.range 128).Nodup := List.nodup_range
  rw [e] at hn
  have ha : ∀ y ∈ a, y ≠ i := fun y hy e1 => by
    rw [List.nodup_append] at hn
    exact hn.2.2 y hy i (by simp) e1
  have hb : ∀ y ∈ b, y ≠ i := fun y hy e1 => by
    rw [List.nodup_append] at hn
    have := (List.nodup_cons.1 hn.2.1).1
    exact this (e1 ▸ hy)
  unfold blk
  rw [e, List.filterMap_append, List.filterMap_append, List.filterMap_cons, List.filterMap_cons, h, ups_at]
  simp only [Option.map_some, Option.map_none]
  rw [fm_congr (l := a) (g := fun j => (ups sl i none j).map sbl) fun y hy => by rw [ups_off _ _ (ha y hy)],
    fm_congr (l := b) (g := fun j => (ups sl i none j).map sbl) fun y hy => by rw [ups_off _ _ (hb y hy)]]
  exact List.perm_middle
theorem blk_none {sl : Sl} {i : Nat} (h : sl i = none) : ups sl i none = sl := by
  have := ups_same sl i
  rwa [h] at this
theorem blk_put {sl : Sl} {i : Nat} (hi : i < 128) (x : Nat × Array MapEntry × Nat) : (blk (ups sl i (some x))).Perm (sbl x :: blk (ups sl i none)) := by
  have := blk_some (sl := ups sl i (some x)) hi (x := x) (ups_at ..)
  rwa [ups_ups] at this
/-- An element of a slot. -/
def unit : Value := .agg #[]
def mrk (F : Int → Option Nat) (i : Nat) : Int → Option Value := fun k => if F k = some i then some unit else none
theorem mrk_upd (F : Int → Option Nat) (k : Int) (i : Nat) : ∀ q, mrk (upd F k (some i)) i q = upd (mrk F i) k (some unit) q := fun q => by
  unfold mrk upd
  by_cases h : q = k <;> simp [h]
theorem mrk_del (F : Int → Option Nat) (k : Int) (i : Nat) : ∀ q, mrk (upd F k none) i q = upd (mrk F i) k none q := fun q => by
  unfold mrk upd
  by_cases h : q = k <;> simp [h]
theorem mrk_other {F : Int → Option Nat} {k : Int} {i j : Nat} (o : Option Nat) (h : F k = none ∨ F k = some i) (ho : o = none ∨ o = some i) (hj : j ≠ i) : ∀ q, mrk (upd F k o) j q = mrk F j q := fun q => by
  unfold mrk upd
  by_cases hq : q = k
  · subst hq
    have e1 : F q ≠ some j := by
      rcases h with h | h <;> rw [h]
      · simp
      · simpa using Ne.symm hj
    have e2 : o ≠ some j := by
      rcases ho with h | h <;> rw [h]
      · simp
      · simpa using Ne.symm hj
    simp [e1, e2]
  · simp [hq]
/-- What stands in the wheel's box: its tick, when each is due, in which slot each lies. -/
structure StW (now : Int) (A : Int → Option Int) (F : Int → Option Nat) (C : Array Value) (mb : Nat) (es : Array MapEntry) (clock : Nat) (sl : Sl) : Prop where
  size : C.size = 130
  c0 : C[0]? = some (.int .u32 now)
  c1 : C[1]? = some (.map (some mb))
  cs : ∀ i, i < 128 → C[i + 2]? = some (.map ((sl i).map (·.1)))
  when : MI (fun k => (A k).map (Value.int .u32)) es clock
  slots : ∀ i, i < 128 → (sl i = none → ∀ k, F k ≠ some i) ∧ (∀ x, sl i = some x → MI (mrk F i) x.2.1 x.2.2)
  dom : ∃ l : List Int, l.length ≤ 2000 ∧ ∀ k, A k ≠ none → k ∈ l
  inA : ∀ k, F k ≠ none → A k ≠ none
  keys : ∀ k, A k ≠ none → In64 k
  vals : ∀ k t, A k = some t → 0 ≤ t ∧ t ≤ 4294967295
  low : ∀ k i, F k = some i → i < 128
  nows : 0 ≤ now ∧ now ≤ 4294967295
/-- It lies at p in the world, with its map at mb, and what else there is. -/
def WSt (now : Int) (A : Int → Option Int) (F : Int → Option Nat) (p mb : Nat) (w V : World) (L : List (Nat × Obj)) : Prop :=
  ∃ C es clock sl, StW now A F C mb es clock sl ∧ Mem w V ((p, .cells C 55 (0, 0)) :: (mb, .map es clock) :: (blk sl ++ L))
theorem WSt.below {now : Int} {A : Int → Option Int} {F : Int → Option Nat} {p mb : Nat} {w V : World} {L : List (Nat × Obj)} (h : WSt now A F p mb w V L) : Below w.heap.size w V := by
  obtain ⟨C, es, clock, sl, -, hM⟩ := h
  exact hM.below
theorem WSt.after {now : Int} {A : Int → Option Int} {F : Int → Option Nat} {p mb : Nat} {w V V' : World} {L : List (Nat × Obj)} (h : WSt now A F p mb w V L) (hb : Below V.heap.size V V') : WSt now A F p mb w V' L := by
  obtain ⟨C, es, clock, sl, hS, hM⟩ := h
  exact ⟨C, es, clock, sl, hS, hM.after hb⟩
theorem WSt.drew {now : Int} {A : Int → Option Int} {F : Int → Option Nat} {p mb : Nat} {w V : World} {L : List (Nat × Obj)} (h : WSt now A F p mb w V L) : WSt now A F p mb w V.drew L := by
  obtain ⟨C, es, clock, sl, hS, hM⟩ := h
  exact ⟨C, es, clock, sl, hS, hM.drew⟩
theorem WSt.drewN {now : Int} {A : Int → Option Int} {F : Int → Option Nat} {p mb : Nat} {w V : World} {L : List (Nat × Obj)} (h : WSt now A F p mb w V L) (n : Nat) : WSt now A F p mb w (V.drewN n) L := by
  obtain ⟨C, es, clock, sl, hS, hM⟩ := h
  exact ⟨C, es, clock, sl, hS, hM.drewN n⟩
theorem WSt.perm {now : Int} {A : Int → Option Int} {F : Int → Option Nat} {p mb : Nat} {w V : World} {L L' : List (Nat × Obj)} (h : WSt now A F p mb w V L) (hp : L.Perm L') : WSt now A F p mb w V L' := by
  obtain ⟨C, es, clock, sl, hS, hM⟩ := h
  exact ⟨C, es, clock, sl, hS, hM.perm (((hp.append_left _).cons _).cons _)⟩
/-- Whatever else there is, as the list itself; and back. -/
theorem WSt.rest {now : Int} {A : Int → Option Int} {F : Int → Option Nat} {p mb : Nat} {w V : World} {L : List (Nat × Obj)} (h : WSt now A F p mb w V L) : ∃ B, Mem w V (L ++ B) ∧ ∀ V' L', Mem w V' (L' ++ B) → WSt now A F p mb w V' L' := by
  obtain ⟨C, es, clock, sl, hS, hM⟩ := h
  refine ⟨(p, .cells C 55 (0, 0)) :: (mb, .map es clock) :: blk sl, hM.perm ?_, fun V' L' hM' => ⟨C, es, clock, sl, hS, hM'.perm ?_⟩⟩
  · classical
    rw [List.perm_iff_count]
    intro q
    simp only [List.count_append, List.count_cons]
    omega
  · classical
    rw [List.perm_iff_count]
    intro q
    simp only [List.count_append, List.count_cons]
    omega
theorem WSt.keep {now : Int} {A : Int → Option Int} {F : Int → Option Nat} {p mb : Nat} {w V : World} {L : List (Nat × Obj)} (h : WSt now A F p mb w V L) : V.cell? ⟨p, 0, none⟩ = some (.int .u32 now) ∧ V.cell? ⟨p, 1, none⟩ = some (.map (some mb)) ∧ 0 ≤ now ∧ now ≤ 4294967295 := by
  obtain ⟨C, es, clock, sl, hS, hM⟩ := h
  refine ⟨?_, ?_, hS.nows⟩
  · rw [hM.cell 0 rfl 0]; exact hS.c0
  · rw [hM.cell 0 rfl 1]; exact hS.c1
end Wp
end Go.Proofs.Ytfplmefcblkljaa
