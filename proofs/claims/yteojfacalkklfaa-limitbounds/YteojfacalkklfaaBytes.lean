/-
  Rows of bytes that the call itself made: what is read of them, what a store turns, and what changing one word does to the sums.
-/
import Derived.Test.YteojfacalkklfaaWords
namespace Go.Proofs.Yteojfacalkklfaa
open Go.RowKit
open Sm
set_option linter.unusedVariables false

namespace Sm
/-- One word set. -/
def setw (l : List Int) (p : Nat) (x y : Int) : List Int := (l.set (2 * p) x).set (2 * p + 1) y
theorem setw_len (l : List Int) (p : Nat) (x y : Int) : (setw l p x y).length = l.length := by simp [setw]
theorem getD_set (l : List Int) (j i : Nat) (x : Int) (hj : j < l.length) : (l.set j x).getD i 0 = if i = j then x else l.getD i 0 := by
  by_cases e : i = j
  · subst e; simp [List.getD, hj]
  · rw [if_neg e]; simp [List.getD, List.getElem?_set_ne (Ne.symm e)]
theorem setw_getD (l : List Int) (p i : Nat) (x y : Int) (hp : 2 * p + 1 < l.length) : (setw l p x y).getD i 0 = if i = 2 * p + 1 then y else if i = 2 * p then x else l.getD i 0 := by
  unfold setw
  rw [getD_set _ _ _ _ (by simpa using hp), getD_set _ _ _ _ (by omega)]
theorem setw_bytes {l : List Int} (h : IsBytes l) (p : Nat) (x y : Int) (hp : 2 * p + 1 < l.length) (hx : 0 ≤ x ∧ x ≤ 255) (hy : 0 ≤ y ∧ y ≤ 255) : IsBytes (setw l p x y) := by
  intro i
  rw [setw_getD l p i x y hp]
  have := h i
  split
  · exact hy
  · split
    · exact hx
    · exact this
theorem wd_setw (l : List Int) (p i : Nat) (x y : Int) (hp : 2 * p + 1 < l.length) : wd (setw l p x y) i = if i = p then x * 256 + y else wd l i := by
  unfold wd
  rw [setw_getD l p _ x y hp, setw_getD l p _ x y hp]
  by_cases e : i = p
  · subst e; rw [if_neg (by omega), if_pos rfl, if_pos rfl, if_pos rfl]
  · rw [if_neg (by omega), if_neg (by omega), if_neg (by omega), if_neg (by omega), if_neg e]
theorem tot_setw (l : List Int) (p k : Nat) (x y : Int) (hp : 2 * p + 1 < l.length) : tot (setw l p x y) k = if p < k then tot l k - wd l p + (x * 256 + y) else tot l k := by
  induction k with
  | zero => simp [tot]
  | succ k ih =>
    rw [tot_succ, tot_succ, ih, wd_setw l p k x y hp]
    by_cases e : k = p
    · subst e; rw [if_neg (by omega), if_pos rfl, if_pos (by omega)]; omega
    · rw [if_neg e]
      by_cases c : p < k
      · rw [if_pos c, if_pos (by omega)]; omega
      · rw [if_neg c, if_neg (by omega)]
theorem wd_le_tot {l : List Int} (h : IsBytes l) (p k : Nat) (hp : p < k) : wd l p ≤ tot l k := by
  induction k with
  | zero => omega
  | succ k ih =>
    have a := wd_range h k; have b := tot_nonneg h k
    rw [tot_succ]
    by_cases e : p = k
    · subst e; omega
    · have := ih (by omega); omega
theorem stands {l : List Int} (h : IsBytes l) (p : Nat) (hp : 2 * p + 1 < l.length) :
    foldv (acc (setw (setw l p 0 0) p (ofv (setw l p 0 0) / 256) (ofv (setw l p 0 0) % 256)) 0 (cnt l.length)) = 65535 := by
  have hk : p < cnt l.length := by unfold cnt; omega
  have h1 := setw_bytes h p 0 0 hp ⟨by omega, by omega⟩ ⟨by omega, by omega⟩
  have hr := ofv_range (setw l p 0 0)
  have hp1 : 2 * p + 1 < (setw l p 0 0).length := by rw [setw_len]; exact hp
  have h2 := setw_bytes h1 p (ofv (setw l p 0 0) / 256) (ofv (setw l p 0 0) % 256) hp1 (by omega) (by omega)
  rw [foldv_acc h2 0 (by omega) (by omega), tot_setw _ _ _ _ _ hp1, if_pos hk, wd_setw l p p 0 0 hp, if_pos rfl]
  have hn := tot_nonneg h1 (cnt l.length)
  have e : ofv (setw l p 0 0) = 65535 - foldv (tot (setw l p 0 0) (cnt l.length)) := by unfold ofv; rw [setw_len]
  rw [e] at hr ⊢
  generalize tot (setw l p 0 0) (cnt l.length) = T at *
  clear hr e h2 h1
  unfold foldv
  split <;> split <;> omega
end Sm
end Go.Proofs.Yteojfacalkklfaa
