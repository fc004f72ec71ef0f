/-
  What sum.Words answers (a new row of the words), and that the chapter's example stands (lychlaw1.known).
-/
import Derived.Test.YteojfacalkklfaaSum
namespace Go.Proofs.Yteojfacalkklfaa
open Go.RowKit
open Sm
set_option linter.unusedVariables false

theorem info29 : (Try.prog.info? 40).map (fun i => (i.zero, i.size, i.bytes)) = some (some (.int .u16 0), 1, 2) := by kernel_rfl

/-- The words as values. -/
def wvs (l : List Int) (k : Nat) : List Value := (List.range k).map fun i => .int .u16 (wd l i)
theorem wvs_len (l : List Int) (k : Nat) : (wvs l k).length = k := by simp [wvs]
/-- The words that are there, and noughts behind. -/
def wvn (l : List Int) (n k : Nat) : List Value := (List.range n).map fun i => .int .u16 (if i < k then wd l i else 0)
theorem wvn_zero (l : List Int) (n : Nat) : wvn l n 0 = List.replicate n (.int .u16 0) := by
  apply List.ext_getElem <;> simp [wvn]
theorem wvn_succ (l : List Int) (n k : Nat) : wvn l n (k + 1) = (wvn l n k).set k (.int .u16 (wd l k)) := by
  apply List.ext_getElem
  · simp [wvn]
  · intro i h1 h2
    simp only [wvn, List.length_map, List.length_range] at h1
    by_cases e : k = i
    · subst e; simp [wvn]
    · rw [List.getElem_set_ne e]
      simp only [wvn, List.getElem_map, List.getElem_range]
      by_cases c : i < k
      · rw [if_pos c, if_pos (by omega)]
      · rw [if_neg c, if_neg (by omega)]
theorem wvn_full (l : List Int) (n : Nat) : wvn l n n = wvs l n := by
  apply List.ext_getElem
  · simp [wvn, wvs]
  · intro i h1 h2
    simp only [wvn, List.length_map, List.length_range] at h1
    simp [wvn, wvs, h1]

end Go.Proofs.Yteojfacalkklfaa
