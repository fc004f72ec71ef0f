/-
  Ports: which point is given out: the lowest free one of a class, as a function of what is held.
-/
import Derived.Test.YtkbjiackjefkkaaDoorPoFree
namespace Go.Proofs.YtkbjiackjefkkaaDoor
open Go.RowKit
open Sm
open Po
set_option linter.unusedVariables false
set_option linter.unusedSimpArgs false
set_option maxRecDepth 20000

namespace Po
/-- The first and the last port that may be. -/
def frm (lo want : Int) : Int :=
  if (if want < 1024 then lo else max lo 1024) % 2 = want % 2 then (if want < 1024 then lo else max lo 1024) else (if want < 1024 then lo else max lo 1024) + 1
def upt (hi want : Int) : Int := if want < 1024 then min hi 1023 else hi
/-- How many ports there are from k to t, each second one. -/
def cnt (k t : Int) : Nat := ((t - k + 2) / 2).toNat
theorem cnt_more {k t : Int} (h : k ≤ t) : cnt k t = cnt (k + 2) t + 1 := by unfold cnt; omega
theorem cnt_none {k t : Int} (h : t < k) : cnt k t = 0 := by unfold cnt; omega
/-- The first of n ports from k on that isn't held. -/
def t1 (xs : List Mk) (pr ip : Int) : Nat → Int → Option Int
  | 0, _ => none
  | n + 1, k => if (pr, ip, k) ∈ xs then t1 xs pr ip n (k + 2) else some k
def tk (xs : List Mk) (pr f t : Int) : List Int → Option (Int × Int)
  | [] => none
  | ip :: r => match t1 xs pr ip (cnt f t) f with
    | some k => some (ip, k)
    | none => tk xs pr f t r
theorem frm_ge {lo want : Int} (h : 0 ≤ lo) : 0 ≤ frm lo want := by
  unfold frm
  split <;> split <;> omega
theorem upt_le {hi want : Int} (h : hi ≤ 65535) : upt hi want ≤ 65535 := by
  unfold upt
  split <;> omega
theorem t1_in {xs : List Mk} {pr ip : Int} : ∀ (n : Nat) (k j : Int), t1 xs pr ip n k = some j → k ≤ j ∧ j < k + 2 * n ∧ (pr, ip, j) ∉ xs
  | 0, k, j, h => by cases h
  | n + 1, k, j, h => by
    unfold t1 at h
    split at h
    · obtain ⟨h1, h2, h3⟩ := t1_in n (k + 2) j h
      exact ⟨by omega, by omega, h3⟩
    · cases h
      exact ⟨by omega, by omega, by assumption⟩
end Po
end Go.Proofs.YtkbjiackjefkkaaDoor
