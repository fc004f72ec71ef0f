/-
  Ports: points held by hand, and the first one that is free, in numbers.
-/
import Derived.Test.YtkbjiackjefkkaaDoorPoBackM
namespace Go.Proofs.YtkbjiackjefkkaaDoor
open Go.RowKit
open Sm
open Po
set_option linter.unusedVariables false
set_option linter.unusedSimpArgs false
set_option maxRecDepth 20000

namespace Po
/-- One point more that is held, if it isn't. -/
def hp1 (xs : List Mk) (m : Mk) : List Mk := if m ∈ xs then xs else xs ++ [m]
def hm (l : List Int) : List Mk := l.foldl (fun xs x => hp1 xs (17, 5, 1020 + x % 100)) []
theorem hm_snoc (l : List Int) (x : Int) : hm (l ++ [x]) = hp1 (hm l) (17, 5, 1020 + x % 100) := by simp [hm]
theorem hm_take {l : List Int} {i : Nat} (h : i < l.length) : hm (l.take (i + 1)) = hp1 (hm (l.take i)) (17, 5, 1020 + l[i] % 100) := by
  rw [List.take_succ_eq_append_getElem h, hm_snoc]
theorem hp1_len (xs : List Mk) (m : Mk) : (hp1 xs m).length ≤ xs.length + 1 := by
  unfold hp1
  split <;> simp
theorem hm_len {l : List Int} : ∀ i, i ≤ l.length → (hm (l.take i)).length ≤ i
  | 0, _ => by simp [hm]
  | i + 1, h => by
    rw [hm_take (by omega)]
    have := hm_len (l := l) i (by omega)
    have := hp1_len (hm (l.take i)) (17, 5, 1020 + l[i] % 100)
    omega
theorem mem_hp1 {xs : List Mk} {m x : Mk} : x ∈ hp1 xs m ↔ x ∈ xs ∨ x = m := by
  unfold hp1
  split
  · constructor
    · exact Or.inl
    · rintro (h | rfl)
      · exact h
      · assumption
  · simp
/-- The row of truths: which of a hundred are held. -/
def ha (xs : List Mk) : Array Value := ((List.range 100).map fun k : Nat => Value.bool (decide (((17 : Int), (5 : Int), 1020 + (k : Int)) ∈ xs))).toArray
theorem ha_size (xs : List Mk) : (ha xs).size = 100 := by simp [ha]
theorem ha_at (xs : List Mk) {k : Nat} (h : k < 100) : (ha xs)[k]? = some (.bool (decide (((17 : Int), (5 : Int), 1020 + (k : Int)) ∈ xs))) := by
  simp [ha, h]
theorem ha_set (xs : List Mk) {k : Nat} (h : k < 100) : (ha xs).setIfInBounds k (.bool true) = ha (hp1 xs (17, 5, 1020 + (k : Int))) := by
  apply Array.ext (by simp [ha])
  intro i h1 h2
  have hi : i < 100 := by simpa [ha] using h2
  have e : ((17 : Int), (5 : Int), 1020 + (i : Int)) ∈ hp1 xs (17, 5, 1020 + (k : Int)) ↔ ((17 : Int), (5 : Int), 1020 + (i : Int)) ∈ xs ∨ i = k := by
    rw [mem_hp1]
    constructor
    · rintro (h | h)
      · exact Or.inl h
      · simp only [Prod.mk.injEq, true_and] at h
        exact Or.inr (by omega)
    · rintro (h | rfl)
      · exact Or.inl h
      · exact Or.inr rfl
  rw [Array.getElem_setIfInBounds (by rw [ha_size]; exact hi)]
  split
  · rename_i hk
    subst hk
    simp [ha, e]
  · rename_i hk
    have h5 : ¬ i = k := fun e => hk e.symm
    simp [ha, e, h5]
/-- The first of n ports from k on, one by one, that is of want's class, and free. -/
def fs (xs : List Mk) (want : Int) : Nat → Int → Int
  | 0, _ => -1
  | n + 1, k => if k % 2 = want % 2 ∧ 1024 ≤ want ∧ ((17 : Int), (5 : Int), k) ∉ xs then k else fs xs want n (k + 1)
theorem fs_low {xs : List Mk} {want : Int} (h : want < 1024) : ∀ n k, fs xs want n k = -1
  | 0, _ => rfl
  | n + 1, k => by rw [fs, if_neg (by omega), fs_low h n]
/-- The answer as a number. -/
def no1 (o : Option (Int × Int)) : Int := match o with
  | some x => x.2
  | none => -1
def o1 (o : Option Int) : Int := o.getD (-1)
theorem fs_t1 {xs : List Mk} {want : Int} (h : 1024 ≤ want) : ∀ (n : Nat) (k : Int), (k % 2 = want % 2 → fs xs want n k = o1 (t1 xs 17 5 ((n + 1) / 2) k)) ∧ (k % 2 ≠ want % 2 → fs xs want n k = o1 (t1 xs 17 5 (n / 2) (k + 1)))
  | 0, k => ⟨fun _ => rfl, fun _ => rfl⟩
  | n + 1, k => by
    have ih := fs_t1 (xs := xs) h n (k + 1)
    constructor
    · intro e
      rw [fs, show (n + 1 + 1) / 2 = n / 2 + 1 by omega, t1]
      by_cases hin : ((17 : Int), (5 : Int), k) ∈ xs
      · rw [if_neg (by simp [hin]), if_pos hin, ih.2 (by omega), show k + 1 + 1 = k + 2 by omega]
      · rw [if_pos ⟨e, h, hin⟩, if_neg hin]; rfl
    · intro e
      rw [fs, if_neg (by simp [e]), ih.1 (by omega)]
theorem tk_single (xs : List Mk) (F T : Int) : tk xs 17 F T [5] = (t1 xs 17 5 (cnt F T) F).map fun k => (5, k) := by
  rw [tk]
  cases t1 xs 17 5 (cnt F T) F <;> rfl
/-- What is found by hand is what Take gives out. -/
theorem fs_tk {xs : List Mk} {lo sz want : Int} (h1 : 1024 ≤ lo) (h2 : 0 ≤ sz) (hw : 0 ≤ want) :
    fs xs want (sz + 1).toNat lo = no1 (tk xs 17 (frm lo want) (upt (lo + sz) want) [5]) := by
  have key : ∀ o : Option Int, no1 (o.map fun k => ((5 : Int), k)) = o1 o := by intro o; cases o <;> rfl
  rw [tk_single, key]
  by_cases h : want < 1024
  · rw [fs_low h]
    have : cnt (frm lo want) (upt (lo + sz) want) = 0 := by
      unfold frm upt cnt
      rw [if_pos h, if_pos h]
      split <;> omega
    rw [this]
    rfl
  · have ht : upt (lo + sz) want = lo + sz := by unfold upt; rw [if_neg h]
    have hm : (if want < 1024 then lo else max lo 1024) = lo := by rw [if_neg h]; omega
    rw [ht]
    unfold frm
    rw [hm]
    by_cases hp : lo % 2 = want % 2
    · rw [if_pos hp, (fs_t1 (by omega) _ lo).1 hp]
      unfold cnt
      congr 2
      omega
    · rw [if_neg hp, (fs_t1 (by omega) _ lo).2 hp]
      unfold cnt
      congr 2
      omega
theorem t1_in2 {xs : List Mk} {pr ip : Int} : ∀ (n : Nat) (k j : Int), t1 xs pr ip n k = some j → ∃ a : Nat, a < n ∧ j = k + 2 * a
  | 0, k, j, h => by cases h
  | n + 1, k, j, h => by
    unfold t1 at h
    split at h
    · obtain ⟨a, h1, h2⟩ := t1_in2 n (k + 2) j h
      exact ⟨a + 1, by omega, by omega⟩
    · cases h
      exact ⟨0, by omega, by simp⟩
/-- Whatever Take gives out is no less than where it began. -/
theorem tk_ge {xs : List Mk} {F T ip k : Int} (h : tk xs 17 F T [5] = some (ip, k)) : ip = 5 ∧ F ≤ k ∧ k ≤ T := by
  rw [tk_single] at h
  cases e : t1 xs 17 5 (cnt F T) F with
  | none => rw [e] at h; cases h
  | some j =>
    rw [e] at h
    simp only [Option.map_some, Option.some.injEq, Prod.mk.injEq] at h
    obtain ⟨rfl, rfl⟩ := h
    obtain ⟨a, h1, rfl⟩ := t1_in2 _ _ _ e
    unfold cnt at h1
    exact ⟨rfl, by omega, by omega⟩
/-- A list of small numbers in a row. -/
def hx (l : List Int) : List (List Value) := l.map (fun x => [.int .u16 x])
theorem hx_at {V : World} {v : Value} {l : List Int} (h : Rw V 1 v (hx l)) : ∃ a c, v = .slice a l.length c ∧ l.length ≤ c ∧ c ≤ 9223372036854775807 ∧ ∀ i (hi : i < l.length), ∃ b off, a = some ⟨b, off, none⟩ ∧ ∀ W, Below V.heap.size V W → W.cell? ⟨b, off + i, none⟩ = some (.int .u16 l[i]) := by
  obtain ⟨a, c, rfl, h1, h2, -, h4⟩ := h
  have hl : (hx l).length = l.length := by simp [hx]
  rw [hl] at h1 h4 ⊢
  refine ⟨a, c, rfl, h1, h2, fun i hi => ?_⟩
  rcases h4 with e | ⟨b, off, rfl, hc⟩
  · have : l = [] := by simpa [hx] using e
    subst this
    cases hi
  · refine ⟨b, off, rfl, fun W hW => ?_⟩
    have e : (hx l).getD i [] = [.int .u16 l[i]] := by simp [hx, List.getD, List.getElem?_eq_getElem hi]
    have k := hc i hi
    rw [e] at k
    have k0 := k 0 _ rfl
    rw [Nat.add_zero, Nat.mul_one] at k0
    rw [hW.cell (p := ⟨b, _, none⟩) (cell_lt k0)]
    exact k0
end Po
end Go.Proofs.YtkbjiackjefkkaaDoor
