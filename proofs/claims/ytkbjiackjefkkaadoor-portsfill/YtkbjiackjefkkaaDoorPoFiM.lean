/-
  Ports: a pool that is filled, in numbers.
-/
import Derived.Test.YtkbjiackjefkkaaDoorPoBackM
namespace Go.Proofs.YtkbjiackjefkkaaDoor
open Go.RowKit
open Sm
open Po
set_option linter.unusedVariables false
set_option linter.unusedSimpArgs false
set_option maxRecDepth 20000

namespace Po
theorem t1_none {xs : List Mk} {pr ip : Int} : ∀ (n : Nat) (k : Int), (∀ a : Nat, a < n → (pr, ip, k + 2 * a) ∈ xs) → t1 xs pr ip n k = none
  | 0, k, _ => rfl
  | n + 1, k, h => by
    have h0 := h 0 (by omega)
    rw [t1, if_pos (by simpa using h0)]
    exact t1_none n (k + 2) fun a ha => by
      have := h (a + 1) (by omega)
      rwa [show k + 2 * ((a + 1 : Nat) : Int) = k + 2 + 2 * (a : Int) by omega] at this
theorem tk_skip {xs : List Mk} {pr F T ip k : Int} {l2 : List Int} : ∀ (l1 : List Int), (∀ j ∈ l1, t1 xs pr j (cnt F T) F = none) → t1 xs pr ip (cnt F T) F = some k → tk xs pr F T (l1 ++ ip :: l2) = some (ip, k)
  | [], _, h => by rw [List.nil_append, tk, h]
  | j :: l1, h1, h => by
    rw [List.cons_append, tk, h1 j (by simp)]
    exact tk_skip l1 (fun q hq => h1 q (by simp [hq])) h
theorem tk_all {xs : List Mk} {pr F T : Int} : ∀ (l : List Int), (∀ j ∈ l, t1 xs pr j (cnt F T) F = none) → tk xs pr F T l = none
  | [], _ => rfl
  | j :: l, h => by
    rw [tk, h j (by simp)]
    exact tk_all l fun q hq => h q (by simp [hq])
/-- Of want's class. -/
def cls (want q : Int) : Prop := q % 2 = want % 2 ∧ (q < 1024 ↔ want < 1024)
theorem cls_fwd {lo hi want : Int} {a : Nat} (h : frm lo want + 2 * a ≤ upt hi want) : cls want (frm lo want + 2 * a) ∧ lo ≤ frm lo want + 2 * a ∧ frm lo want + 2 * a ≤ hi := by
  unfold frm upt at h
  unfold frm cls
  by_cases hw : want < 1024
  · simp only [hw, if_true, iff_true] at h ⊢
    split at h <;> split <;> omega
  · simp only [hw, if_false, iff_false] at h ⊢
    split at h <;> split <;> omega
theorem cls_bwd {lo hi want q : Int} (h : cls want q) (h1 : lo ≤ q) (h2 : q ≤ hi) : ∃ m : Nat, q = frm lo want + 2 * m ∧ frm lo want + 2 * m ≤ upt hi want := by
  obtain ⟨h3, h4⟩ := h
  unfold frm upt
  by_cases hw : want < 1024
  · have := h4.2 hw
    simp only [hw, if_true]
    split
    · exact ⟨((q - lo) / 2).toNat, by omega, by omega⟩
    · exact ⟨((q - (lo + 1)) / 2).toNat, by omega, by omega⟩
  · have : ¬ q < 1024 := fun e => hw (h4.1 e)
    simp only [hw, if_false]
    split
    · exact ⟨((q - max lo 1024) / 2).toNat, by omega, by omega⟩
    · exact ⟨((q - (max lo 1024 + 1)) / 2).toNat, by omega, by omega⟩
/-- Addresses ahead of the i-th are full; of the i-th what lies below k. -/
def MF (lo hi want : Int) (i : Nat) (k : Int) (xs : List Mk) : Prop :=
  ∀ ip q : Int, ((6 : Int), ip, q) ∈ xs ↔ (∃ a : Nat, a < i ∧ ip = 9 - a ∧ cls want q ∧ lo ≤ q ∧ q ≤ hi) ∨ (ip = 9 - (i : Int) ∧ cls want q ∧ lo ≤ q ∧ q < k)
def fp (n : Nat) : List Int := (List.range n).map fun a : Nat => 9 - (a : Int)
theorem fp_len (n : Nat) : (fp n).length = n := by simp [fp]
theorem fp_snoc (n : Nat) : fp (n + 1) = fp n ++ [9 - (n : Int)] := by simp [fp, List.range_succ]
theorem fp_at {n i : Nat} (h : i < n) : (fp n)[i]? = some (9 - (i : Int)) := by simp [fp, h]
theorem fp_split {n i : Nat} (h : i < n) : fp n = fp i ++ (9 - (i : Int)) :: (fp n).drop (i + 1) := by
  have e : (fp n).take i = fp i := by
    unfold fp
    rw [← List.map_take, List.take_range, Nat.min_eq_left (by omega)]
  have hl : i < (fp n).length := by rw [fp_len]; exact h
  conv => lhs; rw [← List.take_append_drop i (fp n), e, List.drop_eq_getElem_cons hl]
  congr 2
  have := fp_at h
  rw [List.getElem?_eq_getElem hl] at this
  exact Option.some.inj this
theorem mf_none {lo hi want : Int} {i a : Nat} {k : Int} {xs : List Mk} (h : MF lo hi want i k xs) (ha : a < i) : t1 xs 6 (9 - (a : Int)) (cnt (frm lo want) (upt hi want)) (frm lo want) = none := by
  apply t1_none
  intro b hb
  have hle : frm lo want + 2 * b ≤ upt hi want := by unfold cnt at hb; omega
  obtain ⟨h1, h2, h3⟩ := cls_fwd hle
  exact (h _ _).2 (Or.inl ⟨a, ha, rfl, h1, h2, h3⟩)
theorem mf_take {lo hi want : Int} {i n : Nat} {k : Int} {xs : List Mk} (h : MF lo hi want i k xs) (hi1 : i < n) (h1 : cls want k) (h2 : lo ≤ k) (h3 : k ≤ hi) : tk xs 6 (frm lo want) (upt hi want) (fp n) = some (9 - (i : Int), k) := by
  obtain ⟨m, rfl, hm⟩ := cls_bwd h1 h2 h3
  rw [fp_split hi1]
  apply tk_skip
  · intro j hj
    simp only [fp, List.mem_map, List.mem_range] at hj
    obtain ⟨a, ha, rfl⟩ := hj
    exact mf_none h ha
  · apply t1_first
    · intro a ha
      obtain ⟨e1, e2, e3⟩ := cls_fwd (lo := lo) (hi := hi) (want := want) (a := a) (by omega)
      exact (h _ _).2 (Or.inr ⟨rfl, e1, e2, by omega⟩)
    · intro hin
      rcases (h _ _).1 hin with ⟨a, ha, e, -⟩ | ⟨-, -, -, e⟩
      · omega
      · omega
    · unfold cnt; omega
theorem mf_end {lo hi want : Int} {n : Nat} {k : Int} {xs : List Mk} (h : MF lo hi want n k xs) : tk xs 6 (frm lo want) (upt hi want) (fp n) = none := by
  apply tk_all
  intro j hj
  simp only [fp, List.mem_map, List.mem_range] at hj
  obtain ⟨a, ha, rfl⟩ := hj
  exact mf_none h ha
theorem mf_zero (lo hi want : Int) : MF lo hi want 0 lo [] := by
  intro ip q
  constructor
  · intro h; cases h
  · rintro (⟨a, ha, -⟩ | ⟨-, -, h1, h2⟩)
    · cases ha
    · omega
theorem mf_skip {lo hi want : Int} {i : Nat} {k : Int} {xs : List Mk} (h : MF lo hi want i k xs) (hc : ¬ cls want k) : MF lo hi want i (k + 1) xs := by
  intro ip q
  rw [h ip q]
  constructor
  · rintro (h1 | ⟨h1, h2, h3, h4⟩)
    · exact Or.inl h1
    · exact Or.inr ⟨h1, h2, h3, by omega⟩
  · rintro (h1 | ⟨h1, h2, h3, h4⟩)
    · exact Or.inl h1
    · have : q ≠ k := fun e => hc (e ▸ h2)
      exact Or.inr ⟨h1, h2, h3, by omega⟩
theorem mf_more {lo hi want : Int} {i : Nat} {k : Int} {xs : List Mk} (h : MF lo hi want i k xs) (hc : cls want k) (h1 : lo ≤ k) : MF lo hi want i (k + 1) (xs ++ [(6, 9 - (i : Int), k)]) := by
  intro ip q
  rw [List.mem_append, h ip q]
  simp only [List.mem_singleton, Prod.mk.injEq, true_and]
  constructor
  · rintro ((h1 | ⟨h1, h2, h3, h4⟩) | ⟨rfl, rfl⟩)
    · exact Or.inl h1
    · exact Or.inr ⟨h1, h2, h3, by omega⟩
    · exact Or.inr ⟨rfl, hc, h1, by omega⟩
  · rintro (h1 | ⟨h1, h2, h3, h4⟩)
    · exact Or.inl (Or.inl h1)
    · by_cases e : q = k
      · exact Or.inr ⟨h1, e⟩
      · exact Or.inl (Or.inr ⟨h1, h2, h3, by omega⟩)
theorem mf_next {lo hi want : Int} {i : Nat} {xs : List Mk} (h : MF lo hi want i (hi + 1) xs) : MF lo hi want (i + 1) lo xs := by
  intro ip q
  rw [h ip q]
  constructor
  · rintro (⟨a, h1, h2⟩ | ⟨h1, h2, h3, h4⟩)
    · exact Or.inl ⟨a, by omega, h2⟩
    · exact Or.inl ⟨i, by omega, h1, h2, h3, by omega⟩
  · rintro (⟨a, h1, h2, h3, h4, h5⟩ | ⟨-, -, h3, h4⟩)
    · by_cases e : a = i
      · subst e; exact Or.inr ⟨h2, h3, h4, by omega⟩
      · exact Or.inl ⟨a, by omega, h2, h3, h4, h5⟩
    · omega
end Po
end Go.Proofs.YtkbjiackjefkkaaDoor
