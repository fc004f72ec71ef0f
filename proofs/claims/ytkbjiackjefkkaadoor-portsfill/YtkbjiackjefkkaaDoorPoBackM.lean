/-
  Ports: points taken one behind the other, for two protocols: in numbers.
-/
import Derived.Test.YtkbjiackjefkkaaDoorPoFace
namespace Go.Proofs.YtkbjiackjefkkaaDoor
open Go.RowKit
open Sm
open Po
set_option linter.unusedVariables false
set_option linter.unusedSimpArgs false
set_option maxRecDepth 20000

namespace Po
theorem t1_first {xs : List Mk} {pr ip : Int} : ∀ (m n : Nat) (k : Int), (∀ a : Nat, a < m → (pr, ip, k + 2 * a) ∈ xs) → (pr, ip, k + 2 * m) ∉ xs → m < n → t1 xs pr ip n k = some (k + 2 * m)
  | 0, n + 1, k, _, h2, _ => by
    rw [t1, if_neg (by simpa using h2)]
    simp
  | m + 1, n + 1, k, h1, h2, h3 => by
    have h0 := h1 0 (by omega)
    rw [t1, if_pos (by simpa using h0), t1_first m n (k + 2) (fun a ha => by
      have := h1 (a + 1) (by omega)
      rwa [show k + 2 * ((a + 1 : Nat) : Int) = k + 2 + 2 * (a : Int) by omega] at this) (by rwa [show k + 2 + 2 * (m : Int) = k + 2 * ((m + 1 : Nat) : Int) by omega]) (by omega)]
    congr 1
    omega
/-- Two protocols' points, i of each, from F on. -/
def ms (F : Int) : Nat → List Mk
  | 0 => []
  | n + 1 => ms F n ++ [(6, 7, F + 2 * n)] ++ [(17, 7, F + 2 * n)]
theorem ms_len (F : Int) : ∀ n, (ms F n).length = 2 * n
  | 0 => rfl
  | n + 1 => by
    have := ms_len F n
    simp only [ms, List.length_append, List.length_singleton]
    omega
theorem mem_ms {F pr x : Int} : ∀ {n : Nat}, (pr, (7 : Int), x) ∈ ms F n ↔ (pr = 6 ∨ pr = 17) ∧ ∃ a : Nat, a < n ∧ x = F + 2 * a
  | 0 => by simp [ms]
  | n + 1 => by
    simp only [ms, List.mem_append, List.mem_singleton, Prod.mk.injEq, true_and, mem_ms (n := n)]
    constructor
    · rintro ((⟨h, a, h1, h2⟩ | ⟨h, h2⟩) | ⟨h, h2⟩)
      · exact ⟨h, a, by omega, h2⟩
      · exact ⟨Or.inl h, n, by omega, h2⟩
      · exact ⟨Or.inr h, n, by omega, h2⟩
    · rintro ⟨h, a, h1, h2⟩
      by_cases e : a = n
      · subst e
        rcases h with h | h
        · exact Or.inl (Or.inr ⟨h, h2⟩)
        · exact Or.inr ⟨h, h2⟩
      · exact Or.inl (Or.inl ⟨h, a, by omega, h2⟩)
theorem ms_nodup (F : Int) : ∀ n, (ms F n).Nodup
  | 0 => List.nodup_nil
  | n + 1 => by
    have h6 : ((6 : Int), (7 : Int), F + 2 * (n : Int)) ∉ ms F n := by
      rw [mem_ms]
      rintro ⟨-, a, h1, h2⟩
      omega
    have h17 : ((17 : Int), (7 : Int), F + 2 * (n : Int)) ∉ ms F n := by
      rw [mem_ms]
      rintro ⟨-, a, h1, h2⟩
      omega
    rw [ms, List.append_assoc, List.nodup_append]
    refine ⟨ms_nodup F n, by simp, fun x hx y hy => ?_⟩
    simp only [List.singleton_append, List.mem_cons, List.not_mem_nil, or_false] at hy
    rcases hy with rfl | rfl
    · rintro rfl
      exact h6 hx
    · rintro rfl
      exact h17 hx
theorem tk_one {xs : List Mk} {pr F T ip : Int} {m : Nat} (h1 : ∀ a : Nat, a < m → (pr, ip, F + 2 * a) ∈ xs) (h2 : (pr, ip, F + 2 * m) ∉ xs) (h3 : F + 2 * m ≤ T) : tk xs pr F T [ip] = some (ip, F + 2 * m) := by
  rw [tk, t1_first m _ F h1 h2 (by unfold cnt; omega)]
theorem tk_six {F T : Int} {n : Nat} (h : F + 2 * n ≤ T) : tk (ms F n) 6 F T [7] = some (7, F + 2 * n) :=
  tk_one (fun a ha => mem_ms.2 ⟨Or.inl rfl, a, ha, rfl⟩) (fun h => by obtain ⟨-, a, h1, h2⟩ := mem_ms.1 h; omega) h
theorem tk_sev {F T : Int} {n : Nat} (h : F + 2 * n ≤ T) : tk (ms F n ++ [(6, 7, F + 2 * n)]) 17 F T [7] = some (7, F + 2 * n) :=
  tk_one (fun a ha => List.mem_append_left _ (mem_ms.2 ⟨Or.inr rfl, a, ha, rfl⟩)) (fun h => by
    rcases List.mem_append.1 h with h | h
    · obtain ⟨-, a, h1, h2⟩ := mem_ms.1 h; omega
    · simp at h) h
/-- Behind a point that was freed. -/
theorem er_no {F : Int} {n j : Nat} : ((6 : Int), (7 : Int), F + 2 * (j : Int)) ∉ (ms F n).erase (6, 7, F + 2 * j) := (ms_nodup F n).not_mem_erase
theorem er_in {F : Int} {n j : Nat} (h : j < n) : ((6 : Int), (7 : Int), F + 2 * (j : Int)) ∈ ms F n := mem_ms.2 ⟨Or.inl rfl, j, h, rfl⟩
theorem er_sev {F : Int} {n j : Nat} (h : j < n) : ((17 : Int), (7 : Int), F + 2 * (j : Int)) ∈ (ms F n).erase (6, 7, F + 2 * j) :=
  (List.mem_erase_of_ne (by simp)).2 (mem_ms.2 ⟨Or.inr rfl, j, h, rfl⟩)
theorem er_len {F : Int} {n j : Nat} (h : j < n) : ((ms F n).erase (6, 7, F + 2 * j)).length = 2 * n - 1 := by
  rw [List.length_erase_of_mem (er_in h), ms_len]
theorem tk_er {F T : Int} {n j : Nat} (h : j < n) (hT : F + 2 * j ≤ T) : tk ((ms F n).erase (6, 7, F + 2 * j)) 6 F T [7] = some (7, F + 2 * j) :=
  tk_one (fun a ha => (List.mem_erase_of_ne (by simp; omega)).2 (mem_ms.2 ⟨Or.inl rfl, a, by omega, rfl⟩)) er_no hT
/-- The first port of a class, and the last. -/
theorem back_F {want : Int} (h0 : 0 ≤ want) : ∃ F T : Int, frm 1 want = F ∧ upt 65535 want = T ∧ 1 ≤ F ∧ F ≤ 1025 ∧ F + 42 ≤ T ∧ T ≤ 65535 := by
  refine ⟨_, _, rfl, rfl, ?_⟩
  unfold frm upt
  split <;> split <;> omega
/-- Points, one behind the other. -/
def pz (F : Int) : Nat → List (List Value)
  | 0 => []
  | n + 1 => pz F n ++ [[.int .u32 7, .int .u16 (F + 2 * n)]]
theorem pz_len (F : Int) : ∀ n, (pz F n).length = n
  | 0 => rfl
  | n + 1 => by simp [pz, pz_len F n]
theorem pz_two {F : Int} : ∀ {n : Nat}, ∀ x ∈ pz F n, x.length = 2
  | 0, x, h => by cases h
  | n + 1, x, h => by
    rcases List.mem_append.1 h with h | h
    · exact pz_two x h
    · rw [List.mem_singleton.1 h]; rfl
theorem pz_at {F : Int} : ∀ {n j : Nat}, j < n → (pz F n).getD j [] = [.int .u32 7, .int .u16 (F + 2 * j)]
  | n + 1, j, h => by
    rw [pz]
    by_cases e : j < n
    · have := pz_at (F := F) e
      simp only [List.getD] at this ⊢
      rw [List.getElem?_append_left (by rw [pz_len]; exact e)]
      exact this
    · have : j = n := by omega
      subst this
      simp only [List.getD]
      rw [List.getElem?_append_right (by rw [pz_len]; omega), pz_len]
      simp
end Po
end Go.Proofs.YtkbjiackjefkkaaDoor
