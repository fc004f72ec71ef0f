/-
  Each that was set is told once: lists in order.
-/
import Derived.Test.YtfplmefcblkljaaWhFace
namespace Go.Proofs.Ytfplmefcblkljaa
open Go.RowKit
open Sm
open Po
open Wh
set_option linter.unusedVariables false
set_option linter.unusedSimpArgs false
set_option maxRecDepth 20000

namespace Wh
theorem wdel_fresh {id : Int} {xs : List Du} (h : ∀ d ∈ xs, d.1 ≠ id) : wdel id xs = xs := (wat_no h).2
theorem wins_mem (d : Du) : ∀ (xs : List Du) (e : Du), e ∈ wins d xs ↔ e = d ∨ e ∈ xs
  | [], e => by simp [wins]
  | x :: r, e => by
    unfold wins
    split
    · rw [List.mem_cons, wins_mem d r e, List.mem_cons]
      constructor
      · rintro (h | h | h)
        · exact Or.inr (Or.inl h)
        · exact Or.inl h
        · exact Or.inr (Or.inr h)
      · rintro (h | h | h)
        · exact Or.inr (Or.inl h)
        · exact Or.inl h
        · exact Or.inr (Or.inr h)
    · rw [List.mem_cons]
theorem dlt_or {a b : Du} (h : ¬ dlt a b) (hne : a.1 ≠ b.1) : dlt b a := by
  unfold dlt at *
  omega
theorem dlt_tr {a b c : Du} (h1 : dlt a b) (h2 : dlt b c) : dlt a c := by
  unfold dlt at *
  omega
theorem wins_sorted (d : Du) : ∀ (xs : List Du), xs.Pairwise dlt → (∀ e ∈ xs, e.1 ≠ d.1) → (wins d xs).Pairwise dlt
  | [], _, _ => by simp [wins]
  | x :: r, h, hne => by
    obtain ⟨h1, h2⟩ := List.pairwise_cons.1 h
    unfold wins
    split
    · rename_i hd
      refine List.pairwise_cons.2 ⟨fun e he => ?_, wins_sorted d r h2 fun e he => hne e (List.mem_cons_of_mem _ he)⟩
      rcases (wins_mem d r e).1 he with rfl | he
      · exact hd
      · exact h1 e he
    · rename_i hd
      have hdx : dlt d x := dlt_or hd (hne x (List.mem_cons_self ..))
      refine List.pairwise_cons.2 ⟨fun e he => ?_, h⟩
      rcases List.mem_cons.1 he with rfl | he
      · exact hdx
      · exact dlt_tr hdx (h1 e he)
theorem wout_at (N : Int) : ∀ (xs : List Du) (q : Nat) (hq : q < (wout N xs).length), ∃ hx : q < xs.length, (wout N xs)[q] = xs[q].1 ∧ xs[q].2 ≤ N
  | [], q, hq => by simp [wout] at hq
  | d :: r, q, hq => by
    by_cases h : d.2 ≤ N
    · have e : wout N (d :: r) = d.1 :: wout N r := by simp [wout, h]
      match q, hq with
      | 0, hq => exact ⟨by simp, by simp only [e, List.getElem_cons_zero], h⟩
      | q + 1, hq =>
        obtain ⟨hx, h1, h2⟩ := wout_at N r q (by rw [e] at hq; simpa using hq)
        exact ⟨by simp; omega, by simp only [e, List.getElem_cons_succ]; exact h1, h2⟩
    · have e : wout N (d :: r) = [] := by simp [wout, h]
      rw [e] at hq
      simp at hq
theorem wout_rest (N : Int) : ∀ xs : List Du, (wout N xs).length + (wrest N xs).length = xs.length
  | [] => rfl
  | d :: r => by
    have := wout_rest N r
    unfold wout wrest
    split
    · simp only [List.length_cons]; omega
    · simp
theorem wrest_mem (N : Int) : ∀ xs : List Du, xs.Pairwise dlt → (wrest N xs).Pairwise dlt ∧ ∀ d ∈ wrest N xs, d ∈ xs ∧ N < d.2
  | [], h => ⟨h, by simp [wrest]⟩
  | d :: r, h => by
    obtain ⟨h1, h2⟩ := List.pairwise_cons.1 h
    unfold wrest
    split
    · obtain ⟨k1, k2⟩ := wrest_mem N r h2
      exact ⟨k1, fun e he => ⟨List.mem_cons_of_mem _ (k2 e he).1, (k2 e he).2⟩⟩
    · rename_i hd
      refine ⟨h, fun e he => ⟨he, ?_⟩⟩
      rcases List.mem_cons.1 he with rfl | he
      · omega
      · have := h1 e he
        unfold dlt at this
        omega
/-- When number j is due. -/
def onT (t : Int) (ks : Nat → Int) (j : Nat) : Int := t + 1 + ks j % 2000
/-- What is there behind i sets. -/
structure OI (t : Int) (ks : Nat → Int) (i : Nat) (xs : List Du) : Prop where
  sorted : xs.Pairwise dlt
  len : xs.length = i
  mem : ∀ d ∈ xs, ∃ j, j < i ∧ d = ((j : Int), onT t ks j)
theorem OI.nil (t : Int) (ks : Nat → Int) : OI t ks 0 [] := ⟨List.Pairwise.nil, rfl, by simp⟩
theorem OI.set {t : Int} {ks : Nat → Int} {i : Nat} {xs : List Du} (h : OI t ks i xs) : OI t ks (i + 1) (wset xs i (onT t ks i)) := by
  have hf : ∀ d ∈ xs, d.1 ≠ (i : Int) := fun d hd e => by
    obtain ⟨j, hj, rfl⟩ := h.mem d hd
    simp only at e
    omega
  unfold wset
  rw [wdel_fresh hf]
  refine ⟨wins_sorted _ _ h.sorted hf, by rw [wins_len, h.len], fun d hd => ?_⟩
  rcases (wins_mem _ _ _).1 hd with rfl | hd
  · exact ⟨i, by omega, rfl⟩
  · obtain ⟨j, hj, e⟩ := h.mem d hd
    exact ⟨j, by omega, e⟩
/-- What is there ahead of tick k. -/
structure OK (t : Int) (ks : Nat → Int) (n : Nat) (k : Int) (xs : List Du) : Prop where
  sorted : xs.Pairwise dlt
  mem : ∀ d ∈ xs, t + k ≤ d.2 ∧ ∃ j, j < n ∧ d = ((j : Int), onT t ks j)
theorem OI.ok {t : Int} {ks : Nat → Int} {n : Nat} {xs : List Du} (h : OI t ks n xs) : OK t ks n 1 xs :=
  ⟨h.sorted, fun d hd => by
    obtain ⟨j, hj, rfl⟩ := h.mem d hd
    refine ⟨?_, j, hj, rfl⟩
    show t + 1 ≤ onT t ks j
    unfold onT
    have := Int.emod_nonneg (ks j) (show (2000 : Int) ≠ 0 by decide)
    omega⟩
/-- What a tick tells. -/
theorem OK.told {t : Int} {ks : Nat → Int} {n : Nat} {k : Int} {xs : List Du} (h : OK t ks n k xs) {q : Nat} (hq : q < (wout (t + k) xs).length) :
    ∃ j : Nat, j < n ∧ (wout (t + k) xs)[q] = (j : Int) ∧ ks j % 2000 + 1 = k := by
  obtain ⟨hx, e, hle⟩ := wout_at _ xs q hq
  obtain ⟨hge, j, hj, ed⟩ := h.mem xs[q] (List.getElem_mem hx)
  refine ⟨j, hj, by rw [e, ed], ?_⟩
  rw [ed] at hge hle
  simp only [onT] at hge hle
  omega
theorem OK.order {t : Int} {ks : Nat → Int} {n : Nat} {k : Int} {xs : List Du} (h : OK t ks n k xs) {q : Nat} (hq : q + 1 < (wout (t + k) xs).length) :
    (wout (t + k) xs)[q] < (wout (t + k) xs)[q + 1] := by
  obtain ⟨hx, e, hle⟩ := wout_at (t + k) xs q (by omega)
  obtain ⟨hx2, e2, hle2⟩ := wout_at (t + k) xs (q + 1) hq
  have h1 := (h.mem xs[q] (List.getElem_mem hx)).1
  have h2 := (h.mem xs[q + 1] (List.getElem_mem hx2)).1
  have hd := List.pairwise_iff_getElem.1 h.sorted q (q + 1) hx hx2 (by omega)
  rw [e, e2]
  unfold dlt at hd
  omega
theorem OK.next {t : Int} {ks : Nat → Int} {n : Nat} {k : Int} {xs : List Du} (h : OK t ks n k xs) : OK t ks n (k + 1) (wrest (t + k) xs) := by
  obtain ⟨h1, h2⟩ := wrest_mem (t + k) xs h.sorted
  refine ⟨h1, fun d hd => ?_⟩
  obtain ⟨hm, hlt⟩ := h2 d hd
  exact ⟨by omega, (h.mem d hm).2⟩
theorem OK.done {t : Int} {ks : Nat → Int} {n : Nat} {xs : List Du} (h : OK t ks n 2001 xs) : xs = [] := by
  cases xs with
  | nil => rfl
  | cons d r =>
    obtain ⟨hge, j, hj, ed⟩ := h.mem d (List.mem_cons_self ..)
    rw [ed] at hge
    simp only [onT] at hge
    have := Int.emod_lt_of_pos (ks j) (show (0 : Int) < 2000 by decide)
    omega
end Wh
end Go.Proofs.Ytfplmefcblkljaa
