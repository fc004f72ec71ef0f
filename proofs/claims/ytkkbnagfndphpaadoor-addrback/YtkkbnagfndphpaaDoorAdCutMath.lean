/-
  Plain mathematics: a text cut at a sign, at all of them, or at so many.
-/
import Derived.Test.YtkkbnagfndphpaaDoorAdMath
import Derived.Lib.SplitLaws
namespace Go.Proofs.YtkkbnagfndphpaaDoor
namespace Ad
set_option linter.unusedVariables false

def cut (c : UInt8) : List UInt8 → List (List UInt8)
  | [] => [[]]
  | x :: l => if x = c then [] :: cut c l else match cut c l with
    | [] => [[x]]
    | p :: r => (x :: p) :: r
theorem cut_free (c : UInt8) : ∀ {l : List UInt8}, (∀ x ∈ l, x ≠ c) → cut c l = [l]
  | [], _ => rfl
  | x :: l, h => by
    rw [cut, if_neg (h x (by simp)), cut_free c (fun y hy => h y (by simp [hy]))]
theorem cut_at (c : UInt8) (t : List UInt8) : ∀ {p : List UInt8}, (∀ x ∈ p, x ≠ c) → cut c (p ++ c :: t) = p :: cut c t
  | [], _ => by rw [List.nil_append, cut, if_pos rfl]
  | x :: p, h => by
    rw [List.cons_append, cut, if_neg (h x (by simp)), cut_at c t (fun y hy => h y (by simp [hy]))]
theorem cut_pos (c : UInt8) : ∀ (l : List UInt8), 0 < (cut c l).length
  | [] => by simp [cut]
  | x :: l => by
    rw [cut]
    split
    · simp
    · split <;> simp
/-- A text is free of the sign, or cut at its first. -/
theorem first_cut (c : UInt8) (l : List UInt8) : (∀ x ∈ l, x ≠ c) ∨ ∃ p t, l = p ++ c :: t ∧ ∀ x ∈ p, x ≠ c := by
  induction l with
  | nil => exact Or.inl (by simp)
  | cons x l ih =>
    by_cases hx : x = c
    · exact Or.inr ⟨[], l, by simp [hx], by simp⟩
    · rcases ih with h | ⟨p, t, h1, h2⟩
      · refine Or.inl fun y hy => ?_
        rcases List.mem_cons.1 hy with rfl | hy
        · exact hx
        · exact h y hy
      · refine Or.inr ⟨x :: p, t, by rw [h1]; rfl, fun y hy => ?_⟩
        rcases List.mem_cons.1 hy with rfl | hy
        · exact hx
        · exact h2 y hy
theorem cut_len_le (c : UInt8) : ∀ (l : List UInt8), (cut c l).length ≤ l.length + 1
  | [] => by simp [cut]
  | x :: l => by
    have ih := cut_len_le c l
    rw [cut]
    split
    · simp only [List.length_cons]; omega
    · split
      · simp
      · rename_i h; rw [h] at ih; simp only [List.length_cons] at ih ⊢; omega
theorem index_free {c : UInt8} {l : List UInt8} (h : ∀ x ∈ l, x ≠ c) : Lib.index l [c] = -1 := by
  apply Lib.index_none
  intro j _
  cases e : Lib.occAt l [c] j with
  | false => rfl
  | true => exact absurd rfl (h c (List.mem_of_getElem? (Lib.occAt_head rfl e)))
theorem index_cut {c : UInt8} {p t : List UInt8} (h : ∀ x ∈ p, x ≠ c) : Lib.index (p ++ c :: t) [c] = p.length := by
  apply Lib.index_first
  · simp
  · rw [Lib.occAt_iff_take _ _ _ (by simp)]
    simp
  · intro j hj
    cases e : Lib.occAt (p ++ c :: t) [c] j with
    | false => rfl
    | true =>
      have := Lib.occAt_head rfl e
      rw [List.getElem?_append_left hj] at this
      exact absurd rfl (h c (List.mem_of_getElem? this))
theorem split_cut (c : UInt8) : ∀ (k : Nat) (l : List UInt8), ((cut c l).length ≤ k + 1 ∧ Lib.splitK [c] 0 k l = cut c l) ∨ (k + 1 < (cut c l).length ∧ (Lib.splitK [c] 0 k l).length = k + 1)
  | 0, l => by
    rcases first_cut c l with h | ⟨p, t, rfl, h⟩
    · rw [cut_free c h]; exact Or.inl ⟨by simp, rfl⟩
    · rw [cut_at c t h]
      have := cut_pos c t
      exact Or.inr ⟨by simp only [List.length_cons]; omega, rfl⟩
  | k + 1, l => by
    rcases first_cut c l with h | ⟨p, t, rfl, h⟩
    · rw [cut_free c h]
      refine Or.inl ⟨by simp, ?_⟩
      rw [Lib.splitK, index_free h]; rfl
    · have e : Lib.splitK [c] 0 (k + 1) (p ++ c :: t) = p :: Lib.splitK [c] 0 k t := by
        have hne : ¬ ((((p.length : Nat) : Int) == -1) = true) := by
          intro hh
          have := beq_iff_eq.1 hh
          omega
        rw [Lib.splitK, index_cut h, if_neg hne]
        have h1 : (p ++ c :: t).take (((p.length : Nat) : Int).toNat + 0) = p := by simp
        have h2 : (p ++ c :: t).drop (((p.length : Nat) : Int).toNat + [c].length) = t := by
          rw [show ((p.length : Nat) : Int).toNat + [c].length = (p ++ [c]).length by simp, show p ++ c :: t = (p ++ [c]) ++ t by simp, List.drop_left]
        rw [h1, h2]
      rw [e, cut_at c t h]
      rcases split_cut c k t with ⟨h1, h2⟩ | ⟨h1, h2⟩
      · exact Or.inl ⟨by simp only [List.length_cons]; omega, by rw [h2]⟩
      · exact Or.inr ⟨by simp only [List.length_cons]; omega, by simp only [List.length_cons]; omega⟩
/-- A text cut into at most n parts has m of them, m less than n, just where it has m in all, and then they are these. -/
theorem split_n (c : UInt8) (s : ByteArray) (n m : Nat) (hm : m < n) :
    ((Lib.splitB ⟨#[c]⟩ 0 (min n (s.size + 1) - 1) s).length = m ∧ (Lib.splitB ⟨#[c]⟩ 0 (min n (s.size + 1) - 1) s).map (·.data.toList) = cut c s.data.toList ∧ (cut c s.data.toList).length = m) ∨
    ((Lib.splitB ⟨#[c]⟩ 0 (min n (s.size + 1) - 1) s).length ≠ m ∧ (cut c s.data.toList).length ≠ m) := by
  have hd := Lib.splitB_data ⟨#[c]⟩ 0 (min n (s.size + 1) - 1) s
  have hl : (Lib.splitB ⟨#[c]⟩ 0 (min n (s.size + 1) - 1) s).length = (Lib.splitK [c] 0 (min n (s.size + 1) - 1) s.data.toList).length := by
    rw [← List.length_map (f := fun x : ByteArray => x.data.toList), hd]
  have hle := cut_len_le c s.data.toList
  rw [text_len] at hle
  rcases split_cut c (min n (s.size + 1) - 1) s.data.toList with ⟨h1, h2⟩ | ⟨h1, h2⟩
  · rw [h2] at hl
    by_cases e : (cut c s.data.toList).length = m
    · exact Or.inl ⟨by rw [hl, e], by rw [hd]; exact h2, e⟩
    · exact Or.inr ⟨by rw [hl]; exact e, e⟩
  · refine Or.inr ⟨by rw [hl, h2]; omega, by omega⟩
end Ad
end Go.Proofs.YtkkbnagfndphpaaDoor
