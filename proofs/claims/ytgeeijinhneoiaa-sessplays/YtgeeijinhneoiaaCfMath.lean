/-
  Settings as bytes, the numbers alone: numbers of so many bytes, the highest first, and what is read off a row of bytes.
-/
import Derived.Test.YtgeeijinhneoiaaKit
namespace Go.Proofs.Ytgeeijinhneoiaa
open Go.RowKit
open Sm
set_option linter.unusedVariables false
namespace Cf
/-- The lowest n bytes of x, the highest first. -/
def be : Nat → Int → List Int
  | 0, _ => []
  | n + 1, x => (x / 256 ^ n % 256) :: be n x
theorem be_len : ∀ (n : Nat) (x : Int), (be n x).length = n
  | 0, _ => rfl
  | n + 1, x => by simp [be, be_len n x]
theorem mod_byte (x : Int) : 0 ≤ x % 256 ∧ x % 256 ≤ 255 := by omega
theorem be_bytes : ∀ (n : Nat) (x : Int), IsBytes (be n x)
  | 0, _ => bytes_nil
  | n + 1, x => bytes_cons (mod_byte _) (be_bytes n x)
theorem be_get : ∀ (n : Nat) (x : Int) (i : Nat), i < n → (be n x).getD i 0 = x / 256 ^ (n - 1 - i) % 256
  | n + 1, x, 0, _ => by simp [be]
  | n + 1, x, i + 1, h => by
    rw [be, List.getD_cons_succ, be_get n x i (by omega), show n + 1 - 1 - (i + 1) = n - 1 - i by omega]
theorem be_take (n : Nat) (x : Int) (i : Nat) (h : i < n) : (be n x).take (i + 1) = (be n x).take i ++ [x / 256 ^ (n - 1 - i) % 256] := by
  rw [List.take_succ_eq_append_getElem (by rw [be_len]; exact h)]
  congr 2
  rw [← be_get n x i h]
  simp [List.getD, be_len, h]
/-- The number that bytes are. -/
def num (l : List Int) : Int := l.foldl (fun x y => x * 256 + y) 0
theorem num_snoc (l : List Int) (y : Int) : num (l ++ [y]) = num l * 256 + y := by simp [num]
theorem num_take (l : List Int) (i : Nat) (h : i < l.length) : num (l.take (i + 1)) = num (l.take i) * 256 + l.getD i 0 := by
  rw [List.take_succ_eq_append_getElem h, num_snoc]
  simp [List.getD, h]
theorem fold_range (l : List Int) : ∀ (a : Int), IsBytes l → 0 ≤ a → a * 256 ^ l.length ≤ l.foldl (fun x y => x * 256 + y) a ∧ l.foldl (fun x y => x * 256 + y) a < (a + 1) * 256 ^ l.length := by
  induction l with
  | nil => intro a _ h; simp; omega
  | cons y l ih =>
    intro a hb h
    have hy := hb 0
    simp only [List.getD_cons_zero] at hy
    have hb' : IsBytes l := fun i => by have := hb (i + 1); simpa using this
    obtain ⟨h1, h2⟩ := ih (a * 256 + y) hb' (by omega)
    simp only [List.foldl_cons, List.length_cons, Int.pow_succ]
    have hp : (0 : Int) < 256 ^ l.length := Int.pow_pos (by decide)
    generalize (256 : Int) ^ l.length = q at h1 h2 hp ⊢
    constructor
    · refine Int.le_trans ?_ h1
      rw [Int.mul_comm q 256, ← Int.mul_assoc]
      exact Int.mul_le_mul_of_nonneg_right (by omega) (by omega)
    · refine Int.lt_of_lt_of_le h2 ?_
      rw [Int.mul_comm q 256, ← Int.mul_assoc]
      exact Int.mul_le_mul_of_nonneg_right (by omega) (by omega)
theorem num_range {l : List Int} (h : IsBytes l) : 0 ≤ num l ∧ num l < 256 ^ l.length := by
  have := fold_range l 0 h (Int.le_refl _)
  simp only [Int.zero_mul, Int.zero_add, Int.one_mul] at this
  exact this
theorem bytes_tk {l : List Int} (h : IsBytes l) (i : Nat) : IsBytes (l.take i) := by
  have := bytes_part h 0 i
  simpa using this
theorem bytes_dr {l : List Int} (h : IsBytes l) (i : Nat) : IsBytes (l.drop i) := by
  intro j
  have : (l.drop i).getD j 0 = l.getD (i + j) 0 := by simp [List.getD]
  rw [this]; exact h _
theorem bytes_app {a b : List Int} (ha : IsBytes a) (hb : IsBytes b) : IsBytes (a ++ b) := by
  intro i
  by_cases h : i < a.length
  · have : (a ++ b).getD i 0 = a.getD i 0 := by simp [List.getD, List.getElem?_append_left h]
    rw [this]; exact ha i
  · have : (a ++ b).getD i 0 = b.getD (i - a.length) 0 := by simp [List.getD, List.getElem?_append_right (Nat.le_of_not_lt h)]
    rw [this]; exact hb _
end Cf
end Go.Proofs.Ytgeeijinhneoiaa
