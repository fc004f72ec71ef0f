/-
  Wheel, the program's own: in which slot what is due lies; what a tick makes of the slots.
-/
import Derived.Test.YtfplmefcblkljaaWpMap
import Derived.Lib.BitFns
import Derived.Lib.ItoaNum
namespace Go.Proofs.Ytfplmefcblkljaa
open Go.RowKit
open Sm
open Wh
set_option linter.unusedVariables false
set_option linter.unusedSimpArgs false
set_option maxRecDepth 20000

namespace Wp
def dg (t l : Nat) : Nat := t / 16 ^ l % 16
def slo (t l : Nat) : Nat := l * 16 + dg t l
def lv (a b : Nat) : Nat := (Lib.bitLen (a ^^^ b) - 1) / 4
def bump (t n : Nat) : Nat := if t ≤ n then (n + 1) % 4294967296 else t
def pl (t n : Nat) : Nat := slo (bump t n) (lv (bump t n) n)
theorem pow16 (l : Nat) : 16 ^ l = 2 ^ (4 * l) := by rw [show (16 : Nat) = 2 ^ 4 by decide, ← Nat.pow_mul]
theorem xor_zero {a b : Nat} : a ^^^ b = 0 ↔ a = b := by
  constructor
  · intro h
    have := congrArg (· ^^^ b) h
    simpa [Nat.xor_assoc] using this
  · rintro rfl
    exact Nat.xor_self a
theorem xor_ne {a b : Nat} (h : a ≠ b) : a ^^^ b ≠ 0 := fun e => h (xor_zero.1 e)
theorem lv_spec {a b : Nat} (ha : a < 4294967296) (hb : b < 4294967296) (h : a ≠ b) : 1 ≤ Lib.bitLen (a ^^^ b) ∧ Lib.bitLen (a ^^^ b) ≤ 32 ∧ lv a b ≤ 7 ∧ a / 16 ^ (lv a b + 1) = b / 16 ^ (lv a b + 1) ∧ a / 16 ^ lv a b ≠ b / 16 ^ lv a b := by
  have hx : a ^^^ b < 2 ^ 32 := Nat.xor_lt_two_pow ha hb
  have hx0 := xor_ne h
  obtain ⟨h1, h2, h3⟩ := Lib.bitLenAux_bounds 64 (a ^^^ b) (by omega) hx0
  have h4 : Lib.bitLen (a ^^^ b) ≤ 32 := Lib.bitLen_le _ 32 (by omega) hx
  change 1 ≤ Lib.bitLen (a ^^^ b) at h1
  change 2 ^ (Lib.bitLen (a ^^^ b) - 1) ≤ _ at h2
  change _ < 2 ^ Lib.bitLen (a ^^^ b) at h3
  refine ⟨h1, h4, by unfold lv; omega, ?_, ?_⟩
  · rw [pow16, ← Nat.shiftRight_eq_div_pow, ← Nat.shiftRight_eq_div_pow, ← xor_zero, ← Nat.shiftRight_xor_distrib, Nat.shiftRight_eq_div_pow]
    refine Nat.div_eq_of_lt (Nat.lt_of_lt_of_le h3 (Nat.pow_le_pow_right (by omega) ?_))
    unfold lv
    omega
  · rw [pow16, ← Nat.shiftRight_eq_div_pow, ← Nat.shiftRight_eq_div_pow]
    intro e
    rw [← xor_zero, ← Nat.shiftRight_xor_distrib, Nat.shiftRight_eq_div_pow] at e
    have hp : 2 ^ (4 * lv a b) ≤ a ^^^ b := Nat.le_trans (Nat.pow_le_pow_right (by omega) (by unfold lv; omega)) h2
    have := Nat.div_pos hp (Nat.pow_pos (by omega))
    omega
theorem div_up {a b l m : Nat} (h : a / 16 ^ l = b / 16 ^ l) (hlm : l ≤ m) : a / 16 ^ m = b / 16 ^ m := by
  obtain ⟨k, rfl⟩ : ∃ k, m = l + k := ⟨m - l, by omega⟩
  rw [Nat.pow_add, ← Nat.div_div_eq_div_mul, ← Nat.div_div_eq_div_mul, h]
theorem lv_one {a b l m : Nat} (h1 : a / 16 ^ (l + 1) = b / 16 ^ (l + 1)) (h2 : a / 16 ^ l ≠ b / 16 ^ l) (h3 : a / 16 ^ (m + 1) = b / 16 ^ (m + 1)) (h4 : a / 16 ^ m ≠ b / 16 ^ m) : l = m := by
  rcases Nat.lt_trichotomy l m with h | h | h
  · exact absurd (div_up h1 (show l + 1 ≤ m by omega)) h4
  · exact h
  · exact absurd (div_up h3 (show m + 1 ≤ l by omega)) h2
theorem dg_lt (t l : Nat) : dg t l < 16 := Nat.mod_lt _ (by omega)
theorem slo_inj {a b l m : Nat} (h : slo a l = slo b m) : l = m ∧ dg a l = dg b m := by
  have h1 := dg_lt a l
  have h2 := dg_lt b m
  unfold slo at h
  omega
theorem slo_lt {t l : Nat} (h : l ≤ 7) : slo t l < 128 := by
  have := dg_lt t l
  unfold slo
  omega
theorem dg_ne {a b l : Nat} (h1 : a / 16 ^ (l + 1) = b / 16 ^ (l + 1)) (h2 : a / 16 ^ l ≠ b / 16 ^ l) : dg a l ≠ dg b l := by
  unfold dg
  rw [Nat.pow_succ, ← Nat.div_div_eq_div_mul, ← Nat.div_div_eq_div_mul] at h1
  omega
theorem bump_ne {t n : Nat} (hn : n < 4294967296) : bump t n ≠ n := by unfold bump; split <;> omega
theorem bump_lt {t n : Nat} (ht : t < 4294967296) : bump t n < 4294967296 := by unfold bump; split <;> omega
theorem pl_lt {t n : Nat} (ht : t < 4294967296) (hn : n < 4294967296) : pl t n < 128 := slo_lt (lv_spec (bump_lt ht) hn (bump_ne hn)).2.2.1
/-- What is due lies where the next tick looks. -/
theorem pl_due {t n : Nat} (hn : n + 1 < 4294967296) (h : t ≤ n + 1) : ∃ l, l < 8 ∧ pl t n = slo (n + 1) l := by
  have e : bump t n = n + 1 := by
    unfold bump
    split
    · exact Nat.mod_eq_of_lt hn
    · omega
  unfold pl
  rw [e]
  exact ⟨_, Nat.lt_succ_of_le (lv_spec hn (by omega) (by omega)).2.2.1, rfl⟩
/-- What isn't due lies nowhere where this tick looked. -/
theorem pl_off {t n : Nat} (ht : t < 4294967296) (hn : n < 4294967296) (h : n < t) (l : Nat) : pl t n ≠ slo n l := by
  have e : bump t n = t := by unfold bump; rw [if_neg (by omega)]
  unfold pl
  rw [e]
  obtain ⟨-, -, -, h1, h2⟩ := lv_spec ht hn (by omega)
  intro hh
  obtain ⟨e1, e2⟩ := slo_inj hh
  rw [← e1] at e2
  exact dg_ne h1 h2 e2
/-- And lies where it lay, but where this tick looks. -/
theorem pl_stay {t n : Nat} (ht : t < 4294967296) (h : n + 1 < t) (hno : ∀ l, l < 8 → pl t n ≠ slo (n + 1) l) : pl t (n + 1) = pl t n := by
  have e : bump t n = t := by unfold bump; rw [if_neg (by omega)]
  have e' : bump t (n + 1) = t := by unfold bump; rw [if_neg (by omega)]
  obtain ⟨-, -, h0, h1, h2⟩ := lv_spec ht (show n < 4294967296 by omega) (by omega)
  obtain ⟨-, -, -, h4, h5⟩ := lv_spec ht (show n + 1 < 4294967296 by omega) (by omega)
  have hd := hno (lv t n) (by omega)
  have hpl : pl t n = slo t (lv t n) := by unfold pl; rw [e]
  have hpl' : pl t (n + 1) = slo t (lv t (n + 1)) := by unfold pl; rw [e']
  rw [hpl] at hd
  -- between the two the higher digits are the same
  have hp : 0 < 16 ^ (lv t n + 1) := Nat.pow_pos (by omega)
  have m1 : n / 16 ^ (lv t n + 1) ≤ (n + 1) / 16 ^ (lv t n + 1) := Nat.div_le_div_right (by omega)
  have m2 : (n + 1) / 16 ^ (lv t n + 1) ≤ t / 16 ^ (lv t n + 1) := Nat.div_le_div_right (by omega)
  have h6 : t / 16 ^ (lv t n + 1) = (n + 1) / 16 ^ (lv t n + 1) := by omega
  have h7 : t / 16 ^ lv t n ≠ (n + 1) / 16 ^ lv t n := by
    intro hh
    apply hd
    unfold slo dg
    rw [hh]
  rw [hpl, hpl', lv_one h4 h5 h6 h7]
/-- Where what is due lies, behind so many levels of a tick. -/
def Fl (A : Int → Option Int) (F : Int → Option Nat) (n l : Nat) : Int → Option Nat := fun k =>
  match F k with
  | none => none
  | some i => if ∃ m, m < l ∧ i = slo n m then (match A k with | none => none | some t => if t.toNat ≤ n then none else some (pl t.toNat n)) else some i
/-- What one level makes of it. -/
def opn (A : Int → Option Int) (F : Int → Option Nat) (n i : Nat) : Int → Option Nat := fun k =>
  if F k = some i then (match A k with | none => none | some t => if t.toNat ≤ n then none else some (pl t.toNat n)) else F k
theorem Fl_zero (A : Int → Option Int) (F : Int → Option Nat) (n : Nat) : Fl A F n 0 = F := by
  funext k
  unfold Fl
  cases F k with
  | none => rfl
  | some i => simp
theorem Fl_succ (A : Int → Option Int) (F : Int → Option Nat) (n l : Nat) (hn : n < 4294967296) (hA : ∀ k t, A k = some t → t.toNat < 4294967296) : opn A (Fl A F n l) n (slo n l) = Fl A F n (l + 1) := by
  funext k
  unfold opn Fl
  cases hF : F k with
  | none => simp
  | some i =>
    simp only
    by_cases h1 : ∃ m, m < l ∧ i = slo n m
    · obtain ⟨m, hm, rfl⟩ := h1
      have h2 : ∃ m', m' < l ∧ slo n m = slo n m' := ⟨m, hm, rfl⟩
      have h3 : ∃ m', m' < l + 1 ∧ slo n m = slo n m' := ⟨m, by omega, rfl⟩
      rw [if_pos h2, if_pos h3]
      cases hA' : A k with
      | none => simp
      | some t =>
        simp only
        by_cases ht : t.toNat ≤ n
        · rw [if_pos ht]; simp
        · rw [if_neg ht]
          have := pl_off (hA k t hA') hn (by omega) l
          simp [this]
    · rw [if_neg h1]
      by_cases h2 : i = slo n l
      · subst h2
        have h3 : ∃ m', m' < l + 1 ∧ slo n l = slo n m' := ⟨l, by omega, rfl⟩
        rw [if_pos rfl, if_pos h3]
      · have h3 : ¬ ∃ m', m' < l + 1 ∧ i = slo n m' := fun ⟨m, hm, e⟩ => by
          by_cases hml : m = l
          · exact h2 (by rw [e, hml])
          · exact h1 ⟨m, by omega, e⟩
        rw [if_neg h3, if_neg (by simpa using h2)]
/-- What is left behind a tick. -/
def lft (A : Int → Option Int) (n : Nat) : Int → Option Int := fun k =>
  match A k with
  | none => none
  | some t => if t.toNat ≤ n then none else some t
def plc (A : Int → Option Int) (n : Nat) : Int → Option Nat := fun k => (A k).map fun t => pl t.toNat n
/-- Behind all levels. -/
theorem Fl_all (A : Int → Option Int) (n : Nat) (hn : n + 1 < 4294967296) (hA : ∀ k t, A k = some t → t.toNat < 4294967296) : Fl A (plc A n) (n + 1) 8 = plc (lft A (n + 1)) (n + 1) := by
  funext k
  unfold Fl plc lft
  cases hk : A k with
  | none => rfl
  | some t =>
    have ht := hA k t hk
    simp only [Option.map_some]
    by_cases h1 : t.toNat ≤ n + 1
    · simp only [h1, if_true]
      rw [if_pos (pl_due hn h1)]
      rfl
    · simp only [h1, if_false, Option.map_some]
      split
      · rfl
      · rename_i hno
        rw [pl_stay ht (by omega) fun l hl e => hno ⟨l, hl, e⟩]
/-- Who has been told so far. -/
theorem due_in (A : Int → Option Int) (n : Nat) (hn : n + 1 < 4294967296) {k t : Int} (hk : A k = some t) (h : t.toNat ≤ n + 1) : ∃ l, l < 8 ∧ plc A n k = some (slo (n + 1) l) := by
  obtain ⟨l, hl, e⟩ := pl_due (t := t.toNat) hn h
  exact ⟨l, hl, by unfold plc; rw [hk, Option.map_some, e]⟩
end Wp
end Go.Proofs.Ytfplmefcblkljaa
