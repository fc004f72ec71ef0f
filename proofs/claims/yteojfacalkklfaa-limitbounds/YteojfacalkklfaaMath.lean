/-
  Plain mathematics of the Internet's checksum, with no program in it: folding is the residue by 65535 (with the two noughts told apart), and a sum with end-around carry folds to what the plain sum folds to.
-/
import Derived.Laws.BitsLemmas
import Derived.Laws.BitsAllLaws
namespace Go.Proofs.Yteojfacalkklfaa
namespace Sm

theorem wraps_u16 (n : Int) (h0 : 0 ≤ n) (h1 : n < 2 ^ 16) : IntKind.u16.wrap n = n := by
  simp [IntKind.wrap, IntKind.bits, IntKind.signed]; omega
theorem wraps_u32 (n : Int) (h0 : 0 ≤ n) (h1 : n < 2 ^ 32) : IntKind.u32.wrap n = n := by rw [IntKind.wrap_u32]; omega
theorem wraps_u64 (n : Int) (h0 : 0 ≤ n) (h1 : n < 2 ^ 64) : IntKind.u64.wrap n = n := by
  simp [IntKind.wrap, IntKind.bits, IntKind.signed]; omega

theorem sm_low32 (x : Int) (h0 : 0 ≤ x) (h1 : x ≤ 4294967295) : bits .and .u32 x 65535 = x % 65536 :=
  bits_mask .u32 32 (by decide) wraps_u32 16 (by decide) x h0 (by omega)
theorem sm_low64 (x : Int) (h0 : 0 ≤ x) (h1 : x ≤ 18446744073709551615) : bits .and .u64 x 65535 = x % 65536 :=
  bits_mask .u64 64 (by decide) wraps_u64 16 (by decide) x h0 (by omega)
theorem sm_word (x y : Int) (h0 : 0 ≤ x) (h1 : x ≤ 255) (h2 : 0 ≤ y) (h3 : y ≤ 255) : bits .or .u16 (x * 256) y = x * 256 + y :=
  bits_join .u16 16 (by decide) wraps_u16 8 (x * 256) y (by omega) (by omega) (by omega) h2 (by omega) (by omega)

theorem nat_not16 (b : Nat) (hb : b < 65536) : 65535 ^^^ b = 65535 - b := by
  have h := congrArg BitVec.toNat (BitVec.allOnes_xor (x := BitVec.ofNat 16 b))
  simpa [BitVec.toNat_xor, BitVec.toNat_not, Nat.mod_eq_of_lt hb] using h
theorem sm_not16 (x : Int) (h0 : 0 ≤ x) (h1 : x ≤ 65535) : bits .xor .u16 IntKind.u16.max x = 65535 - x := by
  obtain ⟨a, rfl⟩ := Int.eq_ofNat_of_zero_le h0
  have e : IntKind.u16.max = ((65535 : Nat) : Int) := by decide
  rw [e, u16_xor_nat 65535 a (by omega) (by omega), nat_not16 a (by omega)]
  omega

/-- What a sum folds to. -/
def foldv (s : Int) : Int := if s = 0 then 0 else (s - 1) % 65535 + 1
theorem foldv_range (s : Int) : 0 ≤ foldv s ∧ foldv s ≤ 65535 := by unfold foldv; split <;> omega
theorem foldv_halves (s : Int) (h : 0 ≤ s) : foldv (s / 65536 + s % 65536) = foldv s := by
  unfold foldv; split <;> split <;> omega
theorem foldv_small (s : Int) (h0 : 0 ≤ s) (h1 : s ≤ 65535) : foldv s = s := by unfold foldv; split <;> omega
theorem foldv_eq (s t : Int) (h : (s - t) % 65535 = 0) (hz : s = 0 ↔ t = 0) : foldv s = foldv t := by
  unfold foldv
  by_cases e : s = 0
  · rw [if_pos e, if_pos (hz.1 e)]
  · rw [if_neg e, if_neg (fun c => e (hz.2 c))]; omega

/-- The i-th word of a list of bytes. -/
def wd (l : List Int) (i : Nat) : Int := l.getD (2 * i) 0 * 256 + l.getD (2 * i + 1) 0
def IsBytes (l : List Int) : Prop := ∀ i : Nat, 0 ≤ l.getD i 0 ∧ l.getD i 0 ≤ 255
theorem wd_range {l : List Int} (h : IsBytes l) (i : Nat) : 0 ≤ wd l i ∧ wd l i ≤ 65535 := by
  have a := h (2 * i); have b := h (2 * i + 1); unfold wd; omega
/-- One word put on, with the carry at the end. -/
def addc (s w : Int) : Int := if s + w ≤ 4294967295 then s + w else s + w - 4294967295
theorem addc_range (s w : Int) (h0 : 0 ≤ s) (h1 : s ≤ 4294967295) (h2 : 0 ≤ w) (h3 : w ≤ 65535) : 0 ≤ addc s w ∧ addc s w ≤ 4294967295 := by
  unfold addc; split <;> omega
/-- The first k words put on s. -/
def acc (l : List Int) (s : Int) : Nat → Int
  | 0 => s
  | k + 1 => addc (acc l s k) (wd l k)
theorem acc_succ (l : List Int) (s : Int) (k : Nat) : acc l s (k + 1) = addc (acc l s k) (wd l k) := rfl
theorem acc_range {l : List Int} (hl : IsBytes l) (s : Int) (h0 : 0 ≤ s) (h1 : s ≤ 4294967295) (k : Nat) : 0 ≤ acc l s k ∧ acc l s k ≤ 4294967295 := by
  induction k with
  | zero => exact ⟨h0, h1⟩
  | succ k ih => have := wd_range hl k; exact addc_range _ _ ih.1 ih.2 this.1 this.2
/-- The plain sum of the first k words. -/
def tot (l : List Int) : Nat → Int
  | 0 => 0
  | k + 1 => tot l k + wd l k
theorem tot_succ (l : List Int) (k : Nat) : tot l (k + 1) = tot l k + wd l k := rfl
theorem tot_nonneg {l : List Int} (hl : IsBytes l) (k : Nat) : 0 ≤ tot l k := by
  induction k with
  | zero => simp [tot]
  | succ k ih => have := wd_range hl k; simp only [tot]; omega
theorem acc_tot {l : List Int} (hl : IsBytes l) (s : Int) (h0 : 0 ≤ s) (h1 : s ≤ 4294967295) (k : Nat) :
    (acc l s k - (s + tot l k)) % 65535 = 0 ∧ (acc l s k = 0 ↔ s + tot l k = 0) := by
  induction k with
  | zero => simp [acc, tot]
  | succ k ih =>
    have a := wd_range hl k; have b := acc_range hl s h0 h1 k; have c := tot_nonneg hl k
    simp only [acc, tot, addc]
    split <;> omega
theorem foldv_acc {l : List Int} (hl : IsBytes l) (s : Int) (h0 : 0 ≤ s) (h1 : s ≤ 4294967295) (k : Nat) : foldv (acc l s k) = foldv (s + tot l k) :=
  foldv_eq _ _ (acc_tot hl s h0 h1 k).1 (acc_tot hl s h0 h1 k).2

/-- How many words so many bytes have. -/
def cnt (n : Nat) : Nat := n / 2 + n % 2
theorem cnt_cast (n : Nat) : ((cnt n : Nat) : Int) = (n : Int) / 2 + (n : Int) % 2 := by unfold cnt; omega
/-- The checksum of a list of bytes. -/
def ofv (l : List Int) : Int := 65535 - foldv (tot l (cnt l.length))
theorem ofv_range (l : List Int) : 0 ≤ ofv l ∧ ofv l ≤ 65535 := by have := foldv_range (tot l (cnt l.length)); unfold ofv; omega
/-- The updated checksum. -/
def updv (old was now : Int) : Int := 65535 - foldv ((65535 - old) + (65535 - was) + now)
theorem updv_range (old was now : Int) : 0 ≤ updv old was now ∧ updv old was now ≤ 65535 := by have := foldv_range ((65535 - old) + (65535 - was) + now); unfold updv; omega
/-- The pseudo header's sum. -/
def psv (src dst proto n : Int) : Int := foldv ((src / 65536 + src % 65536) + (dst / 65536 + dst % 65536) + proto + n % 65536)
/-- Of the two noughts either. -/
def sameB (a b : Int) : Bool := a == b || (a == 0 && b == 65535) || (a == 65535 && b == 0)

theorem tot_same {l m : List Int} (k : Nat) (h : ∀ i, i < k → wd l i = wd m i) : tot l k = tot m k := by
  induction k with
  | zero => rfl
  | succ k ih => simp only [tot]; rw [ih (fun i hi => h i (by omega)), h k (by omega)]
theorem acc_same {l m : List Int} (s : Int) (k : Nat) (h : ∀ i, i < k → wd l i = wd m i) : acc l s k = acc m s k := by
  induction k with
  | zero => rfl
  | succ k ih => simp only [acc]; rw [ih (fun i hi => h i (by omega)), h k (by omega)]
theorem tot_beyond (l : List Int) (k j : Nat) (h : l.length ≤ 2 * k) : tot l (k + j) = tot l k := by
  induction j with
  | zero => rfl
  | succ j ih =>
    rw [← Nat.add_assoc, tot_succ, ih]
    simp [wd, List.getD, List.getElem?_eq_none (show l.length ≤ 2 * (k + j) by omega), List.getElem?_eq_none (show l.length ≤ 2 * (k + j) + 1 by omega)]

end Sm
end Go.Proofs.Yteojfacalkklfaa
