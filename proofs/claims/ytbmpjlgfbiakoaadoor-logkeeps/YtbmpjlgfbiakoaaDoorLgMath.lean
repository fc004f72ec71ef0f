/-
  Plain mathematics of the log, with no program in it: the CRC bit by bit, numbers as bytes, a block that holds a piece, entries in two slots.
-/
import Derived.Test.YtbmpjlgfbiakoaaDoorMath
namespace Go.Proofs.YtbmpjlgfbiakoaaDoor
open Sm
set_option linter.unusedVariables false

/-! ### The CRC. -/
def c1 (s : Int) : Int := if s % 2 = 1 then bits .xor .u32 (s / 2) 3988292384 else s / 2
def c8 : Nat → Int → Int
  | 0, s => s
  | n + 1, s => c8 n (c1 s)
def cby (s x : Int) : Int := c8 8 (bits .xor .u32 s x)
def crl (s : Int) (l : List Int) : Int := l.foldl cby s
def crc (l : List Int) : Int := bits .xor .u32 4294967295 (crl 4294967295 l)

theorem xor32_range (a b : Int) (h1 : 0 ≤ a) (h2 : a ≤ 4294967295) (h3 : 0 ≤ b) (h4 : b ≤ 4294967295) : 0 ≤ bits .xor .u32 a b ∧ bits .xor .u32 a b ≤ 4294967295 := by
  rw [u32_xor a b h1 (by omega) h3 (by omega)]
  have : a.toNat ^^^ b.toNat < 2 ^ 32 := Nat.xor_lt_two_pow (by omega) (by omega)
  omega
theorem c1_range (s : Int) (h0 : 0 ≤ s) (h1 : s ≤ 4294967295) : 0 ≤ c1 s ∧ c1 s ≤ 4294967295 := by
  unfold c1
  split
  · exact xor32_range _ _ (by omega) (by omega) (by decide) (by decide)
  · omega
theorem c8_range (n : Nat) (s : Int) (h0 : 0 ≤ s) (h1 : s ≤ 4294967295) : 0 ≤ c8 n s ∧ c8 n s ≤ 4294967295 := by
  induction n generalizing s with
  | zero => exact ⟨h0, h1⟩
  | succ n ih => exact ih _ (c1_range s h0 h1).1 (c1_range s h0 h1).2
theorem c8_add (n k : Nat) (s : Int) : c8 (n + k) s = c8 k (c8 n s) := by
  induction n generalizing s with
  | zero => simp [c8]
  | succ n ih => rw [Nat.succ_add]; exact ih _
theorem c8_succ (n : Nat) (s : Int) : c8 (n + 1) s = c1 (c8 n s) := by rw [c8_add]; rfl
theorem cby_range (s x : Int) (h0 : 0 ≤ s) (h1 : s ≤ 4294967295) (h2 : 0 ≤ x) (h3 : x ≤ 255) : 0 ≤ cby s x ∧ cby s x ≤ 4294967295 := by
  have := xor32_range s x h0 h1 h2 (by omega)
  exact c8_range 8 _ this.1 this.2
theorem bytes_tail' {x : Int} {l : List Int} (h : IsBytes (x :: l)) : (0 ≤ x ∧ x ≤ 255) ∧ IsBytes l := ⟨by simpa using h 0, fun i => by simpa using h (i + 1)⟩
theorem crl_range (l : List Int) (hb : IsBytes l) (s : Int) (h0 : 0 ≤ s) (h1 : s ≤ 4294967295) : 0 ≤ crl s l ∧ crl s l ≤ 4294967295 := by
  induction l generalizing s with
  | nil => exact ⟨h0, h1⟩
  | cons x l ih =>
    have hx := (bytes_tail' hb).1
    have := cby_range s x h0 h1 hx.1 hx.2
    exact ih (bytes_tail' hb).2 _ this.1 this.2
theorem crc_range (l : List Int) (hb : IsBytes l) : 0 ≤ crc l ∧ crc l ≤ 4294967295 := by
  have := crl_range l hb 4294967295 (by decide) (by decide)
  exact xor32_range _ _ (by decide) (by decide) this.1 this.2
theorem crl_take (s : Int) (l : List Int) (i : Nat) (hi : i < l.length) : crl s (l.take (i + 1)) = cby (crl s (l.take i)) (l.getD i 0) := by
  rw [List.take_add_one, List.getElem?_eq_getElem hi, List.getD, List.getElem?_eq_getElem hi]
  simp only [crl, List.foldl_append, Option.toList, List.foldl_cons, List.foldl_nil, Option.getD]

/-! ### Numbers as bytes, the highest first. -/
def gtv (x : Int) (l : List Int) : Int := l.foldl (fun x y => x * 256 + y) x
def gt (l : List Int) : Int := gtv 0 l
def be : Nat → Int → List Int
  | 0, _ => []
  | k + 1, x => (x / 256 ^ k % 256) :: be k x
theorem be_length (k : Nat) (x : Int) : (be k x).length = k := by
  induction k with
  | zero => rfl
  | succ k ih => simp [be, ih]
theorem be_bytes (k : Nat) (x : Int) : IsBytes (be k x) := by
  induction k with
  | zero => intro i; simp [be]
  | succ k ih =>
    intro i
    match i with
    | 0 => simp [be]; omega
    | i + 1 => simpa [be] using ih i
theorem be_getD (k i : Nat) (x : Int) (hi : i < k) : (be k x).getD i 0 = x / 256 ^ (k - 1 - i) % 256 := by
  induction k generalizing i with
  | zero => omega
  | succ k ih =>
    match i with
    | 0 => simp [be]
    | i + 1 =>
      have : k + 1 - 1 - (i + 1) = k - 1 - i := by omega
      rw [this, ← ih i (by omega)]
      simp [be]
theorem emod_parts (x p : Int) (hp : 0 < p) : x % (p * 256) = (x / p % 256) * p + x % p := by
  have a := Int.emod_add_mul_ediv x p
  have b := Int.emod_add_mul_ediv (x / p) 256
  have h0 := Int.emod_nonneg x (Int.ne_of_gt hp)
  have h1 := Int.emod_lt_of_pos x hp
  have h2 : 0 ≤ x / p % 256 := Int.emod_nonneg (x / p) (by decide)
  have h3 : x / p % 256 < 256 := Int.emod_lt_of_pos (x / p) (by decide)
  generalize x % p = r at *
  generalize hs : x / p % 256 = s at *
  generalize hu : x / p / 256 = u at *
  have e : x = (s * p + r) + (p * 256) * u := by
    rw [← a, ← b, Int.mul_add, Int.mul_comm p s, ← Int.mul_assoc p 256 u]; omega
  have h4 : s * p ≤ 255 * p := Int.mul_le_mul_of_nonneg_right (by omega) (Int.le_of_lt hp)
  have h5 : 0 ≤ s * p := Int.mul_nonneg h2 (Int.le_of_lt hp)
  rw [e, Int.add_mul_emod_self_left, Int.emod_eq_of_lt (by omega) (by omega)]
theorem gtv_be (k : Nat) (a x : Int) : gtv a (be k x) = a * 256 ^ k + x % 256 ^ k := by
  induction k generalizing a with
  | zero => simp [be, gtv, Int.emod_one]
  | succ k ih =>
    have h : gtv a (be (k + 1) x) = gtv (a * 256 + x / 256 ^ k % 256) (be k x) := rfl
    rw [h, ih]
    have hp : (0 : Int) < 256 ^ k := Int.pow_pos (by decide)
    have e : x % 256 ^ (k + 1) = (x / 256 ^ k % 256) * 256 ^ k + x % 256 ^ k := by
      rw [Int.pow_succ, emod_parts x _ hp]
    rw [e, Int.add_mul, Int.pow_succ, Int.mul_assoc a 256, Int.mul_comm 256 (256 ^ k), Int.add_assoc]
theorem gt_be (k : Nat) (x : Int) (h0 : 0 ≤ x) (h1 : x < 256 ^ k) : gt (be k x) = x := by
  rw [gt, gtv_be, Int.zero_mul, Int.zero_add, Int.emod_eq_of_lt h0 h1]
theorem gtv_range (l : List Int) (hb : IsBytes l) (x : Int) (h0 : 0 ≤ x) : 0 ≤ gtv x l ∧ gtv x l < (x + 1) * 256 ^ l.length := by
  induction l generalizing x with
  | nil => simp [gtv]; omega
  | cons y l ih =>
    have hy := (bytes_tail' hb).1
    have := ih (bytes_tail' hb).2 (x * 256 + y) (by omega)
    refine ⟨this.1, Int.lt_of_lt_of_le this.2 ?_⟩
    have hp : (0 : Int) ≤ 256 ^ l.length := Int.pow_nonneg (by decide)
    rw [List.length_cons, Int.pow_succ, Int.mul_comm (256 ^ l.length) 256, ← Int.mul_assoc]
    exact Int.mul_le_mul_of_nonneg_right (by omega) hp
theorem gt_range (l : List Int) (hb : IsBytes l) : 0 ≤ gt l ∧ gt l < 256 ^ l.length := by
  have := gtv_range l hb 0 (by decide)
  simpa [gt] using this
theorem gt_take (l : List Int) (i : Nat) (hi : i < l.length) : gt (l.take (i + 1)) = gt (l.take i) * 256 + l.getD i 0 := by
  rw [List.take_add_one, List.getElem?_eq_getElem hi, List.getD, List.getElem?_eq_getElem hi]
  simp only [gt, gtv, List.foldl_append, Option.toList, List.foldl_cons, List.foldl_nil, Option.getD]

/-! ### A part of a list. -/
def sl (l : List Int) (lo hi : Nat) : List Int := (l.drop lo).take (hi - lo)
theorem sl_length (l : List Int) (lo hi : Nat) (h : hi ≤ l.length) : (sl l lo hi).length = hi - lo := by simp [sl]; omega
theorem sl_bytes {l : List Int} (h : IsBytes l) (lo hi : Nat) : IsBytes (sl l lo hi) := by
  intro i
  by_cases e : i < hi - lo
  · have : (sl l lo hi).getD i 0 = l.getD (lo + i) 0 := by simp [sl, List.getD, e]
    rw [this]; exact h _
  · have : (sl l lo hi).getD i 0 = 0 := by
      rw [List.getD, List.getElem?_eq_none (by simp [sl]; omega)]; rfl
    rw [this]; omega
theorem sl_mid (a b c : List Int) {lo hi : Nat} (h1 : a.length = lo) (h2 : lo + b.length = hi) : sl (a ++ (b ++ c)) lo hi = b := by
  subst h1
  unfold sl
  rw [List.drop_left' rfl, List.take_left' (by omega)]

/-! ### A block that holds a piece. -/
structure Pc where
  t : Int
  c : Int
  i : Int
  n : Int
  b : List Int
def pbody (p : Pc) : List Int := be 8 p.t ++ (be 8 p.c ++ (be 1 p.i ++ (be 1 p.n ++ (be 4 p.b.length ++ (List.replicate 36 0 ++ p.b)))))
def frm (m : Nat) (p : Pc) : List Int := [165] ++ (be 4 (crc (pbody p)) ++ (pbody p ++ (List.replicate (m - 64 - p.b.length) 0 ++ [165])))
def unf (b : List Int) : Option Pc :=
  if b.getD 0 0 ≠ 165 ∨ b.getD (b.length - 1) 0 ≠ 165 ∨ (b.length : Int) - 64 < gt (sl b 23 27) then none
  else if crc (sl b 5 (63 + (gt (sl b 23 27)).toNat)) ≠ gt (sl b 1 5) then none
  else some ⟨gt (sl b 5 13), IntKind.i64.wrap (gt (sl b 13 21)), gt (sl b 21 22), gt (sl b 22 23), sl b 63 (63 + (gt (sl b 23 27)).toNat)⟩
structure PcOk (m : Nat) (p : Pc) : Prop where
  t : 0 ≤ p.t ∧ p.t < 18446744073709551616
  c : 0 ≤ p.c ∧ p.c < 9223372036854775808
  i : 0 ≤ p.i ∧ p.i < 256
  n : 0 ≤ p.n ∧ p.n < 256
  len : p.b.length + 64 ≤ m
  top : m ≤ 65536
  bytes : IsBytes p.b

theorem bytes_app {l₁ l₂ : List Int} (h1 : IsBytes l₁) (h2 : IsBytes l₂) : IsBytes (l₁ ++ l₂) := by
  intro i
  by_cases e : i < l₁.length
  · have : (l₁ ++ l₂).getD i 0 = l₁.getD i 0 := by simp [List.getD, List.getElem?_append_left e]
    rw [this]; exact h1 i
  · have : (l₁ ++ l₂).getD i 0 = l₂.getD (i - l₁.length) 0 := by simp [List.getD, List.getElem?_append_right (Nat.le_of_not_lt e)]
    rw [this]; exact h2 _
theorem bytes_rep (n : Nat) (x : Int) (h : 0 ≤ x ∧ x ≤ 255) : IsBytes (List.replicate n x) := by
  intro i
  by_cases e : i < n
  · simp [List.getD, e]; exact h
  · simp [List.getD, e]
theorem pbody_length (p : Pc) : (pbody p).length = 58 + p.b.length := by simp [pbody, be_length]; omega
theorem pbody_bytes (p : Pc) (h : IsBytes p.b) : IsBytes (pbody p) :=
  bytes_app (be_bytes _ _) (bytes_app (be_bytes _ _) (bytes_app (be_bytes _ _) (bytes_app (be_bytes _ _) (bytes_app (be_bytes _ _) (bytes_app (bytes_rep _ _ (by omega)) h)))))
theorem frm_length {m : Nat} {p : Pc} (h : p.b.length + 64 ≤ m) : (frm m p).length = m := by
  simp [frm, be_length, pbody_length]; omega
theorem frm_bytes {m : Nat} {p : Pc} (h : IsBytes p.b) : IsBytes (frm m p) :=
  bytes_app (bytes_rep 1 165 (by omega)) (bytes_app (be_bytes _ _) (bytes_app (pbody_bytes p h) (bytes_app (bytes_rep _ _ (by omega)) (bytes_rep 1 165 (by omega)))))
theorem frm_last {m : Nat} {p : Pc} (h : p.b.length + 64 ≤ m) : (frm m p).getD (m - 1) 0 = 165 := by
  have hl : (frm m p).length = m := frm_length h
  have e : frm m p = ([165] ++ (be 4 (crc (pbody p)) ++ (pbody p ++ List.replicate (m - 64 - p.b.length) 0))) ++ [165] := by simp [frm]
  rw [e] at hl ⊢
  have hl2 : ([165] ++ (be 4 (crc (pbody p)) ++ (pbody p ++ List.replicate (m - 64 - p.b.length) (0 : Int)))).length = m - 1 := by simp at hl ⊢; omega
  simp only [List.getD]
  rw [List.getElem?_append_right (by omega), hl2]
  simp
theorem frm_first (m : Nat) (p : Pc) : (frm m p).getD 0 0 = 165 := by simp [frm]

/-- Behind the mark and the checksum stands all that the piece is. -/
theorem unf_frm {m : Nat} {p : Pc} (h : PcOk m p) : unf (frm m p) = some p := by
  have hlen := frm_length h.len
  have hb4 := h.len; have ht4 := h.top
  have A : ∀ (x : Int) (k : Nat), 0 ≤ x → x < 256 ^ k → gt (be k x) = x := fun x k => gt_be k x
  have g1 : sl (frm m p) 1 5 = be 4 (crc (pbody p)) := sl_mid [165] _ _ (by simp) (by rw [be_length])
  have g5 : sl (frm m p) 5 (63 + p.b.length) = pbody p := by
    have e : frm m p = ([165] ++ be 4 (crc (pbody p))) ++ (pbody p ++ (List.replicate (m - 64 - p.b.length) 0 ++ [165])) := by simp [frm]
    rw [e]; exact sl_mid _ _ _ (by simp [be_length]) (by rw [pbody_length]; omega)
  have z : frm m p = ([165] ++ be 4 (crc (pbody p))) ++ (be 8 p.t ++ (be 8 p.c ++ (be 1 p.i ++ (be 1 p.n ++ (be 4 p.b.length ++ (List.replicate 36 0 ++ (p.b ++ (List.replicate (m - 64 - p.b.length) 0 ++ [165])))))))) := by simp [frm, pbody]
  have gT : sl (frm m p) 5 13 = be 8 p.t := by rw [z]; exact sl_mid _ _ _ (by simp [be_length]) (by rw [be_length])
  have gC : sl (frm m p) 13 21 = be 8 p.c := by
    have e := z; rw [← List.append_assoc] at e
    rw [e]; exact sl_mid _ _ _ (by simp [be_length]) (by rw [be_length])
  have gI : sl (frm m p) 21 22 = be 1 p.i := by
    have e := z; rw [← List.append_assoc, ← List.append_assoc] at e
    rw [e]; exact sl_mid _ _ _ (by simp [be_length]) (by rw [be_length])
  have gN : sl (frm m p) 22 23 = be 1 p.n := by
    have e := z; rw [← List.append_assoc, ← List.append_assoc, ← List.append_assoc] at e
    rw [e]; exact sl_mid _ _ _ (by simp [be_length]) (by rw [be_length])
  have gL : sl (frm m p) 23 27 = be 4 p.b.length := by
    have e := z; rw [← List.append_assoc, ← List.append_assoc, ← List.append_assoc, ← List.append_assoc] at e
    rw [e]; exact sl_mid _ _ _ (by simp [be_length]) (by rw [be_length])
  have gB : sl (frm m p) 63 (63 + p.b.length) = p.b := by
    have e := z; rw [← List.append_assoc, ← List.append_assoc, ← List.append_assoc, ← List.append_assoc, ← List.append_assoc, ← List.append_assoc] at e
    rw [e]; exact sl_mid _ _ _ (by simp [be_length]) rfl
  have vL : gt (be 4 p.b.length) = p.b.length := A _ 4 (by omega) (by omega)
  have hcr := crc_range (pbody p) (pbody_bytes p h.bytes)
  have vS : gt (be 4 (crc (pbody p))) = crc (pbody p) := A _ 4 (by omega) (by omega)
  unfold unf
  rw [hlen, frm_first, frm_last h.len, gL, vL, Int.toNat_natCast, g5, g1, vS, gT, gC, gI, gN, gB]
  rw [A p.t 8 h.t.1 (by have := h.t; omega), A p.c 8 h.c.1 (by have := h.c; omega), A p.i 1 h.i.1 (by have := h.i; omega), A p.n 1 h.n.1 (by have := h.n; omega)]
  rw [if_neg (by rintro (e | e | e) <;> omega), if_neg (fun e => e rfl)]
  have : IntKind.i64.wrap p.c = p.c := by rw [IntKind.wrap_i64]; have := h.c; omega
  rw [this]
/-- No mark at one of the ends: not whole. -/
theorem unf_no0 (b : List Int) (h : b.getD 0 0 ≠ 165) : unf b = none := by unfold unf; rw [if_pos (Or.inl h)]
theorem unf_no1 (b : List Int) (h : b.getD (b.length - 1) 0 ≠ 165) : unf b = none := by unfold unf; rw [if_pos (Or.inr (Or.inl h))]
end Go.Proofs.YtbmpjlgfbiakoaaDoor
