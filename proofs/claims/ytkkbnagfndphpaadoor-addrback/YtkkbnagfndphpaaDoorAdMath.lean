/-
  Plain mathematics of addresses as text, with no program in it: decimal and hexadecimal numbers, texts cut at a sign, and that each address has its one text.
-/
import Derived.Lib.Split
namespace Go.Proofs.YtkkbnagfndphpaaDoor
namespace Ad
set_option linter.unusedVariables false

/-- The number that digits write, from n on; none behind one that is greater than most. -/
def numGo (most : Nat) : Nat → List UInt8 → Option Nat
  | n, [] => some n
  | n, b :: l => if 48 ≤ b.toNat ∧ b.toNat ≤ 57 then (if most < 10 * n + (b.toNat - 48) then none else numGo most (10 * n + (b.toNat - 48)) l) else none
def num (l : List UInt8) (most : Nat) : Option Nat := if l = [] ∨ (1 < l.length ∧ l.head? = some 48) then none else numGo most 0 l
/-- What is answered: the number, or nought; the error, or none. -/
def nv (o : Option Nat) : Int := ((o.getD 0 : Nat) : Int)
def ne (o : Option Nat) : Int := if o.isSome then 0 else 60
theorem nv_none : nv none = 0 := rfl
theorem ne_none : ne none = 60 := rfl
theorem nv_some (n : Nat) : nv (some n) = n := rfl
theorem ne_some (n : Nat) : ne (some n) = 0 := rfl
theorem numGo_le {most : Nat} : ∀ {l : List UInt8} {n r : Nat}, n ≤ most → numGo most n l = some r → r ≤ most
  | [], n, r, h, e => by simp only [numGo, Option.some.injEq] at e; omega
  | b :: l, n, r, h, e => by
    unfold numGo at e
    split at e
    · split at e
      · cases e
      · exact numGo_le (by omega) e
    · cases e
theorem num_le {most : Nat} {l : List UInt8} {r : Nat} (e : num l most = some r) : r ≤ most := by
  unfold num at e
  split at e
  · cases e
  · exact numGo_le (Nat.zero_le _) e
theorem nv_bounds (l : List UInt8) (most : Nat) : 0 ≤ nv (num l most) ∧ nv (num l most) ≤ most := by
  cases h : num l most with
  | none => simp [nv]
  | some r => have := num_le h; simp only [nv, Option.getD_some]; omega

theorem numGo_stop {most n : Nat} {b : UInt8} {l : List UInt8} (h : ¬ (48 ≤ b.toNat ∧ b.toNat ≤ 57)) : numGo most n (b :: l) = none := by
  rw [numGo, if_neg h]
theorem numGo_over {most n : Nat} {b : UInt8} {l : List UInt8} (h : 48 ≤ b.toNat ∧ b.toNat ≤ 57) (h2 : most < 10 * n + (b.toNat - 48)) : numGo most n (b :: l) = none := by
  rw [numGo, if_pos h, if_pos h2]
theorem numGo_on {most n : Nat} {b : UInt8} {l : List UInt8} (h : 48 ≤ b.toNat ∧ b.toNat ≤ 57) (h2 : ¬ most < 10 * n + (b.toNat - 48)) : numGo most n (b :: l) = numGo most (10 * n + (b.toNat - 48)) l := by
  rw [numGo, if_pos h, if_neg h2]

theorem drop_cons (s : ByteArray) (i : Nat) (h : i < s.size) : s.data.toList.drop i = s[i]'h :: s.data.toList.drop (i + 1) := by
  have hl : i < s.data.toList.length := by rw [Array.length_toList]; exact h
  rw [List.drop_eq_getElem_cons hl]
  congr 1
theorem drop_end (s : ByteArray) (i : Nat) (h : ¬ i < s.size) : s.data.toList.drop i = [] := by
  apply List.drop_eq_nil_of_le
  rw [Array.length_toList]; show s.size ≤ i; omega

/-! ### Hexadecimal digits -/
def hx (n : Nat) : Option Nat := if 48 ≤ n ∧ n ≤ 57 then some (n - 48) else if 97 ≤ n ∧ n ≤ 102 then some (n - 87) else none
/-- The digit of a value. -/
def hdg (n : Nat) : Nat := if n < 10 then 48 + n else 87 + n
theorem hx_hdg {n : Nat} (h : n < 16) : hx (hdg n) = some n := by
  unfold hx hdg
  by_cases h1 : n < 10
  · rw [if_pos h1, if_pos (by omega)]; congr 1; omega
  · rw [if_neg h1, if_neg (by omega), if_pos (by omega)]; congr 1; omega
theorem hx_some {n v : Nat} (h : hx n = some v) : v < 16 ∧ n = hdg v := by
  unfold hx at h
  unfold hdg
  split at h
  · have := Option.some.inj h; split <;> omega
  · split at h
    · have := Option.some.inj h; split <;> omega
    · cases h
theorem hx_none {n : Nat} (h : ∀ j, j < 16 → n ≠ hdg j) : hx n = none := by
  cases e : hx n with
  | none => rfl
  | some v => obtain ⟨a, b⟩ := hx_some e; exact absurd b (h v a)
theorem hx_high {n : Nat} (h : 128 ≤ n) : hx n = none := by
  unfold hx; rw [if_neg (by omega), if_neg (by omega)]
def two : List UInt8 → Option Nat
  | [a, b] => match hx a.toNat, hx b.toNat with
    | some x, some y => some (16 * x + y)
    | _, _ => none
  | _ => none
theorem two_len {l : List UInt8} (h : l.length ≠ 2) : two l = none := by
  match l, h with
  | [], _ => rfl
  | [_], _ => rfl
  | [_, _], h => exact absurd rfl h
  | _ :: _ :: _ :: _, _ => rfl
theorem two_lt {l : List UInt8} {v : Nat} (h : two l = some v) : v < 256 := by
  unfold two at h
  split at h
  · split at h
    · rename_i x y e1 e2
      have a := (hx_some e1).1
      have b := (hx_some e2).1
      have := Option.some.inj h
      omega
    · cases h
  · cases h
/-- What the document's two answers beside whether it is one. -/
def twov : List UInt8 → Nat
  | [a, b] => 16 * (hx a.toNat).getD 0 + (hx b.toNat).getD 0
  | _ => 0
theorem twov_of {l : List UInt8} {v : Nat} (h : two l = some v) : twov l = v := by
  unfold two at h
  split at h
  · split at h
    · rename_i x y e1 e2
      have := Option.some.inj h
      simp [twov, e1, e2, this]
    · cases h
  · cases h
theorem two_some (a b : UInt8) : (two [a, b]).isSome = ((hx a.toNat).isSome && (hx b.toNat).isSome) := by
  cases h1 : hx a.toNat <;> cases h2 : hx b.toNat <;> simp [two, h1, h2]
theorem sub_text (s : ByteArray) (i j : Nat) : (s.extract i j).data.toList = (s.data.toList.drop i).take (j - i) := Lib.extract_data s i j
theorem text_len (s : ByteArray) : s.data.toList.length = s.size := by rw [Array.length_toList]; rfl
/-- What readHex makes of the row: digit by digit, until one is none. -/
def rhGo (off : Nat) : Nat → List UInt8 → List Int → Bool × List Int
  | _, [], l => (true, l)
  | k, b :: t, l => match hx b.toNat with
    | none => (false, l)
    | some d => rhGo off (k + 1) t (l.set (off + k / 2) (l.getD (off + k / 2) 0 * 16 % 256 + d))
def rh (s : List UInt8) (off m : Nat) (l : List Int) : Bool × List Int := if s.length = 2 * m then rhGo off 0 s l else (false, l)
theorem rhGo_nil (off k : Nat) (l : List Int) : rhGo off k [] l = (true, l) := rfl
theorem rhGo_stop {off k : Nat} {b : UInt8} {t : List UInt8} {l : List Int} (h : hx b.toNat = none) : rhGo off k (b :: t) l = (false, l) := by rw [rhGo, h]
theorem rhGo_on {off k d : Nat} {b : UInt8} {t : List UInt8} {l : List Int} (h : hx b.toNat = some d) : rhGo off k (b :: t) l = rhGo off (k + 1) t (l.set (off + k / 2) (l.getD (off + k / 2) 0 * 16 % 256 + d)) := by rw [rhGo, h]
theorem rhGo_len (off : Nat) : ∀ (s : List UInt8) (k : Nat) (l : List Int), (rhGo off k s l).2.length = l.length
  | [], k, l => rfl
  | b :: t, k, l => by
    cases h : hx b.toNat with
    | none => rw [rhGo_stop h]
    | some d => rw [rhGo_on h, rhGo_len off t, List.length_set]
/-- A text two digits by two. -/
def twos : List UInt8 → Option (List Int)
  | [] => some []
  | [_] => none
  | a :: b :: t => match two [a, b], twos t with
    | some x, some r => some ((x : Int) :: r)
    | _, _ => none
def key (s : List UInt8) : Option (List Int) := if s.length = 16 then twos s else none
theorem twos_len : ∀ {t : List UInt8} {r : List Int}, twos t = some r → 2 * r.length = t.length
  | [], r, h => by simp only [twos, Option.some.injEq] at h; subst h; rfl
  | [_], r, h => by simp [twos] at h
  | a :: b :: t, r, h => by
    unfold twos at h
    split at h
    · rename_i x r' e1 e2
      have := twos_len e2
      obtain rfl := Option.some.inj h
      simp only [List.length_cons]; omega
    · cases h
theorem twos_bytes : ∀ {t : List UInt8} {r : List Int}, twos t = some r → ∀ i, 0 ≤ r.getD i 0 ∧ r.getD i 0 ≤ 255
  | [], r, h => by simp only [twos, Option.some.injEq] at h; subst h; simp
  | [_], r, h => by simp [twos] at h
  | a :: b :: t, r, h => by
    unfold twos at h
    split at h
    · rename_i x r' e1 e2
      obtain rfl := Option.some.inj h
      intro i
      cases i with
      | zero => have := two_lt e1; simp; omega
      | succ i => simpa using twos_bytes e2 i
    · cases h
theorem set_parts {l : List Int} {i : Nat} (h : i < l.length) (x : Int) (r : List Int) : (l.set i x).take (i + 1) ++ r ++ (l.set i x).drop (i + 1 + r.length) = l.take i ++ (x :: r) ++ l.drop (i + (x :: r).length) := by
  have e1 : (l.set i x).take (i + 1) = l.take i ++ [x] := by
    rw [List.take_add_one, List.take_set_of_le (Nat.le_refl _)]
    simp [h]
  have e2 : (l.set i x).drop (i + 1 + r.length) = l.drop (i + (x :: r).length) := by
    rw [List.drop_set_of_lt (by omega), List.length_cons]; congr 1; omega
  rw [e1, e2]; simp
theorem rhGo_two {off k : Nat} {a b : UInt8} {t : List UInt8} {l : List Int} (h0 : l.getD (off + k) 0 = 0) (hl : off + k < l.length) :
    (∃ x, two [a, b] = some x ∧ rhGo off (2 * k) (a :: b :: t) l = rhGo off (2 * (k + 1)) t (l.set (off + k) (x : Int))) ∨ (two [a, b] = none ∧ (rhGo off (2 * k) (a :: b :: t) l).1 = false) := by
  have k1 : 2 * k / 2 = k := by omega
  have k2 : (2 * k + 1) / 2 = k := by omega
  cases h1 : hx a.toNat with
  | none => exact Or.inr ⟨by simp [two, h1], by rw [rhGo_stop h1]⟩
  | some x =>
    have x16 := (hx_some h1).1
    rw [rhGo_on h1, k1, h0]
    cases h2 : hx b.toNat with
    | none => exact Or.inr ⟨by simp [two, h2], by rw [rhGo_stop h2]⟩
    | some y =>
      refine Or.inl ⟨16 * x + y, by simp [two, h1, h2], ?_⟩
      rw [rhGo_on h2, k2, List.set_set]
      have e : (l.set (off + k) (0 * 16 % 256 + (x : Int))).getD (off + k) 0 = x := by simp [List.getD, hl]
      rw [e, show 2 * k + 1 + 1 = 2 * (k + 1) by omega, show ((x : Int) * 16 % 256 + (y : Int)) = ((16 * x + y : Nat) : Int) by omega]
theorem rhGo_twos (off : Nat) : ∀ (t : List UInt8) (k : Nat) (l : List Int), (∀ j, k ≤ j → l.getD (off + j) 0 = 0) → 2 * (l.length - (off + k)) ≥ t.length → off + k ≤ l.length →
    (∀ r, twos t = some r → rhGo off (2 * k) t l = (true, l.take (off + k) ++ r ++ l.drop (off + k + r.length))) ∧ (twos t = none → t.length % 2 = 0 → (rhGo off (2 * k) t l).1 = false)
  | [], k, l, hz, hlen, hk => by
    refine ⟨fun r h => ?_, fun h => by simp [twos] at h⟩
    simp only [twos, Option.some.injEq] at h
    subst h
    simp [rhGo_nil]
  | [_], k, l, hz, hlen, hk => ⟨fun r h => by simp [twos] at h, fun _ h => by simp at h⟩
  | a :: b :: t, k, l, hz, hlen, hk => by
    simp only [List.length_cons] at hlen
    have hkl : off + k < l.length := by omega
    rcases rhGo_two (a := a) (b := b) (t := t) (hz k (Nat.le_refl _)) hkl with ⟨x, e1, e2⟩ | ⟨e1, e2⟩
    · have hz' : ∀ j, k + 1 ≤ j → (l.set (off + k) (x : Int)).getD (off + j) 0 = 0 := by
        intro j hj
        have := hz j (by omega)
        simpa [List.getD, List.getElem?_set_ne (show off + k ≠ off + j by omega)] using this
      obtain ⟨ih1, ih2⟩ := rhGo_twos off t (k + 1) (l.set (off + k) (x : Int)) hz' (by rw [List.length_set]; omega) (by rw [List.length_set]; omega)
      refine ⟨fun r h => ?_, fun h hm => ?_⟩
      · unfold twos at h
        rw [e1] at h
        cases e3 : twos t with
        | none => rw [e3] at h; cases h
        | some r' =>
          rw [e3] at h
          obtain rfl := Option.some.inj h
          rw [e2, ih1 r' e3, ← Nat.add_assoc, set_parts hkl]
      · rw [e2]
        apply ih2
        · unfold twos at h
          rw [e1] at h
          cases e3 : twos t with
          | none => rfl
          | some r' => rw [e3] at h; cases h
        · simp only [List.length_cons] at hm; omega
    · refine ⟨fun r h => ?_, fun _ _ => e2⟩
      unfold twos at h
      rw [e1] at h
      cases h
theorem twos_cons {a b : UInt8} {t : List UInt8} : twos (a :: b :: t) = (match two [a, b], twos t with | some x, some r => some ((x : Int) :: r) | _, _ => none) := by rw [twos]
theorem twos_none {a b : UInt8} {t : List UInt8} (h : two [a, b] = none) : twos (a :: b :: t) = none := by rw [twos_cons, h]
theorem twos_some {a b : UInt8} {t : List UInt8} {x : Nat} (h : two [a, b] = some x) : twos (a :: b :: t) = (twos t).map ((x : Int) :: ·) := by
  rw [twos_cons, h]
  cases twos t <;> rfl
theorem rh_key (s : List UInt8) : (∀ r, key s = some r → rh s 0 8 [0, 0, 0, 0, 0, 0, 0, 0] = (true, r) ∧ r.length = 8) ∧ (key s = none → (rh s 0 8 [0, 0, 0, 0, 0, 0, 0, 0]).1 = false) := by
  unfold key rh
  by_cases h : s.length = 16
  · rw [if_pos h, if_pos (by omega)]
    have hz : ∀ j, 0 ≤ j → ([0, 0, 0, 0, 0, 0, 0, 0] : List Int).getD (0 + j) 0 = 0 := by
      intro j _
      match j with
      | 0 | 1 | 2 | 3 | 4 | 5 | 6 | 7 => rfl
      | j + 8 => simp
    obtain ⟨h1, h2⟩ := rhGo_twos 0 s 0 [0, 0, 0, 0, 0, 0, 0, 0] hz (by simp [h]) (by simp)
    refine ⟨fun r e => ?_, fun e => h2 e (by omega)⟩
    have hl := twos_len e
    have h8 : r.length = 8 := by omega
    refine ⟨?_, h8⟩
    have := h1 r e
    rw [this, h8]
    simp
  · rw [if_neg h, if_neg (by omega)]
    exact ⟨fun r e => (by cases e), fun _ => rfl⟩
theorem eight {r : List Int} (h : r.length = 8) : ∃ a b c d e f g i, r = [a, b, c, d, e, f, g, i] := by
  match r, h with
  | [a, b, c, d, e, f, g, i], _ => exact ⟨a, b, c, d, e, f, g, i, rfl⟩
theorem six {r : List Int} (h : r.length = 6) : ∃ a b c d e f, r = [a, b, c, d, e, f] := by
  match r, h with
  | [a, b, c, d, e, f], _ => exact ⟨a, b, c, d, e, f, rfl⟩
end Ad
end Go.Proofs.YtkkbnagfndphpaaDoor
