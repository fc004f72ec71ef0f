/-
  Plain mathematics: each number, each address has its one text.
  Settings as bytes: what is asked of a field: its three functions, in every world that keeps what they captured.
  Settings as bytes: the field of a list's length (lych/api.Tenant, lych/api.Pair).
  Settings as bytes: the field of a list's length (lych/api.Config, lych/api.Tenant).
  Settings as bytes: the field of a list's length (lych/api.Tenant, uint32).
-/
import Derived.Test.YtneciccdiledfaaGreatDoorM09
import Derived.Lib.ItoaNum
import Derived.Lib.Join
import Derived.Test.YtneciccdiledfaaGreatDoorM10
namespace Go.Proofs.YtneciccdiledfaaGreatDoor
namespace Ad
set_option linter.unusedVariables false
open Go.Lib (decDigits)

def IsD (l : List UInt8) : Prop := ∀ b ∈ l, 48 ≤ b.toNat ∧ b.toNat ≤ 57
def dvGo (n : Nat) (l : List UInt8) : Nat := l.foldl (fun n b => 10 * n + (b.toNat - 48)) n
def dv (l : List UInt8) : Nat := dvGo 0 l
theorem dvGo_ge : ∀ (l : List UInt8) (n : Nat), n ≤ dvGo n l
  | [], n => Nat.le_refl _
  | b :: l, n => by
    have := dvGo_ge l (10 * n + (b.toNat - 48))
    simp only [dvGo, List.foldl_cons] at this ⊢
    omega
theorem numGo_dv {most : Nat} : ∀ {l : List UInt8} {n : Nat}, IsD l → n ≤ most → numGo most n l = if dvGo n l ≤ most then some (dvGo n l) else none
  | [], n, _, h => by simp [numGo, dvGo, h]
  | b :: l, n, hd, h => by
    have hb := hd b (by simp)
    have hl : IsD l := fun x hx => hd x (by simp [hx])
    have e : dvGo n (b :: l) = dvGo (10 * n + (b.toNat - 48)) l := rfl
    rw [e]
    by_cases ho : most < 10 * n + (b.toNat - 48)
    · rw [numGo_over hb ho, if_neg]
      have := dvGo_ge l (10 * n + (b.toNat - 48))
      omega
    · rw [numGo_on hb ho]
      exact numGo_dv hl (by omega)
theorem numGo_digits {most : Nat} : ∀ {l : List UInt8} {n r : Nat}, numGo most n l = some r → IsD l
  | [], n, r, _ => fun b hb => by simp at hb
  | b :: l, n, r, h => by
    unfold numGo at h
    split at h
    · rename_i hb
      split at h
      · cases h
      · intro x hx
        rcases List.mem_cons.1 hx with rfl | hx
        · exact hb
        · exact numGo_digits h x hx
    · cases h
theorem ofNat_toNat {n : Nat} (h : n < 256) : (UInt8.ofNat n).toNat = n := by
  rw [UInt8.toNat_ofNat']; omega
theorem dvGo_snoc (n : Nat) (l : List UInt8) (b : UInt8) : dvGo n (l ++ [b]) = 10 * dvGo n l + (b.toNat - 48) := by simp [dvGo, List.foldl_append]
theorem dec_small {n : Nat} (h : n < 10) : decDigits n = [UInt8.ofNat (48 + n)] := Lib.decDigits_one h
theorem dec_big {n : Nat} (h : ¬ n < 10) : decDigits n = decDigits (n / 10) ++ [UInt8.ofNat (48 + n % 10)] := by rw [decDigits, dif_neg h]
theorem dec_facts (n : Nat) : IsD (decDigits n) ∧ dv (decDigits n) = n ∧ decDigits n ≠ [] ∧ (1 < (decDigits n).length → 10 ≤ n) ∧ (10 ≤ n → (decDigits n).head? ≠ some 48) ∧ (1 ≤ n → (decDigits n).head? ≠ some 48) := by
  induction n using Nat.strongRecOn with
  | ind n ih =>
    by_cases h : n < 10
    · rw [dec_small h]
      refine ⟨?_, ?_, by simp, fun h => by simp at h, fun h => by omega, fun h1 => ?_⟩
      · intro b hb
        rw [List.mem_singleton.1 hb, ofNat_toNat (by omega)]; omega
      · simp only [dv, dvGo, List.foldl_cons, List.foldl_nil]
        rw [ofNat_toNat (by omega)]; omega
      · simp only [List.head?_cons, ne_eq, Option.some.injEq]
        intro e
        have := congrArg UInt8.toNat e
        rw [ofNat_toNat (by omega)] at this
        have h48 : (48 : UInt8).toNat = 48 := rfl
        omega
    · obtain ⟨i1, i2, i3, i4, i5, i6⟩ := ih (n / 10) (by omega)
      rw [dec_big h]
      have hh : ∀ x, (decDigits (n / 10) ++ [UInt8.ofNat (48 + n % 10)]).head? = some x → (decDigits (n / 10)).head? = some x := by
        intro x hx
        cases hd : decDigits (n / 10) with
        | nil => exact absurd hd i3
        | cons y t => rw [hd] at hx; simpa using hx
      refine ⟨?_, ?_, by simp, fun _ => by omega, fun _ e => i6 (by omega) (hh _ e), fun _ e => i6 (by omega) (hh _ e)⟩
      · intro b hb
        rcases List.mem_append.1 hb with hb | hb
        · exact i1 b hb
        · rw [List.mem_singleton.1 hb, ofNat_toNat (by omega)]; omega
      · have i2' : dvGo 0 (decDigits (n / 10)) = n / 10 := i2
        rw [dv, dvGo_snoc, i2', ofNat_toNat (by omega)]; omega
theorem num_dec (n most : Nat) : num (decDigits n) most = if n ≤ most then some n else none := by
  obtain ⟨i1, i2, i3, i4, i5, i6⟩ := dec_facts n
  unfold num
  rw [if_neg]
  · rw [numGo_dv i1 (Nat.zero_le _)]
    have : dvGo 0 (decDigits n) = n := i2
    rw [this]
  · rintro (e | ⟨e1, e2⟩)
    · exact i3 e
    · exact i5 (i4 e1) e2
theorem num_nought (n most : Nat) : num (48 :: decDigits n) most = none := by
  obtain ⟨i1, i2, i3, i4, i5, i6⟩ := dec_facts n
  unfold num
  rw [if_pos]
  refine Or.inr ⟨?_, rfl⟩
  have : 0 < (decDigits n).length := List.length_pos_iff.2 i3
  simp only [List.length_cons]; omega
theorem byte_back {b : UInt8} (h : 48 ≤ b.toNat ∧ b.toNat ≤ 57) : UInt8.ofNat (48 + (b.toNat - 48)) = b := by
  apply UInt8.toNat_inj.1
  rw [ofNat_toNat (by omega)]; omega
theorem dec_of_digits : ∀ (k : Nat) (l : List UInt8), l.length = k + 1 → IsD l → l.head? ≠ some 48 → decDigits (dv l) = l ∧ 1 ≤ dv l
  | 0, l, hl, hd, hh => by
    obtain ⟨b, rfl⟩ : ∃ b, l = [b] := by
      match l, hl with
      | [b], _ => exact ⟨b, rfl⟩
    have hb := hd b (by simp)
    have hv : dv [b] = b.toNat - 48 := by simp [dv, dvGo]
    have hne : b.toNat ≠ 48 := by
      intro e
      exact hh (by simp; exact UInt8.toNat_inj.1 e)
    rw [hv, dec_small (by omega), byte_back hb]
    exact ⟨rfl, by omega⟩
  | k + 1, l, hl, hd, hh => by
    rcases List.eq_nil_or_concat l with rfl | ⟨l', b, rfl⟩
    · simp at hl
    · rw [List.concat_eq_append] at hl hd hh ⊢
      simp only [List.length_append, List.length_cons, List.length_nil] at hl
      have hb := hd b (by simp)
      have hh' : l'.head? ≠ some 48 := by
        cases l' with
        | nil => simp at hl
        | cons x t => simpa using hh
      obtain ⟨j1, j2⟩ := dec_of_digits k l' (by omega) (fun x hx => hd x (by simp [hx])) hh'
      have hv : dv (l' ++ [b]) = 10 * dv l' + (b.toNat - 48) := dvGo_snoc 0 l' b
      rw [hv, dec_big (by omega), show (10 * dv l' + (b.toNat - 48)) / 10 = dv l' by omega, show (10 * dv l' + (b.toNat - 48)) % 10 = b.toNat - 48 by omega, j1, byte_back hb]
      exact ⟨rfl, by omega⟩
theorem num_back {l : List UInt8} {most n : Nat} (h : num l most = some n) : decDigits n = l := by
  unfold num at h
  split at h
  · cases h
  · rename_i hc
    have hd := numGo_digits h
    rw [numGo_dv hd (Nat.zero_le _)] at h
    split at h
    · have hn : dv l = n := Option.some.inj h
      have hne : l ≠ [] := fun e => hc (Or.inl e)
      by_cases h48 : l.head? = some 48
      · have hlen : l.length = 1 := by
          have := List.length_pos_iff.2 hne
          have : ¬ 1 < l.length := fun e => hc (Or.inr ⟨e, h48⟩)
          omega
        obtain ⟨b, rfl⟩ : ∃ b, l = [b] := by
          match l, hlen with
          | [b], _ => exact ⟨b, rfl⟩
        have hb := hd b (by simp)
        have hv : dv [b] = b.toNat - 48 := by simp [dv, dvGo]
        rw [← hn, hv, dec_small (by omega), byte_back hb]
      · have := (dec_of_digits (l.length - 1) l (by have := List.length_pos_iff.2 hne; omega) hd h48).1
        rw [← hn]; exact this
    · cases h

/-! ### Texts joined -/
theorem cut_join (c : UInt8) : ∀ (r : List (List UInt8)) (p : List UInt8), (∀ q ∈ p :: r, ∀ x ∈ q, x ≠ c) → cut c (Lib.join (p :: r) [c]) = p :: r
  | [], p, h => by rw [Lib.join_one]; exact cut_free c (h p (by simp))
  | q :: r, p, h => by
    have e : Lib.join (p :: q :: r) [c] = p ++ c :: Lib.join (q :: r) [c] := by
      rw [Lib.join_cons, Lib.join_cons]
      simp [Lib.joinTail]
    rw [e, cut_at c _ (h p (by simp)), cut_join c r q (fun y hy => h y (by simp [hy]))]
theorem join_cut (c : UInt8) : ∀ (n : Nat) (l : List UInt8), l.length ≤ n → Lib.join (cut c l) [c] = l
  | 0, l, h => by
    have : l = [] := List.eq_nil_of_length_eq_zero (by omega)
    subst this
    rw [cut, Lib.join_one]
  | n + 1, l, h => by
    rcases first_cut c l with hf | ⟨p, t, rfl, hf⟩
    · rw [cut_free c hf, Lib.join_one]
    · rw [cut_at c t hf]
      have ih := join_cut c n t (by simp at h; omega)
      cases hc : cut c t with
      | nil => have := cut_pos c t; rw [hc] at this; simp at this
      | cons q r =>
        rw [hc] at ih
        have e : Lib.join (p :: q :: r) [c] = p ++ c :: Lib.join (q :: r) [c] := by
          rw [Lib.join_cons, Lib.join_cons]
          simp [Lib.joinTail]
        rw [e, ih]
theorem dec_free (n : Nat) : ∀ x ∈ decDigits n, x ≠ 46 := by
  intro x hx e
  have := (dec_facts n).1 x hx
  rw [e] at this
  have h46 : (46 : UInt8).toNat = 46 := rfl
  omega
/-- The text of an address of version 4. -/
def ipt (a : Nat) : List UInt8 := Lib.join [decDigits (a / 16777216), decDigits (a / 65536 % 256), decDigits (a / 256 % 256), decDigits (a % 256)] [46]
theorem ip_ipt {a : Nat} (h : a < 4294967296) : ip (ipt a) = some a := by
  have hc : cut 46 (ipt a) = [decDigits (a / 16777216), decDigits (a / 65536 % 256), decDigits (a / 256 % 256), decDigits (a % 256)] := by
    apply cut_join
    intro q hq
    simp only [List.mem_cons, List.not_mem_nil, or_false] at hq
    rcases hq with rfl | rfl | rfl | rfl <;> exact dec_free _
  unfold ip
  rw [hc, if_pos (by simp), ipGo_on (by rw [num_dec, if_pos (by omega)]), ipGo_on (by rw [num_dec, if_pos (by omega)]), ipGo_on (by rw [num_dec, if_pos (by omega)]), ipGo_on (by rw [num_dec, if_pos (by omega)]), ipGo]
  congr 1
  omega
theorem ip_lt {s : List UInt8} {a : Nat} (h : ip s = some a) : a < 4294967296 ∧ ipt a = s := by
  unfold ip at h
  split at h
  · rename_i hl
    obtain ⟨p0, p1, p2, p3, hc⟩ : ∃ p0 p1 p2 p3, cut 46 s = [p0, p1, p2, p3] := by
      match cut 46 s, hl with
      | [p0, p1, p2, p3], _ => exact ⟨p0, p1, p2, p3, rfl⟩
    have hj := join_cut 46 s.length s (Nat.le_refl _)
    rw [hc] at h hj
    cases h0 : num p0 255 with
    | none => rw [ipGo_stop h0] at h; cases h
    | some b0 =>
      rw [ipGo_on h0] at h
      cases h1 : num p1 255 with
      | none => rw [ipGo_stop h1] at h; cases h
      | some b1 =>
        rw [ipGo_on h1] at h
        cases h2 : num p2 255 with
        | none => rw [ipGo_stop h2] at h; cases h
        | some b2 =>
          rw [ipGo_on h2] at h
          cases h3 : num p3 255 with
          | none => rw [ipGo_stop h3] at h; cases h
          | some b3 =>
            rw [ipGo_on h3, ipGo] at h
            have ha := Option.some.inj h
            have l0 := num_le h0
            have l1 := num_le h1
            have l2 := num_le h2
            have l3 := num_le h3
            refine ⟨by omega, ?_⟩
            unfold ipt
            rw [show a / 16777216 = b0 by omega, show a / 65536 % 256 = b1 by omega, show a / 256 % 256 = b2 by omega, show a % 256 = b3 by omega, num_back h0, num_back h1, num_back h2, num_back h3]
            exact hj
  · cases h

/-! ### Hexadecimal texts -/
def hex2 (x : Int) : List UInt8 := [UInt8.ofNat (hdg (x.toNat / 16)), UInt8.ofNat (hdg (x.toNat % 16))]
theorem hdg_small {n : Nat} (h : n < 16) : hdg n < 103 := by unfold hdg; split <;> omega
theorem hdg_ge (n : Nat) : 48 ≤ hdg n := by unfold hdg; split <;> omega
theorem hdg_ne {n : Nat} (h : n < 16) : hdg n ≠ 58 := by unfold hdg; split <;> omega
theorem two_hex {x : Nat} (h : x < 256) : two (hex2 (x : Int)) = some x := by
  have a1 := hdg_small (show x / 16 < 16 by omega)
  have a2 := hdg_small (show x % 16 < 16 by omega)
  unfold hex2
  rw [Int.toNat_natCast]
  have e1 : hx (UInt8.ofNat (hdg (x / 16))).toNat = some (x / 16) := by rw [ofNat_toNat (by omega), hx_hdg (by omega)]
  have e2 : hx (UInt8.ofNat (hdg (x % 16))).toNat = some (x % 16) := by rw [ofNat_toNat (by omega), hx_hdg (by omega)]
  simp only [two, e1, e2, Option.some.injEq]
  omega
theorem hex_two {p : List UInt8} {x : Nat} (h : two p = some x) : hex2 (x : Int) = p := by
  unfold two at h
  split at h
  · rename_i a b
    split at h
    · rename_i y z e1 e2
      obtain ⟨y16, ey⟩ := hx_some e1
      obtain ⟨z16, ez⟩ := hx_some e2
      have hx := Option.some.inj h
      unfold hex2
      rw [Int.toNat_natCast, show x / 16 = y by omega, show x % 16 = z by omega, ← ey, ← ez, UInt8.ofNat_toNat, UInt8.ofNat_toNat]
    · cases h
  · cases h
theorem hex_free {x : Int} (h : 0 ≤ x ∧ x ≤ 255) : ∀ b ∈ hex2 x, b ≠ 58 := by
  intro b hb e
  have h58 : (58 : UInt8).toNat = 58 := rfl
  simp only [hex2, List.mem_cons, List.not_mem_nil, or_false] at hb
  rcases hb with rfl | rfl
  · have := congrArg UInt8.toNat e
    rw [ofNat_toNat (by have := hdg_small (show x.toNat / 16 < 16 by omega); omega), h58] at this
    exact hdg_ne (show x.toNat / 16 < 16 by omega) this
  · have := congrArg UInt8.toNat e
    rw [ofNat_toNat (by have := hdg_small (show x.toNat % 16 < 16 by omega); omega), h58] at this
    exact hdg_ne (show x.toNat % 16 < 16 by omega) this
/-- The text of a hardware address, of a key. -/
def mact (l : List Int) : List UInt8 := Lib.join (l.map hex2) [58]
def keyt (l : List Int) : List UInt8 := l.flatMap hex2
theorem two_byte {x : Int} (h : 0 ≤ x ∧ x ≤ 255) : two (hex2 x) = some x.toNat := by
  have := two_hex (x := x.toNat) (by omega)
  rwa [Int.toNat_of_nonneg h.1] at this
theorem mac_mact {a b c d e f : Int} (ha : 0 ≤ a ∧ a ≤ 255) (hb : 0 ≤ b ∧ b ≤ 255) (hc : 0 ≤ c ∧ c ≤ 255) (hd : 0 ≤ d ∧ d ≤ 255) (he : 0 ≤ e ∧ e ≤ 255) (hf : 0 ≤ f ∧ f ≤ 255) : mac (mact [a, b, c, d, e, f]) = some [a, b, c, d, e, f] := by
  have hcut : cut 58 (mact [a, b, c, d, e, f]) = [hex2 a, hex2 b, hex2 c, hex2 d, hex2 e, hex2 f] := by
    apply cut_join
    intro q hq
    simp only [List.map_cons, List.map_nil, List.mem_cons, List.not_mem_nil, or_false] at hq
    rcases hq with rfl | rfl | rfl | rfl | rfl | rfl
    · exact hex_free ha
    · exact hex_free hb
    · exact hex_free hc
    · exact hex_free hd
    · exact hex_free he
    · exact hex_free hf
  unfold mac
  rw [hcut, if_pos (by simp), fill_on (two_byte ha), fill_on (two_byte hb), fill_on (two_byte hc), fill_on (two_byte hd), fill_on (two_byte he), fill_on (two_byte hf), fill]
  rw [Int.toNat_of_nonneg ha.1, Int.toNat_of_nonneg hb.1, Int.toNat_of_nonneg hc.1, Int.toNat_of_nonneg hd.1, Int.toNat_of_nonneg he.1, Int.toNat_of_nonneg hf.1]
  rfl
theorem mac_back {s : List UInt8} {l : List Int} (h : mac s = some l) : mact l = s ∧ l.length = 6 ∧ ∀ i, 0 ≤ l.getD i 0 ∧ l.getD i 0 ≤ 255 := by
  unfold mac at h
  split at h
  · rename_i hl
    obtain ⟨p0, p1, p2, p3, p4, p5, hc⟩ : ∃ p0 p1 p2 p3 p4 p5, cut 58 s = [p0, p1, p2, p3, p4, p5] := by
      match cut 58 s, hl with
      | [p0, p1, p2, p3, p4, p5], _ => exact ⟨p0, p1, p2, p3, p4, p5, rfl⟩
    have hj := join_cut 58 s.length s (Nat.le_refl _)
    rw [hc] at h hj
    have stp : ∀ {i : Nat} {l' : List Int} {p : List UInt8} {r : List (List UInt8)}, fill i l' (p :: r) = some l → ∃ x, two p = some x ∧ fill (i + 1) (l'.set i (x : Int)) r = some l := by
      intro i l' p r h
      cases h2 : two p with
      | none => rw [fill_stop h2] at h; cases h
      | some x => rw [fill_on h2] at h; exact ⟨x, rfl, h⟩
    obtain ⟨x0, t0, h⟩ := stp h
    obtain ⟨x1, t1, h⟩ := stp h
    obtain ⟨x2, t2, h⟩ := stp h
    obtain ⟨x3, t3, h⟩ := stp h
    obtain ⟨x4, t4, h⟩ := stp h
    obtain ⟨x5, t5, h⟩ := stp h
    have hl2 : ([(x0 : Int), x1, x2, x3, x4, x5] : List Int) = l := by
      rw [fill] at h
      exact Option.some.inj h
    subst hl2
    have u0 := two_lt t0
    have u1 := two_lt t1
    have u2 := two_lt t2
    have u3 := two_lt t3
    have u4 := two_lt t4
    have u5 := two_lt t5
    refine ⟨?_, rfl, ?_⟩
    · unfold mact
      simp only [List.map_cons, List.map_nil]
      rw [hex_two t0, hex_two t1, hex_two t2, hex_two t3, hex_two t4, hex_two t5]
      exact hj
    · intro i
      match i with
      | 0 | 1 | 2 | 3 | 4 | 5 => simp; omega
      | i + 6 => simp
  · cases h
theorem twos_keyt : ∀ (l : List Int), (∀ x ∈ l, 0 ≤ x ∧ x ≤ 255) → twos (keyt l) = some l
  | [], _ => rfl
  | x :: l, h => by
    have hx := h x (by simp)
    have ih := twos_keyt l (fun y hy => h y (by simp [hy]))
    have e : keyt (x :: l) = UInt8.ofNat (hdg (x.toNat / 16)) :: UInt8.ofNat (hdg (x.toNat % 16)) :: keyt l := by simp [keyt, hex2]
    rw [e, twos_some (two_byte hx), ih, Option.map_some, Int.toNat_of_nonneg hx.1]
theorem keyt_len : ∀ (l : List Int), (keyt l).length = 2 * l.length
  | [] => rfl
  | x :: l => by
    have := keyt_len l
    simp only [keyt, List.flatMap_cons, List.length_append, List.length_cons] at this ⊢
    simp only [hex2, List.length_cons, List.length_nil]; omega
theorem key_keyt {l : List Int} (hl : l.length = 8) (h : ∀ x ∈ l, 0 ≤ x ∧ x ≤ 255) : key (keyt l) = some l := by
  unfold key
  rw [if_pos (by rw [keyt_len, hl]), twos_keyt l h]
theorem twos_back : ∀ {s : List UInt8} {l : List Int}, twos s = some l → keyt l = s
  | [], l, h => by simp only [twos, Option.some.injEq] at h; subst h; rfl
  | [_], l, h => by simp [twos] at h
  | a :: b :: t, l, h => by
    cases h2 : two [a, b] with
    | none => rw [twos_none h2] at h; cases h
    | some x =>
      rw [twos_some h2] at h
      cases h3 : twos t with
      | none => rw [h3] at h; cases h
      | some r =>
        rw [h3, Option.map_some] at h
        obtain rfl := Option.some.inj h
        have := twos_back h3
        have e : keyt ((x : Int) :: r) = hex2 (x : Int) ++ keyt r := by simp [keyt]
        rw [e, hex_two h2, this]; rfl
theorem key_back {s : List UInt8} {l : List Int} (h : key s = some l) : keyt l = s ∧ l.length = 8 ∧ ∀ i, 0 ≤ l.getD i 0 ∧ l.getD i 0 ≤ 255 := by
  unfold key at h
  split at h
  · rename_i hs
    have := twos_len h
    exact ⟨twos_back h, by omega, twos_bytes h⟩
  · cases h
end Ad
end Go.Proofs.YtneciccdiledfaaGreatDoor

namespace Go.Proofs.YtneciccdiledfaaGreatDoor
open Go.RowKit
open Sm
open Cf
set_option linter.unusedVariables false
set_option maxRecDepth 20000

/-- A field's three functions: their numbers and what they captured. -/
structure Fv where
  kw : Nat
  kr : Nat
  ks : Nat
  cw : Array Value
  cr : Array Value
  cs : Array Value
def Fv.cells (f : Fv) : List Value := [.func (.func f.kw) #[] f.cw, .func (.func f.kr) #[] f.cr, .func (.func f.ks) #[] f.cs]
def Fv.val (f : Fv) : Value := .agg #[.func (.func f.kw) #[] f.cw, .func (.func f.kr) #[] f.cr, .func (.func f.ks) #[] f.cs]
def Ent (k : Nat) : Prop := ∀ args V, (callFunc k args).run Tryz.prog V = .ok (.enter k args) V
/-- x lies at a place of a world, its lists where r says. -/
abbrev Rp (α ρ : Type) := α → ρ → World → Nat → Nat → Prop
/-- x lies in a block of the call's own, between other cells, and may be written over. -/
abbrev St' (α : Type) := World → α → Nat → TypeId → List Value → List Value → World → List (Nat × Obj) → Prop
/-- What a field writes, reads, holds to be the same. -/
structure Sp (α : Type) where
  enc : α → List Int
  dec : List Int → α → Option (α × List Int)
  eq : α → α → Bool
def Sub (L K : List (Nat × Obj)) : Prop := ∀ q ∈ L, q ∈ K
theorem Sub.refl (L : List (Nat × Obj)) : Sub L L := fun _ h => h
theorem Sub.trans {A B C : List (Nat × Obj)} (h : Sub A B) (k : Sub B C) : Sub A C := fun q hq => k q (h q hq)
theorem Sub.cons {L K : List (Nat × Obj)} (h : Sub L K) (p : Nat × Obj) : Sub L (p :: K) := fun q hq => List.mem_cons_of_mem _ (h q hq)
theorem Sub.app {L K : List (Nat × Obj)} (h : Sub L K) (M : List (Nat × Obj)) : Sub L (M ++ K) := fun q hq => List.mem_append_right _ (h q hq)
structure Fd {α ρ : Type} (w : World) (L : List (Nat × Obj)) (I : Rp α ρ) (J : St' α) (f : Fv) (s : Sp α) : Prop where
  ew : Ent f.kw
  er : Ent f.kr
  es : Ent f.ks
  wr : ∀ K, Sub L K → ∀ x r g off, (∀ V, Mem w V K → I x r V g off) → ∀ v l V, Out w V v l K → l.length + (s.enc x).length ≤ 1000000000 →
    Calls Tryz.prog f.kw (#[v, .pointer (some ⟨g, off, none⟩)] ++ f.cw) V fun e V' => ∃ v', e = .returned v' ∧ Out w V' v' (l ++ s.enc x) K
  rd : ∀ K, Sub L K → ∀ x g T pre post a l c V, J w x g T pre post V K → Sl w a l c →
    Calls Tryz.prog f.kr (#[.slice a l.length c, .pointer (some ⟨g, pre.length, none⟩)] ++ f.cr) V (RPost w K (fun y V' => J w y g T pre post V' K) (s.dec l x))
  sm : ∀ K, Sub L K → ∀ x y r r' g off h of', (∀ V, Mem w V K → I x r V g off ∧ I y r' V h of') → ∀ V, Mem w V K →
    Calls Tryz.prog f.ks (#[.pointer (some ⟨g, off, none⟩), .pointer (some ⟨h, of', none⟩)] ++ f.cs) V fun e V' => e = .returned (.bool (s.eq x y)) ∧ Mem w V' K
theorem Fd.more {α ρ : Type} {w : World} {L K : List (Nat × Obj)} {I : Rp α ρ} {J : St' α} {f : Fv} {s : Sp α} (h : Fd w L I J f s) (hs : Sub L K) : Fd w K I J f s :=
  ⟨h.ew, h.er, h.es, fun M hM => h.wr M (hs.trans hM), fun M hM => h.rd M (hs.trans hM), fun M hM => h.sm M (hs.trans hM)⟩
/-- Fields, one by one. -/
inductive FdAll {α ρ : Type} (w : World) (L : List (Nat × Obj)) (I : Rp α ρ) (J : St' α) : List Fv → List (Sp α) → Prop
  | nil : FdAll w L I J [] []
  | cons {f : Fv} {s : Sp α} {fs : List Fv} {ss : List (Sp α)} : Fd w L I J f s → FdAll w L I J fs ss → FdAll w L I J (f :: fs) (s :: ss)
def fv0 : Fv := ⟨0, 0, 0, #[], #[], #[]⟩
def sp0 {α : Type} : Sp α := ⟨fun _ => [], fun _ _ => none, fun _ _ => false⟩
theorem FdAll.at_ {α ρ : Type} {w : World} {L : List (Nat × Obj)} {I : Rp α ρ} {J : St' α} {fs : List Fv} {ss : List (Sp α)} (h : FdAll w L I J fs ss) : ∀ i, i < fs.length → Fd w L I J (fs.getD i fv0) (ss.getD i sp0) := by
  induction h with
  | nil => intro i hi; simp at hi
  | cons h1 h2 ih =>
    intro i hi
    cases i with
    | zero => exact h1
    | succ i => exact ih i (by simpa using hi)
theorem FdAll.len {α ρ : Type} {w : World} {L : List (Nat × Obj)} {I : Rp α ρ} {J : St' α} {fs : List Fv} {ss : List (Sp α)} (h : FdAll w L I J fs ss) : fs.length = ss.length := by
  induction h with
  | nil => rfl
  | cons _ _ ih => simp [ih]
/-- Fields in a row. -/
def spAll {α : Type} (ss : List (Sp α)) : Sp α :=
  ⟨fun x => cat (fun i => (ss.getD i sp0).enc x) ss.length, fun l x => sq (fun i => (ss.getD i sp0).dec) 0 ss.length l x, fun x y => decide (∀ i, i < ss.length → (ss.getD i sp0).eq x y = true)⟩
theorem flat_get (fs : List Fv) : ∀ i, i < fs.length → (fs.flatMap Fv.cells)[i * 3]? = some (.func (.func (fs.getD i fv0).kw) #[] (fs.getD i fv0).cw) ∧
    (fs.flatMap Fv.cells)[i * 3 + 1]? = some (.func (.func (fs.getD i fv0).kr) #[] (fs.getD i fv0).cr) ∧ (fs.flatMap Fv.cells)[i * 3 + 2]? = some (.func (.func (fs.getD i fv0).ks) #[] (fs.getD i fv0).cs) := by
  induction fs with
  | nil => intro i hi; simp at hi
  | cons f fs ih =>
    intro i hi
    cases i with
    | zero => exact ⟨rfl, rfl, rfl⟩
    | succ i =>
      obtain ⟨h1, h2, h3⟩ := ih i (by simpa using hi)
      have e : ∀ k, ((f :: fs).flatMap Fv.cells)[(i + 1) * 3 + k]? = (fs.flatMap Fv.cells)[i * 3 + k]? := by
        intro k
        rw [List.flatMap_cons, List.getElem?_append_right (by simp [Fv.cells]; omega)]
        congr 1
        simp [Fv.cells]; omega
      refine ⟨?_, ?_, ?_⟩
      · rw [show (i + 1) * 3 = (i + 1) * 3 + 0 by omega, e 0]; exact h1
      · rw [e 1]; exact h2
      · rw [e 2]; exact h3
theorem mem_box {w V : World} {L : List (Nat × Obj)} {b : Nat} {A : Array Value} {t : TypeId} (hM : Mem w V L) (h : (b, .cells A t (0, 0)) ∈ L) (j : Nat) : V.cell? ⟨b, j, none⟩ = A[j]? := cell_of (hM.at_ _ h) j
theorem be_wrap (n : Nat) (h : n ≤ 7) (x : Int) : be n (IntKind.u64.wrap x) = be n x := by
  have key : ∀ k : Nat, k ≤ 7 → (x % 18446744073709551616) / 256 ^ k % 256 = x / 256 ^ k % 256 := by
    intro k hk
    match k, hk with
    | 0, _ => omega
    | 1, _ => omega
    | 2, _ => omega
    | 3, _ => omega
    | 4, _ => omega
    | 5, _ => omega
    | 6, _ => omega
    | 7, _ => omega
  rw [wrapu64]
  induction n with
  | zero => rfl
  | succ n ih => rw [be, be, key n (by omega), ih (by omega)]
def spNum {α : Type} (sz : Nat) (fg : α → Int) (fs : α → Int → α) : Sp α :=
  ⟨fun x => be sz (fg x), fun l x => if l.length < sz then none else some (fs x (num (l.take sz)), l.drop sz), fun x y => decide (fg x = fg y)⟩
theorem heap_alloc3_new (w : World) (a b c : Obj) : (((w.alloc a).alloc b).alloc c).heap[w.heap.size + 1 + 1]? = some c := by
  have h := heap_alloc_new ((w.alloc a).alloc b) c
  have e : ((w.alloc a).alloc b).heap.size = w.heap.size + 1 + 1 := by
    show ((w.heap.push a).push b).size = _
    simp
  rwa [e] at h
theorem RPost.mono2 {σ τ : Type} {w : World} {L K : List (Nat × Obj)} {J : σ → World → Prop} {H : τ → World → Prop} {r : Option (σ × List Int)} {q : Option (τ × List Int)} {e : Ending} {W' : World} (f : σ → τ) (hq : q = r.map (fun x => (f x.1, x.2)))
    (h : RPost w L J r e W') (hn : Mem w W' L → Mem w W' K) (hs : ∀ s l', r = some (s, l') → J s W' → H (f s) W') : RPost w K H q e W' := by
  subst hq
  cases r with
  | none => exact ⟨h.1, hn h.2⟩
  | some x => obtain ⟨a, c, h1, h2, h3⟩ := h; exact ⟨a, c, h1, h2, hs _ _ rfl h3⟩
def spOct {α : Type} (n : Nat) (fg : α → List Int) (fs : α → List Int → α) : Sp α :=
  ⟨fg, fun l x => if l.length < n then none else some (fs x (l.take n), l.drop n), fun x y => decide (fg x = fg y)⟩
def spTxt {α : Type} (fg : α → ByteArray) (fs : α → ByteArray → α) : Sp α :=
  ⟨fun x => nm (fg x), fun l x => (dtxt l).map (fun q => (fs x q.1, q.2)), fun x y => decide (sb (fg x) = sb (fg y))⟩
def spCnt {α : Type} (fl : α → Nat) (fs : α → Nat → α) : Sp α :=
  ⟨fun x => [((min (fl x) 255 : Nat) : Int)], fun l x => match l with | [] => none | b :: r => some (fs x b.toNat, r), fun x y => decide (fl x = fl y)⟩
/-- Elements one by one into a list. -/
def itd {β : Type} (d : β) (se : Sp β) : Nat → List Int → List β → Option (List β × List Int) := fun i l xs => (se.dec l (xs.getD i d)).map (fun q => (xs.set i q.1, q.2))
def spItm {α β : Type} [DecidableEq β] (d : β) (se : Sp β) (fl : α → List β) (fs : α → List β → α) : Sp α :=
  ⟨fun x => cat (fun i => se.enc ((fl x).getD i d)) (min (fl x).length 255), fun l x => (sq (itd d se) 0 (fl x).length l (fl x)).map (fun q => (fs x q.1, q.2)), fun x y => decide (fl x = fl y)⟩
/-- One cell of what is read: where it lies, and what is left when it is written over. -/
structure Lens {α : Type} (w : World) (J : St' α) (o : Nat) (x : α) (g : Nat) (T : TypeId) (pre post : List Value) (V : World) (K M : List (Nat × Obj)) (A : Array Value) : Prop where
  mem : Mem w V ((g, .cells A T (0, 0)) :: M)
  sub : Sub K M
  back : ∀ V', Mem w V' M → Mem w V' K
end Go.Proofs.YtneciccdiledfaaGreatDoor

namespace Go.Proofs.YtneciccdiledfaaGreatDoor
open Go.RowKit
open Sm
open Cf
set_option linter.unusedVariables false
set_option maxRecDepth 20000

/-- What a list's length that is read makes: a list of so many noughts, or nothing. -/
def CMade_TP (w W : World) (g : Nat) (A : Array Value) (T : TypeId) (j : Nat) (L : List (Nat × Obj)) (m : Nat) : Prop :=
  (m = 0 ∧ Mem w W ((g, .cells A T (0, 0)) :: L)) ∨ (0 < m ∧ ∃ h, Mem w W ((g, .cells (A.setIfInBounds j (.slice (some ⟨h, 0, none⟩) m m)) T (0, 0)) :: (h, .cells (madeCells (Value.agg #[.int .u32 0, .int .u32 0]).cells (m * 2)) 96 (0, 0)) :: L))

end Go.Proofs.YtneciccdiledfaaGreatDoor

namespace Go.Proofs.YtneciccdiledfaaGreatDoor
open Go.RowKit
open Sm
open Cf
set_option linter.unusedVariables false
set_option maxRecDepth 20000

/-- What a list's length that is read makes: a list of so many noughts, or nothing. -/
def CMade_CT (w W : World) (g : Nat) (A : Array Value) (T : TypeId) (j : Nat) (L : List (Nat × Obj)) (m : Nat) : Prop :=
  (m = 0 ∧ Mem w W ((g, .cells A T (0, 0)) :: L)) ∨ (0 < m ∧ ∃ h, Mem w W ((g, .cells (A.setIfInBounds j (.slice (some ⟨h, 0, none⟩) m m)) T (0, 0)) :: (h, .cells (madeCells (Value.agg (tc ten0 nilV nilV nilV).toArray).cells (m * 33)) 45 (0, 0)) :: L))

end Go.Proofs.YtneciccdiledfaaGreatDoor

namespace Go.Proofs.YtneciccdiledfaaGreatDoor
open Go.RowKit
open Sm
open Cf
set_option linter.unusedVariables false
set_option maxRecDepth 20000

/-- What a list's length that is read makes: a list of so many noughts, or nothing. -/
def CMade_TU (w W : World) (g : Nat) (A : Array Value) (T : TypeId) (j : Nat) (L : List (Nat × Obj)) (m : Nat) : Prop :=
  (m = 0 ∧ Mem w W ((g, .cells A T (0, 0)) :: L)) ∨ (0 < m ∧ ∃ h, Mem w W ((g, .cells (A.setIfInBounds j (.slice (some ⟨h, 0, none⟩) m m)) T (0, 0)) :: (h, .cells (madeCells (Value.int .u32 0).cells (m * 1)) 23 (0, 0)) :: L))

end Go.Proofs.YtneciccdiledfaaGreatDoor

