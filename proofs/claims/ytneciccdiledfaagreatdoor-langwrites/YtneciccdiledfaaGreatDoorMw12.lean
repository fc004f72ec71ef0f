/-
  Plain mathematics: each number, each address has its one text.
  Settings as bytes: what is asked of a field: its three functions, in every world that keeps what they captured.
  Settings as bytes: the field of a list's length (lych/api.Tenant, uint32).
  Settings as bytes: the field of a list's length (lych/api.Tenant, lych/api.Pair).
  Settings as bytes: the field of a list's length (lych/api.Config, lych/api.Tenant).
-/
import Derived.Test.YtneciccdiledfaaGreatDoorMw09
import Derived.Lib.ItoaNum
import Derived.Lib.Join
import Derived.Test.YtneciccdiledfaaGreatDoorMw10
namespace Go.Proofs.YtneciccdiledfaaGreatDoor
namespace Ad
set_option linter.unusedVariables false
open Go.Lib (decDigits)

def IsD (l : List UInt8) : Prop := ∀ b ∈ l, 48 ≤ b.toNat ∧ b.toNat ≤ 57
def dvGo (n : Nat) (l : List UInt8) : Nat := l.foldl (fun n b => 10 * n + (b.toNat - 48)) n
def dv (l : List UInt8) : Nat := dvGo 0 l
theorem dvGo_ge : ∀ (l : List UInt8) (n : Nat), n ≤ dvGo n l
  | [], n => Nat.le_refl _
  | b :: l, n => by
    have := dvGo_ge l (10 * n + (b.toNat - 48))
    simp only [dvGo, List.foldl_cons] at this ⊢
    omega
theorem numGo_dv {most : Nat} : ∀ {l : List UInt8} {n : Nat}, IsD l → n ≤ most → numGo most n l = if dvGo n l ≤ most then some (dvGo n l) else none
  | [], n, _, h => by simp [numGo, dvGo, h]
  | b :: l, n, hd, h => by
    have hb := hd b (by simp)
    have hl : IsD l := fun x hx => hd x (by simp [hx])
    have e : dvGo n (b :: l) = dvGo (10 * n + (b.toNat - 48)) l := rfl
    rw [e]
    by_cases ho : most < 10 * n + (b.toNat - 48)
    · rw [numGo_over hb ho, if_neg]
      have := dvGo_ge l (10 * n + (b.toNat - 48))
      omega
    · rw [numGo_on hb ho]
      exact numGo_dv hl (by omega)
theorem ofNat_toNat {n : Nat} (h : n < 256) : (UInt8.ofNat n).toNat = n := by
  rw [UInt8.toNat_ofNat']; omega
theorem dvGo_snoc (n : Nat) (l : List UInt8) (b : UInt8) : dvGo n (l ++ [b]) = 10 * dvGo n l + (b.toNat - 48) := by simp [dvGo, List.foldl_append]
theorem dec_small {n : Nat} (h : n < 10) : decDigits n = [UInt8.ofNat (48 + n)] := Lib.decDigits_one h
theorem dec_big {n : Nat} (h : ¬ n < 10) : decDigits n = decDigits (n / 10) ++ [UInt8.ofNat (48 + n % 10)] := by rw [decDigits, dif_neg h]
theorem dec_facts (n : Nat) : IsD (decDigits n) ∧ dv (decDigits n) = n ∧ decDigits n ≠ [] ∧ (1 < (decDigits n).length → 10 ≤ n) ∧ (10 ≤ n → (decDigits n).head? ≠ some 48) ∧ (1 ≤ n → (decDigits n).head? ≠ some 48) := by
  induction n using Nat.strongRecOn with
  | ind n ih =>
    by_cases h : n < 10
    · rw [dec_small h]
      refine ⟨?_, ?_, by simp, fun h => by simp at h, fun h => by omega, fun h1 => ?_⟩
      · intro b hb
        rw [List.mem_singleton.1 hb, ofNat_toNat (by omega)]; omega
      · simp only [dv, dvGo, List.foldl_cons, List.foldl_nil]
        rw [ofNat_toNat (by omega)]; omega
      · simp only [List.head?_cons, ne_eq, Option.some.injEq]
        intro e
        have := congrArg UInt8.toNat e
        rw [ofNat_toNat (by omega)] at this
        have h48 : (48 : UInt8).toNat = 48 := rfl
        omega
    · obtain ⟨i1, i2, i3, i4, i5, i6⟩ := ih (n / 10) (by omega)
      rw [dec_big h]
      have hh : ∀ x, (decDigits (n / 10) ++ [UInt8.ofNat (48 + n % 10)]).head? = some x → (decDigits (n / 10)).head? = some x := by
        intro x hx
        cases hd : decDigits (n / 10) with
        | nil => exact absurd hd i3
        | cons y t => rw [hd] at hx; simpa using hx
      refine ⟨?_, ?_, by simp, fun _ => by omega, fun _ e => i6 (by omega) (hh _ e), fun _ e => i6 (by omega) (hh _ e)⟩
      · intro b hb
        rcases List.mem_append.1 hb with hb | hb
        · exact i1 b hb
        · rw [List.mem_singleton.1 hb, ofNat_toNat (by omega)]; omega
      · have i2' : dvGo 0 (decDigits (n / 10)) = n / 10 := i2
        rw [dv, dvGo_snoc, i2', ofNat_toNat (by omega)]; omega
theorem num_dec (n most : Nat) : num (decDigits n) most = if n ≤ most then some n else none := by
  obtain ⟨i1, i2, i3, i4, i5, i6⟩ := dec_facts n
  unfold num
  rw [if_neg]
  · rw [numGo_dv i1 (Nat.zero_le _)]
    have : dvGo 0 (decDigits n) = n := i2
    rw [this]
  · rintro (e | ⟨e1, e2⟩)
    · exact i3 e
    · exact i5 (i4 e1) e2
theorem cut_join (c : UInt8) : ∀ (r : List (List UInt8)) (p : List UInt8), (∀ q ∈ p :: r, ∀ x ∈ q, x ≠ c) → cut c (Lib.join (p :: r) [c]) = p :: r
  | [], p, h => by rw [Lib.join_one]; exact cut_free c (h p (by simp))
  | q :: r, p, h => by
    have e : Lib.join (p :: q :: r) [c] = p ++ c :: Lib.join (q :: r) [c] := by
      rw [Lib.join_cons, Lib.join_cons]
      simp [Lib.joinTail]
    rw [e, cut_at c _ (h p (by simp)), cut_join c r q (fun y hy => h y (by simp [hy]))]
theorem join_cut (c : UInt8) : ∀ (n : Nat) (l : List UInt8), l.length ≤ n → Lib.join (cut c l) [c] = l
  | 0, l, h => by
    have : l = [] := List.eq_nil_of_length_eq_zero (by omega)
    subst this
    rw [cut, Lib.join_one]
  | n + 1, l, h => by
    rcases first_cut c l with hf | ⟨p, t, rfl, hf⟩
    · rw [cut_free c hf, Lib.join_one]
    · rw [cut_at c t hf]
      have ih := join_cut c n t (by simp at h; omega)
      cases hc : cut c t with
      | nil => have := cut_pos c t; rw [hc] at this; simp at this
      | cons q r =>
        rw [hc] at ih
        have e : Lib.join (p :: q :: r) [c] = p ++ c :: Lib.join (q :: r) [c] := by
          rw [Lib.join_cons, Lib.join_cons]
          simp [Lib.joinTail]
        rw [e, ih]
theorem dec_free (n : Nat) : ∀ x ∈ decDigits n, x ≠ 46 := by
  intro x hx e
  have := (dec_facts n).1 x hx
  rw [e] at this
  have h46 : (46 : UInt8).toNat = 46 := rfl
  omega
/-- The text of an address of version 4. -/
def ipt (a : Nat) : List UInt8 := Lib.join [decDigits (a / 16777216), decDigits (a / 65536 % 256), decDigits (a / 256 % 256), decDigits (a % 256)] [46]
theorem ip_ipt {a : Nat} (h : a < 4294967296) : ip (ipt a) = some a := by
  have hc : cut 46 (ipt a) = [decDigits (a / 16777216), decDigits (a / 65536 % 256), decDigits (a / 256 % 256), decDigits (a % 256)] := by
    apply cut_join
    intro q hq
    simp only [List.mem_cons, List.not_mem_nil, or_false] at hq
    rcases hq with rfl | rfl | rfl | rfl <;> exact dec_free _
  unfold ip
  rw [hc, if_pos (by simp), ipGo_on (by rw [num_dec, if_pos (by omega)]), ipGo_on (by rw [num_dec, if_pos (by omega)]), ipGo_on (by rw [num_dec, if_pos (by omega)]), ipGo_on (by rw [num_dec, if_pos (by omega)]), ipGo]
  congr 1
  omega
def hex2 (x : Int) : List UInt8 := [UInt8.ofNat (hdg (x.toNat / 16)), UInt8.ofNat (hdg (x.toNat % 16))]
theorem hdg_small {n : Nat} (h : n < 16) : hdg n < 103 := by unfold hdg; split <;> omega
theorem hdg_ge (n : Nat) : 48 ≤ hdg n := by unfold hdg; split <;> omega
theorem hdg_ne {n : Nat} (h : n < 16) : hdg n ≠ 58 := by unfold hdg; split <;> omega
theorem two_hex {x : Nat} (h : x < 256) : two (hex2 (x : Int)) = some x := by
  have a1 := hdg_small (show x / 16 < 16 by omega)
  have a2 := hdg_small (show x % 16 < 16 by omega)
  unfold hex2
  rw [Int.toNat_natCast]
  have e1 : hx (UInt8.ofNat (hdg (x / 16))).toNat = some (x / 16) := by rw [ofNat_toNat (by omega), hx_hdg (by omega)]
  have e2 : hx (UInt8.ofNat (hdg (x % 16))).toNat = some (x % 16) := by rw [ofNat_toNat (by omega), hx_hdg (by omega)]
  simp only [two, e1, e2, Option.some.injEq]
  omega
theorem hex_two {p : List UInt8} {x : Nat} (h : two p = some x) : hex2 (x : Int) = p := by
  unfold two at h
  split at h
  · rename_i a b
    split at h
    · rename_i y z e1 e2
      obtain ⟨y16, ey⟩ := hx_some e1
      obtain ⟨z16, ez⟩ := hx_some e2
      have hx := Option.some.inj h
      unfold hex2
      rw [Int.toNat_natCast, show x / 16 = y by omega, show x % 16 = z by omega, ← ey, ← ez, UInt8.ofNat_toNat, UInt8.ofNat_toNat]
    · cases h
  · cases h
theorem hex_free {x : Int} (h : 0 ≤ x ∧ x ≤ 255) : ∀ b ∈ hex2 x, b ≠ 58 := by
  intro b hb e
  have h58 : (58 : UInt8).toNat = 58 := rfl
  simp only [hex2, List.mem_cons, List.not_mem_nil, or_false] at hb
  rcases hb with rfl | rfl
  · have := congrArg UInt8.toNat e
    rw [ofNat_toNat (by have := hdg_small (show x.toNat / 16 < 16 by omega); omega), h58] at this
    exact hdg_ne (show x.toNat / 16 < 16 by omega) this
  · have := congrArg UInt8.toNat e
    rw [ofNat_toNat (by have := hdg_small (show x.toNat % 16 < 16 by omega); omega), h58] at this
    exact hdg_ne (show x.toNat % 16 < 16 by omega) this
/-- The text of a hardware address, of a key. -/
def mact (l : List Int) : List UInt8 := Lib.join (l.map hex2) [58]
def keyt (l : List Int) : List UInt8 := l.flatMap hex2
theorem two_byte {x : Int} (h : 0 ≤ x ∧ x ≤ 255) : two (hex2 x) = some x.toNat := by
  have := two_hex (x := x.toNat) (by omega)
  rwa [Int.toNat_of_nonneg h.1] at this
theorem mac_mact {a b c d e f : Int} (ha : 0 ≤ a ∧ a ≤ 255) (hb : 0 ≤ b ∧ b ≤ 255) (hc : 0 ≤ c ∧ c ≤ 255) (hd : 0 ≤ d ∧ d ≤ 255) (he : 0 ≤ e ∧ e ≤ 255) (hf : 0 ≤ f ∧ f ≤ 255) : mac (mact [a, b, c, d, e, f]) = some [a, b, c, d, e, f] := by
  have hcut : cut 58 (mact [a, b, c, d, e, f]) = [hex2 a, hex2 b, hex2 c, hex2 d, hex2 e, hex2 f] := by
    apply cut_join
    intro q hq
    simp only [List.map_cons, List.map_nil, List.mem_cons, List.not_mem_nil, or_false] at hq
    rcases hq with rfl | rfl | rfl | rfl | rfl | rfl
    · exact hex_free ha
    · exact hex_free hb
    · exact hex_free hc
    · exact hex_free hd
    · exact hex_free he
    · exact hex_free hf
  unfold mac
  rw [hcut, if_pos (by simp), fill_on (two_byte ha), fill_on (two_byte hb), fill_on (two_byte hc), fill_on (two_byte hd), fill_on (two_byte he), fill_on (two_byte hf), fill]
  rw [Int.toNat_of_nonneg ha.1, Int.toNat_of_nonneg hb.1, Int.toNat_of_nonneg hc.1, Int.toNat_of_nonneg hd.1, Int.toNat_of_nonneg he.1, Int.toNat_of_nonneg hf.1]
  rfl
theorem mac_back {s : List UInt8} {l : List Int} (h : mac s = some l) : mact l = s ∧ l.length = 6 ∧ ∀ i, 0 ≤ l.getD i 0 ∧ l.getD i 0 ≤ 255 := by
  unfold mac at h
  split at h
  · rename_i hl
    obtain ⟨p0, p1, p2, p3, p4, p5, hc⟩ : ∃ p0 p1 p2 p3 p4 p5, cut 58 s = [p0, p1, p2, p3, p4, p5] := by
      match cut 58 s, hl with
      | [p0, p1, p2, p3, p4, p5], _ => exact ⟨p0, p1, p2, p3, p4, p5, rfl⟩
    have hj := join_cut 58 s.length s (Nat.le_refl _)
    rw [hc] at h hj
    have stp : ∀ {i : Nat} {l' : List Int} {p : List UInt8} {r : List (List UInt8)}, fill i l' (p :: r) = some l → ∃ x, two p = some x ∧ fill (i + 1) (l'.set i (x : Int)) r = some l := by
      intro i l' p r h
      cases h2 : two p with
      | none => rw [fill_stop h2] at h; cases h
      | some x => rw [fill_on h2] at h; exact ⟨x, rfl, h⟩
    obtain ⟨x0, t0, h⟩ := stp h
    obtain ⟨x1, t1, h⟩ := stp h
    obtain ⟨x2, t2, h⟩ := stp h
    obtain ⟨x3, t3, h⟩ := stp h
    obtain ⟨x4, t4, h⟩ := stp h
    obtain ⟨x5, t5, h⟩ := stp h
    have hl2 : ([(x0 : Int), x1, x2, x3, x4, x5] : List Int) = l := by
      rw [fill] at h
      exact Option.some.inj h
    subst hl2
    have u0 := two_lt t0
    have u1 := two_lt t1
    have u2 := two_lt t2
    have u3 := two_lt t3
    have u4 := two_lt t4
    have u5 := two_lt t5
    refine ⟨?_, rfl, ?_⟩
    · unfold mact
      simp only [List.map_cons, List.map_nil]
      rw [hex_two t0, hex_two t1, hex_two t2, hex_two t3, hex_two t4, hex_two t5]
      exact hj
    · intro i
      match i with
      | 0 | 1 | 2 | 3 | 4 | 5 => simp; omega
      | i + 6 => simp
  · cases h
theorem twos_keyt : ∀ (l : List Int), (∀ x ∈ l, 0 ≤ x ∧ x ≤ 255) → twos (keyt l) = some l
  | [], _ => rfl
  | x :: l, h => by
    have hx := h x (by simp)
    have ih := twos_keyt l (fun y hy => h y (by simp [hy]))
    have e : keyt (x :: l) = UInt8.ofNat (hdg (x.toNat / 16)) :: UInt8.ofNat (hdg (x.toNat % 16)) :: keyt l := by simp [keyt, hex2]
    rw [e, twos_some (two_byte hx), ih, Option.map_some, Int.toNat_of_nonneg hx.1]
theorem keyt_len : ∀ (l : List Int), (keyt l).length = 2 * l.length
  | [] => rfl
  | x :: l => by
    have := keyt_len l
    simp only [keyt, List.flatMap_cons, List.length_append, List.length_cons] at this ⊢
    simp only [hex2, List.length_cons, List.length_nil]; omega
end Ad
end Go.Proofs.YtneciccdiledfaaGreatDoor

namespace Go.Proofs.YtneciccdiledfaaGreatDoor
open Go.RowKit
open Sm
open Cf
set_option linter.unusedVariables false
set_option maxRecDepth 20000

/-- A field's three functions: their numbers and what they captured. -/
structure Fv where
  kw : Nat
  kr : Nat
  ks : Nat
  cw : Array Value
  cr : Array Value
  cs : Array Value
def Fv.cells (f : Fv) : List Value := [.func (.func f.kw) #[] f.cw, .func (.func f.kr) #[] f.cr, .func (.func f.ks) #[] f.cs]
def Fv.val (f : Fv) : Value := .agg #[.func (.func f.kw) #[] f.cw, .func (.func f.kr) #[] f.cr, .func (.func f.ks) #[] f.cs]
def Ent (k : Nat) : Prop := ∀ args V, (callFunc k args).run Tryz.prog V = .ok (.enter k args) V
/-- x lies at a place of a world, its lists where r says. -/
abbrev Rp (α ρ : Type) := α → ρ → World → Nat → Nat → Prop
/-- x lies in a block of the call's own, between other cells, and may be written over. -/
abbrev St' (α : Type) := World → α → Nat → TypeId → List Value → List Value → World → List (Nat × Obj) → Prop
/-- What a field writes, reads, holds to be the same. -/
structure Sp (α : Type) where
  enc : α → List Int
  dec : List Int → α → Option (α × List Int)
  eq : α → α → Bool
def Sub (L K : List (Nat × Obj)) : Prop := ∀ q ∈ L, q ∈ K
theorem Sub.refl (L : List (Nat × Obj)) : Sub L L := fun _ h => h
theorem Sub.trans {A B C : List (Nat × Obj)} (h : Sub A B) (k : Sub B C) : Sub A C := fun q hq => k q (h q hq)
theorem Sub.cons {L K : List (Nat × Obj)} (h : Sub L K) (p : Nat × Obj) : Sub L (p :: K) := fun q hq => List.mem_cons_of_mem _ (h q hq)
theorem Sub.app {L K : List (Nat × Obj)} (h : Sub L K) (M : List (Nat × Obj)) : Sub L (M ++ K) := fun q hq => List.mem_append_right _ (h q hq)
structure Fd {α ρ : Type} (w : World) (L : List (Nat × Obj)) (I : Rp α ρ) (J : St' α) (f : Fv) (s : Sp α) : Prop where
  ew : Ent f.kw
  er : Ent f.kr
  es : Ent f.ks
  wr : ∀ K, Sub L K → ∀ x r g off, (∀ V, Mem w V K → I x r V g off) → ∀ v l V, Out w V v l K → l.length + (s.enc x).length ≤ 1000000000 →
    Calls Tryz.prog f.kw (#[v, .pointer (some ⟨g, off, none⟩)] ++ f.cw) V fun e V' => ∃ v', e = .returned v' ∧ Out w V' v' (l ++ s.enc x) K
  rd : ∀ K, Sub L K → ∀ x g T pre post a l c V, J w x g T pre post V K → Sl w a l c →
    Calls Tryz.prog f.kr (#[.slice a l.length c, .pointer (some ⟨g, pre.length, none⟩)] ++ f.cr) V (RPost w K (fun y V' => J w y g T pre post V' K) (s.dec l x))
  sm : ∀ K, Sub L K → ∀ x y r r' g off h of', (∀ V, Mem w V K → I x r V g off ∧ I y r' V h of') → ∀ V, Mem w V K →
    Calls Tryz.prog f.ks (#[.pointer (some ⟨g, off, none⟩), .pointer (some ⟨h, of', none⟩)] ++ f.cs) V fun e V' => e = .returned (.bool (s.eq x y)) ∧ Mem w V' K
theorem Fd.more {α ρ : Type} {w : World} {L K : List (Nat × Obj)} {I : Rp α ρ} {J : St' α} {f : Fv} {s : Sp α} (h : Fd w L I J f s) (hs : Sub L K) : Fd w K I J f s :=
  ⟨h.ew, h.er, h.es, fun M hM => h.wr M (hs.trans hM), fun M hM => h.rd M (hs.trans hM), fun M hM => h.sm M (hs.trans hM)⟩
/-- Fields, one by one. -/
inductive FdAll {α ρ : Type} (w : World) (L : List (Nat × Obj)) (I : Rp α ρ) (J : St' α) : List Fv → List (Sp α) → Prop
  | nil : FdAll w L I J [] []
  | cons {f : Fv} {s : Sp α} {fs : List Fv} {ss : List (Sp α)} : Fd w L I J f s → FdAll w L I J fs ss → FdAll w L I J (f :: fs) (s :: ss)
def fv0 : Fv := ⟨0, 0, 0, #[], #[], #[]⟩
def sp0 {α : Type} : Sp α := ⟨fun _ => [], fun _ _ => none, fun _ _ => false⟩
theorem FdAll.at_ {α ρ : Type} {w : World} {L : List (Nat × Obj)} {I : Rp α ρ} {J : St' α} {fs : List Fv} {ss : List (Sp α)} (h : FdAll w L I J fs ss) : ∀ i, i < fs.length → Fd w L I J (fs.getD i fv0) (ss.getD i sp0) := by
  induction h with
  | nil => intro i hi; simp at hi
  | cons h1 h2 ih =>
    intro i hi
    cases i with
    | zero => exact h1
    | succ i => exact ih i (by simpa using hi)
theorem FdAll.len {α ρ : Type} {w : World} {L : List (Nat × Obj)} {I : Rp α ρ} {J : St' α} {fs : List Fv} {ss : List (Sp α)} (h : FdAll w L I J fs ss) : fs.length = ss.length := by
  induction h with
  | nil => rfl
  | cons _ _ ih => simp [ih]
/-- Fields in a row. -/
def spAll {α : Type} (ss : List (Sp α)) : Sp α :=
  ⟨fun x => cat (fun i => (ss.getD i sp0).enc x) ss.length, fun l x => sq (fun i => (ss.getD i sp0).dec) 0 ss.length l x, fun x y => decide (∀ i, i < ss.length → (ss.getD i sp0).eq x y = true)⟩
theorem mem_box {w V : World} {L : List (Nat × Obj)} {b : Nat} {A : Array Value} {t : TypeId} (hM : Mem w V L) (h : (b, .cells A t (0, 0)) ∈ L) (j : Nat) : V.cell? ⟨b, j, none⟩ = A[j]? := cell_of (hM.at_ _ h) j
def spNum {α : Type} (sz : Nat) (fg : α → Int) (fs : α → Int → α) : Sp α :=
  ⟨fun x => be sz (fg x), fun l x => if l.length < sz then none else some (fs x (num (l.take sz)), l.drop sz), fun x y => decide (fg x = fg y)⟩
def spOct {α : Type} (n : Nat) (fg : α → List Int) (fs : α → List Int → α) : Sp α :=
  ⟨fg, fun l x => if l.length < n then none else some (fs x (l.take n), l.drop n), fun x y => decide (fg x = fg y)⟩
def spTxt {α : Type} (fg : α → ByteArray) (fs : α → ByteArray → α) : Sp α :=
  ⟨fun x => nm (fg x), fun l x => (dtxt l).map (fun q => (fs x q.1, q.2)), fun x y => decide (sb (fg x) = sb (fg y))⟩
def spCnt {α : Type} (fl : α → Nat) (fs : α → Nat → α) : Sp α :=
  ⟨fun x => [((min (fl x) 255 : Nat) : Int)], fun l x => match l with | [] => none | b :: r => some (fs x b.toNat, r), fun x y => decide (fl x = fl y)⟩
/-- Elements one by one into a list. -/
def itd {β : Type} (d : β) (se : Sp β) : Nat → List Int → List β → Option (List β × List Int) := fun i l xs => (se.dec l (xs.getD i d)).map (fun q => (xs.set i q.1, q.2))
def spItm {α β : Type} [DecidableEq β] (d : β) (se : Sp β) (fl : α → List β) (fs : α → List β → α) : Sp α :=
  ⟨fun x => cat (fun i => se.enc ((fl x).getD i d)) (min (fl x).length 255), fun l x => (sq (itd d se) 0 (fl x).length l (fl x)).map (fun q => (fs x q.1, q.2)), fun x y => decide (fl x = fl y)⟩
/-- One cell of what is read: where it lies, and what is left when it is written over. -/
structure Lens {α : Type} (w : World) (J : St' α) (o : Nat) (x : α) (g : Nat) (T : TypeId) (pre post : List Value) (V : World) (K M : List (Nat × Obj)) (A : Array Value) : Prop where
  mem : Mem w V ((g, .cells A T (0, 0)) :: M)
  sub : Sub K M
  back : ∀ V', Mem w V' M → Mem w V' K
end Go.Proofs.YtneciccdiledfaaGreatDoor

namespace Go.Proofs.YtneciccdiledfaaGreatDoor
open Go.RowKit
open Sm
open Cf
set_option linter.unusedVariables false
set_option maxRecDepth 20000

end Go.Proofs.YtneciccdiledfaaGreatDoor

namespace Go.Proofs.YtneciccdiledfaaGreatDoor
open Go.RowKit
open Sm
open Cf
set_option linter.unusedVariables false
set_option maxRecDepth 20000

end Go.Proofs.YtneciccdiledfaaGreatDoor

namespace Go.Proofs.YtneciccdiledfaaGreatDoor
open Go.RowKit
open Sm
open Cf
set_option linter.unusedVariables false
set_option maxRecDepth 20000

end Go.Proofs.YtneciccdiledfaaGreatDoor

