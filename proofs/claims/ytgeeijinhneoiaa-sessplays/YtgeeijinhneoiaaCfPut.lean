/-
  The program's put, get and split, and bytes.Equal, whatever they are handed.
-/
import Derived.Test.YtgeeijinhneoiaaCfKit
import Derived.Deep.RegionHeld3
import Derived.BigQuiet
import Derived.Shelf.Abstract
import Derived.Laws.EntriesVeiled
namespace Go.Proofs.Ytgeeijinhneoiaa
open Go.RowKit
open Sm
open Cf
set_option linter.unusedVariables false
set_option maxRecDepth 20000

theorem pow8 (k : Nat) : (2 : Int) ^ (8 * k) = 256 ^ k := by rw [Int.pow_mul]; rfl
theorem wrap64n {x : Int} (h0 : -9223372036854775808 ≤ x) (h1 : x ≤ 9223372036854775807) : IntKind.i64.wrap x = x := by rw [IntKind.wrap_i64]; omega
theorem wrapu8 (x : Int) : IntKind.u8.wrap x = x % 256 := by simp [IntKind.wrap, IntKind.bits, IntKind.signed]
theorem wrapu64 (x : Int) : IntKind.u64.wrap x = x % 18446744073709551616 := by simp [IntKind.wrap, IntKind.bits, IntKind.signed]

theorem join_byte (x y : Int) (hx : 0 ≤ x ∧ x < 72057594037927936) (hy : 0 ≤ y ∧ y ≤ 255) : bits .or .u64 (x * 256) y = x * 256 + y :=
  bits_join .u64 64 (by decide) (fun n h0 h1 => by rw [wrapu64]; omega) 8 (x * 256) y (by omega) (by omega) (by omega) (by omega) (by omega) (by omega)

/-- A slice that reads as the bytes l. -/
structure Sl (V : World) (a : Option Addr) (l : List Int) (c : Nat) : Prop where
  row : Row V a l
  le : l.length ≤ c
  big : c ≤ 9223372036854775807
  nil : a = none → c = 0
theorem Mem.sl {w W : World} {L : List (Nat × Obj)} (h : Mem w W L) {a : Option Addr} {l : List Int} {c : Nat} (hr : Sl w a l c) : Sl W a l c := ⟨h.row hr.row, hr.le, hr.big, hr.nil⟩
/-- A slice's first m bytes, and the others. -/
def Spl (a : Option Addr) (l : List Int) (c m : Nat) (v1 v2 : Value) : Prop :=
  ∃ a1 c1 a2 c2, v1 = .slice a1 m c1 ∧ v2 = .slice a2 (l.drop m).length c2 ∧ ∀ V, Sl V a l c → Sl V a1 (l.take m) c1 ∧ Sl V a2 (l.drop m) c2
theorem row_empty (V : World) (a : Option Addr) : Row V a [] := ⟨bytes_nil, by simp, Or.inl rfl⟩
/-- What a field's read answers: what was read and the others behind, or nothing. -/
def RPost {σ : Type} (w : World) (L : List (Nat × Obj)) (J : σ → World → Prop) (r : Option (σ × List Int)) (e : Ending) (W' : World) : Prop :=
  match r with
  | none => e = .returned (.tuple #[.slice none 0 0, .bool false]) ∧ Mem w W' L
  | some (s, l') => ∃ a c, e = .returned (.tuple #[.slice a l'.length c, .bool true]) ∧ Sl w a l' c ∧ J s W'
theorem RPost.mono {σ τ : Type} {w : World} {L K : List (Nat × Obj)} {J : σ → World → Prop} {H : τ → World → Prop} {r : Option (σ × List Int)} {q : Option (τ × List Int)} {e : Ending} {W' : World} (f : σ → τ) (hq : q = r.map (fun x => (f x.1, x.2)))
    (h : RPost w L J r e W') (hn : Mem w W' L → Mem w W' K) (hs : ∀ s, J s W' → H (f s) W') : RPost w K H q e W' := by
  subst hq
  cases r with
  | none => exact ⟨h.1, hn h.2⟩
  | some x => obtain ⟨a, c, h1, h2, h3⟩ := h; exact ⟨a, c, h1, h2, hs _ h3⟩

/-- Cells from place j on written over. -/
def spl (A : Array Value) (j : Nat) (x : List Int) : Array Value := (A.toList.take j ++ (x.map (Value.int .u8) ++ A.toList.drop (j + x.length))).toArray
/-- What n fields write, one behind the other. -/
def cat (enc : Nat → List Int) : Nat → List Int
  | 0 => []
  | n + 1 => cat enc n ++ enc n
theorem cat_le (enc : Nat → List Int) (i n : Nat) (h : i < n) : (cat enc i).length + (enc i).length ≤ (cat enc n).length := by
  induction n with
  | zero => omega
  | succ n ih =>
    rw [cat, List.length_append]
    by_cases e : i = n
    · subst e; omega
    · have := ih (by omega); omega
/-- What m fields from the i-th on read, one behind the other. -/
def sq {σ : Type} (dec : Nat → List Int → σ → Option (σ × List Int)) : Nat → Nat → List Int → σ → Option (σ × List Int)
  | _, 0, l, s => some (s, l)
  | i, m + 1, l, s => match dec i l s with
    | none => none
    | some (s', l') => sq dec (i + 1) m l' s'
/-- A text with its length ahead, up to 255 bytes of it. -/
def nm (s : ByteArray) : List Int := ((min s.size 255 : Nat) : Int) :: (sb s).take 255
/-- A text is read: its length, and so many bytes. -/
def dtxt : List Int → Option (ByteArray × List Int)
  | [] => none
  | b :: r => if r.length < b.toNat then none else some (strOfNums (r.take b.toNat), r.drop b.toNat)
theorem mem_bytes {l : List Int} (h : IsBytes l) : ∀ n ∈ l, 0 ≤ n ∧ n ≤ 255 := by
  intro n hn
  obtain ⟨i, hi, rfl⟩ := List.getElem_of_mem hn
  have := h i
  rwa [getD_eq hi] at this
theorem sb_str {l : List Int} (h : IsBytes l) : sb (strOfNums l) = l := by
  have hm := mem_bytes h
  unfold sb strOfNums
  simp only [List.map_map]
  conv => rhs; rw [← List.map_id l]
  refine List.map_congr_left fun n hn => ?_
  have := hm n hn
  simp only [Function.comp_apply, id]
  have e : (UInt8.ofNat n.toNat).toNat = n.toNat := by
    simp only [UInt8.toNat_ofNat']
    omega
  rw [e]
  omega
theorem sb_inj {s t : ByteArray} (h : sb s = sb t) : s.data.toList = t.data.toList := by
  unfold sb at h
  exact (List.map_inj_right (fun a b e => UInt8.toNat_inj.mp (Int.ofNat_inj.mp e))).mp h
theorem str_same {l k : List Int} (hl : IsBytes l) (hk : IsBytes k) : ((strOfNums l).toList == (strOfNums k).toList) = decide (l = k) := by
  by_cases h : l = k
  · subst h; simp
  · have : ¬ (strOfNums l).toList = (strOfNums k).toList := by
      intro e
      rw [ByteArray.toList_eq, ByteArray.toList_eq] at e
      apply h
      rw [← sb_str hl, ← sb_str hk]
      unfold sb
      rw [e]
    simp [h, this]
theorem text_same (s t : ByteArray) : (s.toList == t.toList) = decide (sb s = sb t) := by
  rw [ByteArray.toList_eq, ByteArray.toList_eq]
  by_cases h : s.data.toList = t.data.toList
  · simp [h, sb]
  · have : ¬ sb s = sb t := fun e => h (sb_inj e)
    rw [beq_eq_false_iff_ne.mpr h, decide_eq_false this]

end Go.Proofs.Ytgeeijinhneoiaa
