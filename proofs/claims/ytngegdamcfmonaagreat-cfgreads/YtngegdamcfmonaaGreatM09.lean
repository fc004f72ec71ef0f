/-
  The program's put, get and split, and bytes.Equal, whatever they are handed.
-/
import Derived.Test.YtngegdamcfmonaaGreatM08
import Derived.Deep.RegionHeld3
import Derived.BigQuiet
import Derived.Shelf.Abstract
import Derived.Laws.EntriesVeiled
namespace Go.Proofs.YtngegdamcfmonaaGreat
open Go.RowKit
open Sm
open Cf
set_option linter.unusedVariables false
set_option maxRecDepth 20000

theorem pow8 (k : Nat) : (2 : Int) ^ (8 * k) = 256 ^ k := by rw [Int.pow_mul]; rfl
theorem wrap64n {x : Int} (h0 : -9223372036854775808 ≤ x) (h1 : x ≤ 9223372036854775807) : IntKind.i64.wrap x = x := by rw [IntKind.wrap_i64]; omega
theorem wrapu8 (x : Int) : IntKind.u8.wrap x = x % 256 := by simp [IntKind.wrap, IntKind.bits, IntKind.signed]
theorem wrapu64 (x : Int) : IntKind.u64.wrap x = x % 18446744073709551616 := by simp [IntKind.wrap, IntKind.bits, IntKind.signed]

set_option maxHeartbeats 4000000 in
theorem put_any {w W : World} {v : Value} {l : List Int} {L : List (Nat × Obj)} (h : Out w W v l L) (sz : Nat) (x : Int) (hs : sz ≤ 7) (hx : 0 ≤ x ∧ x < 18446744073709551616) (hb : l.length + sz ≤ 1000000000) :
    Calls Tryz.prog 97 #[v, .int .i64 sz, .int .u64 x] W fun e W' => ∃ v', e = .returned v' ∧ Out w W' v' (l ++ be sz x) L := by
  have HO : Hid (Out w W v l L) := h
  clear h
  go_enter Tryz.func97, Tryz.ntmps97
  go_wp2_with fail
  go_loopw [0, 9] (fun u0 u9 w' => ∃ i : Nat, i ≤ sz ∧ u9 = .int .i64 i ∧ Hid (Out w w' u0 (l ++ (be sz x).take i) L)) (fun u0 u9 w' => sz - (intOf u9).toNat)
  case atStart => exact ⟨0, Nat.zero_le _, rfl, by simpa using HO⟩
  case round =>
    obtain ⟨i, hi, rfl, HR⟩ := hrel
    by_cases hlt : i < sz
    · have h1 : (i : Int) < sz := by omega
      obtain ⟨k, hk⟩ : ∃ k : Nat, sz - 1 - i = k := ⟨_, rfl⟩
      have e1 : IntKind.i64.wrap ((sz : Int) - 1) = (sz : Int) - 1 := wrap64n (by omega) (by omega)
      have e2 : IntKind.i64.wrap ((sz : Int) - 1 - i) = (k : Int) := by rw [wrap64n (by omega) (by omega)]; omega
      have e3 : IntKind.i64.wrap (8 * (k : Int)) = 8 * (k : Int) := wrap64n (by omega) (by omega)
      have e4 : ¬ (8 * (k : Int) < 0) := by omega
      have ht : (be sz x).take (i + 1) = (be sz x).take i ++ [x / 2 ^ (8 * k) % 256] := by rw [be_take sz x i hlt, hk, pow8]
      have hlen : (l ++ (be sz x).take i).length + 1 ≤ 1000000000 := by
        rw [List.length_append, List.length_take, be_len]; omega
      obtain ⟨v1, W1, hr, hO1⟩ := out_one HR.out (x / 2 ^ (8 * k) % 256) (mod_byte _) hlen 40
      rw [List.append_assoc, ← ht] at hO1
      clear ht hlen
      go_wp2_with (at_builtin; refine wpList_append_run (.tmp 12) (.tmp 21) 40 40 (by with_reducible rfl) hr rfl rfl (by simp [Act.eval]) (by simp [Act.eval]) ?_)
      go_roundw
      case rel => exact ⟨i + 1, by omega, by go_num, hO1⟩
      case measure => simp [intOf]; omega
    · have h1 : ¬ ((i : Int) < sz) := by omega
      obtain rfl : i = sz := by omega
      go_wp2_with fail
      go_ret
      refine ⟨_, rfl, ?_⟩
      have := HR.out
      rwa [List.take_of_length_le (by rw [be_len]; omega)] at this

theorem join_byte (x y : Int) (hx : 0 ≤ x ∧ x < 72057594037927936) (hy : 0 ≤ y ∧ y ≤ 255) : bits .or .u64 (x * 256) y = x * 256 + y :=
  bits_join .u64 64 (by decide) (fun n h0 h1 => by rw [wrapu64]; omega) 8 (x * 256) y (by omega) (by omega) (by omega) (by omega) (by omega) (by omega)

set_option maxHeartbeats 4000000 in
theorem get_any {W : World} {a : Option Addr} {l : List Int} (h : Row W a l) (n c : Nat) (hn : l.length = n) (hs : n ≤ 7) :
    Calls Tryz.prog 100 #[.slice a n c] W fun e W' => e = .returned (.int .u64 (num l)) ∧ W = W' := by
  go_enter Tryz.func100, Tryz.ntmps100
  go_wp2_with fail
  go_loopw [3, 8] (fun u3 u8 w' => ∃ i : Nat, i ≤ n ∧ u8 = .int .i64 i ∧ u3 = .int .u64 (num (l.take i)) ∧ W = w') (fun u3 u8 w' => n - (intOf u8).toNat)
  case atStart => exact ⟨0, Nat.zero_le _, rfl, rfl, rfl⟩
  case round =>
    obtain ⟨i, hi, rfl, rfl, rfl⟩ := hrel
    by_cases hlt : i < n
    · have h1 : (i : Int) < n := by omega
      rcases h.cells with e | ⟨b, off, rfl, hc⟩
      · subst e; simp at hn; omega
      · have hcell := hc i (by omega)
        have hb := h.bytes i
        have hnt := num_take l i (by omega)
        have hr := num_range (bytes_tk h.bytes i)
        rw [List.length_take, Nat.min_eq_left (by omega)] at hr
        have hp : (256 : Int) ^ i ≤ 256 ^ 6 := by
          have : i ≤ 6 := by omega
          match i, this with
          | 0, _ => decide
          | 1, _ => decide
          | 2, _ => decide
          | 3, _ => decide
          | 4, _ => decide
          | 5, _ => decide
          | 6, _ => decide
        have hrx : num (l.take i) < 281474976710656 := by
          have e6 : (256 : Int) ^ 6 = 281474976710656 := by decide
          omega
        clear hp
        generalize num (l.take i) = x at hnt hr hrx
        generalize l.getD i 0 = y at hcell hb hnt
        clear hc h
        have e1 : IntKind.u64.wrap (x * 256) = x * 256 := by rw [wrapu64]; omega
        have e2 : IntKind.u64.wrap y = y := by rw [wrapu64]; omega
        have e3 := join_byte x y (by omega) hb
        have e4 : x * 256 % 18446744073709551616 = x * 256 := by omega
        have e5 : y % 18446744073709551616 = y := by omega
        go_wp2_with fail
        go_roundw
        case rel => exact ⟨i + 1, by omega, by go_num, by rw [hnt], trivial⟩
        case measure => simp [intOf]; omega
    · have h1 : ¬ ((i : Int) < n) := by omega
      obtain rfl : i = n := by omega
      rw [List.take_of_length_le (by omega)]
      go_wp2_with fail
      go_ret
      exact ⟨rfl, rfl⟩

set_option maxHeartbeats 4000000 in
theorem split_no (W : World) (a : Option Addr) (n c m : Nat) (h : n < m) (hm : m ≤ 1000000) :
    Calls Tryz.prog 99 #[.slice a n c, .int .i64 m] W fun e W' => e = .returned (.tuple #[.slice none 0 0, .slice none 0 0, .bool false]) ∧ W = W' := by
  have h1 : (n : Int) < m := by omega
  go_enter Tryz.func99, Tryz.ntmps99
  go_wp2_with fail
  exact bodyPost_ret (v := .tuple #[.slice none 0 0, .slice none 0 0, .bool false]) (by simp [results, Tryz.results99, go_sem]) rfl ⟨rfl, rfl⟩
/-- A slice that reads as the bytes l. -/
structure Sl (V : World) (a : Option Addr) (l : List Int) (c : Nat) : Prop where
  row : Row V a l
  le : l.length ≤ c
  big : c ≤ 9223372036854775807
  nil : a = none → c = 0
theorem Mem.sl {w W : World} {L : List (Nat × Obj)} (h : Mem w W L) {a : Option Addr} {l : List Int} {c : Nat} (hr : Sl w a l c) : Sl W a l c := ⟨h.row hr.row, hr.le, hr.big, hr.nil⟩
/-- A slice's first m bytes, and the others. -/
def Spl (a : Option Addr) (l : List Int) (c m : Nat) (v1 v2 : Value) : Prop :=
  ∃ a1 c1 a2 c2, v1 = .slice a1 m c1 ∧ v2 = .slice a2 (l.drop m).length c2 ∧ ∀ V, Sl V a l c → Sl V a1 (l.take m) c1 ∧ Sl V a2 (l.drop m) c2
theorem row_empty (V : World) (a : Option Addr) : Row V a [] := ⟨bytes_nil, by simp, Or.inl rfl⟩
set_option maxHeartbeats 4000000 in
theorem split_yes {W : World} {a : Option Addr} {l : List Int} {c : Nat} (hS : Sl W a l c) (m : Nat) (h : m ≤ l.length) (hm : m ≤ 1000000) :
    Calls Tryz.prog 99 #[.slice a l.length c, .int .i64 m] W fun e W' => ∃ v1 v2, e = .returned (.tuple #[v1, v2, .bool true]) ∧ Spl a l c m v1 v2 ∧ ∃ q, W' = W.drewN q := by
  obtain ⟨hr, hc, hc2, ha⟩ := hS
  obtain ⟨n, hn⟩ : ∃ n, l.length = n := ⟨_, rfl⟩
  rw [hn] at h hc ⊢
  have hn2 := hr.len
  rw [hn] at hn2
  have h1 : ¬ ((n : Int) < m) := by omega
  have h2 : (m : Int) ≤ c := by omega
  have h3 : (m : Int) ≤ n := by omega
  have h4 : (n : Int) ≤ c := by omega
  by_cases hn0 : n = 0
  · obtain rfl : m = 0 := by omega
    obtain rfl : l = [] := List.eq_nil_of_length_eq_zero (by omega)
    subst hn0
    cases a with
    | none =>
      obtain rfl : c = 0 := ha rfl
      go_enter Tryz.func99, Tryz.ntmps99
      go_wp2_with fail
      go_quiet (fail)
      go_wp2_with fail
      exact bodyPost_ret (v := .tuple #[.slice none 0 0, .slice none 0 0, .bool true]) (by simp [results, Tryz.results99, go_sem]) rfl ⟨_, _, rfl, ⟨none, 0, none, 0, rfl, rfl, fun V hV => ⟨hV, hV⟩⟩, _, rfl⟩
    | some ad =>
      by_cases hc0 : c = 0
      · subst hc0
        go_enter Tryz.func99, Tryz.ntmps99
        go_wp2_with fail
        go_quiet (fail)
        go_wp2_with fail
        exact bodyPost_ret (v := .tuple #[.slice (some ad) 0 0, .slice (some ad) 0 0, .bool true]) (by simp [results, Tryz.results99, go_sem]) rfl ⟨_, _, rfl, ⟨some ad, 0, some ad, 0, rfl, rfl, fun V hV => ⟨hV, hV⟩⟩, _, rfl⟩
      · have h5 : ¬ ((c : Int) = 0) := by omega
        go_enter Tryz.func99, Tryz.ntmps99
        go_wp2_with fail
        go_quiet (fail)
        go_wp2_with fail
        exact bodyPost_ret (v := .tuple #[.slice (some ad) 0 c, .slice (some ad) 0 c, .bool true]) (by simp [results, Tryz.results99, go_sem]) rfl ⟨_, _, rfl, ⟨some ad, c, some ad, c, rfl, rfl, fun V hV => ⟨hV, hV⟩⟩, _, rfl⟩
  · rcases hr.cells with e | ⟨b, off, rfl, hcl⟩
    · subst e; simp at hn; omega
    · clear hcl
      by_cases hcm : c = m
      · subst hcm
        have hmn : n = c := by omega
        subst hmn
        go_enter Tryz.func99, Tryz.ntmps99
        go_wp2_with fail
        go_quiet (fail)
        go_wp2_with fail
        refine bodyPost_ret (v := .tuple #[.slice (some ⟨b, off, none⟩) n n, .slice (some ⟨b, off, none⟩) 0 0, .bool true]) (by simp [results, Tryz.results99, go_sem]) rfl ⟨_, _, rfl, ⟨_, _, _, _, rfl, by rw [List.length_drop, hn, Nat.sub_self], fun V hV => ⟨?_, ?_⟩⟩, _, rfl⟩
        · rw [List.take_of_length_le (by omega)]; exact hV
        · rw [List.drop_of_length_le (by omega)]; exact ⟨row_empty V _, by simp, by omega, fun e => by cases e⟩
      · have h5 : (m : Int) < c := by omega
        go_enter Tryz.func99, Tryz.ntmps99
        go_wp2_with fail
        go_quiet (fail)
        go_wp2_with fail
        refine bodyPost_ret (v := .tuple #[.slice (some ⟨b, off, none⟩) m c, .slice (some ⟨b, off + m, none⟩) (n - m) (c - m), .bool true]) (by simp [results, Tryz.results99, go_sem]) rfl ⟨_, _, rfl, ⟨_, _, _, _, rfl, by rw [List.length_drop, hn], fun V hV => ⟨⟨?_, ?_, hV.big, fun e => by cases e⟩, ⟨?_, ?_, by have := hV.big; omega, fun e => by cases e⟩⟩⟩, _, rfl⟩
        · have := hV.row.part 0 m (by omega)
          simpa using this
        · rw [List.length_take]; omega
        · have := hV.row.part m (n - m) (by omega)
          rwa [List.take_of_length_le (by rw [List.length_drop]; omega)] at this
        · rw [List.length_drop]; omega

/-- What a field's read answers: what was read and the others behind, or nothing. -/
def RPost {σ : Type} (w : World) (L : List (Nat × Obj)) (J : σ → World → Prop) (r : Option (σ × List Int)) (e : Ending) (W' : World) : Prop :=
  match r with
  | none => e = .returned (.tuple #[.slice none 0 0, .bool false]) ∧ Mem w W' L
  | some (s, l') => ∃ a c, e = .returned (.tuple #[.slice a l'.length c, .bool true]) ∧ Sl w a l' c ∧ J s W'
theorem RPost.mono {σ τ : Type} {w : World} {L K : List (Nat × Obj)} {J : σ → World → Prop} {H : τ → World → Prop} {r : Option (σ × List Int)} {q : Option (τ × List Int)} {e : Ending} {W' : World} (f : σ → τ) (hq : q = r.map (fun x => (f x.1, x.2)))
    (h : RPost w L J r e W') (hn : Mem w W' L → Mem w W' K) (hs : ∀ s, J s W' → H (f s) W') : RPost w K H q e W' := by
  subst hq
  cases r with
  | none => exact ⟨h.1, hn h.2⟩
  | some x => obtain ⟨a, c, h1, h2, h3⟩ := h; exact ⟨a, c, h1, h2, hs _ h3⟩

/-- Cells from place j on written over. -/
def spl (A : Array Value) (j : Nat) (x : List Int) : Array Value := (A.toList.take j ++ (x.map (Value.int .u8) ++ A.toList.drop (j + x.length))).toArray
/-- What n fields write, one behind the other. -/
def cat (enc : Nat → List Int) : Nat → List Int
  | 0 => []
  | n + 1 => cat enc n ++ enc n
theorem cat_le (enc : Nat → List Int) (i n : Nat) (h : i < n) : (cat enc i).length + (enc i).length ≤ (cat enc n).length := by
  induction n with
  | zero => omega
  | succ n ih =>
    rw [cat, List.length_append]
    by_cases e : i = n
    · subst e; omega
    · have := ih (by omega); omega
/-- What m fields from the i-th on read, one behind the other. -/
def sq {σ : Type} (dec : Nat → List Int → σ → Option (σ × List Int)) : Nat → Nat → List Int → σ → Option (σ × List Int)
  | _, 0, l, s => some (s, l)
  | i, m + 1, l, s => match dec i l s with
    | none => none
    | some (s', l') => sq dec (i + 1) m l' s'
/-- A text with its length ahead, up to 255 bytes of it. -/
def nm (s : ByteArray) : List Int := ((min s.size 255 : Nat) : Int) :: (sb s).take 255
/-- A text is read: its length, and so many bytes. -/
def dtxt : List Int → Option (ByteArray × List Int)
  | [] => none
  | b :: r => if r.length < b.toNat then none else some (strOfNums (r.take b.toNat), r.drop b.toNat)
theorem mem_bytes {l : List Int} (h : IsBytes l) : ∀ n ∈ l, 0 ≤ n ∧ n ≤ 255 := by
  intro n hn
  obtain ⟨i, hi, rfl⟩ := List.getElem_of_mem hn
  have := h i
  rwa [getD_eq hi] at this
theorem sb_str {l : List Int} (h : IsBytes l) : sb (strOfNums l) = l := by
  have hm := mem_bytes h
  unfold sb strOfNums
  simp only [List.map_map]
  conv => rhs; rw [← List.map_id l]
  refine List.map_congr_left fun n hn => ?_
  have := hm n hn
  simp only [Function.comp_apply, id]
  have e : (UInt8.ofNat n.toNat).toNat = n.toNat := by
    simp only [UInt8.toNat_ofNat']
    omega
  rw [e]
  omega
theorem sb_inj {s t : ByteArray} (h : sb s = sb t) : s.data.toList = t.data.toList := by
  unfold sb at h
  exact (List.map_inj_right (fun a b e => UInt8.toNat_inj.mp (Int.ofNat_inj.mp e))).mp h
theorem str_same {l k : List Int} (hl : IsBytes l) (hk : IsBytes k) : ((strOfNums l).toList == (strOfNums k).toList) = decide (l = k) := by
  by_cases h : l = k
  · subst h; simp
  · have : ¬ (strOfNums l).toList = (strOfNums k).toList := by
      intro e
      rw [ByteArray.toList_eq, ByteArray.toList_eq] at e
      apply h
      rw [← sb_str hl, ← sb_str hk]
      unfold sb
      rw [e]
    simp [h, this]
theorem text_same (s t : ByteArray) : (s.toList == t.toList) = decide (sb s = sb t) := by
  rw [ByteArray.toList_eq, ByteArray.toList_eq]
  by_cases h : s.data.toList = t.data.toList
  · simp [h, sb]
  · have : ¬ sb s = sb t := fun e => h (sb_inj e)
    rw [beq_eq_false_iff_ne.mpr h, decide_eq_false this]

set_option maxHeartbeats 400000 in
/-- bytes.Equal. -/
theorem bequal_any {w : World} {a b : Option Addr} {l k : List Int} (ha : Row w a l) (hb : Row w b k) (n m : Nat) (hn : l.length = n) (hm : k.length = m) (ca cb : Nat) :
    Calls Tryz.prog 105 #[.slice a n ca, .slice b m cb] w fun e w' => e = .returned (.bool (decide (l = k))) ∧ w = w' := by
  subst hm
  subst hn
  have h1 := row_string ha ca
  have h2 := row_string hb cb
  rw [← str_same ha.bytes hb.bytes]
  generalize strOfNums l = s at h1 h2
  generalize strOfNums k = t at h1 h2
  go_enter Tryz.func105, Tryz.ntmps105
  go_wp2
  go_ret
  exact ⟨rfl, rfl⟩
set_option maxHeartbeats 400000 in
/-- lychhelp.Bytes. -/
theorem hbytes_any {w : World} {a b : Option Addr} {l k : List Int} (ha : Row w a l) (hb : Row w b k) (n m : Nat) (hn : l.length = n) (hm : k.length = m) (ca cb : Nat) :
    Calls Tryz.prog 12 #[.slice a n ca, .slice b m cb] w fun e w' => e = .returned (.bool (decide (l = k))) ∧ w = w' := by
  subst hm
  subst hn
  have h1 := row_string ha ca
  have h2 := row_string hb cb
  rw [← str_same ha.bytes hb.bytes]
  generalize strOfNums l = s at h1 h2
  generalize strOfNums k = t at h1 h2
  go_enter Tryz.func12, Tryz.ntmps12
  go_wp2
  go_ret
  exact ⟨rfl, rfl⟩
end Go.Proofs.YtngegdamcfmonaaGreat

