/-
  Two digits as a byte, and keys: the document's own two and Key, at every text.
  The program's put, get and split, and bytes.Equal, whatever they are handed.
-/
import Derived.Test.YtneciccdiledfaaGreatDoorMx08
import Derived.Deep.RegionHeld3
import Derived.BigQuiet
import Derived.Shelf.Abstract
import Derived.Laws.EntriesVeiled
set_option linter.unusedVariables false
set_option maxRecDepth 20000
namespace Go.Proofs.YtneciccdiledfaaGreatDoor
open Go.RowKit
open Ad
open Sm (IsBytes)
set_option maxHeartbeats 4000000 in
theorem rtwo_yes (s : ByteArray) (a b : UInt8) (hs : s.data.toList = [a, b]) (w : World) :
  Calls Tryz.prog 88 #[.string s] w fun e w' => e = .returned (.tuple #[.int .u8 (twov [a, b] : Nat), .bool (two [a, b]).isSome]) ∧ w = w' := by
 have hsz : s.size = 2 := by rw [← text_len, hs]; rfl
 have ha : s[0]'(by omega) = a := by
  have := drop_cons s 0 (by omega)
  rw [hs] at this
  exact (List.cons.inj this).1.symm
 have hb : s[1]'(by omega) = b := by
  have := drop_cons s 1 (by omega)
  rw [hs] at this
  exact (List.cons.inj this).1.symm
 have i0 : ∀ W, (Instr.index 9 (.string s) (.int .i64 0)).run Tryz.prog W = .ok (.int .u8 (a.toNat : Int)) W := by
  intro W
  rw [run_index_string W 9 s .i64 0 Tryz.underlying9, dif_pos ⟨by omega, by omega⟩]
  simp [ha]
 have i1 : ∀ W, (Instr.index 9 (.string s) (.int .i64 1)).run Tryz.prog W = .ok (.int .u8 (b.toNat : Int)) W := by
  intro W
  rw [run_index_string W 9 s .i64 1 Tryz.underlying9, dif_pos ⟨by omega, by omega⟩]
  simp [hb]
 have c1 := rhex_any a.toNat (UInt8.toNat_lt a)
 have c2 := rhex_any b.toNat (UInt8.toNat_lt b)
 have hx15 : ∀ n, (hx n).getD 0 < 16 := fun n => by
  cases h : hx n with
  | none => simp
  | some v => exact (hx_some h).1
 have l1 := hx15 a.toNat
 have l2 := hx15 b.toNat
 rw [two_some]
 simp only [twov]
 generalize (hx a.toNat).getD 0 = x at c1 l1 ⊢
 generalize (hx b.toNat).getD 0 = y at c2 l2 ⊢
 generalize (hx a.toNat).isSome = p at c1 ⊢
 generalize (hx b.toNat).isSome = q at c2 ⊢
 have hor : bits .or .u8 ((x : Int) * 16) (y : Int) = (x : Int) * 16 + y :=
  bits_join .u8 8 (by decide) (fun n h0 h1 => wrap8u h0 (by omega)) 4 ((x : Int) * 16) y (by omega) (by omega) (by omega) (by omega) (by omega) (by omega)
 have hmod : (x : Int) * 16 % 256 = (x : Int) * 16 := by omega
 clear ha hb hs
 cases p
 all_goals
  go_enter Tryz.func88, Tryz.ntmps88
  go_wp2_with fail
  refine (c1 _).mono ?_
  rintro e w' ⟨rfl, rfl⟩
  go_wp2_with fail
  refine (c2 _).mono ?_
  rintro e w' ⟨rfl, rfl⟩
  go_wp2_with fail
 ·exact bodyPost_ret (v := .tuple #[.int .u8 ((x : Int) * 16 + y), .bool false]) (by simp [results, Tryz.results88, go_sem]) rfl ⟨by simp; omega, rfl⟩
 ·exact bodyPost_ret (v := .tuple #[.int .u8 ((x : Int) * 16 + y), .bool q]) (by simp [results, Tryz.results88, go_sem]) rfl ⟨by simp; omega, rfl⟩
theorem rtwo_any (s : ByteArray) (hs : s.size ≤ 140737488355328) (w : World) :
  Calls Tryz.prog 88 #[.string s] w fun e w' => e = .returned (.tuple #[.int .u8 (twov s.data.toList : Nat), .bool (two s.data.toList).isSome]) ∧ w = w' := by
 by_cases h2 : s.size = 2
 ·obtain ⟨a, b, h⟩ : ∃ a b, s.data.toList = [a, b] := by
   have := text_len s
   rw [h2] at this
   match s.data.toList, this with
   | [a, b], _ => exact ⟨a, b, rfl⟩
  rw [h]
  exact rtwo_yes s a b h w
 ·have hl : s.data.toList.length ≠ 2 := by rw [text_len]; exact h2
  have e1 : two s.data.toList = none := two_len hl
  have e2 : twov s.data.toList = 0 := by
   match s.data.toList, hl with
   | [], _ => rfl
   | [_], _ => rfl
   | [_, _], h => exact absurd rfl h
   | _ :: _ :: _ :: _, _ => rfl
  rw [e1, e2]
  have hz : (((s.size : Nat) : Int) != 2) = true := by simp; omega
  go_enter Tryz.func88, Tryz.ntmps88
  go_wp2_with fail
  exact bodyPost_ret (v := .tuple #[.int .u8 0, .bool false]) (by simp [results, Tryz.results88, go_sem]) rfl ⟨rfl, rfl⟩
end Go.Proofs.YtneciccdiledfaaGreatDoor
namespace Go.Proofs.YtneciccdiledfaaGreatDoor
open Go.RowKit
open Sm
open Cf
structure Sl (V : World) (a : Option Addr) (l : List Int) (c : Nat) : Prop where
 row : Row V a l
 le : l.length ≤ c
 big : c ≤ 9223372036854775807
 nil : a = none → c = 0
theorem Mem.sl {w W : World} {L : List (Nat × Obj)} (h : Mem w W L) {a : Option Addr} {l : List Int} {c : Nat} (hr : Sl w a l c) : Sl W a l c := ⟨h.row hr.row, hr.le, hr.big, hr.nil⟩
theorem row_empty (V : World) (a : Option Addr) : Row V a [] := ⟨bytes_nil, by simp, Or.inl rfl⟩
def RPost {σ : Type} (w : World) (L : List (Nat × Obj)) (J : σ → World → Prop) (r : Option (σ × List Int)) (e : Ending) (W' : World) : Prop :=
 match r with
 | none => e = .returned (.tuple #[.slice none 0 0, .bool false]) ∧ Mem w W' L
 | some (s, l') => ∃ a c, e = .returned (.tuple #[.slice a l'.length c, .bool true]) ∧ Sl w a l' c ∧ J s W'
theorem RPost.mono {σ τ : Type} {w : World} {L K : List (Nat × Obj)} {J : σ → World → Prop} {H : τ → World → Prop} {r : Option (σ × List Int)} {q : Option (τ × List Int)} {e : Ending} {W' : World} (f : σ → τ) (hq : q = r.map (fun x => (f x.1, x.2)))
  (h : RPost w L J r e W') (hn : Mem w W' L → Mem w W' K) (hs : ∀ s, J s W' → H (f s) W') : RPost w K H q e W' := by
 subst hq
 cases r with
 | none => exact ⟨h.1, hn h.2⟩
 | some x => obtain ⟨a, c, h1, h2, h3⟩ := h; exact ⟨a, c, h1, h2, hs _ h3⟩
def cat (enc : Nat → List Int) : Nat → List Int
 | 0 => []
 | n + 1 => cat enc n ++ enc n
def sq {σ : Type} (dec : Nat → List Int → σ → Option (σ × List Int)) : Nat → Nat → List Int → σ → Option (σ × List Int)
 | _, 0, l, s => some (s, l)
 | i, m + 1, l, s => match dec i l s with
  | none => none
  | some (s', l') => sq dec (i + 1) m l' s'
def nm (s : ByteArray) : List Int := ((min s.size 255 : Nat) : Int) :: (sb s).take 255
def dtxt : List Int → Option (ByteArray × List Int)
 | [] => none
 | b :: r => if r.length < b.toNat then none else some (strOfNums (r.take b.toNat), r.drop b.toNat)
theorem sb_inj {s t : ByteArray} (h : sb s = sb t) : s.data.toList = t.data.toList := by
 unfold sb at h
 exact (List.map_inj_right (fun a b e => UInt8.toNat_inj.mp (Int.ofNat_inj.mp e))).mp h
theorem text_same (s t : ByteArray) : (s.toList == t.toList) = decide (sb s = sb t) := by
 rw [ByteArray.toList_eq, ByteArray.toList_eq]
 by_cases h : s.data.toList = t.data.toList
 ·simp [h, sb]
 ·have : ¬ sb s = sb t := fun e => h (sb_inj e)
  rw [beq_eq_false_iff_ne.mpr h, decide_eq_false this]
end Go.Proofs.YtneciccdiledfaaGreatDoor
