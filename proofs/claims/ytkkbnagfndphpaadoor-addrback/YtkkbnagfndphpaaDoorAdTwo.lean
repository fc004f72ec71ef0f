/-
  Two digits as a byte, and keys: the document's own two and Key, at every text.
-/
import Derived.Test.YtkkbnagfndphpaaDoorAdKey
namespace Go.Proofs.YtkkbnagfndphpaaDoor
open Go.RowKit
open Ad
open Sm (IsBytes)
set_option linter.unusedVariables false

set_option maxHeartbeats 4000000 in
theorem rtwo_yes (s : ByteArray) (a b : UInt8) (hs : s.data.toList = [a, b]) (w : World) :
    Calls Tryd.prog 29 #[.string s] w fun e w' => e = .returned (.tuple #[.int .u8 (twov [a, b] : Nat), .bool (two [a, b]).isSome]) ∧ w = w' := by
  have hsz : s.size = 2 := by rw [← text_len, hs]; rfl
  have ha : s[0]'(by omega) = a := by
    have := drop_cons s 0 (by omega)
    rw [hs] at this
    exact (List.cons.inj this).1.symm
  have hb : s[1]'(by omega) = b := by
    have := drop_cons s 1 (by omega)
    rw [hs] at this
    exact (List.cons.inj this).1.symm
  have i0 : ∀ W, (Instr.index 9 (.string s) (.int .i64 0)).run Tryd.prog W = .ok (.int .u8 (a.toNat : Int)) W := by
    intro W
    rw [run_index_string W 9 s .i64 0 Tryd.underlying9, dif_pos ⟨by omega, by omega⟩]
    simp [ha]
  have i1 : ∀ W, (Instr.index 9 (.string s) (.int .i64 1)).run Tryd.prog W = .ok (.int .u8 (b.toNat : Int)) W := by
    intro W
    rw [run_index_string W 9 s .i64 1 Tryd.underlying9, dif_pos ⟨by omega, by omega⟩]
    simp [hb]
  have c1 := rhex_any a.toNat (UInt8.toNat_lt a)
  have c2 := rhex_any b.toNat (UInt8.toNat_lt b)
  have hx15 : ∀ n, (hx n).getD 0 < 16 := fun n => by
    cases h : hx n with
    | none => simp
    | some v => exact (hx_some h).1
  have l1 := hx15 a.toNat
  have l2 := hx15 b.toNat
  rw [two_some]
  simp only [twov]
  generalize (hx a.toNat).getD 0 = x at c1 l1 ⊢
  generalize (hx b.toNat).getD 0 = y at c2 l2 ⊢
  generalize (hx a.toNat).isSome = p at c1 ⊢
  generalize (hx b.toNat).isSome = q at c2 ⊢
  have hor : bits .or .u8 ((x : Int) * 16) (y : Int) = (x : Int) * 16 + y :=
    bits_join .u8 8 (by decide) (fun n h0 h1 => wrap8u h0 (by omega)) 4 ((x : Int) * 16) y (by omega) (by omega) (by omega) (by omega) (by omega) (by omega)
  have hmod : (x : Int) * 16 % 256 = (x : Int) * 16 := by omega
  clear ha hb hs
  cases p
  all_goals
    go_enter Tryd.func29, Tryd.ntmps29
    go_wp2_with fail
    refine (c1 _).mono ?_
    rintro e w' ⟨rfl, rfl⟩
    go_wp2_with fail
    refine (c2 _).mono ?_
    rintro e w' ⟨rfl, rfl⟩
    go_wp2_with fail
  · exact bodyPost_ret (v := .tuple #[.int .u8 ((x : Int) * 16 + y), .bool false]) (by simp [results, Tryd.results29, go_sem]) rfl ⟨by simp; omega, rfl⟩
  · exact bodyPost_ret (v := .tuple #[.int .u8 ((x : Int) * 16 + y), .bool q]) (by simp [results, Tryd.results29, go_sem]) rfl ⟨by simp; omega, rfl⟩
theorem rtwo_any (s : ByteArray) (hs : s.size ≤ 140737488355328) (w : World) :
    Calls Tryd.prog 29 #[.string s] w fun e w' => e = .returned (.tuple #[.int .u8 (twov s.data.toList : Nat), .bool (two s.data.toList).isSome]) ∧ w = w' := by
  by_cases h2 : s.size = 2
  · obtain ⟨a, b, h⟩ : ∃ a b, s.data.toList = [a, b] := by
      have := text_len s
      rw [h2] at this
      match s.data.toList, this with
      | [a, b], _ => exact ⟨a, b, rfl⟩
    rw [h]
    exact rtwo_yes s a b h w
  · have hl : s.data.toList.length ≠ 2 := by rw [text_len]; exact h2
    have e1 : two s.data.toList = none := two_len hl
    have e2 : twov s.data.toList = 0 := by
      match s.data.toList, hl with
      | [], _ => rfl
      | [_], _ => rfl
      | [_, _], h => exact absurd rfl h
      | _ :: _ :: _ :: _, _ => rfl
    rw [e1, e2]
    have hz : (((s.size : Nat) : Int) != 2) = true := by simp; omega
    go_enter Tryd.func29, Tryd.ntmps29
    go_wp2_with fail
    exact bodyPost_ret (v := .tuple #[.int .u8 0, .bool false]) (by simp [results, Tryd.results29, go_sem]) rfl ⟨rfl, rfl⟩
end Go.Proofs.YtkkbnagfndphpaaDoor
