/-
  Keys as text: the document's own Key, at every text.
  Settings as bytes: the field of a text (lych/api.Tenant).
  Settings as bytes: the field of a number (lych/api.Tenant, uint16): what it writes, reads, holds to be the same.
  Settings as bytes: the field of an array of bytes (lych/api.Config).
  Settings as bytes: the field of a text (lych/api.Change).
-/
import Derived.Test.YtneciccdiledfaaGreatDoorMx09
set_option linter.unusedVariables false
set_option maxRecDepth 20000
namespace Go.Proofs.YtneciccdiledfaaGreatDoor
open Go.RowKit
open Ad
open Sm (IsBytes)
theorem key_step {i : Nat} {s : List UInt8} {done : List Int} {R : Option (List Int)} (hi : i < 8) (hs : s.length = 16) (hd : done.length = i) (hc : (twos (s.drop (2 * i))).map (done ++ ·) = R) :
  ∃ a b, (s.drop (2 * i)).take 2 = [a, b] ∧ ((two [a, b] = none ∧ R = none) ∨ ∃ x, two [a, b] = some x ∧ (twos (s.drop (2 * (i + 1)))).map (done ++ [(x : Int)] ++ ·) = R) := by
 have hl : (s.drop (2 * i)).length = 16 - 2 * i := by rw [List.length_drop, hs]
 obtain ⟨a, b, t, ht⟩ : ∃ a b t, s.drop (2 * i) = a :: b :: t := by
  match s.drop (2 * i), hl with
  | [], hl => simp at hl; omega
  | [_], hl => simp at hl; omega
  | a :: b :: t, _ => exact ⟨a, b, t, rfl⟩
 have ht2 : s.drop (2 * (i + 1)) = t := by
  rw [show 2 * (i + 1) = 2 * i + 2 by omega, ← List.drop_drop, ht]; rfl
 refine ⟨a, b, by rw [ht]; rfl, ?_⟩
 rw [ht] at hc
 rw [ht2]
 cases h2 : two [a, b] with
 | none => rw [twos_none h2] at hc; exact Or.inl ⟨rfl, hc.symm⟩
 | some x =>
  rw [twos_some h2] at hc
  refine Or.inr ⟨x, rfl, ?_⟩
  rw [← hc]
  cases twos t <;> simp
set_option maxHeartbeats 4000000 in
set_option maxRecDepth 20000 in
theorem rkey_any (s : ByteArray) (hs : s.size ≤ 40000) (w : World) :
  Calls Tryz.prog 54 #[.string s] w fun e w' => e = .returned (.tuple #[kv (key s.data.toList), .int .i64 (le (key s.data.toList))]) ∧ Below w.heap.size w w' := by
 have hM0 := two_blocks w (.cells (ab z8) 26) (.cells (ab z8) 26)
 unfold key
 rw [text_len]
 by_cases h16 : s.size = 16
 ·rw [if_pos h16]
  have hsl16 : s.data.toList.length = 16 := by rw [text_len]; exact h16
  obtain ⟨R, hR⟩ : ∃ R, twos s.data.toList = R := ⟨_, rfl⟩
  rw [hR]
  go_enter Tryz.func54, Tryz.ntmps54
  go_wp2_with fail
  go_loopw [5] (fun jj w' => ∃ (j : Nat) (done rest : List Int), jj = .int .i64 j ∧ j ≤ 8 ∧ done.length = j ∧ rest.length = 8 - j ∧ (twos (s.data.toList.drop (2 * j))).map (done ++ ·) = R ∧ Mem w w' [(w.heap.size + 1, .cells (ab (done ++ rest)) 26), (w.heap.size, .cells (ab z8) 26)]) (fun jj _ => 8 - (intOf jj).toNat)
  case atStart => exact ⟨0, [], z8, rfl, by omega, rfl, rfl, by simpa using hR, hM0⟩
  case round =>
   obtain ⟨j, done, rest, rfl, hj8, hdl, hrl, hc, hMr⟩ := hrel
   clear hM0 hR
   by_cases hj : j < 8
   ·have hjz : (j : Int) < 8 := by omega
    have e7 : IntKind.i64.wrap ((j : Int) + 1) = (j : Int) + 1 := wrap64 (by omega) (by omega)
    have e8 : IntKind.i64.wrap (2 * (j : Int)) = 2 * (j : Int) := wrap64 (by omega) (by omega)
    have e9 : IntKind.i64.wrap (2 * (j : Int) + 2) = 2 * (j : Int) + 2 := wrap64 (by omega) (by omega)
    obtain ⟨a, b, hab, hor⟩ := key_step hj hsl16 hdl hc
    obtain ⟨p, hp, hpl⟩ : ∃ p : ByteArray, s.extract (2 * j) (2 * j + 2) = p ∧ p.data.toList = [a, b] := ⟨_, rfl, by rw [sub_text, show 2 * j + 2 - 2 * j = 2 by omega, hab]⟩
    have hsl : ∀ W, (Instr.slice 9 (.string s) (some (.int .i64 (2 * (j : Int)))) (some (.int .i64 (2 * (j : Int) + 2))) none).run Tryz.prog W = .ok (.string p) W := by
     intro W
     rw [run_slice_string W 9 s .i64 .i64 (2 * (j : Int)) (2 * (j : Int) + 2) Tryz.underlying9 (by omega) (by omega) (by omega), ← hp]
     congr 3
     all_goals omega
    have cN := rtwo_yes p a b hpl
    clear hc hab hp hpl
    rcases hor with ⟨h2, rfl⟩ | ⟨x, h2, hc⟩
    ·rw [h2] at cN
     generalize ((twov [a, b] : Nat) : Int) = tv at cN
     go_wp2_with fail
     refine (cN _).mono ?_
     rintro e w' ⟨rfl, rfl⟩
     have c0 : wr.cell? ⟨w.heap.size, 0, none⟩ = some (.int .u8 0) := hMr.cell 1 rfl 0
     have c1 : wr.cell? ⟨w.heap.size, 1, none⟩ = some (.int .u8 0) := hMr.cell 1 rfl 1
     have c2 : wr.cell? ⟨w.heap.size, 2, none⟩ = some (.int .u8 0) := hMr.cell 1 rfl 2
     have c3 : wr.cell? ⟨w.heap.size, 3, none⟩ = some (.int .u8 0) := hMr.cell 1 rfl 3
     have c4 : wr.cell? ⟨w.heap.size, 4, none⟩ = some (.int .u8 0) := hMr.cell 1 rfl 4
     have c5 : wr.cell? ⟨w.heap.size, 5, none⟩ = some (.int .u8 0) := hMr.cell 1 rfl 5
     have c6 : wr.cell? ⟨w.heap.size, 6, none⟩ = some (.int .u8 0) := hMr.cell 1 rfl 6
     have c7 : wr.cell? ⟨w.heap.size, 7, none⟩ = some (.int .u8 0) := hMr.cell 1 rfl 7
     have f0 := hMr.free 1 rfl
     go_wp2_with fail
     refine post_let (fun W2 => Mem w W2 [(w.heap.size, .cells (ab z8) 26), (w.heap.size + 1, .cells (ab (done ++ rest)) 26)]) (hMr.flip.put8 rfl 0 0 0 0 0 0 0 0) ?_
     intro W2 hM4
     refine bodyPost_ret (v := .tuple #[.agg (ab z8), .int .i64 60]) ?_ rfl ⟨rfl, hM4.below⟩
     exact results_two (p := 2) (q := 3) (ty := 26) rfl _ _ w.heap.size (ab z8) rfl (run_loadVar_row _ _ 26 26 _ (0, 0) _ (hM4.get 0 rfl) Tryz.underlying26 rfl (by kernel_rfl))
    ·rw [h2, twov_of h2] at cN
     clear h2
     obtain ⟨r0, rest', rfl⟩ : ∃ r0 rest', rest = r0 :: rest' := by
      match rest, hrl with
      | [], h => simp at h; omega
      | r0 :: rest', _ => exact ⟨r0, rest', rfl⟩
     have hcj : wr.cell? ⟨w.heap.size + 1, j, none⟩ = some (.int .u8 r0) := by
      rw [hMr.cell 0 rfl, ab_at (by simp; omega)]
      rw [List.getD, ← hdl]; simp
     have hfj := hMr.free 0 rfl j
     have hMs := hMr.byte j (x : Int)
     have hset : (done ++ r0 :: rest').set j (x : Int) = done ++ [(x : Int)] ++ rest' := by
      rw [← hdl, List.set_append_right _ _ (Nat.le_refl _)]; simp
     rw [hset] at hMs
     go_wp2_with fail
     refine (cN _).mono ?_
     rintro e w' ⟨rfl, rfl⟩
     go_wp2_with fail
     go_roundw
     case rel => exact ⟨j + 1, done ++ [(x : Int)], rest', by first | rfl | trivial, by omega, by simp [hdl], by simp at hrl; omega, hc, hMs⟩
     case measure => simp [intOf]; omega
   ·have hjz : ¬ (j : Int) < 8 := by omega
    have hj8' : j = 8 := by omega
    have hnil : s.data.toList.drop (2 * j) = [] := List.drop_eq_nil_of_le (by omega)
    rw [hnil, twos] at hc
    obtain rfl : rest = [] := List.eq_nil_of_length_eq_zero (by omega)
    simp only [List.append_nil, Option.map_some] at hc hMr
    subst hc
    obtain ⟨a0, a1, a2, a3, a4, a5, a6, a7, rfl⟩ := eight (hdl.trans hj8')
    have c0 : wr.cell? ⟨w.heap.size, 0, none⟩ = some (.int .u8 0) := hMr.cell 1 rfl 0
    have c1 : wr.cell? ⟨w.heap.size, 1, none⟩ = some (.int .u8 0) := hMr.cell 1 rfl 1
    have c2 : wr.cell? ⟨w.heap.size, 2, none⟩ = some (.int .u8 0) := hMr.cell 1 rfl 2
    have c3 : wr.cell? ⟨w.heap.size, 3, none⟩ = some (.int .u8 0) := hMr.cell 1 rfl 3
    have c4 : wr.cell? ⟨w.heap.size, 4, none⟩ = some (.int .u8 0) := hMr.cell 1 rfl 4
    have c5 : wr.cell? ⟨w.heap.size, 5, none⟩ = some (.int .u8 0) := hMr.cell 1 rfl 5
    have c6 : wr.cell? ⟨w.heap.size, 6, none⟩ = some (.int .u8 0) := hMr.cell 1 rfl 6
    have c7 : wr.cell? ⟨w.heap.size, 7, none⟩ = some (.int .u8 0) := hMr.cell 1 rfl 7
    have f0 := hMr.free 1 rfl
    have d0 : wr.cell? ⟨w.heap.size + 1, 0, none⟩ = some (.int .u8 a0) := hMr.cell 0 rfl 0
    have d1 : wr.cell? ⟨w.heap.size + 1, 1, none⟩ = some (.int .u8 a1) := hMr.cell 0 rfl 1
    have d2 : wr.cell? ⟨w.heap.size + 1, 2, none⟩ = some (.int .u8 a2) := hMr.cell 0 rfl 2
    have d3 : wr.cell? ⟨w.heap.size + 1, 3, none⟩ = some (.int .u8 a3) := hMr.cell 0 rfl 3
    have d4 : wr.cell? ⟨w.heap.size + 1, 4, none⟩ = some (.int .u8 a4) := hMr.cell 0 rfl 4
    have d5 : wr.cell? ⟨w.heap.size + 1, 5, none⟩ = some (.int .u8 a5) := hMr.cell 0 rfl 5
    have d6 : wr.cell? ⟨w.heap.size + 1, 6, none⟩ = some (.int .u8 a6) := hMr.cell 0 rfl 6
    have d7 : wr.cell? ⟨w.heap.size + 1, 7, none⟩ = some (.int .u8 a7) := hMr.cell 0 rfl 7
    go_wp2_with fail
    refine post_let (fun W2 => Mem w W2 [(w.heap.size, .cells (ab [a0, a1, a2, a3, a4, a5, a6, a7]) 26), (w.heap.size + 1, .cells (ab [a0, a1, a2, a3, a4, a5, a6, a7]) 26)]) (hMr.flip.put8 rfl a0 a1 a2 a3 a4 a5 a6 a7) ?_
    intro W2 hM4
    refine bodyPost_ret (v := .tuple #[.agg (ab [a0, a1, a2, a3, a4, a5, a6, a7]), .int .i64 0]) ?_ rfl ⟨rfl, hM4.below⟩
    exact results_two (p := 2) (q := 3) (ty := 26) rfl _ _ w.heap.size (ab [a0, a1, a2, a3, a4, a5, a6, a7]) rfl (run_loadVar_row _ _ 26 26 _ (0, 0) _ (hM4.get 0 rfl) Tryz.underlying26 rfl (by kernel_rfl))
 ·rw [if_neg h16]
  have hlz : (((s.size : Nat) : Int) != 16) = true := by simp; omega
  go_enter Tryz.func54, Tryz.ntmps54
  go_wp2_with fail
  refine post_let (fun W2 => Mem w W2 [(w.heap.size, .cells (ab z8) 26), (w.heap.size + 1, .cells (ab z8) 26)]) ?m0 ?_
  case m0 => exact hM0.flip
  intro W2 hM4
  refine bodyPost_ret (v := .tuple #[.agg (ab z8), .int .i64 60]) ?_ rfl ⟨rfl, hM4.below⟩
  exact results_two (p := 2) (q := 3) (ty := 26) rfl _ _ w.heap.size (ab z8) rfl (run_loadVar_row _ _ 26 26 _ (0, 0) _ (hM4.get 0 rfl) Tryz.underlying26 rfl (by kernel_rfl))
end Go.Proofs.YtneciccdiledfaaGreatDoor
namespace Go.Proofs.YtneciccdiledfaaGreatDoor
open Go.RowKit
open Sm
open Cf
end Go.Proofs.YtneciccdiledfaaGreatDoor
namespace Go.Proofs.YtneciccdiledfaaGreatDoor
open Go.RowKit
open Sm
open Cf
end Go.Proofs.YtneciccdiledfaaGreatDoor
namespace Go.Proofs.YtneciccdiledfaaGreatDoor
open Go.RowKit
open Sm
open Cf
end Go.Proofs.YtneciccdiledfaaGreatDoor
namespace Go.Proofs.YtneciccdiledfaaGreatDoor
open Go.RowKit
open Sm
open Cf
end Go.Proofs.YtneciccdiledfaaGreatDoor
