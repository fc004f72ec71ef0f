/-
  Bytes as hexadecimal digits: the program's hexText.
  Settings as bytes: the field of a number keeps what is asked of a field (lych/api.Tenant, int).
  Settings as bytes: the field of a list's elements (lych/api.Config, lych/api.Tenant).
-/
import Derived.Test.YtneciccdiledfaaGreatDoorMx13
import Derived.Test.YtneciccdiledfaaGreatDoorMx12
import Derived.Deep.MidRow
import Derived.Deep.WholeRow
set_option linter.unusedVariables false
set_option maxRecDepth 20000
namespace Go.Proofs.YtneciccdiledfaaGreatDoor
open Go.RowKit
open Ad
open Sm (IsBytes)
theorem hexS_hi (x : Nat) (h : x < 256) (w : World) : (Instr.index 9 (.string hexS) (.int .u8 ((x : Int) / 16))).run Tryz.prog w = .ok (.int .u8 ((hdg (x / 16) : Nat) : Int)) w := by
 rw [run_index_string w 9 hexS .u8 _ Tryz.underlying9, dif_pos ⟨by omega, by show (x : Int) / 16 < ((16 : Nat) : Int); omega⟩]
 have e : ((x : Int) / 16).toNat = x / 16 := by omega
 have := hexS_at (x / 16) (by show x / 16 < 16; omega)
 simp only [e, this]
theorem hexS_lo (x : Nat) (h : x < 256) (w : World) : (Instr.index 9 (.string hexS) (.int .u8 ((x : Int) % 16))).run Tryz.prog w = .ok (.int .u8 ((hdg (x % 16) : Nat) : Int)) w := by
 rw [run_index_string w 9 hexS .u8 _ Tryz.underlying9, dif_pos ⟨by omega, by show (x : Int) % 16 < ((16 : Nat) : Int); omega⟩]
 have e : ((x : Int) % 16).toNat = x % 16 := by omega
 have := hexS_at (x % 16) (by show x % 16 < 16; omega)
 simp only [e, this]
def hexN (l : List Int) : List Int := l.flatMap fun x => [((hdg (x.toNat / 16) : Nat) : Int), ((hdg (x.toNat % 16) : Nat) : Int)]
theorem hexN_len : ∀ (l : List Int), (hexN l).length = 2 * l.length
 | [] => rfl
 | x :: l => by
  have := hexN_len l
  simp only [hexN, List.flatMap_cons, List.length_append, List.length_cons, List.length_nil] at this ⊢
  omega
theorem hdg_byte (n : Nat) (h : n < 169) : 0 ≤ ((hdg n : Nat) : Int) ∧ ((hdg n : Nat) : Int) ≤ 255 := by
 unfold hdg; split <;> omega
theorem hexN_bytes_of : ∀ (l : List Int), (∀ x ∈ l, 0 ≤ x ∧ x ≤ 255) → IsBytes (hexN l)
 | [], _ => fun i => by simp [hexN]
 | x :: l, h => by
  have hx := h x (by simp)
  have ih := hexN_bytes_of l (fun y hy => h y (by simp [hy]))
  have e : hexN (x :: l) = ((hdg (x.toNat / 16) : Nat) : Int) :: ((hdg (x.toNat % 16) : Nat) : Int) :: hexN l := by simp [hexN]
  rw [e]
  intro i
  match i with
  | 0 => exact hdg_byte _ (by omega)
  | 1 => exact hdg_byte _ (by omega)
  | i + 2 => exact ih i
theorem hexN_str (l : List Int) : strOfNums (hexN l) = ⟨(keyt l).toArray⟩ := by
 have : (hexN l).map (fun n => UInt8.ofNat n.toNat) = keyt l := by
  induction l with
  | nil => rfl
  | cons x l ih =>
   have e : hexN (x :: l) = ((hdg (x.toNat / 16) : Nat) : Int) :: ((hdg (x.toNat % 16) : Nat) : Int) :: hexN l := by simp [hexN]
   have e2 : keyt (x :: l) = UInt8.ofNat (hdg (x.toNat / 16)) :: UInt8.ofNat (hdg (x.toNat % 16)) :: keyt l := by simp [keyt, hex2]
   rw [e, e2, List.map_cons, List.map_cons, ih]
   simp
 unfold strOfNums
 rw [this]
set_option maxHeartbeats 1000000 in
set_option maxRecDepth 20000 in
theorem hexText_any {W : World} {b off : Nat} {l : List Int} (hr : Row W (some ⟨b, off, none⟩) l) (m c : Nat) (hm : l.length = m) (hmc : m ≤ c) (hs : m ≤ 1000) :
  Calls Tryz.prog 96 #[.slice (some ⟨b, off, none⟩) m c] W fun e w' => e = .returned (.string ⟨(keyt l).toArray⟩) ∧ Below W.heap.size W w' := by
 have e1 : IntKind.i64.wrap (2 * (m : Int)) = 2 * (m : Int) := wrap64 (by omega) (by omega)
 obtain ⟨i0, hi, hz0, hz1, hz2⟩ := info_parts info5
 obtain ⟨w1, hmk, hown1, hg1⟩ := run_make_own (P := Tryz.prog) W W.heap.size 49 5 i0 (.int .u8 0) 1 Tryz.underlying49 hi hz0 hz1 .i64 .i64 (2 * m) (by rw [hz2]; omega) (by unfold maxLen; omega) (Nat.le_refl _)
 rw [show ((2 * m : Nat) : Int) = 2 * (m : Int) by omega] at hmk
 have hb1 : Below W.heap.size W w1 := (Below.refl _ _).grown hg1 (Nat.le_refl _) (fun k hk => by cases hk)
 go_enter Tryz.func96, Tryz.ntmps96
 go_wp2_with fail
 go_loopw [3, 12] (fun o jj w' => ∃ j : Nat, jj = .int .i64 j ∧ j ≤ m ∧ w'.ownsRow W.heap.size 5 1 o (2 * j) ((hexN (l.take j)).map (Value.int .u8)) ∧ Below W.heap.size W w') (fun _ jj _ => m - (intOf jj).toNat)
 case atStart => exact ⟨0, rfl, Nat.zero_le _, hown1, hb1⟩
 case round =>
  obtain ⟨j, rfl, hjm, hown, hbr⟩ := hrel
  clear hmk hown1 hg1 hb1
  by_cases hj : j < m
  ·have hjz : (j : Int) < m := by omega
   have e7 : IntKind.i64.wrap ((j : Int) + 1) = (j : Int) + 1 := wrap64 (by omega) (by omega)
   have hc1 := hr.cellAt j (by omega)
   have hcell : wr.cell? ⟨b, off + j, none⟩ = some (.int .u8 (l.getD j 0)) := (hbr.cell (cell_lt hc1)).trans hc1
   have hxb := hr.bytes j
   obtain ⟨x, hx⟩ : ∃ x : Nat, l.getD j 0 = (x : Int) := ⟨(l.getD j 0).toNat, by omega⟩
   rw [hx] at hcell hxb
   have hx256 : x < 256 := by omega
   have h1 := hexS_hi x hx256
   have h2 := hexS_lo x hx256
   have hand : bits .and .u8 (x : Int) 15 = (x : Int) % 16 := bits_mask .u8 8 (by decide) (fun n h0 h1 => wrap8u h0 (by omega)) 4 (by decide) x (by omega) (by omega)
   have hA := hdg_small (show x / 16 < 16 by omega)
   have hB := hdg_small (show x % 16 < 16 by omega)
   have htake : hexN (l.take (j + 1)) = hexN (l.take j) ++ [((hdg (x / 16) : Nat) : Int), ((hdg (x % 16) : Nat) : Int)] := by
    have hjl : j < l.length := by omega
    rw [List.take_add_one, List.getElem?_eq_getElem hjl, hexN, List.flatMap_append]
    have : l[j] = (x : Int) := by rw [← hx, getD_eq hjl]
    simp [hexN, this]
   generalize hdg (x / 16) = A at h1 hA htake
   generalize hdg (x % 16) = B at h2 hB htake
   have HR : Hid (Row (wr.alloc (.cells #[.int .u8 (A : Int), .int .u8 (B : Int)] 5)).drew (some ⟨wr.heap.size, 0, none⟩) [(A : Int), (B : Int)]) := by
    have h := row_lit wr [(A : Int), (B : Int)] (bytes_two (by omega) (by omega) (by omega) (by omega)) (by simp) 5
    exact ⟨h.bytes, h.len, h.cells⟩
   have HO : Hid ((wr.alloc (.cells #[.int .u8 (A : Int), .int .u8 (B : Int)] 5)).drew.ownsRow W.heap.size 5 1 u3 (2 * j) ((hexN (l.take j)).map (Value.int .u8))) := hown.alloc _
   have HB : Hid (W.heap.size ≤ (wr.alloc (.cells #[.int .u8 (A : Int), .int .u8 (B : Int)] 5)).drew.heap.size) := by
    have := hbr.size
    show W.heap.size ≤ (wr.alloc (.cells #[.int .u8 (A : Int), .int .u8 (B : Int)] 5)).heap.size
    simp; omega
   have HL : Hid (Below W.heap.size W (wr.alloc (.cells #[.int .u8 (A : Int), .int .u8 (B : Int)] 5)).drew) := (hbr.alloc hbr.size _).drew
   go_upto_region 5 with fail
   clear hown hbr hc1 hxb hx hcell
   go_region_held3 (fun _ => True) (trivial) (first | (refine step_append_bytes rfl (.tmp 16) (.tmp 23) rfl W.heap.size u3 (2 * j) _ (by simp [Act.eval]) HO.out (some ⟨wr.heap.size, 0, none⟩) 2 2 [(A : Int), (B : Int)] (by simp [Act.eval]) rfl (fun e => by cases e) HR.out (by omega) HB.out ?_; intro v6 w6 hown6 hbel6))
   all_goals
    have hown7 : w6.ownsRow W.heap.size 5 1 v6 (2 * (j + 1)) ((hexN (l.take (j + 1))).map (Value.int .u8)) := by
     rw [htake, List.map_append, show 2 * (j + 1) = 2 * j + 2 by omega]
     exact hown6
    have hb7 := HL.out.trans hbel6
    clear hown6 hbel6 htake HR HO HB HL
    go_wp2_with fail
    go_roundw
    case rel => exact ⟨j + 1, by first | rfl | trivial, by omega, hown7, hb7⟩
    case measure => simp [intOf]; omega
  ·have hjz : ¬ (j : Int) < m := by omega
   have hjm2 : j = m := by omega
   subst hjm2
   have hlt : l.take j = l := by rw [List.take_of_length_le (by omega)]
   rw [hlt] at hown
   have hbN : IsBytes (hexN l) := hexN_bytes_of l (fun y hy => by
    obtain ⟨i, hi, rfl⟩ := List.getElem_of_mem hy
    have := hr.bytes i
    rwa [getD_eq hi] at this)
   obtain ⟨ao, cap, rfl, hrow, _, _, _⟩ := own_read hown (hexN_len l ▸ by omega) hbN (by rw [hexN_len]; omega)
   have hcv := row_string hrow cap
   rw [hexN_len, hm, hexN_str] at hcv
   clear hown
   go_wp2_with fail
   go_ret
   exact ⟨rfl, hbr⟩
end Go.Proofs.YtneciccdiledfaaGreatDoor
namespace Go.Proofs.YtneciccdiledfaaGreatDoor
open Go.RowKit
open Sm
open Cf
end Go.Proofs.YtneciccdiledfaaGreatDoor
namespace Go.Proofs.YtneciccdiledfaaGreatDoor
open Go.RowKit
open Sm
open Cf
end Go.Proofs.YtneciccdiledfaaGreatDoor
