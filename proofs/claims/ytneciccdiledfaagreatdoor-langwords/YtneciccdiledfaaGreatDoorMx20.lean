/-
  Addresses' texts: the document's own IpText, MacText and KeyText.
  Settings as bytes: addresses and pairs: the program's address() and pair().
  Settings as bytes: a tenant in memory, as it is written, read, held against another.
  Settings as bytes: where a tenant's fields lie: the program's own functions in a list.
-/
import Derived.Test.YtneciccdiledfaaGreatDoorMx19
import Derived.Test.YtneciccdiledfaaGreatDoorMx16
import Derived.Test.YtneciccdiledfaaGreatDoorMx17
import Derived.Test.YtneciccdiledfaaGreatDoorMx15
set_option linter.unusedVariables false
set_option maxRecDepth 20000
namespace Go.Proofs.YtneciccdiledfaaGreatDoor
open Go.RowKit
open Ad
open Sm (IsBytes)
open Go.Lib (decDigits)
theorem hexS_one : ∀ p : Fin 16, (hexS.data.toList.drop p.val).take 1 = [UInt8.ofNat (hdg p.val)] := by decide
theorem hexS_cut (y : Nat) (h : y < 16) (w : World) (Y : Int) (hY : Y = (y : Int)) : (Instr.slice 9 (.string hexS) (some (.int .u8 Y)) (some (.int .u8 (Y + 1))) none).run Tryz.prog w = .ok (.string ⟨#[UInt8.ofNat (hdg y)]⟩) w := by
 subst hY
 rw [run_slice_string w 9 hexS .u8 .u8 _ _ Tryz.underlying9 (by omega) (by omega) (by show (y : Int) + 1 ≤ ((16 : Nat) : Int); omega)]
 have : hexS.extract (y : Int).toNat ((y : Int) + 1).toNat = ⟨#[UInt8.ofNat (hdg y)]⟩ := by
  have h2 : (hexS.extract (y : Int).toNat ((y : Int) + 1).toNat).data.toList = [UInt8.ofNat (hdg y)] := by
   rw [sub_text, Int.toNat_natCast, show ((y : Int) + 1).toNat - y = 1 by omega]
   exact hexS_one ⟨y, h⟩
  exact str_of h2
 rw [this]
set_option maxHeartbeats 1000000 in
set_option maxRecDepth 20000 in
theorem hexes_any (x : Nat) (hx : x < 256) (w : World) : Calls Tryz.prog 68 #[.int .u8 (x : Int)] w fun e w' => e = .returned (.string ⟨(hex2 (x : Int)).toArray⟩) ∧ Below w.heap.size w w' := by
 have h1 := hexS_cut (x / 16) (by omega)
 have h1' : ∀ W, (Instr.slice 9 (.string hexS) (some (.int .u8 ((x : Int) / 16))) (some (.int .u8 ((x : Int) / 16 + 1))) none).run Tryz.prog W = .ok (.string ⟨#[UInt8.ofNat (hdg (x / 16))]⟩) W := fun W => h1 W _ (by omega)
 have h2 := hexS_cut (x % 16) (by omega)
 have h2' : ∀ W, (Instr.slice 9 (.string hexS) (some (.int .u8 ((x : Int) % 16))) (some (.int .u8 ((x : Int) % 16 + 1))) none).run Tryz.prog W = .ok (.string ⟨#[UInt8.ofNat (hdg (x % 16))]⟩) W := fun W => h2 W _ (by omega)
 have hand : bits .and .u8 (x : Int) 15 = (x : Int) % 16 := bits_mask .u8 8 (by decide) (fun n h0 h1 => wrap8u h0 (by omega)) 4 (by decide) x (by omega) (by omega)
 have w1 : IntKind.u8.wrap ((x : Int) / 16 + 1) = (x : Int) / 16 + 1 := wrap8u (by omega) (by omega)
 have w2 : IntKind.u8.wrap ((x : Int) % 16 + 1) = (x : Int) % 16 + 1 := wrap8u (by omega) (by omega)
 have e : (⟨(hex2 (x : Int)).toArray⟩ : ByteArray) = ⟨#[UInt8.ofNat (hdg (x / 16))]⟩ ++ ⟨#[UInt8.ofNat (hdg (x % 16))]⟩ := by
  rw [show (⟨#[UInt8.ofNat (hdg (x / 16))]⟩ : ByteArray) = ⟨[UInt8.ofNat (hdg (x / 16))].toArray⟩ from rfl, show (⟨#[UInt8.ofNat (hdg (x % 16))]⟩ : ByteArray) = ⟨[UInt8.ofNat (hdg (x % 16))].toArray⟩ from rfl, ByteArray.mk_append_mk]
  simp [hex2]
 rw [e]
 have s1 : (⟨#[UInt8.ofNat (hdg (x / 16))]⟩ : ByteArray).size = 1 := rfl
 have s2 : (⟨#[UInt8.ofNat (hdg (x % 16))]⟩ : ByteArray).size = 1 := rfl
 generalize (⟨#[UInt8.ofNat (hdg (x / 16))]⟩ : ByteArray) = A at h1' s1
 generalize (⟨#[UInt8.ofNat (hdg (x % 16))]⟩ : ByteArray) = B at h2' s2
 have hadd : ∀ W, (Op.stringOp .add A B).run Tryz.prog W = .ok (.string (A ++ B)) W := fun W => run_string_add_sum W A B (by omega)
 clear h1 h2 e s1 s2
 go_enter Tryz.func68, Tryz.ntmps68
 go_upto_region 1 with fail
 go_quiet (fail)
 all_goals
  go_wp2_with fail
  go_ret
  exact ⟨rfl, below_drewN' (Below.refl _ _) _⟩
theorem add_str (A B : List UInt8) (h : A.length + B.length ≤ 1000) (w : World) : (Op.stringOp .add ⟨A.toArray⟩ ⟨B.toArray⟩).run Tryz.prog w = .ok (.string ⟨(A ++ B).toArray⟩) w := by
 rw [run_string_add_sum w _ _ (by rw [str_size, str_size]; omega), ByteArray.mk_append_mk]
abbrev S (l : List UInt8) : ByteArray := ⟨l.toArray⟩
set_option maxHeartbeats 1000000 in
set_option maxRecDepth 20000 in
theorem rip_text (a : Nat) (ha : a ≤ 4294967295) (w : World) : Calls Tryz.prog 36 #[.int .u32 (a : Int)] w fun e w' => e = .returned (.string ⟨(ipt a).toArray⟩) ∧ w = w' := by
 have c1 := rdec_any (a / 16777216) (by omega)
 have c2 := rdec_any (a / 65536 % 256) (by omega)
 have c3 := rdec_any (a / 256 % 256) (by omega)
 have c4 := rdec_any (a % 256) (by omega)
 rw [show ((a / 16777216 : Nat) : Int) = (a : Int) / 16777216 by omega] at c1
 rw [show ((a / 65536 % 256 : Nat) : Int) = (a : Int) / 65536 % 256 by omega] at c2
 rw [show ((a / 256 % 256 : Nat) : Int) = (a : Int) / 256 % 256 by omega] at c3
 rw [show ((a % 256 : Nat) : Int) = (a : Int) % 256 by omega] at c4
 have l1 := dec_len (a / 16777216) (by omega)
 have l2 := dec_len (a / 65536 % 256) (by omega)
 have l3 := dec_len (a / 256 % 256) (by omega)
 have l4 := dec_len (a % 256) (by omega)
 have b2 : bits .and .u32 ((a : Int) / 65536) 255 = (a : Int) / 65536 % 256 := bits_mask .u32 32 (by decide) (fun n h0 h1 => wrap32u h0 (by omega)) 8 (by decide) _ (by omega) (by omega)
 have b3 : bits .and .u32 ((a : Int) / 256) 255 = (a : Int) / 256 % 256 := bits_mask .u32 32 (by decide) (fun n h0 h1 => wrap32u h0 (by omega)) 8 (by decide) _ (by omega) (by omega)
 have b4 : bits .and .u32 (a : Int) 255 = (a : Int) % 256 := bits_mask .u32 32 (by decide) (fun n h0 h1 => wrap32u h0 (by omega)) 8 (by decide) _ (by omega) (by omega)
 have e1 : IntKind.u64.wrap ((a : Int) / 16777216) = (a : Int) / 16777216 := wrap64u (by omega) (by omega)
 have e2 : IntKind.u64.wrap ((a : Int) / 65536 % 256) = (a : Int) / 65536 % 256 := wrap64u (by omega) (by omega)
 have e3 : IntKind.u64.wrap ((a : Int) / 256 % 256) = (a : Int) / 256 % 256 := wrap64u (by omega) (by omega)
 have e4 : IntKind.u64.wrap ((a : Int) % 256) = (a : Int) % 256 := wrap64u (by omega) (by omega)
 have hfin : ipt a = decDigits (a / 16777216) ++ [46] ++ decDigits (a / 65536 % 256) ++ [46] ++ decDigits (a / 256 % 256) ++ [46] ++ decDigits (a % 256) := by
  simp [ipt, Lib.join_cons, Lib.joinTail]
 rw [hfin]
 clear hfin
 generalize decDigits (a / 16777216) = A at *
 generalize decDigits (a / 65536 % 256) = B at *
 generalize decDigits (a / 256 % 256) = C at *
 generalize decDigits (a % 256) = D at *
 have q1 : ∀ W, (Op.stringOp .add ⟨A.toArray⟩ ⟨#[46]⟩).run Tryz.prog W = .ok (.string ⟨(A ++ [46]).toArray⟩) W := add_str A [46] (by simp; omega)
 have q2 := add_str (A ++ [46]) B (by simp; omega)
 have q3 : ∀ W, (Op.stringOp .add ⟨(A ++ [46] ++ B).toArray⟩ ⟨#[46]⟩).run Tryz.prog W = .ok (.string ⟨(A ++ [46] ++ B ++ [46]).toArray⟩) W := add_str (A ++ [46] ++ B) [46] (by simp; omega)
 have q4 := add_str (A ++ [46] ++ B ++ [46]) C (by simp; omega)
 have q5 : ∀ W, (Op.stringOp .add ⟨(A ++ [46] ++ B ++ [46] ++ C).toArray⟩ ⟨#[46]⟩).run Tryz.prog W = .ok (.string ⟨(A ++ [46] ++ B ++ [46] ++ C ++ [46]).toArray⟩) W := add_str (A ++ [46] ++ B ++ [46] ++ C) [46] (by simp; omega)
 have q6 := add_str (A ++ [46] ++ B ++ [46] ++ C ++ [46]) D (by simp; omega)
 generalize (⟨(A ++ [46] ++ B ++ [46] ++ C ++ [46] ++ D).toArray⟩ : ByteArray) = T6 at q6
 generalize (⟨(A ++ [46] ++ B ++ [46] ++ C ++ [46]).toArray⟩ : ByteArray) = T5 at q5 q6
 generalize (⟨(A ++ [46] ++ B ++ [46] ++ C).toArray⟩ : ByteArray) = T4 at q4 q5
 generalize (⟨(A ++ [46] ++ B ++ [46]).toArray⟩ : ByteArray) = T3 at q3 q4
 generalize (⟨(A ++ [46] ++ B).toArray⟩ : ByteArray) = T2 at q2 q3
 generalize (⟨(A ++ [46]).toArray⟩ : ByteArray) = T1 at q1 q2
 generalize (⟨A.toArray⟩ : ByteArray) = SA at c1 q1
 generalize (⟨B.toArray⟩ : ByteArray) = SB at c2 q2
 generalize (⟨C.toArray⟩ : ByteArray) = SC at c3 q4
 generalize (⟨D.toArray⟩ : ByteArray) = SD at c4 q6
 go_enter Tryz.func36, Tryz.ntmps36
 go_wp2_with fail
 refine (c1 _).mono ?_
 rintro e w' ⟨rfl, rfl⟩
 go_wp2_with fail
 refine (c2 _).mono ?_
 rintro e w' ⟨rfl, rfl⟩
 go_wp2_with fail
 refine (c3 _).mono ?_
 rintro e w' ⟨rfl, rfl⟩
 go_wp2_with fail
 refine (c4 _).mono ?_
 rintro e w' ⟨rfl, rfl⟩
 go_wp2_with fail
 go_ret
 exact ⟨rfl, rfl⟩
theorem join_snoc (c : UInt8) (p : List UInt8) (r : List (List UInt8)) (q : List UInt8) : Lib.join (p :: (r ++ [q])) [c] = Lib.join (p :: r) [c] ++ [c] ++ q := by
 rw [Lib.join_cons, Lib.join_cons]
 simp [Lib.joinTail]
theorem mact_snoc {l : List Int} {j : Nat} (h1 : 1 ≤ j) (hj : j < l.length) : mact (l.take (j + 1)) = mact (l.take j) ++ [58] ++ hex2 (l.getD j 0) := by
 have e : l.take (j + 1) = l.take j ++ [l.getD j 0] := by
  rw [List.take_add_one, List.getElem?_eq_getElem hj, getD_eq hj]; rfl
 cases hp : l.take j with
 | nil =>
  have : (l.take j).length = j := by rw [List.length_take]; omega
  rw [hp] at this; simp at this; omega
 | cons x r =>
  rw [e, hp]
  unfold mact
  rw [List.cons_append, List.map_cons, List.map_append, List.map_cons, List.map_nil, join_snoc]
  rfl
theorem mact_len (l : List Int) (h : l.length ≤ 8) : (mact l).length ≤ 808 := by
 have := join_le 58 (l.map hex2) (by
  intro p hp
  obtain ⟨x, _, rfl⟩ := List.mem_map.1 hp
  simp [hex2])
 rw [List.length_map] at this
 unfold mact
 omega
theorem keyt_snoc {l : List Int} {j : Nat} (hj : j < l.length) : keyt (l.take (j + 1)) = keyt (l.take j) ++ hex2 (l.getD j 0) := by
 have e : l.take (j + 1) = l.take j ++ [l.getD j 0] := by
  rw [List.take_add_one, List.getElem?_eq_getElem hj, getD_eq hj]; rfl
 rw [e]
 unfold keyt
 rw [List.flatMap_append, List.flatMap_cons, List.flatMap_nil, List.append_nil]
set_option maxHeartbeats 1000000 in
set_option maxRecDepth 20000 in
theorem rmact_any (w : World) (l : List Int) (hl : l.length = 6) (hb : IsBytes l) :
  Calls Tryz.prog 37 #[.agg (ab l)] w fun e w' => e = .returned (.string ⟨(mact l).toArray⟩) ∧ Below w.heap.size w w' := by
 have hM0 : Mem w (w.alloc (.cells (ab l) 25)) [(w.heap.size, .cells (ab l) 25)] := (Mem.nil w).push w.heap.size _ rfl
 have hx : ∀ j, j < 6 → ∃ x : Nat, l.getD j 0 = (x : Int) ∧ x < 256 := fun j hj => by
  have := hb j
  exact ⟨(l.getD j 0).toNat, by omega, by omega⟩
 obtain ⟨a0, a1, a2, a3, a4, a5, he⟩ := six hl
 have hab : ab l = #[.int .u8 a0, .int .u8 a1, .int .u8 a2, .int .u8 a3, .int .u8 a4, .int .u8 a5] := by rw [he]; rfl
 have hcell0 : (w.alloc (.cells (ab l) 25)).cell? ⟨w.heap.size, 0, none⟩ = some (.int .u8 (l.getD 0 0)) := by rw [hM0.cell 0 rfl, ab_at (by omega)]
 obtain ⟨x0, hx0, hx0l⟩ := hx 0 (by omega)
 have c0 := hexes_any x0 hx0l
 rw [← hx0] at c0
 have ha0 : l.getD 0 0 = a0 := by rw [he]; rfl
 rw [ha0] at c0
 have hm1 : hex2 a0 = mact (l.take 1) := by rw [he]; simp [mact, Lib.join_one]
 rw [hm1] at c0
 generalize hW0 : w.alloc (.cells (ab l) 25) = W0 at hM0 hcell0
 rw [hab] at hW0
 rw [hab]
 clear he hab ha0 hm1 hx0
 subst hW0
 clear hcell0
 go_enter Tryz.func37, Tryz.ntmps37
 go_wp2_with fail
 refine (c0 _).mono ?_
 rintro e w1 ⟨rfl, hb1⟩
 have hM1 := hM0.after hb1
 clear c0 hM0 hb1
 go_wp2_with fail
 go_loopw [3, 4] (fun o jj w' => ∃ j : Nat, jj = .int .i64 j ∧ o = .string ⟨(mact (l.take j)).toArray⟩ ∧ 1 ≤ j ∧ j ≤ 6 ∧ Mem w w' [(w.heap.size, .cells (ab l) 25)]) (fun _ jj _ => 6 - (intOf jj).toNat)
 case atStart => exact ⟨1, rfl, rfl, by omega, by omega, hM1⟩
 case round =>
  obtain ⟨j, rfl, rfl, hj1, hj6, hMr⟩ := hrel
  clear hM1
  by_cases hj : j < 6
  ·have hjz : (j : Int) < 6 := by omega
   have e7 : IntKind.i64.wrap ((j : Int) + 1) = (j : Int) + 1 := wrap64 (by omega) (by omega)
   have hcell : wr.cell? ⟨w.heap.size, j, none⟩ = some (.int .u8 (l.getD j 0)) := by rw [hMr.cell 0 rfl, ab_at (by omega)]
   obtain ⟨x, hxe, hxl⟩ := hx j hj
   have cH := hexes_any x hxl
   rw [← hxe] at cH
   have hsn := mact_snoc hj1 (show j < l.length by omega)
   have hml := mact_len (l.take j) (by rw [List.length_take]; omega)
   have q1 : ∀ W, (Op.stringOp .add ⟨(mact (l.take j)).toArray⟩ ⟨#[58]⟩).run Tryz.prog W = .ok (.string ⟨(mact (l.take j) ++ [58]).toArray⟩) W := add_str (mact (l.take j)) [58] (by simp; omega)
   have q2 := add_str (mact (l.take j) ++ [58]) (hex2 (l.getD j 0)) (by simp [hex2]; omega)
   rw [← hsn] at q2
   generalize l.getD j 0 = X at cH q2 hcell hxe
   clear hsn hml hxe
   generalize (⟨(mact (l.take j)).toArray⟩ : ByteArray) = S0 at q1
   generalize (⟨(mact (l.take j) ++ [58]).toArray⟩ : ByteArray) = S1 at q1 q2
   generalize (⟨(hex2 X).toArray⟩ : ByteArray) = S2 at cH q2
   generalize hS3 : (⟨(mact (l.take (j + 1))).toArray⟩ : ByteArray) = S3 at q2
   go_wp2_with fail
   refine (cH _).mono ?_
   rintro e w2 ⟨rfl, hb2⟩
   have hM2 := hMr.after hb2
   clear hMr hb2 cH
   go_wp2_with fail
   go_roundw
   case rel => exact ⟨j + 1, by first | rfl | trivial, by rw [hS3], by omega, by omega, hM2⟩
   case measure => simp [intOf]; omega
  ·have hjz : ¬ (j : Int) < 6 := by omega
   have hlt : l.take j = l := List.take_of_length_le (by omega)
   rw [hlt]
   go_wp2_with fail
   go_ret
   exact ⟨rfl, hMr.below⟩
set_option maxHeartbeats 1000000 in
set_option maxRecDepth 20000 in
theorem rkeyt_any (w : World) (l : List Int) (hl : l.length = 8) (hb : IsBytes l) :
  Calls Tryz.prog 38 #[.agg (ab l)] w fun e w' => e = .returned (.string ⟨(keyt l).toArray⟩) ∧ Below w.heap.size w w' := by
 have hM0 : Mem w (w.alloc (.cells (ab l) 26)) [(w.heap.size, .cells (ab l) 26)] := (Mem.nil w).push w.heap.size _ rfl
 have hx : ∀ j, j < 8 → ∃ x : Nat, l.getD j 0 = (x : Int) ∧ x < 256 := fun j hj => by
  have := hb j
  exact ⟨(l.getD j 0).toNat, by omega, by omega⟩
 obtain ⟨a0, a1, a2, a3, a4, a5, a6, a7, he⟩ := eight hl
 have hab : ab l = #[.int .u8 a0, .int .u8 a1, .int .u8 a2, .int .u8 a3, .int .u8 a4, .int .u8 a5, .int .u8 a6, .int .u8 a7] := by rw [he]; rfl
 generalize hW0 : w.alloc (.cells (ab l) 26) = W0 at hM0
 rw [hab] at hW0
 rw [hab]
 clear he hab
 subst hW0
 go_enter Tryz.func38, Tryz.ntmps38
 go_wp2_with fail
 go_loopw [3, 4] (fun o jj w' => ∃ j : Nat, jj = .int .i64 j ∧ o = .string ⟨(keyt (l.take j)).toArray⟩ ∧ j ≤ 8 ∧ Mem w w' [(w.heap.size, .cells (ab l) 26)]) (fun _ jj _ => 8 - (intOf jj).toNat)
 case atStart => exact ⟨0, rfl, rfl, by omega, hM0⟩
 case round =>
  obtain ⟨j, rfl, rfl, hj6, hMr⟩ := hrel
  clear hM0
  by_cases hj : j < 8
  ·have hjz : (j : Int) < 8 := by omega
   have e7 : IntKind.i64.wrap ((j : Int) + 1) = (j : Int) + 1 := wrap64 (by omega) (by omega)
   have hcell : wr.cell? ⟨w.heap.size, j, none⟩ = some (.int .u8 (l.getD j 0)) := by rw [hMr.cell 0 rfl, ab_at (by omega)]
   obtain ⟨x, hxe, hxl⟩ := hx j hj
   have cH := hexes_any x hxl
   rw [← hxe] at cH
   have hsn := keyt_snoc (show j < l.length by omega)
   have hml : (keyt (l.take j)).length ≤ 16 := by rw [keyt_len, List.length_take]; omega
   have q2 := add_str (keyt (l.take j)) (hex2 (l.getD j 0)) (by simp [hex2]; omega)
   rw [← hsn] at q2
   generalize l.getD j 0 = X at cH q2 hcell hxe
   clear hsn hml hxe
   generalize (⟨(keyt (l.take j)).toArray⟩ : ByteArray) = S0 at q2
   generalize (⟨(hex2 X).toArray⟩ : ByteArray) = S2 at cH q2
   generalize hS3 : (⟨(keyt (l.take (j + 1))).toArray⟩ : ByteArray) = S3 at q2
   go_wp2_with fail
   refine (cH _).mono ?_
   rintro e w2 ⟨rfl, hb2⟩
   have hM2 := hMr.after hb2
   clear hMr hb2 cH
   go_wp2_with fail
   go_roundw
   case rel => exact ⟨j + 1, by first | rfl | trivial, by rw [hS3], by omega, hM2⟩
   case measure => simp [intOf]; omega
  ·have hjz : ¬ (j : Int) < 8 := by omega
   have hlt : l.take j = l := List.take_of_length_le (by omega)
   rw [hlt]
   go_wp2_with fail
   go_ret
   exact ⟨rfl, hMr.below⟩
end Go.Proofs.YtneciccdiledfaaGreatDoor
namespace Go.Proofs.YtneciccdiledfaaGreatDoor
open Go.RowKit
open Sm
open Cf
def spU : Sp Int := spNum 4 id (fun _ y => y)
def spA : Sp (Int × Int) := spNum 4 Prod.fst (fun x y => (y, x.2))
def spB : Sp (Int × Int) := spNum 4 Prod.snd (fun x y => (x.1, y))
def spP : Sp (Int × Int) := spAll [spA, spB]
theorem get_mid (pre mid post : List Value) (o : Nat) (v : Value) (h : mid[o]? = some v) : (pre ++ (mid ++ post)).toArray[pre.length + o]? = some v := by
 have ho := (List.getElem?_eq_some_iff.mp h).1
 simp only [List.getElem?_toArray]
 rw [List.getElem?_append_right (by omega), List.getElem?_append_left (by omega), Nat.add_sub_cancel_left]
 exact h
theorem set_mid (pre mid post : List Value) (o : Nat) (v : Value) (h : o < mid.length) : (pre ++ (mid ++ post)).toArray.setIfInBounds (pre.length + o) v = (pre ++ (mid.set o v ++ post)).toArray := by
 simp only [List.setIfInBounds_toArray]
 rw [List.set_append_right _ _ (by omega), List.set_append_left _ _ (by omega), Nat.add_sub_cancel_left]
end Go.Proofs.YtneciccdiledfaaGreatDoor
namespace Go.Proofs.YtneciccdiledfaaGreatDoor
open Go.RowKit
open Sm
open Cf
structure TIn (t : Ten) : Prop where
 len : TLen t
 key : IsBytes t.key
 vmac : IsBytes t.vmac
 host : IsBytes t.host
 name : t.name.size ≤ 1000000
 pool : t.pool.length ≤ 1000000
 stat : t.stat.length ≤ 1000000
 twi : t.twi.length ≤ 1000000
def IT : Rp Ten (Value × Value × Value) := fun t r V g off =>
 TIn t ∧ V.rangeAt g off (tc t r.1 r.2.1 r.2.2) ∧ Rw V 1 r.1 (ux t.pool) ∧ Rw V 2 r.2.1 (px t.stat) ∧ Rw V 2 r.2.2 (px t.twi)
theorem Mem.subl {w V : World} {L K : List (Nat × Obj)} (h : Mem w V L) (hs : K.Sublist L) : Mem w V K :=
 ⟨h.below, fun p hp => h.low p (hs.subset hp), fun p hp => h.at_ p (hs.subset hp), h.apart.sublist (hs.map _)⟩
theorem Mem.dropA {w V : World} {A K : List (Nat × Obj)} (h : Mem w V (A ++ K)) : Mem w V K := h.subl (List.sublist_append_right A K)
theorem tset {t t' : Ten} {p s q p' s' q' : Value} {o : Nat} {v : Value} (h : TLen t) (e : ∀ n vn a b c d f g x y vt a1 b1 c1 d1 f1 g1 a2 b2 c2 d2 f2 g2 po lo hi fi st tw se qu ra bu,
  t = ⟨n, vn, [a, b, c, d, f, g, x, y], vt, [a1, b1, c1, d1, f1, g1], [a2, b2, c2, d2, f2, g2], po, lo, hi, fi, st, tw, se, qu, ra, bu⟩ → (tc t p s q).set o v = tc t' p' s' q') : (tc t p s q).set o v = tc t' p' s' q' := by
 obtain ⟨n, vn, key, vt, vm, ho, po, lo, hi, fi, st, tw, se, qu, ra, bu⟩ := t
 obtain ⟨h1, h2, h3⟩ := h
 obtain ⟨a, b, c, d, f, g, x, y, rfl⟩ := eight8 h1
 obtain ⟨a1, b1, c1, d1, f1, g1, rfl⟩ := six6 h2
 obtain ⟨a2, b2, c2, d2, f2, g2, rfl⟩ := six6 h3
 exact e n vn a b c d f g x y vt a1 b1 c1 d1 f1 g1 a2 b2 c2 d2 f2 g2 po lo hi fi st tw se qu ra bu rfl
theorem tget {t : Ten} {p s q : Value} {o : Nat} {v : Value} (h : TLen t) (e : ∀ n vn a b c d f g x y vt a1 b1 c1 d1 f1 g1 a2 b2 c2 d2 f2 g2 po lo hi fi st tw se qu ra bu,
  t = ⟨n, vn, [a, b, c, d, f, g, x, y], vt, [a1, b1, c1, d1, f1, g1], [a2, b2, c2, d2, f2, g2], po, lo, hi, fi, st, tw, se, qu, ra, bu⟩ → (tc t p s q)[o]? = some v) : (tc t p s q)[o]? = some v := by
 obtain ⟨n, vn, key, vt, vm, ho, po, lo, hi, fi, st, tw, se, qu, ra, bu⟩ := t
 obtain ⟨h1, h2, h3⟩ := h
 obtain ⟨a, b, c, d, f, g, x, y, rfl⟩ := eight8 h1
 obtain ⟨a1, b1, c1, d1, f1, g1, rfl⟩ := six6 h2
 obtain ⟨a2, b2, c2, d2, f2, g2, rfl⟩ := six6 h3
 exact e n vn a b c d f g x y vt a1 b1 c1 d1 f1 g1 a2 b2 c2 d2 f2 g2 po lo hi fi st tw se qu ra bu rfl
def set_pool (t : Ten) (m : Nat) : Ten := if m = 0 then t else { t with pool := List.replicate m 0 }
def set_stat (t : Ten) (m : Nat) : Ten := if m = 0 then t else { t with stat := List.replicate m (0, 0) }
def set_twi (t : Ten) (m : Nat) : Ten := if m = 0 then t else { t with twi := List.replicate m (0, 0) }
end Go.Proofs.YtneciccdiledfaaGreatDoor
namespace Go.Proofs.YtneciccdiledfaaGreatDoor
open Go.RowKit
open Sm
open Cf
end Go.Proofs.YtneciccdiledfaaGreatDoor
