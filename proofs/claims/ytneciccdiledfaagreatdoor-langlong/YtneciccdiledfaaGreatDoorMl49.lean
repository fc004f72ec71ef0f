/-
  Settings as text: the walk of LangLong: texts as long as may be are read, and one longer are not.
-/
import Derived.Test.YtneciccdiledfaaGreatDoorMl45
import Derived.Test.YtneciccdiledfaaGreatDoorMl48
import Derived.Test.YtneciccdiledfaaGreatDoorMl03
namespace Go.Proofs.YtneciccdiledfaaGreatDoor
open Go.RowKit
open La
open Ad
open Sm
set_option linter.unusedVariables false
set_option linter.unusedSimpArgs false
set_option maxRecDepth 20000

theorem made_ab (m : Nat) : madeCells #[Value.int .u8 0] m = ab (List.replicate m 0) := by
  have h := madeCells_flat #[Value.int .u8 0] m (by decide)
  apply Array.toList_inj.1
  have e : m * (#[Value.int .u8 0] : Array Value).size = m := by simp
  rw [e] at h
  rw [h]
  simp [ab, List.flatten_replicate_singleton]
def fil (m i : Nat) : List Int := List.replicate i 120 ++ List.replicate (m - i) 0
theorem fil_len {m i : Nat} (h : i ≤ m) : (fil m i).length = m := by simp [fil]; omega
theorem fil_set {m i : Nat} (h : i < m) : (fil m i).set i 120 = fil m (i + 1) := by
  unfold fil
  have e : m - i = (m - (i + 1)) + 1 := by omega
  rw [e, List.replicate_succ, List.set_append_right _ _ (by simp), List.length_replicate, Nat.sub_self, List.set_cons_zero, List.replicate_succ', List.append_assoc]
  rfl
theorem fil_end (m : Nat) : fil m m = List.replicate m 120 := by simp [fil]
theorem fil_str (m : Nat) : strOfNums (List.replicate m (120 : Int)) = ⟨(List.replicate m (120 : UInt8)).toArray⟩ := by
  unfold strOfNums
  rw [List.map_replicate]; rfl
theorem fil_bytes (m i : Nat) : IsBytes (fil m i) := by
  intro j
  rw [List.getD_eq_getElem?_getD]
  cases h : (fil m i)[j]? with
  | none => simp
  | some x =>
    have hm := List.mem_of_getElem? h
    simp only [fil, List.mem_append, List.mem_replicate] at hm
    simp only [Option.getD_some]
    omega
set_option maxHeartbeats 16000000 in
theorem long_law {w : World} (hw : Lw w) (n : Int) (hn0 : -9223372036854775808 ≤ n) (hn1 : n ≤ 9223372036854775807) :
    Calls Tryz.prog 6 #[.int .i64 n] w fun e w' => e = .returned (.bool true) ∧ Below w.heap.size w w' := by
  have CK := known_any hw
  have CPl := fun W => place_any n 5 W hn0 hn1 (by decide) (by decide)
  have hP := plc_range n 5 (by decide)
  obtain ⟨P, hPe⟩ : ∃ P : Nat, plc n 5 = (P : Int) := ⟨(plc n 5).toNat, by omega⟩
  rw [hPe] at hP
  simp only [hPe] at CPl
  have hP5 : P < 5 := by omega
  clear hP hPe hn0 hn1
  have HLW : Hid (Lw w) := hw
  clear hw
  go_enter Tryz.func6, Tryz.ntmps6
  go_wp2_with fail
  refine CK.mono ?_
  rintro e V0 ⟨rfl, hb0⟩
  have CS := sconf_any (V0.alloc (.cells #[.int .u16 1] 42 (0, 0))) (some ⟨V0.heap.size, 0, none⟩) 1 1 (fun _ => 1) (fun i hi => by
    obtain rfl : i = 0 := by omega
    exact ⟨V0.heap.size, 0, rfl, by rw [Nat.add_zero, World.cell?_alloc_new]; rfl, by decide, by decide⟩) 1 (by decide) (by decide)
  have HB0 : Hid (Below w.heap.size w (V0.alloc (.cells #[.int .u16 1] 42 (0, 0)))) := hb0.alloc hb0.size _
  clear CK hb0
  go_wp2_with fail
  refine CS.mono ?_
  rintro e V1 ⟨c, v, rfl, hS, hCV, hb1⟩
  obtain ⟨A, rfl, hsz, hone, i29, hcv⟩ := cv_row hCV hb1
  obtain ⟨z1, z2, z3, z4, z5, z6, z7⟩ := seat_all hS
  have CT := rtext_any (hcv V1 (Below.refl _ _)) z1 z2 z3 (by omega) (by omega)
  have HB1 : Hid (Below w.heap.size w V1) := HB0.out.trans (hb1.mono HB0.out.size)
  have HS : Hid (CFit c ∧ (txt c).length ≤ 1600) := ⟨z7, z6⟩
  clear hcv hCV hb1 CS HB0 z1 z2 z3 z4 z5 z6 z7 hS hsz hone i29
  obtain ⟨T, hT⟩ : ∃ T : ByteArray, (⟨(txt c).toArray⟩ : ByteArray) = T := ⟨_, rfl⟩
  rw [hT] at CT
  have xT := sz_of hT HS.out.2
  obtain ⟨T1, Td, Tz, Tq⟩ := add_step T ⟨#[35]⟩ 1600 1 xT.1 (by decide) (by decide)
  have HT1 : Hid (T1.data.toList = txt c ++ [35] ∧ T1.size ≤ 1601) := ⟨by rw [Td, xT.2], Tz⟩
  clear Td Tz xT hT
  go_wp2_with fail
  refine CT.mono ?_
  rintro e V2 ⟨rfl, hb2⟩
  have HB2 : Hid (Below w.heap.size w V2) := HB1.out.trans (hb2.mono HB1.out.size)
  clear CT hb2 HB1
  obtain ⟨m, hm⟩ : ∃ m : Nat, (m : Int) = 32766 + (P : Int) - (T1.size : Int) := ⟨(32766 + (P : Int) - (T1.size : Int)).toNat, by have := HT1.out.2; omega⟩
  have w1 : IntKind.i64.wrap (32766 + (P : Int)) = 32766 + (P : Int) := wrap64 (by omega) (by omega)
  have w2 : IntKind.i64.wrap (32766 + (P : Int) - (T1.size : Int)) = (m : Int) := by rw [wrap64 (by have := HT1.out.2; omega) (by have := HT1.out.2; omega)]; exact hm.symm
  have HM : Hid ((m : Int) = 32766 + (P : Int) - (T1.size : Int) ∧ P < 5) := ⟨hm, hP5⟩
  have mk := make_bytes m (by have := HT1.out.2; omega)
  simp only [made_ab] at mk
  have HMm : Hid (m ≤ 33000) := by have := HT1.out.2; show m ≤ 33000; omega
  clear hm hP5
  obtain ⟨gb, hgb⟩ : ∃ gb, V2.heap.size = gb := ⟨_, rfl⟩
  have HP : Hid (Mem V2 (V2.alloc (.cells (ab (List.replicate m 0)) 5)) [(gb, .cells (ab (fil m 0)) 5 (0, 0))]) := by
    have := (Mem.nil V2).push1 (o := .cells (ab (List.replicate m 0)) 5 (0, 0)) hgb.symm
    have e : fil m 0 = List.replicate m 0 := by simp [fil]
    rw [e]; exact this
  go_wp2_with fail
  refine (CPl _).mono ?_
  rintro e _ ⟨rfl, rfl⟩
  go_upto_region 5 with fail
  refine wp_letter (fun X => Mem V2 X [(gb, Obj.cells (ab (fil m 0)) 5 (0, 0))]) (by exact HP.out) ?_
  intro V3 hM3
  try simp only [hgb]
  have HM3 : Hid (Mem V2 V3 [(gb, Obj.cells (ab (fil m 0)) 5 (0, 0))]) := hM3
  clear HP hM3 hgb mk w1 w2 CPl Tq
  go_wp2_with fail
  go_loopw [5] (fun ii w' => ∃ i : Nat, i ≤ m ∧ ii = .int .i64 i ∧ Hid (Mem V2 w' [(gb, Obj.cells (ab (fil m i)) 5 (0, 0))])) (fun ii _ => m - (intOf ii).toNat)
  case atStart => exact ⟨0, Nat.zero_le _, rfl, HM3⟩
  case round =>
    obtain ⟨i, hi, rfl, HX⟩ := hrel
    clear HM3
    by_cases hlt : i < m
    · have h1 : (i : Int) < m := by omega
      have e7 : IntKind.i64.wrap ((i : Int) + 1) = (i : Int) + 1 := by have := HMm.out; exact wrap64 (by omega) (by omega)
      have ci := (HX.out.cell 0 rfl i).trans (ab_at (by rw [fil_len hi]; exact hlt))
      have fi := HX.out.free 0 rfl i
      have hM4 := HX.out.byte i 120
      rw [fil_set hlt] at hM4
      have HM4 : Hid (Mem V2 _ [(gb, Obj.cells (ab (fil m (i + 1))) 5 (0, 0))]) := hM4
      clear hM4 HX
      go_wp2_with fail
      go_roundw
      case rel => exact ⟨i + 1, by omega, by go_num, HM4⟩
      case measure => simp [intOf]; omega
    · obtain rfl : i = m := by omega
      have h1 : ¬ ((i : Int) < i) := by omega
      have hrow : Row _ (some ⟨gb, 0, none⟩) (fil i i) := ⟨fil_bytes i i, by rw [fil_len (Nat.le_refl i)]; have := HMm.out; omega, Or.inr ⟨gb, 0, rfl, fun j hj => by rw [Nat.zero_add, HX.out.cell 0 rfl j]; exact ab_at hj⟩⟩
      have hstr := row_string hrow i
      rw [fil_len (Nat.le_refl i), fil_end, fil_str] at hstr
      obtain ⟨X1, hX1⟩ : ∃ X : ByteArray, (⟨(List.replicate i (120 : UInt8)).toArray⟩ : ByteArray) = X := ⟨_, rfl⟩
      rw [hX1] at hstr
      have xX := sz_of (n := 33000) hX1 (by rw [List.length_replicate]; exact HMm.out)
      obtain ⟨T2, Ud, Uz, Uq⟩ := add_step T1 X1 1601 33000 HT1.out.2 xX.1 (by decide)
      have hT2 : T2 = ⟨(txt c ++ 35 :: List.replicate i 120).toArray⟩ := str_of (by rw [Ud, HT1.out.1, xX.2]; simp)
      have hT2s : T2.size = T1.size + i := by
        rw [← text_len, Ud, List.length_append, text_len, text_len, ← hX1]
        show T1.size + (List.replicate i (120 : UInt8)).toArray.size = _
        simp
      have hsum : IntKind.i64.wrap ((T1.size : Int) + (i : Int)) = 32766 + (P : Int) := by
        have := HM.out.1
        rw [wrap64 (by omega) (by omega)]; omega
      have hwr := HLW.out.below (HB2.out.trans (HX.out.below.mono HB2.out.size))
      have HBX : Hid (Below w.heap.size w _) := HB2.out.trans (HX.out.below.mono HB2.out.size)
      by_cases hok : P ≤ 2
      · have hpar : parse T2 = .ok c := by
          rw [hT2]
          refine parse_hash HS.out.1 _ (fun b hb => by rw [List.eq_of_mem_replicate hb]; decide) ?_
          have h2 := congrArg List.length Ud
          have := HM.out.1
          have h3 : (txt c ++ 35 :: List.replicate i 120).length = T2.size := by rw [hT2, str_size]
          rw [h3, hT2s]; omega
        have CP := parse_any hwr.vs hwr.fw T2
        rw [hpar] at CP
        have hgt : ¬ ((32768 : Int) < 32766 + (P : Int)) := by omega
        clear hpar hT2 hT2s Ud Uz xX hX1 hrow hwr HX HLW HS HT1 HM HMm
        go_wp2_with fail
        refine CP.mono ?_
        rintro e V6 ⟨hb6, v3, rfl, hCV3⟩
        obtain ⟨A3, rfl, hsz3, hone3, i293, hcv3⟩ := cv_row hCV3 hb6
        obtain ⟨g3, hg3⟩ : ∃ g3, V6.heap.size = g3 := ⟨_, rfl⟩
        obtain ⟨hk3, e3⟩ := box_new (A := A3) hg3
        have HP : Hid (Below w.heap.size w ((V6.alloc (.cells cz 29)).setRow g3 A3)) := by
          rw [e3]
          have h0 := HBX.out.trans (hb6.mono HBX.out.size)
          exact h0.alloc h0.size _
        clear e3 hcv3 hCV3 hb6 CP HBX
        go_upto_region 10 with (refine wpList_store_row rfl 29 (.tmp 6) (.tmp 38) (by with_reducible rfl) g3 A3 (by simp [Act.eval]; try exact hg3) (by first | rfl | simp [Act.eval]) 29 cz hk3 i293 (by rw [hsz3]; rfl) hone3 ?_)
        refine wp_letter (fun X => Below w.heap.size w X) (by exact HP.out) ?_
        intro V7 hb7
        try simp only [hg3]
        have HB7 : Hid (Below w.heap.size w V7) := hb7
        clear HP hg3 hk3 hsz3 hone3 hb7
        have CE := told_nil V7
        go_wp2_with fail
        refine CE.mono ?_
        rintro e _ ⟨rfl, rfl⟩
        go_wp2_with fail
        go_ret
        exact ⟨rfl, HB7.out⟩
      · have hpar : parse T2 = .error 32768 := by
          unfold parse
          have := HM.out.1
          rw [if_pos (by rw [hT2s]; omega)]
        have CP := parse_any hwr.vs hwr.fw T2
        rw [hpar] at CP
        have hgt : (32768 : Int) < 32766 + (P : Int) := by omega
        have HEy : Hid (Ey _) := hwr.ey
        clear hpar hT2 hT2s Ud Uz xX hX1 hrow hwr HX HLW HS HT1 HM HMm
        go_wp2_with fail
        refine CP.mono ?_
        rintro e V6 ⟨gq, rfl, hM6⟩
        obtain ⟨g3, hg3⟩ : ∃ g3, V6.heap.size = g3 := ⟨_, rfl⟩
        obtain ⟨hk3, e3⟩ := box_new (A := cz) hg3
        have hsz3 : cz.size = 29 := by decide
        have i293 : (Tryz.prog.info? 29).map (·.size) = some cz.size := by rw [hsz3]; kernel_rfl
        have hone3 : cz.all (·.oneCell') = true := by kernel_rfl
        have HP : Hid (Mem wr ((V6.alloc (.cells cz 29)).setRow g3 cz) [(gq, .cells #[.int .i64 (32768 : Nat), .int .i64 60] 64 (0, 0))]) := by
          rw [e3]
          exact hM6.after ((Below.refl _ _).alloc (Nat.le_refl _) _)
        have HQ : Hid (∀ X, Mem wr X [(gq, .cells #[.int .i64 (32768 : Nat), .int .i64 60] 64 (0, 0))] → (Calls Tryz.prog 11 #[.iface 58 (.pointer (some ⟨gq, 0, none⟩))] X fun e V' => e = .returned (.tuple #[.int .i64 (32768 : Nat), .int .i64 60]) ∧ Below X.heap.size X V') ∧ Below w.heap.size w X) := fun X hX => ⟨told_place HEy.out hX, HBX.out.trans (hX.below.mono HBX.out.size)⟩
        clear e3 hM6 CP HBX HEy
        go_upto_region 10 with (refine wpList_store_row rfl 29 (.tmp 6) (.tmp 38) (by with_reducible rfl) g3 cz (by simp [Act.eval]; try exact hg3) (by first | rfl | simp [Act.eval]) 29 cz hk3 (by kernel_rfl) rfl (by kernel_rfl) ?_)
        refine wp_letter (fun X => Mem wr X [(gq, .cells #[.int .i64 (32768 : Nat), .int .i64 60] 64 (0, 0))]) (by exact HP.out) ?_
        intro V7 hM7
        try simp only [hg3]
        obtain ⟨CE, hb7⟩ := HQ.out V7 hM7
        have HB7 : Hid (Below w.heap.size w V7) := hb7
        clear HP hg3 hk3 hsz3 hone3 hb7 hM7 HQ
        go_wp2_with fail
        refine CE.mono ?_
        rintro e V8 ⟨rfl, hb8⟩
        have HB8 : Hid (Below w.heap.size w V8) := HB7.out.trans (hb8.mono HB7.out.size)
        clear hb8 HB7 CE
        go_wp2_with fail
        go_ret
        exact ⟨rfl, HB8.out⟩
end Go.Proofs.YtneciccdiledfaaGreatDoor

