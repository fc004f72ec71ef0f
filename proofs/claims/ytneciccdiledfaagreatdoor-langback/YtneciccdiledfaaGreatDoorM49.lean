/-
  Settings as text: the walk of LangBack: the text of settings is read back, with blanks, comments and empty lines in it too.
  What the seven laid variables hold when a call begins, and a world in which they hold it.
-/
import Derived.Test.YtneciccdiledfaaGreatDoorM48
import Derived.Test.YtneciccdiledfaaGreatDoorM30
import Derived.Test.YtneciccdiledfaaGreatDoorM04
import Derived.LaidHandle
import Derived.LaidLaws
import Derived.OpenShut
namespace Go.Proofs.YtneciccdiledfaaGreatDoor
open Go.RowKit
open La
open Ad
open Sm (IsBytes)
set_option linter.unusedVariables false
set_option linter.unusedSimpArgs false
set_option maxRecDepth 20000

theorem add_big (A B : List UInt8) (h : A.length + B.length ≤ 1000000) (w : World) : (Op.stringOp .add ⟨A.toArray⟩ ⟨B.toArray⟩).run Tryz.prog w = .ok (.string ⟨(A ++ B).toArray⟩) w := by
  rw [run_string_add_sum w _ _ (by rw [str_size, str_size]; omega), ByteArray.mk_append_mk]
theorem byte_no {b : UInt8} {c : Nat} (hc : c < 256) (h : b ≠ UInt8.ofNat c) : ((b.toNat : Int) == (c : Int)) = false := by
  rw [beq_eq_false_iff_ne]; intro e
  apply h; apply UInt8.toNat_inj.1
  rw [UInt8.toNat_ofNat']; omega
theorem pc_32 {r : Int} (h : r ≠ 1) : pc 32 r = [32] := by unfold pc; rw [if_neg h, if_neg (by rintro ⟨-, e⟩; cases e)]
theorem pc_10 {r : Int} (h : r ≠ 1) (h2 : r ≠ 2) : pc 10 r = [10] := by unfold pc; rw [if_neg h, if_neg (by rintro ⟨e, -⟩; exact h2 e)]
theorem one_slice {L : ByteArray} {i : Nat} {b : UInt8} {r : List UInt8} (h : L.data.toList.drop i = b :: r) (hi : i < L.size) : ∀ W, (Instr.slice 9 (.string L) (some (.int .i64 (i : Int))) (some (.int .i64 ((i : Int) + 1))) none).run Tryz.prog W = .ok (.string ⟨[b].toArray⟩) W := by
  intro W
  rw [run_slice_string W 9 L .i64 .i64 (i : Int) ((i : Int) + 1) Tryz.underlying9 (by omega) (by omega) (by omega)]
  have e : (L.extract (i : Int).toNat ((i : Int) + 1).toNat).data.toList = [b] := by
    rw [sub_text, Int.toNat_natCast, show ((i : Int) + 1).toNat - i = 1 by omega, h]; rfl
  rw [str_of e]
/-- A settings' box: what a call answered, stored. -/
theorem box_new {V : World} {A : Array Value} {g : Nat} (hg : V.heap.size = g) : (V.alloc (.cells cz 29)).heap[g]? = some (.cells cz 29 (0, 0)) ∧ (V.alloc (.cells cz 29)).setRow g A = V.alloc (.cells A 29) :=
  ⟨by rw [← hg]; exact heap_alloc_new _ _, by rw [← hg]; exact World.setRow_alloc_new V cz A 29⟩
set_option maxHeartbeats 16000000 in
theorem back_law {w : World} (hw : Lw w) (a0 : Option Addr) (n0 c0 : Nat) (ks : Nat → Int) (hks : ∀ i, i < n0 → ∃ b off, a0 = some ⟨b, off, none⟩ ∧ w.cell? ⟨b, off + i, none⟩ = some (.int .u16 (ks i)) ∧ 0 ≤ ks i ∧ ks i ≤ 65535) (d : Int) (hd0 : 0 ≤ d) (hd1 : d ≤ 255) (a2 : Option Addr) (n2 c2 : Nat) (bl : List Int) (hbs : n2 ≤ 200 → Row w a2 bl ∧ bl.length = n2) :
    Calls Tryz.prog 5 #[.slice a0 n0 c0, .int .u8 d, .slice a2 n2 c2] w fun e w' => e = .returned (.bool true) ∧ Below w.heap.size w w' := by
  have CK := known_any hw
  by_cases hbig : n0 > 4 ∨ n2 > 200
  · have hcase : ((4 : Int) < n0) ∨ (¬ ((4 : Int) < n0) ∧ (200 : Int) < n2) := by omega
    clear hbig hks hbs
    rcases hcase with h1 | ⟨h1, h2⟩
    all_goals
      go_enter Tryz.func5, Tryz.ntmps5
      go_wp2_with fail
      refine CK.mono ?_
      rintro e V1 ⟨rfl, hb1⟩
      go_wp2_with fail
      go_ret
      exact ⟨rfl, hb1⟩
  obtain ⟨hbl, hn2⟩ := hbs (by omega)
  clear hbs
  have q1 : ¬ ((4 : Int) < n0) := by omega
  have q2 : ¬ ((200 : Int) < n2) := by omega
  have HL : Hid (n0 ≤ 4 ∧ n2 ≤ 200 ∧ bl.length = n2 ∧ Row w a2 bl) := ⟨by omega, by omega, hn2, hbl⟩
  have HK : Hid (∀ i, i < n0 → ∃ b off, a0 = some ⟨b, off, none⟩ ∧ w.cell? ⟨b, off + i, none⟩ = some (.int .u16 (ks i)) ∧ 0 ≤ ks i ∧ ks i ≤ 65535) := hks
  clear hbig hks hbl hn2
  go_enter Tryz.func5, Tryz.ntmps5
  go_wp2_with fail
  refine CK.mono ?_
  rintro e V0 ⟨rfl, hb0⟩
  have CS := sconf_any V0 a0 n0 c0 ks (fun i hi => by
    obtain ⟨b, off, e1, e2, e3⟩ := HK.out i hi
    exact ⟨b, off, e1, (hb0.cell (cell_in e2)).trans e2, e3⟩) d hd0 hd1
  have HW0 : Hid (Lw V0 ∧ Below w.heap.size w V0) := ⟨hw.below hb0, hb0⟩
  clear CK HK hb0 hw
  go_wp2_with fail
  refine CS.mono ?_
  rintro e V1 ⟨c, v, rfl, hS, hCV, hb1⟩
  obtain ⟨A, rfl, hsz, hone, i29, hcv⟩ := cv_row hCV hb1
  have HS : Hid (SeatC (min n0 4) c ∧ (∀ X, Below V1.heap.size V1 X → CV X (.agg A) c) ∧ Below w.heap.size w V1 ∧ Lw V1) := ⟨hS, hcv, HW0.out.2.trans (hb1.mono HW0.out.2.size), HW0.out.1.below hb1⟩
  clear hS hCV hcv hb1 CS HW0
  obtain ⟨g1, hg1⟩ : ∃ g1, V1.heap.size = g1 := ⟨_, rfl⟩
  obtain ⟨hk1, e1⟩ := box_new (A := A) hg1
  have HP : Hid (Mem V1 ((V1.alloc (.cells cz 29)).setRow g1 A) [(g1, .cells A 29 (0, 0))]) := by
    rw [e1]; exact (Mem.nil V1).push1 hg1.symm
  clear e1
  go_upto_region 6 with (refine wpList_store_row rfl 29 (.tmp 7) (.tmp 29) (by with_reducible rfl) g1 A (by simp [Act.eval]; try exact hg1) (by first | rfl | simp [Act.eval]) 29 cz hk1 i29 (by rw [hsz]; rfl) hone ?_)
  refine wp_letter (fun X => Mem V1 X [(g1, Obj.cells A 29 (0, 0))]) (by exact HP.out) ?_
  intro V2 hM2
  try simp only [hg1]
  clear HP hg1 hk1
  have k1 : V2.heap[g1]? = some (.cells A 29 (0, 0)) := hM2.get 0 rfl
  have hw2 := HS.out.2.2.2.below hM2.below
  have CT := text_seat hw2 (HS.out.2.1 _ hM2.below) HS.out.1
  have CP0 : ∀ X, Lw X → Calls Tryz.prog 10 #[.string ⟨(txt c).toArray⟩] X (PrP X (.ok c)) := fun X hX => parse_seat hX HS.out.1
  obtain ⟨T, hT⟩ : ∃ T : ByteArray, (⟨(txt c).toArray⟩ : ByteArray) = T := ⟨_, rfl⟩
  have HT : Hid (T.data.toList = txt c ∧ T.size ≤ 1600) := by
    rw [← hT]; exact ⟨rfl, by rw [str_size]; exact (seat_all HS.out.1).2.2.2.2.2.1⟩
  rw [hT] at CT
  simp only [hT] at CP0
  have HM2 : Hid (Mem V1 V2 [(g1, .cells A 29 (0, 0))] ∧ Lw V2) := ⟨hM2, hw2⟩
  clear hM2 hw2 hT
  go_wp2_with (refine wpList_load_row rfl 29 (.tmp 7) (by with_reducible rfl) g1 (by first | rfl | simp [Act.eval]) 29 A (0, 0) _ k1 Tryz.underlying29 rfl i29 ?_)
  refine CT.mono ?_
  rintro e V3 ⟨rfl, hb3⟩
  have hM3 := HM2.out.1.after hb3
  have hw3 := HM2.out.2.below hb3
  have CP := CP0 V3 hw3
  have HM3 : Hid (Mem V1 V3 [(g1, .cells A 29 (0, 0))] ∧ Lw V3) := ⟨hM3, hw3⟩
  clear hM3 hw3 hb3 CT CP0 HM2 k1
  go_wp2_with fail
  refine CP.mono ?_
  rintro e V4 ⟨hb4, v2, rfl, hCV2⟩
  obtain ⟨A2, rfl, hsz2, hone2, i292, hcv2⟩ := cv_row hCV2 hb4
  have hM4 := HM3.out.1.after hb4
  obtain ⟨g2, hg2⟩ : ∃ g2, V4.heap.size = g2 := ⟨_, rfl⟩
  obtain ⟨hk2, e2⟩ := box_new (A := A2) hg2
  have HP : Hid ((Mem V1 ((V4.alloc (.cells cz 29)).setRow g2 A2) [(g2, .cells A2 29 (0, 0)), (g1, .cells A 29 (0, 0))]) ∧ Below V4.heap.size V4 ((V4.alloc (.cells cz 29)).setRow g2 A2)) := by
    rw [e2]; exact ⟨hM4.front _ hg2.symm, (Below.refl _ _).alloc (Nat.le_refl _) _⟩
  have HC2 : Hid ((∀ X, Below V4.heap.size V4 X → CV X (.agg A2) c) ∧ Lw V4) := ⟨hcv2, HM3.out.2.below hb4⟩
  clear e2 hM4 hcv2 hCV2 hb4 CP HM3
  go_upto_region 8 with (refine wpList_store_row rfl 29 (.tmp 9) (.tmp 35) (by with_reducible rfl) g2 A2 (by simp [Act.eval]; try exact hg2) (by first | rfl | simp [Act.eval]) 29 cz hk2 i292 (by rw [hsz2]; rfl) hone2 ?_)
  refine wp_letter (fun X => Mem V1 X [(g2, Obj.cells A2 29 (0, 0)), (g1, Obj.cells A 29 (0, 0))] ∧ Below V4.heap.size V4 X) (by exact HP.out) ?_
  rintro V5 ⟨hM5, hb5⟩
  try simp only [hg2]
  clear HP hg2 hk2 hsz hone hsz2 hone2
  have hw5 := HC2.out.2.below hb5
  have hbw5 : Below w.heap.size w V5 := HS.out.2.2.1.trans (hM5.below.mono HS.out.2.2.1.size)
  have HM5 : Hid (Mem V1 V5 [(g2, .cells A2 29 (0, 0)), (g1, .cells A 29 (0, 0))] ∧ Below V4.heap.size V4 V5 ∧ Lw V5 ∧ Below w.heap.size w V5) := ⟨hM5, hb5, hw5, hbw5⟩
  have HRow : Hid (Row V5 a2 bl) := HL.out.2.2.2.below hbw5 (Nat.le_refl _)
  obtain ⟨N, hN⟩ : ∃ N, T.size = N := ⟨_, rfl⟩
  obtain ⟨R, hR⟩ : ∃ R, blr (txt c) bl = R := ⟨_, rfl⟩
  have hRl : R.length ≤ 32000 := by
    rw [← hR]
    have := blr_len (txt c) bl
    have h2 := (seat_all HS.out.1).2.2.2.2.2.1
    omega
  have HE : Hid (parse ⟨R.toArray⟩ = .ok c ∧ T.size = N ∧ N ≤ 1600 ∧ R.length ≤ 32000) := by
    rw [← hR]
    exact ⟨parse_blr (seat_all HS.out.1).2.2.2.2.2.2 bl (seat_all HS.out.1).2.2.2.2.2.1, hN, by rw [← hN]; exact HT.out.2, by rw [hR]; exact hRl⟩
  have H0 : Hid ([] ++ blr (T.data.toList.drop 0) (bl.drop 0) = R) := by
    show blr T.data.toList bl = R
    rw [HT.out.1]; exact hR
  clear hM5 hb5 hw5 hbw5 hRl hR HT
  go_wp2_with fail
  go_loopw [11, 12, 13, 14] (fun o kk ii xx w' => ∃ (i k : Nat) (O : List UInt8), ii = .int .i64 i ∧ kk = .int .i64 k ∧ o = .string ⟨O.toArray⟩ ∧ i ≤ N ∧ k ≤ i ∧ V5 = w' ∧ Hid (O ++ blr (T.data.toList.drop i) (bl.drop k) = R)) (fun _ _ ii _ _ => N - (intOf ii).toNat)
  case atStart => exact ⟨0, 0, [], rfl, rfl, rfl, Nat.zero_le _, Nat.le_refl _, rfl, H0⟩
  case round =>
    obtain ⟨i, k, O, rfl, rfl, rfl, hi, hki, rfl, HX⟩ := hrel
    clear H0
    have hE := HE.out
    by_cases hlt : i < N
    · have hiz : (i : Int) < N := by omega
      have hiz2 : (i : Int) < T.size := by omega
      have hin : i < T.size := by omega
      have e7 : IntKind.i64.wrap ((i : Int) + 1) = (i : Int) + 1 := wrap64 (by omega) (by omega)
      have e8 : IntKind.i64.wrap ((k : Int) + 1) = (k : Int) + 1 := wrap64 (by omega) (by omega)
      have hdr := drop_cons T i hin
      obtain ⟨b, hgb⟩ : ∃ b, T[i]'hin = b := ⟨_, rfl⟩
      rw [hgb] at hdr
      have hix : ∀ W, (Instr.index 9 (.string T) (.int .i64 i)).run Tryz.prog W = .ok (.int .u8 (b.toNat : Int)) W := by
        intro W
        rw [run_index_string W 9 T .i64 i Tryz.underlying9, dif_pos ⟨by omega, by omega⟩]
        simp only [Int.toNat_natCast, hgb]
      have hsl := one_slice hdr hin
      have hOl : O.length ≤ 32000 := by
        have := congrArg List.length HX.out
        rw [List.length_append] at this
        omega
      have hrest := HX.out
      rw [hdr] at hrest
      have hkl : k < n2 ∨ n2 ≤ k := by omega
      have HBL := HL.out
      by_cases hsg : b = 32 ∨ b = 10
      · rw [blr_sign _ _ hsg, ← List.append_assoc, List.tail_drop] at hrest
        obtain ⟨r, hr⟩ : ∃ r, (bl.drop k).headD 0 % 4 = r := ⟨_, rfl⟩
        rw [hr] at hrest
        have hx : (k < n2 ∧ ∃ bb off y, a2 = some ⟨bb, off, none⟩ ∧ V5.cell? ⟨bb, off + k, none⟩ = some (.int .u8 y) ∧ Int.tmod y 4 = r) ∨ (n2 ≤ k ∧ r = 0) := by
          rcases hkl with hk | hk
          · left
            have hkb : k < bl.length := by omega
            have hhd : (bl.drop k).headD 0 = bl.getD k 0 := by
              rw [List.headD_eq_head?_getD, List.head?_drop]; simp [List.getD]
            have hrow := HRow.out
            rcases hrow.cells with e | ⟨bb, off, e, hc⟩
            · rw [e] at hkb; simp at hkb
            · refine ⟨hk, bb, off, bl.getD k 0, e, hc k hkb, ?_⟩
              have hb2 := hrow.bytes k
              rw [Int.tmod_eq_emod_of_nonneg hb2.1, ← hr, hhd]
          · right
            refine ⟨hk, ?_⟩
            rw [← hr, List.drop_eq_nil_of_le (by omega)]; rfl
        clear hr hkl hdr hgb
        have HR2 : Hid (O ++ pc b r ++ blr (T.data.toList.drop (i + 1)) (bl.drop (k + 1)) = R) := hrest
        have HNX : Hid (i < N ∧ k ≤ i) := ⟨hlt, hki⟩
        clear hrest HX HBL hE
        rcases hsg with rfl | rfl
        · have hix2 : ∀ W, (Instr.index 9 (.string T) (.int .i64 i)).run Tryz.prog W = .ok (.int .u8 32) W := hix
          clear hix
          rcases hx with ⟨hk, bb, off, y, rfl, hcell, hmod⟩ | ⟨hk, rfl⟩
          · have hkz : (k : Int) < n2 := by omega
            clear hk
            by_cases hr1 : r = 1
            · subst hr1
              obtain ⟨S2, hS2⟩ : ∃ S2 : ByteArray, S2 = ⟨(O ++ pc 32 1).toArray⟩ := ⟨_, rfl⟩
              have ha : ∀ W, (Op.stringOp .add ⟨O.toArray⟩ ⟨#[32, 32, 32]⟩).run Tryz.prog W = .ok (.string S2) W := by rw [hS2]; exact add_big O (pc 32 1) (by have := pc_len 32 1; omega)
              have HS2 : Hid (Value.string S2 = .string ⟨(O ++ pc 32 1).toArray⟩) := by rw [hS2]; exact rfl
              clear hS2 hsl hOl
              go_wp2_with fail
              go_roundw
              case rel => exact ⟨i + 1, k + 1, _, by first | rfl | simp, by first | rfl | simp, HS2.out, by have := HNX.out; omega, by have := HNX.out; omega, by first | rfl | trivial, HR2⟩
              case measure => have := HNX.out; simp [intOf]; omega
            · have hq1 : (r == 1) = false := by simpa using hr1
              obtain ⟨S2, hS2⟩ : ∃ S2 : ByteArray, S2 = ⟨(O ++ pc 32 r).toArray⟩ := ⟨_, rfl⟩
              have hpc : pc 32 r = [32] := pc_32 hr1
              have ha : ∀ W, (Op.stringOp .add ⟨O.toArray⟩ ⟨#[32]⟩).run Tryz.prog W = .ok (.string S2) W := by rw [hS2, hpc]; exact add_big O [32] (by simp; omega)
              have HS2 : Hid (Value.string S2 = .string ⟨(O ++ pc 32 r).toArray⟩) := by rw [hS2]; exact rfl
              clear hS2 hOl hpc
              rcases Decidable.em (r = 2) with hr2 | hr2
              all_goals
                go_wp2_with fail
                go_roundw
                case rel => exact ⟨i + 1, k + 1, _, by first | rfl | simp, by first | rfl | simp, HS2.out, by have := HNX.out; omega, by have := HNX.out; omega, by first | rfl | trivial, HR2⟩
                case measure => have := HNX.out; simp [intOf]; omega
          · have hkz : ¬ ((k : Int) < n2) := by omega
            clear hk
            obtain ⟨S2, hS2⟩ : ∃ S2 : ByteArray, S2 = ⟨(O ++ pc 32 0).toArray⟩ := ⟨_, rfl⟩
            have ha : ∀ W, (Op.stringOp .add ⟨O.toArray⟩ ⟨#[32]⟩).run Tryz.prog W = .ok (.string S2) W := by rw [hS2]; exact add_big O [32] (by simp; omega)
            have HS2 : Hid (Value.string S2 = .string ⟨(O ++ pc 32 0).toArray⟩) := by rw [hS2]; exact rfl
            clear hS2 hOl
            go_wp2_with fail
            go_roundw
            case rel => exact ⟨i + 1, k + 1, _, by first | rfl | simp, by first | rfl | simp, HS2.out, by have := HNX.out; omega, by have := HNX.out; omega, by first | rfl | trivial, HR2⟩
            case measure => have := HNX.out; simp [intOf]; omega
        · have hix2 : ∀ W, (Instr.index 9 (.string T) (.int .i64 i)).run Tryz.prog W = .ok (.int .u8 10) W := hix
          clear hix
          rcases hx with ⟨hk, bb, off, y, rfl, hcell, hmod⟩ | ⟨hk, rfl⟩
          · have hkz : (k : Int) < n2 := by omega
            clear hk
            by_cases hr1 : r = 1
            · subst hr1
              obtain ⟨S2, hS2⟩ : ∃ S2 : ByteArray, S2 = ⟨(O ++ pc 10 1).toArray⟩ := ⟨_, rfl⟩
              have ha : ∀ W, (Op.stringOp .add ⟨O.toArray⟩ ⟨#[32, 35, 32, 112, 111, 111, 108, 32, 49, 46, 50, 46, 51, 46, 52, 10, 10, 32, 32, 10]⟩).run Tryz.prog W = .ok (.string S2) W := by rw [hS2]; exact add_big O (pc 10 1) (by have := pc_len 10 1; omega)
              have HS2 : Hid (Value.string S2 = .string ⟨(O ++ pc 10 1).toArray⟩) := by rw [hS2]; exact rfl
              clear hS2 hsl hOl
              go_wp2_with fail
              go_roundw
              case rel => exact ⟨i + 1, k + 1, _, by first | rfl | simp, by first | rfl | simp, HS2.out, by have := HNX.out; omega, by have := HNX.out; omega, by first | rfl | trivial, HR2⟩
              case measure => have := HNX.out; simp [intOf]; omega
            · have hq1 : (r == 1) = false := by simpa using hr1
              by_cases hr2 : r = 2
              · subst hr2
                obtain ⟨S2, hS2⟩ : ∃ S2 : ByteArray, S2 = ⟨(O ++ pc 10 2).toArray⟩ := ⟨_, rfl⟩
                have ha : ∀ W, (Op.stringOp .add ⟨O.toArray⟩ ⟨#[35, 120, 10]⟩).run Tryz.prog W = .ok (.string S2) W := by rw [hS2]; exact add_big O (pc 10 2) (by have := pc_len 10 2; omega)
                have HS2 : Hid (Value.string S2 = .string ⟨(O ++ pc 10 2).toArray⟩) := by rw [hS2]; exact rfl
                clear hS2 hsl hOl
                go_wp2_with fail
                go_roundw
                case rel => exact ⟨i + 1, k + 1, _, by first | rfl | simp, by first | rfl | simp, HS2.out, by have := HNX.out; omega, by have := HNX.out; omega, by first | rfl | trivial, HR2⟩
                case measure => have := HNX.out; simp [intOf]; omega
              · have hq2 : (r == 2) = false := by simpa using hr2
                obtain ⟨S2, hS2⟩ : ∃ S2 : ByteArray, S2 = ⟨(O ++ pc 10 r).toArray⟩ := ⟨_, rfl⟩
                have hpc : pc 10 r = [10] := pc_10 hr1 hr2
                have ha : ∀ W, (Op.stringOp .add ⟨O.toArray⟩ ⟨#[10]⟩).run Tryz.prog W = .ok (.string S2) W := by rw [hS2, hpc]; exact add_big O [10] (by simp; omega)
                have HS2 : Hid (Value.string S2 = .string ⟨(O ++ pc 10 r).toArray⟩) := by rw [hS2]; exact rfl
                clear hS2 hOl hpc
                go_wp2_with fail
                go_roundw
                case rel => exact ⟨i + 1, k + 1, _, by first | rfl | simp, by first | rfl | simp, HS2.out, by have := HNX.out; omega, by have := HNX.out; omega, by first | rfl | trivial, HR2⟩
                case measure => have := HNX.out; simp [intOf]; omega
          · have hkz : ¬ ((k : Int) < n2) := by omega
            clear hk
            obtain ⟨S2, hS2⟩ : ∃ S2 : ByteArray, S2 = ⟨(O ++ pc 10 0).toArray⟩ := ⟨_, rfl⟩
            have ha : ∀ W, (Op.stringOp .add ⟨O.toArray⟩ ⟨#[10]⟩).run Tryz.prog W = .ok (.string S2) W := by rw [hS2]; exact add_big O [10] (by simp; omega)
            have HS2 : Hid (Value.string S2 = .string ⟨(O ++ pc 10 0).toArray⟩) := by rw [hS2]; exact rfl
            clear hS2 hOl
            go_wp2_with fail
            go_roundw
            case rel => exact ⟨i + 1, k + 1, _, by first | rfl | simp, by first | rfl | simp, HS2.out, by have := HNX.out; omega, by have := HNX.out; omega, by first | rfl | trivial, HR2⟩
            case measure => have := HNX.out; simp [intOf]; omega
      · rw [blr_else _ _ hsg] at hrest
        have n32 : ((b.toNat : Int) == (32 : Int)) = false := byte_no (c := 32) (by decide) (fun e => hsg (Or.inl e))
        have n10 : ((b.toNat : Int) == (10 : Int)) = false := byte_no (c := 10) (by decide) (fun e => hsg (Or.inr e))
        have HR2 : Hid (O ++ [b] ++ blr (T.data.toList.drop (i + 1)) (bl.drop k) = R) := by rw [List.append_assoc]; exact hrest
        have HNX : Hid (i < N ∧ k ≤ i) := ⟨hlt, hki⟩
        obtain ⟨S2, hS2⟩ : ∃ S2 : ByteArray, S2 = ⟨(O ++ [b]).toArray⟩ := ⟨_, rfl⟩
        obtain ⟨S1, hS1⟩ : ∃ S1 : ByteArray, (⟨[b].toArray⟩ : ByteArray) = S1 := ⟨_, rfl⟩
        have ha : ∀ W, (Op.stringOp .add ⟨O.toArray⟩ S1).run Tryz.prog W = .ok (.string S2) W := by rw [hS2, ← hS1]; exact add_big O [b] (by simp; omega)
        have HS2 : Hid (Value.string S2 = .string ⟨(O ++ [b]).toArray⟩) := by rw [hS2]; exact rfl
        simp only [hS1] at hsl
        clear hS2 hS1 hOl hrest HX HBL hE hkl hdr hgb hsg
        generalize (b.toNat : Int) = bn at hix n32 n10
        go_wp2_with fail
        go_roundw
        case rel => exact ⟨i + 1, k, _, by first | rfl | simp, by first | rfl | simp, HS2.out, by have := HNX.out; omega, by have := HNX.out; omega, by first | rfl | trivial, HR2⟩
        case measure => have := HNX.out; simp [intOf]; omega
    · have hlz : ¬ ((i : Int) < T.size) := by omega
      have hOR : O = R := by
        have h := HX.out
        rw [List.drop_eq_nil_of_le (by rw [text_len]; omega), blr_nil, List.append_nil] at h; exact h
      have hw5 := HM5.out.2.2.1
      have CP : Calls Tryz.prog 10 #[.string ⟨O.toArray⟩] V5 (PrP V5 (.ok c)) := by
        rw [hOR, ← hE.1]; exact parse_any hw5.1 hw5.2 _
      clear hE hOR HX hw5 HRow HL
      generalize (⟨O.toArray⟩ : ByteArray) = S at CP ⊢
      go_wp2_with fail
      refine CP.mono ?_
      rintro e V6 ⟨hb6, v3, rfl, hCV3⟩
      obtain ⟨A3, rfl, hsz3, hone3, i293, hcv3⟩ := cv_row hCV3 hb6
      have hM6 := HM5.out.1.after hb6
      obtain ⟨g3, hg3⟩ : ∃ g3, V6.heap.size = g3 := ⟨_, rfl⟩
      obtain ⟨hk3, e3⟩ := box_new (A := A3) hg3
      have HP : Hid ((Mem V1 ((V6.alloc (.cells cz 29)).setRow g3 A3) [(g3, .cells A3 29 (0, 0)), (g2, .cells A2 29 (0, 0)), (g1, .cells A 29 (0, 0))]) ∧ Below V6.heap.size V6 ((V6.alloc (.cells cz 29)).setRow g3 A3)) := by
        rw [e3]; exact ⟨hM6.front _ hg3.symm, (Below.refl _ _).alloc (Nat.le_refl _) _⟩
      have HC3 : Hid ((∀ X, Below V6.heap.size V6 X → CV X (.agg A3) c) ∧ Below V4.heap.size V4 V6) := ⟨hcv3, HM5.out.2.1.trans (hb6.mono HM5.out.2.1.size)⟩
      clear e3 hM6 hcv3 hCV3 hb6 CP HM5
      go_upto_region 25 with (refine wpList_store_row rfl 29 (.tmp 15) (.tmp 101) (by with_reducible rfl) g3 A3 (by simp [Act.eval]; try exact hg3) (by first | rfl | simp [Act.eval]) 29 cz hk3 i293 (by rw [hsz3]; rfl) hone3 ?_)
      refine wp_letter (fun X => Mem V1 X [(g3, Obj.cells A3 29 (0, 0)), (g2, Obj.cells A2 29 (0, 0)), (g1, Obj.cells A 29 (0, 0))] ∧ Below V6.heap.size V6 X) (by exact HP.out) ?_
      rintro V7 ⟨hM7, hb7⟩
      try simp only [hg3]
      clear HP hg3 hk3 hsz3 hone3
      have cv1 := HS.out.2.1 V7 hM7.below
      have cv2 := HC2.out.1 V7 (HC3.out.2.trans (hb7.mono HC3.out.2.size))
      have cv3 := HC3.out.1 V7 hb7
      have k1 : V7.heap[g1]? = some (.cells A 29 (0, 0)) := hM7.get 2 rfl
      have k2 : V7.heap[g2]? = some (.cells A2 29 (0, 0)) := hM7.get 1 rfl
      have k3 : V7.heap[g3]? = some (.cells A3 29 (0, 0)) := hM7.get 0 rfl
      have hfew : ∀ t ∈ c.ten, TFew t := (seat_all HS.out.1).2.2.2.1
      have C1 := hconfig_yes cv1 cv2 hfew (csame_refl c)
      have HM7 : Hid (Mem V1 V7 [(g3, Obj.cells A3 29 (0, 0)), (g2, Obj.cells A2 29 (0, 0)), (g1, Obj.cells A 29 (0, 0))] ∧ (∀ X, Below V7.heap.size V7 X → CV X (.agg A) c) ∧ (∀ X, Below V7.heap.size V7 X → CV X (.agg A3) c) ∧ ∀ t ∈ c.ten, TFew t) := by
        have q1 := HS.out.2.1
        have q2 := HC3.out.1
        exact ⟨hM7, fun X hX => q1 X (hM7.below.trans (hX.mono hM7.below.size)), fun X hX => q2 X (hb7.trans (hX.mono hb7.size)), hfew⟩
      have HBW : Hid (Below w.heap.size w V7) := HS.out.2.2.1.trans (hM7.below.mono HS.out.2.2.1.size)
      clear cv1 cv2 cv3 hM7 hb7 hfew HS HC2 HC3
      go_wp2_with (first | (refine wpList_load_row_g rfl 29 (.tmp 7) (by with_reducible rfl) g1 (by first | rfl | simp [Act.eval]) 29 A (0, 0) _ k1 Tryz.underlying29 i29 ?_) | (refine wpList_load_row_g rfl 29 (.tmp 9) (by with_reducible rfl) g2 (by first | rfl | simp [Act.eval]) 29 A2 (0, 0) _ k2 Tryz.underlying29 i292 ?_))
      refine C1.mono ?_
      rintro e V8 ⟨rfl, hb8⟩
      have hM8 := HM7.out.1.after hb8
      have k1' : V8.heap[g1]? = some (.cells A 29 (0, 0)) := hM8.get 2 rfl
      have k3' : V8.heap[g3]? = some (.cells A3 29 (0, 0)) := hM8.get 0 rfl
      have C2 := hconfig_yes (HM7.out.2.1 _ hb8) (HM7.out.2.2.1 _ hb8) HM7.out.2.2.2 (csame_refl c)
      have HBX : Hid (Below w.heap.size w V8) := HBW.out.trans (hb8.mono HBW.out.size)
      clear hM8 hb8 HM7 HBW k1 k2 k3 C1
      go_wp2_with (first | (refine wpList_load_row_g rfl 29 (.tmp 7) (by with_reducible rfl) g1 (by first | rfl | simp [Act.eval]) 29 A (0, 0) _ k1' Tryz.underlying29 i29 ?_) | (refine wpList_load_row_g rfl 29 (.tmp 15) (by with_reducible rfl) g3 (by first | rfl | simp [Act.eval]) 29 A3 (0, 0) _ k3' Tryz.underlying29 i293 ?_))
      refine C2.mono ?_
      rintro e V9 ⟨rfl, hb9⟩
      go_wp2_with fail
      go_ret
      exact ⟨rfl, HBX.out.trans (hb9.mono HBX.out.size)⟩
end Go.Proofs.YtneciccdiledfaaGreatDoor

namespace Go.Proofs.YtneciccdiledfaaGreatDoor
open Go.ChangeShapes Go.WideShapes Go.RowKit
open La
set_option linter.unusedVariables false
set_option maxRecDepth 20000

abbrev laidD : List (String × DataW Unit) := [("math/bits.deBruijn32tab", Rows.laid_math_bits_deBruijn32tab), ("math/bits.deBruijn64tab", Rows.laid_math_bits_deBruijn64tab), ("internal/strconv.uint64pow10", Rows.laid_internal_strconv_uint64pow10), ("unicode/utf8.acceptRanges", Rows.laid_unicode_utf8_acceptRanges), ("lych/lang.filterWords", Rows.laid_lych_lang_filterWords), ("unicode/utf8.first", Rows.laid_unicode_utf8_first)]
abbrev laidB : List (String × DataW Unit) := [("math/bits.deBruijn32tab", Rows.laid_math_bits_deBruijn32tab), ("math/bits.deBruijn64tab", Rows.laid_math_bits_deBruijn64tab), ("internal/strconv.uint64pow10", Rows.laid_internal_strconv_uint64pow10), ("unicode/utf8.acceptRanges", Rows.laid_unicode_utf8_acceptRanges), ("errors.errorType", Rows.laid_errors_errorType), ("lych/lang.filterWords", Rows.laid_lych_lang_filterWords), ("unicode/utf8.first", Rows.laid_unicode_utf8_first)]
theorem lb_et : Tryz.prog.globalNamed "errors.errorType" = some 0 := by kernel_rfl
theorem lb_fw : Tryz.prog.globalNamed "lych/lang.filterWords" = some 1 := by kernel_rfl
theorem lb_fwType : (Tryz.prog.globals[1]?).map (·.type) = some 180 := by kernel_rfl
theorem lb_rt : (Tryz.prog.cutTypes.find? (·.1 == "internal/reflectlite.rtype")).map (·.2) = some 154 := by kernel_rfl
theorem lb_oneRow : ((List.range 252).filter fun t => Tryz.prog.rowNamed t [101, 114, 114, 111, 114]) = [31] := by kernel_rfl
theorem lb_size : Tryz.prog.types.size = 252 := by kernel_rfl
/-- Three texts laid as an array. -/
theorem lb_strs {W : World} {fuel : Nat} {cs : List Value} {p : List MemPlace} {enc : TypeId × Value → Unit} {base : Nat} {sp : Nat → Bool} {held : Bool} (h : DataW.trod enc Tryz.prog W base sp held fuel 180 cs = some (Rows.laid_lych_lang_filterWords, p)) : cs = [.string ⟨wAny.toArray⟩, .string ⟨wAddress.toArray⟩, .string ⟨wPort.toArray⟩] := by
  obtain ⟨xs, m, -, hx, hl, hn, hi⟩ := DataW.trod_array Tryz.underlying180 h
  have c1 : Tryz.prog.cellsOf 9 = 1 := by kernel_rfl
  rw [show Tryz.prog.cellsOf 180 = 3 by kernel_rfl] at hl
  rcases cs with _ | ⟨a, _ | ⟨b, _ | ⟨c, _ | ⟨d, cs⟩⟩⟩⟩ <;> simp at hl
  rcases xs with _ | ⟨x, _ | ⟨y, _ | ⟨z, _ | ⟨u, xs⟩⟩⟩⟩ <;> simp at hn
  have h0 := hi 0 (by omega)
  have h1 := hi 1 (by omega)
  have h2 := hi 2 (by omega)
  simp [c1] at h0 h1 h2
  obtain ⟨s0, e0, rfl, -⟩ := DataW.trod_string Tryz.underlying9 h0
  obtain ⟨s1, e1, rfl, -⟩ := DataW.trod_string Tryz.underlying9 h1
  obtain ⟨s2, e2, rfl, -⟩ := DataW.trod_string Tryz.underlying9 h2
  unfold Rows.laid_lych_lang_filterWords at hx
  simp at hx e0 e1 e2
  obtain ⟨⟨q0, q1, q2⟩, -⟩ := hx
  subst e0 e1 e2
  have f : ∀ (s : ByteArray) (l : List UInt8), s.data.toList = l → s = ⟨l.toArray⟩ := fun s l e => by rw [← e]
  rw [f s0 _ q0.symm, f s1 _ q1.symm, f s2 _ q2.symm]
  rfl
theorem laid_lw {W : World} (h : laidMetH Tryz.prog laidB W) (hs : W.ShapedOpen Tryz.prog) : Lw W := by
  have h' : laidMet Tryz.prog laidD W ∧ handlesMet Tryz.prog [("errors.errorType", Rows.laid_errors_errorType)] W := h
  refine ⟨⟨?_, ?_, ?_⟩, ?_, ?_⟩
  · exact cell_of_shapedOpen_int (t := 3) (zero := #[.int .i64 0]) hs (by decide +kernel) (by kernel_rfl) rfl (by kernel_rfl) (by kernel_rfl) Tryz.underlying3
  · obtain ⟨g, t, cs, fuel, p, hg, ht, hvar, hd⟩ := Lib.laidMet.reads h'.1 (n := "internal/strconv.uint64pow10") (d := Rows.laid_internal_strconv_uint64pow10) (by simp)
    obtain rfl := Option.some.inj ((show Tryz.prog.globalNamed "internal/strconv.uint64pow10" = some 4 by kernel_rfl).symm.trans hg)
    obtain rfl := Option.some.inj ((show (Tryz.prog.globals[4]?).map (·.type) = some 215 by kernel_rfl).symm.trans ht)
    rw [la_pow] at hd
    unfold Lib.TabIs
    rw [hvar, ← Lib.cells_of_tab (n := 20) (e := 94) Tryz.underlying215 Tryz.underlying94 (by kernel_rfl) (by kernel_rfl) hd]
  · have h3 := Lib.laidMet.reads h'.1 (n := "unicode/utf8.first") (d := Rows.laid_unicode_utf8_first) (by simp)
    have h4 := Lib.laidMet.reads h'.1 (n := "unicode/utf8.acceptRanges") (d := Rows.laid_unicode_utf8_acceptRanges) (by simp)
    rw [la_first] at h3
    rw [la_acc] at h4
    exact utf8Tabs_of_readsT (U8Types.of196 Tryz.lays196) la_extra h3 h4
  · obtain ⟨g, t, cs, fuel, p, hg, ht, hvar, hd⟩ := Lib.laidMet.reads h'.1 (n := "lych/lang.filterWords") (d := Rows.laid_lych_lang_filterWords) (by simp)
    obtain rfl := Option.some.inj (lb_fw.symm.trans hg)
    obtain rfl := Option.some.inj (lb_fwType.symm.trans ht)
    have hcs : cs = #[.string ⟨wAny.toArray⟩, .string ⟨wAddress.toArray⟩, .string ⟨wPort.toArray⟩] := Array.toList_inj.1 (lb_strs hd)
    subst hcs
    exact ⟨by simpa using World.var?_cell lb_fw hvar 0, by simpa using World.var?_cell lb_fw hvar 1, by simpa using World.var?_cell lb_fw hvar 2⟩
  · obtain ⟨name, u, ty, e1, e2, e3, e4, e5⟩ := h'.2 _ (List.mem_singleton.2 rfl)
    have en : name = [101, 114, 114, 111, 114] := (Option.some.inj e1).symm
    subst en
    obtain rfl := Option.some.inj (lb_rt.symm.trans e2)
    have hm : ty ∈ (List.range 252).filter fun t => Tryz.prog.rowNamed t [101, 114, 114, 111, 114] := List.mem_filter.2 ⟨List.mem_range.2 (by rw [← lb_size]; exact e3), e4⟩
    rw [lb_oneRow] at hm
    obtain rfl := List.mem_singleton.1 hm
    have hh : typeHandle Tryz.prog 31 = .pointer (some ⟨8, 31, none⟩) := by kernel_rfl
    rw [hh] at e5
    show W.cell? ⟨0, 0, none⟩ = _
    simpa using World.var?_cell lb_et e5 0
/-- A world in which the variables hold what the program's text lays. -/
noncomputable def laidWB (os : Os) : World :=
  { World.laidAll Tryz.prog os laidD with heap := (World.laidAll Tryz.prog os laidD).heap.modify 0 fun
      | .cells _ t frozen => .cells #[.iface 154 (.agg #[.pointer (some ⟨8, 31, none⟩)])] t frozen
      | o => o }
theorem laidWB_met (os : Os) (args : Array Value) : laidMetH Tryz.prog laidB ((laidWB os).forCall (fun _ _ => 0) ⟨#[], args, []⟩).memory :=
  laidMetH_of_parts (laidMet_of_run' 8 (by kernel_rfl) (by kernel_rfl)) (by kernel_rfl)
theorem laidWB_os (os : Os) : (laidWB os).os = os := World.laidAll_os Tryz.prog os laidD
end Go.Proofs.YtneciccdiledfaaGreatDoor

