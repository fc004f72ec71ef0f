/-
  Settings as text: the walk of LangOrder: a tenant's lines may stand in any order, and of ports, filter, quota, rate the last one counts.
-/
import Derived.Test.YtneciccdiledfaaGreatDoorMo45
import Derived.Test.YtneciccdiledfaaGreatDoorMo48
import Derived.Test.YtneciccdiledfaaGreatDoorMo47
import Derived.Test.YtneciccdiledfaaGreatDoorMo06
import Derived.Test.YtneciccdiledfaaGreatDoorMo03
namespace Go.Proofs.YtneciccdiledfaaGreatDoor
open Go.RowKit
open La
open Ad
open Sm
set_option linter.unusedVariables false
set_option linter.unusedSimpArgs false
set_option maxRecDepth 20000

theorem str_lit {l : List UInt8} {s : ByteArray} (h : (⟨l.toArray⟩ : ByteArray) = s) : s.data.toList = l := by rw [← h]
theorem head_slice {X : ByteArray} {n : Nat} (h : n ≤ X.size) (k : Int) (hk : k = (n : Int)) : ∀ W, (Instr.slice 9 (.string X) none (some (.int .i64 k)) none).run Tryz.prog W = .ok (.string ⟨(X.data.toList.take n).toArray⟩) W := by
  intro W
  subst hk
  rw [run_slice_string_to_if W 9 X .i64 (n : Int) Tryz.underlying9, if_pos ⟨by omega, by omega⟩, Int.toNat_natCast]
  have e : (X.extract 0 n).data.toList = X.data.toList.take n := by rw [sub_text, List.drop_zero, Nat.sub_zero]
  rw [str_of e]
/-- What is known of the lines' slice from now on. -/
def Lns (V3 : World) (gl : Nat) (LS : List (List UInt8)) (X : World) : Prop := Below V3.heap.size V3 X ∧ ∀ (j : Nat) x, LS[j]? = some x → X.cell? ⟨gl, j, none⟩ = some (.string ⟨x.toArray⟩)
set_option maxHeartbeats 16000000 in
theorem order_law {w : World} (hw : Lw w) (k : Int) (hk0 : 0 ≤ k) (hk1 : k ≤ 65535) (n : Int) (hn0 : -9223372036854775808 ≤ n) (hn1 : n ≤ 9223372036854775807) (tw : Int) (ht0 : 0 ≤ tw) (ht1 : tw ≤ 255) :
    Calls Tryz.prog 7 #[.int .u16 k, .int .i64 n, .int .u8 tw] w fun e w' => e = .returned (.bool true) ∧ Below w.heap.size w w' := by
  have CK := known_any hw
  have HLW : Hid (Lw w) := hw
  have HTB : Hid (0 ≤ tw ∧ tw ≤ 255) := ⟨ht0, ht1⟩
  have HNB : Hid (-9223372036854775808 ≤ n ∧ n ≤ 9223372036854775807) := ⟨hn0, hn1⟩
  have HKB : Hid (0 ≤ k ∧ k ≤ 65535) := ⟨hk0, hk1⟩
  clear hw ht0 ht1 hn0 hn1 hk0 hk1
  go_enter Tryz.func7, Tryz.ntmps7
  go_wp2_with fail
  refine CK.mono ?_
  rintro e V0 ⟨rfl, hb0⟩
  have CS := sconf_any (V0.alloc (.cells #[.int .u16 k] 42 (0, 0))) (some ⟨V0.heap.size, 0, none⟩) 1 1 (fun _ => k) (fun i hi => by
    obtain rfl : i = 0 := by omega
    exact ⟨V0.heap.size, 0, rfl, by rw [Nat.add_zero, World.cell?_alloc_new]; rfl, HKB.out.1, HKB.out.2⟩) 1 (by decide) (by decide)
  have HB0 : Hid (Below w.heap.size w (V0.alloc (.cells #[.int .u16 k] 42 (0, 0)))) := hb0.alloc hb0.size _
  clear CK hb0
  go_wp2_with fail
  refine CS.mono ?_
  rintro e V1 ⟨c, v, rfl, hS, hCV, hb1⟩
  obtain ⟨A, rfl, hsz, hone, i29, hcv⟩ := cv_row hCV hb1
  have hS1 : SeatC 1 c := hS
  obtain ⟨t, hct, hts⟩ := seat_one hS1
  obtain ⟨z1, z2, z3, z4, z5, z6, z7⟩ := seat_all hS1
  have hbw : Below w.heap.size w V1 := HB0.out.trans (hb1.mono HB0.out.size)
  have HS : Hid ((∀ X, Below V1.heap.size V1 X → CV X (.agg A) c) ∧ Below w.heap.size w V1 ∧ Lw V1 ∧ c.ten = [t] ∧ t.stat.length ≤ 1) := ⟨hcv, hbw, HLW.out.below hbw, hct, hts⟩
  have HZ : Hid (CIn c ∧ CRg c ∧ (∀ t ∈ c.ten, TW t) ∧ (∀ t ∈ c.ten, TFew t) ∧ (txt c).length ≤ 1600 ∧ CFit c) := ⟨z1, z2, z3, z4, z6, z7⟩
  clear hS hS1 hCV hcv hb1 CS HB0 hbw hct hts z1 z2 z3 z4 z5 z6 z7
  obtain ⟨g1, hg1⟩ : ∃ g1, V1.heap.size = g1 := ⟨_, rfl⟩
  obtain ⟨hk1, e1⟩ := box_new (A := A) hg1
  have HP : Hid (Mem V1 ((V1.alloc (.cells cz 29)).setRow g1 A) [(g1, .cells A 29 (0, 0))]) := by
    rw [e1]; exact (Mem.nil V1).push1 hg1.symm
  clear e1
  go_upto_region 4 with (refine wpList_store_row rfl 29 (.tmp 7) (.tmp 24) (by with_reducible rfl) g1 A (by simp [Act.eval]; try exact hg1) (by first | rfl | simp [Act.eval]) 29 cz hk1 i29 (by rw [hsz]; rfl) hone ?_)
  refine wp_letter (fun X => Mem V1 X [(g1, Obj.cells A 29 (0, 0))]) (by exact HP.out) ?_
  intro V2 hM2
  try simp only [hg1]
  clear HP hg1 hk1
  have k1 : V2.heap[g1]? = some (.cells A 29 (0, 0)) := hM2.get 0 rfl
  have CT := rtext_any (HS.out.1 _ hM2.below) HZ.out.1 HZ.out.2.1 HZ.out.2.2.1 (by rw [HS.out.2.2.2.1]; simp) (by have := HZ.out.2.2.2.2.1; omega)
  obtain ⟨T, hT⟩ : ∃ T : ByteArray, (⟨(txt c).toArray⟩ : ByteArray) = T := ⟨_, rfl⟩
  have HT : Hid (T.data.toList = txt c ∧ T.size ≤ 1600) := by
    rw [← hT]; exact ⟨rfl, by rw [str_size]; exact HZ.out.2.2.2.2.1⟩
  rw [hT] at CT
  have HM2 : Hid (Mem V1 V2 [(g1, .cells A 29 (0, 0))]) := hM2
  clear hM2 hT
  go_wp2_with (refine wpList_load_row rfl 29 (.tmp 7) (by with_reducible rfl) g1 (by first | rfl | simp [Act.eval]) 29 A (0, 0) _ k1 Tryz.underlying29 rfl i29 ?_)
  refine CT.mono ?_
  rintro e V3 ⟨rfl, hb3⟩
  have HM3 : Hid (Mem V1 V3 [(g1, .cells A 29 (0, 0))]) := HM2.out.after hb3
  clear hb3 CT HM2 k1
  obtain ⟨LS, hLS⟩ : ∃ LS, spc (txtG c) :: spc (txtH t) :: (ptsOf t).map sw = LS := ⟨_, rfl⟩
  have HLS : Hid (spc (txtG c) :: spc (txtH t) :: (ptsOf t).map sw = LS) := hLS
  have H0 : Hid ([] ++ lcut (T.data.toList.drop 0) ((T.data.toList.drop 0).take (0 - 0)) = LS) := by
    show lcut T.data.toList [] = LS
    rw [HT.out.1, ← hLS, ← lns_one HS.out.2.2.2.1]
    exact lcut_lines _ (lfree_cfg HZ.out.2.2.2.2.2)
  have HTS : Hid (T.size ≤ 1600) := HT.out.2
  clear hLS
  go_wp2_with fail
  go_loopw [9, 10, 11] (fun o fr ii w' => ∃ (i from_ : Nat) (done : List (List UInt8)), fr = .int .i64 from_ ∧ ii = .int .i64 i ∧ w'.ownsRow V3.heap.size 9 1 o done.length (strs done) ∧ Below V3.heap.size V3 w' ∧ i ≤ T.size ∧ from_ ≤ i ∧ done.length ≤ i ∧ Hid (done ++ lcut (T.data.toList.drop i) ((T.data.toList.drop from_).take (i - from_)) = LS)) (fun _ _ ii _ => T.size - (intOf ii).toNat)
  case atStart => exact ⟨0, 0, [], rfl, rfl, World.ownsRow_nil _ _ _ _, Below.refl _ _, Nat.zero_le _, Nat.le_refl _, Nat.le_refl _, H0⟩
  case round =>
    obtain ⟨i, from_, done, rfl, rfl, hown, hbel, hil, hfi, hdl, HX⟩ := hrel
    clear H0
    have hbs := hbel.size
    have hsize := HTS.out
    by_cases hin : i < T.size
    · have hiz : (i : Int) < T.size := by omega
      have e7 : IntKind.i64.wrap ((i : Int) + 1) = (i : Int) + 1 := wrap64 (by omega) (by omega)
      have hdr := drop_cons T i hin
      obtain ⟨b, hgb⟩ : ∃ b, T[i]'hin = b := ⟨_, rfl⟩
      rw [hgb] at hdr
      have hix : ∀ W, (Instr.index 9 (.string T) (.int .i64 i)).run Tryz.prog W = .ok (.int .u8 (b.toNat : Int)) W := by
        intro W
        rw [run_index_string W 9 T .i64 i Tryz.underlying9, dif_pos ⟨by omega, by omega⟩]
        simp only [Int.toNat_natCast, hgb]
      obtain ⟨P, hP⟩ : ∃ P, (T.data.toList.drop from_).take (i - from_) = P := ⟨_, rfl⟩
      have hP1 : (T.data.toList.drop from_).take (i + 1 - from_) = P ++ [b] := by
        rw [show i + 1 - from_ = (i - from_) + 1 by omega, List.take_add_one, List.getElem?_drop, show from_ + (i - from_) = i by omega, hP]
        have hbi : T.data.toList[i]? = some b := by
          have := congrArg List.head? hdr
          rw [List.head?_drop] at this
          exact this
        rw [hbi]; rfl
      have hrest := HX.out
      rw [hdr, hP] at hrest
      by_cases hb10 : b = 10
      · subst hb10
        rw [lcut_feed] at hrest
        have hsl : ∀ W, (Instr.slice 9 (.string T) (some (.int .i64 (from_ : Int))) (some (.int .i64 ((i : Int) + 1))) none).run Tryz.prog W = .ok (.string ⟨(P ++ [10]).toArray⟩) W := by
          intro W
          rw [run_slice_string W 9 T .i64 .i64 from_ ((i : Int) + 1) Tryz.underlying9 (by omega) (by omega) (by omega)]
          have e : (T.extract (from_ : Int).toNat ((i : Int) + 1).toNat).data.toList = P ++ [10] := by
            rw [sub_text, Int.toNat_natCast, show ((i : Int) + 1).toNat = i + 1 by omega, hP1]
          rw [str_of e]
        obtain ⟨PL, hPL⟩ : ∃ PL, P ++ [10] = PL := ⟨_, rfl⟩
        rw [hPL] at hrest
        simp only [hPL] at hsl
        have hnext : ∀ (v' : Value) (w' : World), w'.ownsRow V3.heap.size 9 1 v' (done.length + 1) (strs done ++ [.string ⟨PL.toArray⟩]) → w'.ownsRow V3.heap.size 9 1 v' (done ++ [PL]).length (strs (done ++ [PL])) := by
          intro v' w' h
          rw [List.length_append, strs, List.map_append]
          exact h
        have hg2 : ∀ w', (wr.alloc (.cells #[.string ⟨PL.toArray⟩] 9 (0, 0))).grownBy w' u9.ownBlock → Below V3.heap.size V3 w' := by
          intro w' h
          refine (hbel.alloc hbs _).grown h (by simp; omega) (fun k hk => (hown.lt k hk).1)
        have HR2 : Hid ((done ++ [PL]) ++ lcut (T.data.toList.drop (i + 1)) ((T.data.toList.drop (i + 1)).take (i + 1 - (i + 1))) = LS) := by
          show (done ++ [PL]) ++ lcut (T.data.toList.drop (i + 1)) ((T.data.toList.drop (i + 1)).take (i + 1 - (i + 1))) = LS
          rw [Nat.sub_self, List.take_zero, List.append_assoc]
          exact hrest
        have hix2 : ∀ W, (Instr.index 9 (.string T) (.int .i64 i)).run Tryz.prog W = .ok (.int .u8 10) W := hix
        clear hix hrest HX hP hP1 hPL hdr hgb
        go_wp2_with (at_builtin; refine wpList_append_str _ rfl _ _ rfl V3.heap.size u9 done.length (strs done) rfl (hown.alloc _) ⟨wr.heap.size, 0, none⟩ 1 ⟨PL.toArray⟩ rfl (by simp) (by omega) (by simp; omega) ?_; intro v1 w1 h1 h2)
        go_roundw
        case rel => exact ⟨i + 1, i + 1, done ++ [PL], by go_num, by go_num, hnext _ _ h1, hg2 _ h2, by omega, Nat.le_refl _, by simp; omega, HR2⟩
        case measure => simp [intOf]; omega
      · have n10 : ((b.toNat : Int) == (10 : Int)) = false := byte_no (c := 10) (by decide) hb10
        rw [lcut_else _ _ hb10, ← hP1] at hrest
        have HR2 : Hid (done ++ lcut (T.data.toList.drop (i + 1)) ((T.data.toList.drop from_).take (i + 1 - from_)) = LS) := hrest
        clear hrest HX hP hP1 hdr hgb hb10
        generalize (b.toNat : Int) = bn at hix n10
        go_wp2_with fail
        go_roundw
        case rel => exact ⟨i + 1, from_, done, rfl, by go_num, hown, hbel, by omega, by omega, by omega, HR2⟩
        case measure => simp [intOf]; omega
    · have hlz : ¬ ((i : Int) < T.size) := by omega
      have hdone : done = LS := by
        have h := HX.out
        rw [List.drop_eq_nil_of_le (by rw [text_len]; omega), lcut, List.append_nil] at h; exact h
      have hLn : 2 ≤ done.length := by rw [hdone, ← HLS.out]; simp
      obtain ⟨gl, cap, rfl, hcap, hcells⟩ := own_str hown (by omega)
      rw [hdone] at hcells
      obtain ⟨m, hm⟩ : ∃ m, (ptsOf t).length = m := ⟨_, rfl⟩
      have hNL : done.length = m + 2 := by rw [hdone, ← HLS.out]; simp [hm]
      obtain ⟨NL, hNLe⟩ : ∃ NL, done.length = NL := ⟨_, rfl⟩
      rw [hNLe] at hNL hcap
      rw [hNLe]
      obtain ⟨X0, hX0⟩ : ∃ X : ByteArray, (⟨(spc (txtG c)).toArray⟩ : ByteArray) = X := ⟨_, rfl⟩
      obtain ⟨X1, hX1⟩ : ∃ X : ByteArray, (⟨(spc (txtH t)).toArray⟩ : ByteArray) = X := ⟨_, rfl⟩
      have c0 : wr.cell? ⟨gl, 0, none⟩ = some (.string X0) := by rw [← hX0]; exact hcells 0 _ (by rw [← HLS.out]; rfl)
      have c1 : wr.cell? ⟨gl, 1, none⟩ = some (.string X1) := by rw [← hX1]; exact hcells 1 _ (by rw [← HLS.out]; rfl)
      have hpos : 4 ≤ m := by rw [← hm]; exact ptsOf_pos t
      have l0 : (0 : Int) < NL := by omega
      have l1 : (1 : Int) < NL := by omega
      have htx : txt c = spc (txtG c) ++ (spc (txtH t) ++ (ptsOf t).flatMap sw) := txt_one HS.out.2.2.2.1
      have hall : (spc (txtG c)).length + ((spc (txtH t)).length + ((ptsOf t).flatMap sw).length) ≤ 1600 := by
        have := HZ.out.2.2.2.2.1
        rw [htx] at this
        simpa [List.length_append] using this
      obtain ⟨S0, hS0⟩ : ∃ S : ByteArray, (⟨(spc (txtG c) ++ spc (txtH t)).toArray⟩ : ByteArray) = S := ⟨_, rfl⟩
      have ha0 : ∀ W, (Op.stringOp .add X0 X1).run Tryz.prog W = .ok (.string S0) W := by
        intro W; rw [← hX0, ← hX1, ← hS0]; exact add_big _ _ (by omega) W
      have HS0 : Hid ((⟨(spc (txtG c) ++ spc (txtH t)).toArray⟩ : ByteArray) = S0) := hS0
      have HLN : Hid (Lns V3 gl LS wr ∧ NL = m + 2 ∧ 4 ≤ m ∧ (ptsOf t).length = m ∧ (spc (txtG c)).length + ((spc (txtH t)).length + ((ptsOf t).flatMap sw).length) ≤ 1600) := ⟨⟨hbel, hcells⟩, hNL, hpos, hm, hall⟩
      clear hown hbel hcells HX hdone hLn hNLe hm hX0 hX1 hS0 htx hall hbs hcap hNL hpos hsize
      go_upto_region 13 with fail
      go_quiet (fail)
      go_upto_region 14 with fail
      refine wp_letter (fun X => Lns V3 gl LS X) (by first | exact ⟨below_drewN' HLN.out.1.1 _, HLN.out.1.2⟩ | exact HLN.out.1) ?_
      intro V4 hL4
      have HL4 : Hid (Lns V3 gl LS V4) := hL4
      clear hL4 c0 c1 ha0 l0 l1
      -- the lines that don't count
      obtain ⟨r, hr⟩ : ∃ r, Int.tmod tw 2 = r := ⟨_, rfl⟩
      have hr2 : tw % 2 = r := by rw [← hr, Int.tmod_eq_emod_of_nonneg HTB.out.1]
      obtain ⟨bt, hbt⟩ : ∃ bt : Bool, bt = (r == 1) := ⟨_, rfl⟩
      obtain ⟨S1, hS1⟩ : ∃ S : ByteArray, (⟨(spc (txtG c) ++ spc (txtH t) ++ (preP bt).flatMap sw).toArray⟩ : ByteArray) = S := ⟨_, rfl⟩
      have HS1 : Hid ((⟨(spc (txtG c) ++ spc (txtH t) ++ (preP bt).flatMap sw).toArray⟩ : ByteArray) = S1) := hS1
      have ha1 : bt = true → ∀ W, (Op.stringOp .add S0 ⟨#[112, 111, 114, 116, 115, 32, 49, 32, 50, 10, 102, 105, 108, 116, 101, 114, 32, 112, 111, 114, 116, 10, 113, 117, 111, 116, 97, 32, 57, 32, 57, 10, 114, 97, 116, 101, 32, 56, 32, 56, 10]⟩).run Tryz.prog W = .ok (.string S1) W := by
        intro hb W
        rw [← HS0.out, ← hS1, hb, pre_txt]
        have := HLN.out.2.2.2.2
        exact add_big _ preT (by simp only [List.length_append, List.length_cons, List.length_nil]; omega) W
      have ha2 : bt = false → S0 = S1 := by
        intro hb
        rw [← HS0.out, ← hS1, hb]; simp [preP]
      clear hS1
      go_upto_if 56 with fail
      go_cut [12] from 20 to 135 (fun v Vx => v = .string S1 ∧ V4 = Vx)
      case first =>
        cases hb : bt with
        | true =>
          have ha := ha1 hb
          have hq : (r == 1) = true := by rw [← hbt]; exact hb
          clear ha1 ha2 hb hbt
          go_wp2_with fail
          go_meet
          case rel => exact ⟨rfl, rfl⟩
        | false =>
          have ha := ha2 hb
          have hq : (r == 1) = false := by rw [← hbt]; exact hb
          subst ha
          clear ha1 ha2 hb hbt
          go_wp2_with fail
          go_meet
          case rel => exact ⟨rfl, rfl⟩
      case rest =>
        obtain ⟨rfl, rfl⟩ := hcut
        clear ha1 ha2 hr hr2 hbt HS0
        have hm6 : m ≤ 1600 := by
          have h1 := flat_ge (ptsOf t)
          have h2 := HLN.out.2.2.2
          omega
        have hwn : IntKind.i64.wrap ((NL : Int) - 2) = (m : Int) := by
          have := HLN.out.2.1
          rw [wrap64 (by omega) (by omega)]; omega
        have hm4 : 4 ≤ m := HLN.out.2.2.1
        have hpr := plc_range n (m : Int) (by omega)
        obtain ⟨P, hPe⟩ : ∃ P : Nat, plc n (m : Int) = (P : Int) := ⟨(plc n m).toNat, by omega⟩
        have hPlt : P < m := by omega
        have CPl := fun W => place_any n (m : Int) W HNB.out.1 HNB.out.2 (by omega) (by omega)
        simp only [hPe] at CPl
        have hml : (ptsOf t).length = m := HLN.out.2.2.2.1
        obtain ⟨Rot, hRot⟩ : ∃ Rot, (ptsOf t).drop P ++ (ptsOf t).take P = Rot := ⟨_, rfl⟩
        have hRl : Rot.length = m := by rw [← hRot, List.length_append, List.length_drop, List.length_take]; omega
        have HRA : Hid (∀ i, i < m → Rot[i]? = (ptsOf t)[(i + P) % m]?) := fun i hi => by
          rw [← hRot, ← hml]; exact rot_at _ P i (by omega) (by omega)
        have HOK : Hid (∀ p ∈ Rot, p.Ok) := by
          intro p hp
          refine ptsOf_ok (HZ.out.2.2.2.2.2.ten t (by rw [HS.out.2.2.2.1]; simp)) p ?_
          rw [← hRot] at hp
          rcases List.mem_append.1 hp with h | h
          · exact List.mem_of_mem_drop h
          · exact List.mem_of_mem_take h
        obtain ⟨base, hbase⟩ : ∃ b, spc (txtG c) ++ spc (txtH t) ++ (preP bt).flatMap sw = b := ⟨_, rfl⟩
        have HSB : Hid ((⟨base.toArray⟩ : ByteArray) = S1) := by rw [← hbase]; exact HS1.out
        have hsl0 : (Rot.flatMap sw).length ≤ 1600 := by
          have h1 := HLN.out.2.2.2.2
          have h2 : (Rot.flatMap sw).length = ((ptsOf t).flatMap sw).length := by
            rw [← hRot]
            conv => rhs; rw [← List.take_append_drop P (ptsOf t)]
            simp only [List.flatMap_append, List.length_append]; omega
          omega
        have hbl0 : base.length ≤ 1700 := by
          have h1 := HLN.out.2.2.2.2
          have h2 : ((preP bt).flatMap sw).length ≤ 41 := by
            cases bt
            · simp [preP]
            · rw [pre_txt]; decide
          rw [← hbase]; simp only [List.length_append]; omega
        have HRT : Hid ((ptsOf t).drop P ++ (ptsOf t).take P = Rot ∧ Rot.length = m ∧ base.length ≤ 1700 ∧ (Rot.flatMap sw).length ≤ 1600 ∧ spc (txtG c) ++ spc (txtH t) ++ (preP bt).flatMap sw = base) := ⟨hRot, hRl, hbl0, hsl0, hbase⟩
        have HMM : Hid (m ≤ 1600 ∧ P < m ∧ NL = m + 2) := ⟨hm6, hPlt, HLN.out.2.1⟩
        have hmz : ¬ ((m : Int) = 0) := by omega
        have hmz2 : ((m : Int) == 0) = false := by rw [beq_eq_false_iff_ne]; omega
        clear hm6 hm4 hpr hPe hPlt hml hRot hRl hbase hsl0 hbl0 HS1
        go_wp2_with fail
        go_loopw [12, 14, 15, 16, 17] (fun o pp qq ii ll w' => ∃ (i pn qn : Nat) (O : List UInt8), o = .string ⟨O.toArray⟩ ∧ pp = .int .i64 pn ∧ qq = .int .i64 qn ∧ ii = .int .i64 i ∧ i ≤ m ∧ V4 = w' ∧ pn ≤ i ∧ qn ≤ i ∧ Hid (O = base ++ (Rot.take i).flatMap sw ∧ pn = ((Rot.take i).flatMap Pt.stats).length ∧ qn = ((Rot.take i).flatMap Pt.twis).length)) (fun _ _ _ ii _ _ => m - (intOf ii).toNat)
        case atStart => exact ⟨0, 0, 0, base, by rw [HSB.out], rfl, rfl, rfl, Nat.zero_le _, rfl, Nat.le_refl _, Nat.le_refl _, by simp, rfl, rfl⟩
        case round =>
          obtain ⟨i, pn, qn, O, rfl, rfl, rfl, rfl, hi, rfl, hpn, hqn, HX⟩ := hrel
          have hmm := HMM.out
          by_cases hlt : i < m
          · have hiz : (i : Int) < m := by omega
            have e7 : IntKind.i64.wrap ((i : Int) + 1) = (i : Int) + 1 := wrap64 (by omega) (by omega)
            have e8 : IntKind.i64.wrap ((pn : Int) + 1) = (pn : Int) + 1 := wrap64 (by omega) (by omega)
            have e9 : IntKind.i64.wrap ((qn : Int) + 1) = (qn : Int) + 1 := wrap64 (by omega) (by omega)
            have wiP : IntKind.i64.wrap ((i : Int) + (P : Int)) = (i : Int) + (P : Int) := wrap64 (by omega) (by omega)
            obtain ⟨kx, hkx⟩ : ∃ kx : Nat, (i + P) % m = kx := ⟨_, rfl⟩
            have hkm : kx < m := by rw [← hkx]; exact Nat.mod_lt _ (by omega)
            have hrem2 : ((i : Int) + (P : Int)) % (m : Int) = (kx : Int) := by rw [← hkx]; simp
            have hrem : Int.tmod ((i : Int) + (P : Int)) (m : Int) = (kx : Int) := by rw [Int.tmod_eq_emod_of_nonneg (by omega)]; exact hrem2
            obtain ⟨K2, hK2⟩ : ∃ K2, 2 + kx = K2 := ⟨_, rfl⟩
            have w2k : IntKind.i64.wrap (2 + (kx : Int)) = (K2 : Int) := by rw [wrap64 (by omega) (by omega)]; omega
            have hK2l : (K2 : Int) < NL := by omega
            have hK20 : (0 : Int) ≤ K2 := by omega
            obtain ⟨p, hp⟩ : ∃ p, Rot[i]? = some p := ⟨Rot[i]'(by rw [HRT.out.2.1]; exact hlt), List.getElem?_eq_getElem _⟩
            have hpk : (ptsOf t)[kx]? = some p := by rw [← hkx, ← HRA.out i hlt]; exact hp
            obtain ⟨X, hX⟩ : ∃ X : ByteArray, (⟨(sw p).toArray⟩ : ByteArray) = X := ⟨_, rfl⟩
            have cX : V4.cell? ⟨gl, K2, none⟩ = some (.string X) := by
              rw [← hX, ← hK2]
              refine HL4.out.2 _ _ ?_
              rw [← HLS.out, show 2 + kx = kx + 1 + 1 by omega, List.getElem?_cons_succ, List.getElem?_cons_succ, List.getElem?_map, hpk]; rfl
            have hXd : X.data.toList = sw p := str_lit hX
            have hXs : 6 ≤ X.size := by rw [← text_len, hXd]; exact pt_long (HOK.out p (List.mem_of_getElem? hp))
            have hXl : X.size ≤ 1600 := by
              rw [← text_len, hXd]
              have h1 := HRT.out.2.2.2.1
              have h2 := take_flat sw Rot (i + 1)
              rw [take_step sw hp, List.length_append] at h2
              omega
            have hs6 := head_slice (X := X) (n := 6) hXs 6 rfl
            have hs5 := head_slice (X := X) (n := 5) (by omega) 5 rfl
            rw [hXd] at hs6 hs5
            obtain ⟨Y6, hY6⟩ : ∃ Y : ByteArray, (⟨((sw p).take 6).toArray⟩ : ByteArray) = Y := ⟨_, rfl⟩
            obtain ⟨Y5, hY5⟩ : ∃ Y : ByteArray, (⟨((sw p).take 5).toArray⟩ : ByteArray) = Y := ⟨_, rfl⟩
            rw [hY6] at hs6
            rw [hY5] at hs5
            have hOl : O.length ≤ 3300 := by
              have h1 := HRT.out.2.2
              have h2 := take_flat sw Rot i
              rw [HX.out.1, List.length_append]; omega
            obtain ⟨S2, hS2⟩ : ∃ S : ByteArray, (⟨(O ++ sw p).toArray⟩ : ByteArray) = S := ⟨_, rfl⟩
            have ha : ∀ W, (Op.stringOp .add ⟨O.toArray⟩ X).run Tryz.prog W = .ok (.string S2) W := by
              intro W; rw [← hX, ← hS2]; exact add_big O (sw p) (by rw [← hXd, text_len]; omega) W
            have HS2 : Hid (Value.string S2 = .string ⟨(O ++ sw p).toArray⟩) := by rw [hS2]; exact rfl
            have HNX : Hid (O ++ sw p = base ++ (Rot.take (i + 1)).flatMap sw ∧ pn + p.stats.length = ((Rot.take (i + 1)).flatMap Pt.stats).length ∧ qn + p.twis.length = ((Rot.take (i + 1)).flatMap Pt.twis).length) := by
              obtain ⟨q1, q2, q3⟩ := HX.out
              refine ⟨by rw [take_step sw hp, ← List.append_assoc, ← q1], by rw [take_step Pt.stats hp, List.length_append, ← q2], by rw [take_step Pt.twis hp, List.length_append, ← q3]⟩
            have h65 := pt_first p
            have HB : Hid (i < m ∧ pn ≤ i ∧ qn ≤ i) := ⟨hlt, hpn, hqn⟩
            rcases h65 with ⟨⟨a6, b6⟩ | ⟨a6, b6⟩, ⟨a5, b5⟩ | ⟨a5, b5⟩⟩
            · have f6 : (Y6.toList == [115, 116, 97, 116, 105, 99]) = true := by rw [beq_iff_eq, ByteArray.toList_eq, ← hY6]; exact b6
              have f5 : (Y5.toList == [116, 119, 105, 99, 101]) = true := by rw [beq_iff_eq, ByteArray.toList_eq, ← hY5]; exact b5
              have HN2 : Hid (O ++ sw p = base ++ (Rot.take (i + 1)).flatMap sw ∧ pn + 1 = ((Rot.take (i + 1)).flatMap Pt.stats).length ∧ qn + 1 = ((Rot.take (i + 1)).flatMap Pt.twis).length) := by
                have := HNX.out
                rw [a6, a5] at this
                exact this
              clear HNX HX a6 a5 b6 b5 hY6 hY5 hX hXd hXs hXl hS2 hOl hp hpk hkx hkm hK2 hmm hpn hqn
              go_wp2_with fail
              refine (CPl _).mono ?_
              rintro e _ ⟨rfl, rfl⟩
              go_wp2_with fail
              go_roundw
              case rel => exact ⟨i + 1, pn + 1, qn + 1, O ++ sw p, HS2.out, by go_num, by go_num, by go_num, by have := HB.out; omega, by first | rfl | trivial, by have := HB.out; omega, by have := HB.out; omega, HN2⟩
              case measure => have := HB.out; simp [intOf]; omega
            · have f6 : (Y6.toList == [115, 116, 97, 116, 105, 99]) = true := by rw [beq_iff_eq, ByteArray.toList_eq, ← hY6]; exact b6
              have f5 : (Y5.toList == [116, 119, 105, 99, 101]) = false := str_ne (by rw [← hY5]; exact b5)
              have HN2 : Hid (O ++ sw p = base ++ (Rot.take (i + 1)).flatMap sw ∧ pn + 1 = ((Rot.take (i + 1)).flatMap Pt.stats).length ∧ qn = ((Rot.take (i + 1)).flatMap Pt.twis).length) := by
                have := HNX.out
                rw [a6, a5] at this
                exact this
              clear HNX HX a6 a5 b6 b5 hY6 hY5 hX hXd hXs hXl hS2 hOl hp hpk hkx hkm hK2 hmm hpn hqn
              go_wp2_with fail
              refine (CPl _).mono ?_
              rintro e _ ⟨rfl, rfl⟩
              go_wp2_with fail
              go_roundw
              case rel => exact ⟨i + 1, pn + 1, qn, O ++ sw p, HS2.out, by go_num, by go_num, by go_num, by have := HB.out; omega, by first | rfl | trivial, by have := HB.out; omega, by have := HB.out; omega, HN2⟩
              case measure => have := HB.out; simp [intOf]; omega
            · have f6 : (Y6.toList == [115, 116, 97, 116, 105, 99]) = false := str_ne (by rw [← hY6]; exact b6)
              have f5 : (Y5.toList == [116, 119, 105, 99, 101]) = true := by rw [beq_iff_eq, ByteArray.toList_eq, ← hY5]; exact b5
              have HN2 : Hid (O ++ sw p = base ++ (Rot.take (i + 1)).flatMap sw ∧ pn = ((Rot.take (i + 1)).flatMap Pt.stats).length ∧ qn + 1 = ((Rot.take (i + 1)).flatMap Pt.twis).length) := by
                have := HNX.out
                rw [a6, a5] at this
                exact this
              clear HNX HX a6 a5 b6 b5 hY6 hY5 hX hXd hXs hXl hS2 hOl hp hpk hkx hkm hK2 hmm hpn hqn
              go_wp2_with fail
              refine (CPl _).mono ?_
              rintro e _ ⟨rfl, rfl⟩
              go_wp2_with fail
              go_roundw
              case rel => exact ⟨i + 1, pn, qn + 1, O ++ sw p, HS2.out, by go_num, by go_num, by go_num, by have := HB.out; omega, by first | rfl | trivial, by have := HB.out; omega, by have := HB.out; omega, HN2⟩
              case measure => have := HB.out; simp [intOf]; omega
            · have f6 : (Y6.toList == [115, 116, 97, 116, 105, 99]) = false := str_ne (by rw [← hY6]; exact b6)
              have f5 : (Y5.toList == [116, 119, 105, 99, 101]) = false := str_ne (by rw [← hY5]; exact b5)
              have HN2 : Hid (O ++ sw p = base ++ (Rot.take (i + 1)).flatMap sw ∧ pn = ((Rot.take (i + 1)).flatMap Pt.stats).length ∧ qn = ((Rot.take (i + 1)).flatMap Pt.twis).length) := by
                have := HNX.out
                rw [a6, a5] at this
                exact this
              clear HNX HX a6 a5 b6 b5 hY6 hY5 hX hXd hXs hXl hS2 hOl hp hpk hkx hkm hK2 hmm hpn hqn
              go_wp2_with fail
              refine (CPl _).mono ?_
              rintro e _ ⟨rfl, rfl⟩
              go_wp2_with fail
              go_roundw
              case rel => exact ⟨i + 1, pn, qn, O ++ sw p, HS2.out, by go_num, by go_num, by go_num, by have := HB.out; omega, by first | rfl | trivial, by have := HB.out; omega, by have := HB.out; omega, HN2⟩
              case measure => have := HB.out; simp [intOf]; omega
          · obtain rfl : i = m := by omega
            have hlz : ¬ ((i : Int) < i) := by omega
            obtain ⟨q1, q2, q3⟩ := HX.out
            rw [List.take_of_length_le (by rw [HRT.out.2.1]; exact Nat.le_refl _)] at q1 q2 q3
            have hpar : parse ⟨O.toArray⟩ = .ok { c with ten := [{ t with twi := Rot.flatMap Pt.twis }] } := by
              have h1 := HRT.out
              rw [← h1.1]
              refine parse_rot HZ.out.2.2.2.2.2 HS.out.2.2.2.1 HS.out.2.2.2.2 ((ptsOf t).take P) ((ptsOf t).drop P) (List.take_append_drop P (ptsOf t)).symm bt ?_ ?_
              · rw [q1, ← h1.2.2.2.2, ← h1.1, out_one2]
                simp only [List.flatMap_append, List.append_assoc]
              · rw [q1, List.length_append]; omega
            have hst : t.stat.length = pn := by
              rw [q2, ← HRT.out.1, flat_rot Pt.stats ((ptsOf t).take P) ((ptsOf t).drop P) (by rw [List.take_append_drop]; exact stats_one t HS.out.2.2.2.2), List.take_append_drop, stats_of]
            have hbV : Below V1.heap.size V1 V4 := HM3.out.below.trans (HL4.out.1.mono HM3.out.below.size)
            have hw4 : Lw V4 := HS.out.2.2.1.below hbV
            have CP := parse_good hw4.vs hw4.fw _ hpar
            have HM4 : Hid (Mem V1 V4 [(g1, .cells A 29 (0, 0))]) := HM3.out.after HL4.out.1
            have HQ3 : Hid (qn = (Rot.flatMap Pt.twis).length) := q3
            clear hpar hw4 hbV q1 q2 q3 HX hmm HRT HRA HOK HLN HL4 HLS HT HTS CPl hpn hqn
            obtain ⟨OS, hOS⟩ : ∃ S : ByteArray, (⟨O.toArray⟩ : ByteArray) = S := ⟨_, rfl⟩
            rw [hOS] at CP
            try simp only [hOS]
            clear hOS
            go_wp2_with fail
            refine CP.mono ?_
            rintro e V6 ⟨hb6, v2, rfl, -, hMm⟩
            obtain ⟨gt, cap2, At, R, sa, sc, qa, qc, rfl, hcl, hMt, h27, h28, hend⟩ := cmm_one HS.out.2.2.2.1 hMm
            rw [hst] at h27
            rw [← HQ3.out] at h28
            obtain ⟨A2, hA2⟩ : ∃ A2, (cc c (.slice (some ⟨gt, 0, none⟩) 1 cap2)).toArray = A2 := ⟨_, rfl⟩
            have hA28 : A2[28]? = some (.slice (some ⟨gt, 0, none⟩) 1 cap2) := by rw [← hA2]; exact cc_at28 hcl _
            have hsz2 : A2.size = 29 := by rw [← hA2, List.size_toArray]; exact cc_len hcl _
            have hone2 : A2.all (·.oneCell') = true := by rw [← hA2]; exact cc_one _ rfl
            have i292 : (Tryz.prog.info? 29).map (·.size) = some A2.size := by rw [hsz2]; kernel_rfl
            rw [hA2] at hend ⊢
            obtain ⟨g2, hg2⟩ : ∃ g2, V6.heap.size = g2 := ⟨_, rfl⟩
            obtain ⟨hk2, e2⟩ := box_new (A := A2) hg2
            have HP : Hid (Mem V1 ((V6.alloc (.cells cz 29)).setRow g2 A2) ((g2, .cells A2 29 (0, 0)) :: (g1, .cells A 29 (0, 0)) :: (gt, .cells At 45 (0, 0)) :: R)) := by
              rw [e2]; exact (HM4.out.join hMt).front _ hg2.symm
            have HEND : Hid (∀ (w' V' : World) (q1 : Value), Mem w' V' ((gt, .cells (At.setIfInBounds 28 q1) 45 (0, 0)) :: R) → Rw V' 2 q1 (px t.twi) → CV V' (.agg A2) c) := hend
            clear e2 hMt hMm hb6 CP HM4 hend hA2 hcl hst HQ3 HM3
            go_upto_region 28 with (refine wpList_store_row rfl 29 (.tmp 18) (.tmp 94) (by with_reducible rfl) g2 A2 (by simp [Act.eval]; try exact hg2) (by first | rfl | simp [Act.eval]) 29 cz hk2 i292 (by rw [hsz2]; rfl) hone2 ?_)
            refine wp_letter (fun X => Mem V1 X ((g2, Obj.cells A2 29 (0, 0)) :: (g1, Obj.cells A 29 (0, 0)) :: (gt, Obj.cells At 45 (0, 0)) :: R)) (by exact HP.out) ?_
            intro V7 hM7
            try simp only [hg2]
            clear HP hg2 hk2 hsz2 hone2
            obtain ⟨b, off, cap1, qa1, qn1, qc1, hB28, hQX⟩ := cv_twi (HS.out.1 V1 (Below.refl _ _)) HS.out.2.2.2.1
            have HG : Hid (∀ X, Mem V1 X ((g2, .cells A2 29 (0, 0)) :: (g1, .cells A 29 (0, 0)) :: (gt, .cells At 45 (0, 0)) :: R) → X.cell? ⟨g2, 28, none⟩ = some (.slice (some ⟨gt, 0, none⟩) 1 cap2) ∧ X.cell? ⟨g1, 28, none⟩ = some (.slice (some ⟨b, off, none⟩) 1 cap1) ∧ X.cell? ⟨b, off + 28, none⟩ = some (.slice qa1 qn1 qc1)) := fun X hX => ⟨(hX.cell 0 rfl 28).trans hA28, (hX.cell 1 rfl 28).trans hB28, (hQX X hX.below).1⟩
            obtain ⟨d28, f28, fq⟩ := HG.out _ hM7
            have t27 : V7.cell? ⟨gt, 27, none⟩ = some (.slice sa pn sc) := (hM7.cell 2 rfl 27).trans h27
            have t28 : V7.cell? ⟨gt, 28, none⟩ = some (.slice qa qn qc) := (hM7.cell 2 rfl 28).trans h28
            have hfz : ∀ j, V7.frozen? ⟨gt, j, none⟩ = false := hM7.free 2 rfl
            have s0 := HG.out _ hM7.drew
            have hM8 := hM7.drew.set 2 rfl 28 (.slice qa1 qn1 qc1)
            have s1 : (V7.drew.setCell ⟨gt, 28, none⟩ (.slice qa1 qn1 qc1)).cell? ⟨g2, 28, none⟩ = some (.slice (some ⟨gt, 0, none⟩) 1 cap2) ∧ (V7.drew.setCell ⟨gt, 28, none⟩ (.slice qa1 qn1 qc1)).cell? ⟨g1, 28, none⟩ = some (.slice (some ⟨b, off, none⟩) 1 cap1) ∧ (V7.drew.setCell ⟨gt, 28, none⟩ (.slice qa1 qn1 qc1)).cell? ⟨b, off + 28, none⟩ = some (.slice qa1 qn1 qc1) := ⟨(hM8.cell 0 rfl 28).trans hA28, (hM8.cell 1 rfl 28).trans hB28, (hQX _ hM8.below).1⟩
            have hcv2 : CV (V7.drew.setCell ⟨gt, 28, none⟩ (.slice qa1 qn1 qc1)) (.agg A2) c := HEND.out _ _ _ (hM8.sub.sub) (hQX _ hM8.below).2
            have hcv1 := HS.out.1 _ hM8.below
            have HM8 : Hid (Mem V1 (V7.drew.setCell ⟨gt, 28, none⟩ (.slice qa1 qn1 qc1)) ((g2, .cells A2 29 (0, 0)) :: (g1, .cells A 29 (0, 0)) :: (gt, .cells (At.setIfInBounds 28 (.slice qa1 qn1 qc1)) 45 (0, 0)) :: R) ∧ CV (V7.drew.setCell ⟨gt, 28, none⟩ (.slice qa1 qn1 qc1)) (.agg A2) c ∧ CV (V7.drew.setCell ⟨gt, 28, none⟩ (.slice qa1 qn1 qc1)) (.agg A) c) := ⟨hM8, hcv2, hcv1⟩
            clear hM7 hM8 HG hQX hA28 hB28 h27 h28 HEND hcv1 hcv2
            go_upto_region 30 with fail
            refine wp_region_held_drew (S := fun X => X.cell? ⟨g2, 28, none⟩ = some (.slice (some ⟨gt, 0, none⟩) 1 cap2) ∧ X.cell? ⟨g1, 28, none⟩ = some (.slice (some ⟨b, off, none⟩) 1 cap1) ∧ X.cell? ⟨b, off + 28, none⟩ = some (.slice qa1 qn1 qc1)) (by kernel_rfl) s0 (fun hHeld => ?_)
            refine wpAnyH_take (i := 0) (v := ?_) rfl (by kernel_rfl) (by kernel_rfl) (by kernel_rfl) (fun _ _ _ h => h) (Or.inl ⟨by rfl, ?roy0⟩) (by assumption) ?ror0
            case roy0 =>
              intro w hSw
              (try dsimp only at hSw)
              go_simp
              all_goals with_reducible rfl
            try simp only [List.getElem_toArray, List.getElem_cons_zero, List.getElem_cons_succ, Act.put, List.setIfInBounds_toArray, List.set_cons_zero, List.set_cons_succ]
            refine wpAnyH_take (i := 1) (v := ?_) rfl (by kernel_rfl) (by kernel_rfl) (by kernel_rfl) (fun _ _ _ h => h) (Or.inl ⟨by rfl, ?roy1⟩) (by assumption) ?ror1
            case roy1 =>
              intro w hSw
              (try dsimp only at hSw)
              go_simp
              all_goals with_reducible rfl
            try simp only [List.getElem_toArray, List.getElem_cons_zero, List.getElem_cons_succ, Act.put, List.setIfInBounds_toArray, List.set_cons_zero, List.set_cons_succ]
            refine wpAnyH_take (i := 2) (v := ?_) rfl (by kernel_rfl) (by kernel_rfl) (by kernel_rfl) (fun _ _ _ h => h) (Or.inl ⟨by rfl, ?roy2⟩) (by assumption) ?ror2
            case roy2 =>
              intro w hSw
              (try dsimp only at hSw)
              go_simp
              all_goals with_reducible rfl
            try simp only [List.getElem_toArray, List.getElem_cons_zero, List.getElem_cons_succ, Act.put, List.setIfInBounds_toArray, List.set_cons_zero, List.set_cons_succ]
            refine wpAnyH_take (i := 3) (v := ?_) rfl (by kernel_rfl) (by kernel_rfl) (by kernel_rfl) (fun _ _ _ h => h) (Or.inl ⟨by rfl, ?roy3⟩) (by assumption) ?ror3
            case roy3 =>
              intro w hSw
              (try dsimp only at hSw)
              go_simp
              all_goals with_reducible rfl
            try simp only [List.getElem_toArray, List.getElem_cons_zero, List.getElem_cons_succ, Act.put, List.setIfInBounds_toArray, List.set_cons_zero, List.set_cons_succ]
            refine wpAnyH_take (i := 4) (v := ?_) rfl (by kernel_rfl) (by kernel_rfl) (by kernel_rfl) (fun _ _ _ h => h) (Or.inl ⟨by rfl, ?roy4⟩) (by assumption) ?ror4
            case roy4 =>
              intro w hSw
              (try dsimp only at hSw)
              go_simp
              all_goals with_reducible rfl
            try simp only [List.getElem_toArray, List.getElem_cons_zero, List.getElem_cons_succ, Act.put, List.setIfInBounds_toArray, List.set_cons_zero, List.set_cons_succ]
            refine wpAnyH_take (i := 5) (v := ?_) rfl (by kernel_rfl) (by kernel_rfl) (by kernel_rfl) (fun _ _ _ h => h) (Or.inl ⟨by rfl, ?roy5⟩) (by assumption) ?ror5
            case roy5 =>
              intro w hSw
              (try dsimp only at hSw)
              go_simp
              all_goals with_reducible rfl
            try simp only [List.getElem_toArray, List.getElem_cons_zero, List.getElem_cons_succ, Act.put, List.setIfInBounds_toArray, List.set_cons_zero, List.set_cons_succ]
            refine wpAnyH_take (i := 6) (v := ?_) rfl (by kernel_rfl) (by kernel_rfl) (by kernel_rfl) (fun _ _ _ h => h) (Or.inl ⟨by rfl, ?roy6⟩) (by assumption) ?ror6
            case roy6 =>
              intro w hSw
              (try dsimp only at hSw)
              go_simp
              all_goals with_reducible rfl
            try simp only [List.getElem_toArray, List.getElem_cons_zero, List.getElem_cons_succ, Act.put, List.setIfInBounds_toArray, List.set_cons_zero, List.set_cons_succ]
            refine wpAnyH_take (i := 7) (v := ?_) rfl (by kernel_rfl) (by kernel_rfl) (by kernel_rfl) (fun _ _ _ h => h) (Or.inl ⟨by rfl, ?roy7⟩) (by assumption) ?ror7
            case roy7 =>
              intro w hSw
              (try dsimp only at hSw)
              go_simp
              all_goals with_reducible rfl
            try simp only [List.getElem_toArray, List.getElem_cons_zero, List.getElem_cons_succ, Act.put, List.setIfInBounds_toArray, List.set_cons_zero, List.set_cons_succ]
            refine wpAnyH_take (i := 8) (v := ?_) rfl (by kernel_rfl) (by kernel_rfl) (by kernel_rfl) (fun _ _ _ h => h) (Or.inl ⟨by rfl, ?roy8⟩) (by assumption) ?ror8
            case roy8 =>
              intro w hSw
              (try dsimp only at hSw)
              go_simp
              all_goals with_reducible rfl
            try simp only [List.getElem_toArray, List.getElem_cons_zero, List.getElem_cons_succ, Act.put, List.setIfInBounds_toArray, List.set_cons_zero, List.set_cons_succ]
            refine wpAnyH_ready (rs := [9]) (by kernel_rfl) (by simp) ?_
            refine AllReadyH.cons rfl (fun KK hK => ?_) AllReadyH.nil
            go_simp
            refine hK.out _ _ s1 (fun hHeld => ?_)
            clear hK KK
            refine wpAnyH_done (by kernel_rfl) ?_ _
            go_upto_region 31 with fail
            refine wp_letter (fun X => Mem V1 X ((g2, .cells A2 29 (0, 0)) :: (g1, .cells A 29 (0, 0)) :: (gt, .cells (At.setIfInBounds 28 (.slice qa1 qn1 qc1)) 45 (0, 0)) :: R) ∧ CV X (.agg A2) c ∧ CV X (.agg A) c) (by exact HM8.out) ?_
            rintro V8 ⟨hM8, hcv2, hcv1⟩
            have k1 : V8.heap[g1]? = some (.cells A 29 (0, 0)) := hM8.get 1 rfl
            have k2 : V8.heap[g2]? = some (.cells A2 29 (0, 0)) := hM8.get 0 rfl
            have CH := hconfig_yes hcv1 hcv2 HZ.out.2.2.2.1 (csame_refl c)
            have HB8 : Hid (Below w.heap.size w V8) := HS.out.2.1.trans (hM8.below.mono HS.out.2.1.size)
            clear hM8 hcv1 hcv2 HM8 s0 s1 d28 f28 fq t27 t28 hfz
            go_wp2_with (first | (refine wpList_load_row rfl 29 (.tmp 7) (by with_reducible rfl) g1 (by first | rfl | simp [Act.eval]) 29 A (0, 0) _ k1 Tryz.underlying29 rfl i29 ?_) | (refine wpList_load_row rfl 29 (.tmp 18) (by with_reducible rfl) g2 (by first | rfl | simp [Act.eval]) 29 A2 (0, 0) _ k2 Tryz.underlying29 rfl i292 ?_))
            refine CH.mono ?_
            rintro e V9 ⟨rfl, hb9⟩
            have HB9 : Hid (Below w.heap.size w V9) := HB8.out.trans (hb9.mono HB8.out.size)
            clear hb9 CH HB8
            go_wp2_with fail
            go_ret
            exact ⟨rfl, HB9.out⟩
end Go.Proofs.YtneciccdiledfaaGreatDoor

