/-
  The walks of lychlaw6.IcmpReads, IcmpBack, IcmpGreat, IcmpKinds: each answers true.
-/
import Derived.Test.YtlcgfeddkpoekaaIcmpKnown
namespace Go.Proofs.Ytlcgfeddkpoekaa
open Go.RowKit
open Sm
set_option linter.unusedVariables false

/-! ### IcmpReads -/
set_option maxRecDepth 20000 in
set_option maxHeartbeats 1000000 in
theorem mreads_long {w : World} (a : Option Addr) (n c : Nat) (h : 3000 < n) :
    Calls Try.prog 3 #[.slice a n c] w fun e w' => e = .returned (.bool true) ∧ Below w.heap.size w w' := by
  have h' : (3000 : Int) < n := by omega
  have hk := mknown_any w
  clear h
  go_enter Try.func3, Try.ntmps3
  go_wp2_with fail
  refine hk.mono ?_
  rintro e w1 ⟨rfl, hb⟩
  go_wp2_with fail
  go_ret
  exact ⟨rfl, hb⟩

set_option maxRecDepth 20000 in
set_option maxHeartbeats 4000000 in
theorem mreads_core {w : World} {a : Option Addr} {l : List Int} (hr : Row w a l) (n c : Nat) (hn : l.length = n) (hc : n ≤ c) (h3 : n ≤ 3000) :
    Calls Try.prog 3 #[.slice a n c] w fun e w' => e = .returned (.bool true) ∧ Below w.heap.size w w' := by
  have h3' : (n : Int) ≤ 3000 := by omega
  have hk := mknown_any w
  obtain ⟨E, eE⟩ : ∃ E, mgErr l = E := ⟨_, rfl⟩
  obtain ⟨p, ep⟩ : ∃ p, mgRes l = p := ⟨_, rfl⟩
  obtain ⟨nb, enb⟩ : ∃ nb, p.body.length = nb := ⟨_, rfl⟩
  have HR : Hid (Row w a l ∧ l.length = n ∧ n ≤ c ∧ mgErr l = E ∧ mgRes l = p ∧ p.body.length = nb ∧ n ≤ 70000) := ⟨hr, hn, hc, eE, ep, enb, by omega⟩
  clear hr hn hc h3 eE ep enb
  go_enter Try.func3, Try.ntmps3
  go_wp2_with fail
  refine hk.mono ?_
  rintro e w1 ⟨rfl, hb1⟩
  have HB1 : Hid _ := hb1
  have hpa := mparse_out (HR.out.1.below hb1 (Nat.le_refl _)) HR.out.2.1 HR.out.2.2.1 HR.out.2.2.2.1 HR.out.2.2.2.2.1 HR.out.2.2.2.2.2.1
  clear hk hb1
  go_wp2_with fail
  refine hpa.mono ?_
  rintro e w2 ⟨bo1, cb1, rfl, hv2, hb2⟩
  clear hpa
  have hM2 : Mem w w2 [] := ((Mem.nil w).after HB1.out).after hb2
  go_upto_region 6 with fail
  refine wp_letter (fun W => Mem w W [(w2.heap.size, .cells (mgB p bo1 nb cb1) mgT)] ∧ MgV W 0 (.agg (mgB p bo1 nb cb1)) p) ⟨hM2.push w2.heap.size _ rfl, mgv_box (hv2.mono (Nat.zero_le _)) _⟩ ?_
  intro w3 ⟨hM3, hv3⟩
  have HM3 : Hid _ := hM3
  have HV3 : Hid (MgV w3 0 (.agg (mgB p bo1 nb cb1)) p) := hv3
  have hpb := rmsg_out (hM3.row HR.out.1) HR.out.2.1 HR.out.2.2.1 HR.out.2.2.2.2.2.2 HR.out.2.2.2.1 HR.out.2.2.2.2.1 HR.out.2.2.2.2.2.1
  clear hM2 hv2 hb2 hM3 hv3 HB1
  generalize w2.heap.size = P at *
  go_wp2_with fail
  refine hpb.mono ?_
  rintro e w4 ⟨bo2, cb2, rfl, hv4, hb4⟩
  clear hpb
  go_upto_region 7 with fail
  refine wp_letter (fun W => Mem w W [(P, .cells (mgB p bo1 nb cb1) mgT), (w4.heap.size, .cells (mgB p bo2 nb cb2) mgT)] ∧ MgV W 0 (.agg (mgB p bo1 nb cb1)) p ∧ MgV W 0 (.agg (mgB p bo2 nb cb2)) p) ⟨(HM3.out.after hb4).push w4.heap.size _ rfl, mgv_box (HV3.out.below hb4 (Nat.le_refl _)) _, mgv_box (hv4.mono (Nat.zero_le _)) _⟩ ?_
  intro w5 ⟨hM5, hv5, hx5⟩
  clear hv4 hb4 HM3 HV3
  generalize w4.heap.size = Q at *
  have HM5 : Hid (Mem w w5.drew [(P, .cells (mgB p bo1 nb cb1) mgT), (Q, .cells (mgB p bo2 nb cb2) mgT)]) := hM5.drew
  have HV5 : Hid (MgV w5.drew 0 (.agg (mgB p bo1 nb cb1)) p ∧ MgV w5.drew 0 (.agg (mgB p bo2 nb cb2)) p) := ⟨hv5.below ((Below.refl _ _).drew) (Nat.le_refl _), hx5.below ((Below.refl _ _).drew) (Nat.le_refl _)⟩
  have A0 : w5.cell? ⟨P, 0, none⟩ = some (.int .u8 p.typ) := hM5.cell 0 rfl 0
  have A1 : w5.cell? ⟨P, 1, none⟩ = some (.int .u8 p.code) := hM5.cell 0 rfl 1
  have A2 : w5.cell? ⟨P, 2, none⟩ = some (.int .u16 p.sum) := hM5.cell 0 rfl 2
  have A3 : w5.cell? ⟨P, 3, none⟩ = some (.int .u32 p.rest) := hM5.cell 0 rfl 3
  have A4 : w5.cell? ⟨P, 4, none⟩ = some (.slice bo1 nb cb1) := hM5.cell 0 rfl 4
  have B0 : w5.cell? ⟨Q, 0, none⟩ = some (.int .u8 p.typ) := hM5.cell 1 rfl 0
  have B1 : w5.cell? ⟨Q, 1, none⟩ = some (.int .u8 p.code) := hM5.cell 1 rfl 1
  have B2 : w5.cell? ⟨Q, 2, none⟩ = some (.int .u16 p.sum) := hM5.cell 1 rfl 2
  have B3 : w5.cell? ⟨Q, 3, none⟩ = some (.int .u32 p.rest) := hM5.cell 1 rfl 3
  have B4 : w5.cell? ⟨Q, 4, none⟩ = some (.slice bo2 nb cb2) := hM5.cell 1 rfl 4
  clear hM5 hv5 hx5
  go_region_held3 (fun w' => w'.cell? ⟨P, 0, none⟩ = some (.int .u8 p.typ) ∧ w'.cell? ⟨P, 1, none⟩ = some (.int .u8 p.code) ∧ w'.cell? ⟨P, 2, none⟩ = some (.int .u16 p.sum) ∧ w'.cell? ⟨P, 3, none⟩ = some (.int .u32 p.rest) ∧ w'.cell? ⟨P, 4, none⟩ = some (.slice bo1 nb cb1) ∧ w'.cell? ⟨Q, 0, none⟩ = some (.int .u8 p.typ) ∧ w'.cell? ⟨Q, 1, none⟩ = some (.int .u8 p.code) ∧ w'.cell? ⟨Q, 2, none⟩ = some (.int .u16 p.sum) ∧ w'.cell? ⟨Q, 3, none⟩ = some (.int .u32 p.rest) ∧ w'.cell? ⟨Q, 4, none⟩ = some (.slice bo2 nb cb2))
    (first | go_keep | exact ⟨hM6.cell 0 rfl 0, hM6.cell 0 rfl 1, hM6.cell 0 rfl 2, hM6.cell 0 rfl 3, hM6.cell 0 rfl 4, hM6.cell 1 rfl 0, hM6.cell 1 rfl 1, hM6.cell 1 rfl 2, hM6.cell 1 rfl 3, hM6.cell 1 rfl 4⟩ | exact ⟨hM7.cell 0 rfl 0, hM7.cell 0 rfl 1, hM7.cell 0 rfl 2, hM7.cell 0 rfl 3, hM7.cell 0 rfl 4, hM7.cell 1 rfl 0, hM7.cell 1 rfl 1, hM7.cell 1 rfl 2, hM7.cell 1 rfl 3, hM7.cell 1 rfl 4⟩ | exact ⟨hM8.cell 0 rfl 0, hM8.cell 0 rfl 1, hM8.cell 0 rfl 2, hM8.cell 0 rfl 3, hM8.cell 0 rfl 4, hM8.cell 1 rfl 0, hM8.cell 1 rfl 1, hM8.cell 1 rfl 2, hM8.cell 1 rfl 3, hM8.cell 1 rfl 4⟩ | exact ⟨hM9.cell 0 rfl 0, hM9.cell 0 rfl 1, hM9.cell 0 rfl 2, hM9.cell 0 rfl 3, hM9.cell 0 rfl 4, hM9.cell 1 rfl 0, hM9.cell 1 rfl 1, hM9.cell 1 rfl 2, hM9.cell 1 rfl 3, hM9.cell 1 rfl 4⟩ | exact ⟨hM10.cell 0 rfl 0, hM10.cell 0 rfl 1, hM10.cell 0 rfl 2, hM10.cell 0 rfl 3, hM10.cell 0 rfl 4, hM10.cell 1 rfl 0, hM10.cell 1 rfl 1, hM10.cell 1 rfl 2, hM10.cell 1 rfl 3, hM10.cell 1 rfl 4⟩)
    (first
      | (go_at_call 11; with_reducible refine (hmsg_yes HV5.out.1 HV5.out.2).mono ?_; rintro e w6 ⟨rfl, hb6⟩; have hM6 := HM5.out.after hb6; have hv6 := HV5.out.1.below hb6 (Nat.le_refl _))
      | (go_at_call 12; with_reducible refine (mecho_any hv6).mono ?_; rintro e w7 ⟨rfl, hb7⟩; have hM7 := hM6.after hb7; have hv7 := hv6.below hb7 (Nat.le_refl _))
      | (go_at_call 13; with_reducible refine (rmecho_any hv7).mono ?_; rintro e w8 ⟨rfl, hb8⟩; have hM8 := hM7.after hb8; have hv8 := hv7.below hb8 (Nat.le_refl _))
      | (go_at_call 14; with_reducible refine (merror_any hv8).mono ?_; rintro e w9 ⟨rfl, hb9⟩; have hM9 := hM8.after hb9; have hv9 := hv8.below hb9 (Nat.le_refl _))
      | (go_at_call 15; with_reducible refine (rmerror_any hv9).mono ?_; rintro e w10 ⟨rfl, hb10⟩; have hM10 := hM9.after hb10))
  all_goals
    have HB10 : Hid (Below w.heap.size w w10) := hM10.below
    clear hM6 hM7 hM8 hM9 hM10 hv6 hv7 hv8 hv9 hb6 hb7 hb8 hb9 hb10
    go_wp2_with fail
    go_ret
    exact ⟨by simp, HB10.out⟩

/-! ### IcmpBack -/
set_option maxRecDepth 20000 in
set_option maxHeartbeats 1000000 in
theorem mback_long {w : World} (q : Mg) (bo : Option Addr) (lb cb : Nat) (h : 3000 < lb) :
    Calls Try.prog 4 #[.agg (mgB q bo lb cb)] w fun e w' => e = .returned (.bool true) ∧ Below w.heap.size w w' := by
  have hk := mknown_any (w.alloc (.cells (mgB q bo lb cb) mgT))
  have h' : (3000 : Int) < lb := by omega
  clear h
  go_enter Try.func4, Try.ntmps4
  go_wp2_with fail
  refine hk.mono ?_
  rintro e w2 ⟨rfl, hbel⟩
  have hM := ((Mem.nil w).push w.heap.size (.cells (mgB q bo lb cb) mgT) rfl).after hbel
  have HM : Hid _ := hM
  have k4 : w2.cell? ⟨w.heap.size, 4, none⟩ = some (.slice bo lb cb) := hM.cell 0 rfl 4
  clear hM hbel hk
  go_wp2_with fail
  go_ret
  exact ⟨rfl, HM.out.below⟩

set_option maxRecDepth 20000 in
set_option maxHeartbeats 4000000 in
theorem mback_core {w : World} (q : Mg) (hq : q.Ok) {bo : Option Addr} (lb cb : Nat) (hl : q.body.length = lb) (hv : MgV w 0 (.agg (mgB q bo lb cb)) q) (h1 : lb ≤ 3000) :
    Calls Try.prog 4 #[.agg (mgB q bo lb cb)] w fun e w' => e = .returned (.bool true) ∧ Below w.heap.size w w' := by
  have hk := mknown_any (w.alloc (.cells (mgB q bo lb cb) mgT))
  have h1' : (lb : Int) ≤ 3000 := by omega
  have eE : mgbErr q = 0 := (mfits_iff q).mpr (by omega)
  have eO : mgOut q = mgb q := if_pos eE
  have hof := mgOut_facts hq
  rw [eO] at hof
  obtain ⟨L, eL⟩ : ∃ L, mgb q = L := ⟨_, rfl⟩
  obtain ⟨nL, enL⟩ : ∃ n, L.length = n := ⟨_, rfl⟩
  have hpe : mgErr L = 0 := by rw [← eL]; exact back_merr q
  have hpr : mgRes L = q := by rw [← eL]; exact back_mres hq
  rw [eL] at hof eO
  have HL : Hid (mgOut q = L ∧ mgbErr q = 0 ∧ L.length = nL ∧ IsBytes L ∧ L.length ≤ 65515 ∧ mgErr L = 0 ∧ mgRes L = q ∧ q.Ok ∧ q.body.length = lb) := ⟨eO, eE, enL, hof.1, hof.2, hpe, hpr, hq, hl⟩
  have HV : Hid (MgV w 0 (.agg (mgB q bo lb cb)) q) := hv
  clear hq hv h1 hl eE eL eO enL hof hpe hpr
  go_enter Try.func4, Try.ntmps4
  go_wp2_with fail
  refine hk.mono ?_
  rintro e w2 ⟨rfl, hbel⟩
  have hM := ((Mem.nil w).push w.heap.size (.cells (mgB q bo lb cb) mgT) rfl).after hbel
  have HM2 : Hid (Mem w w2 [(w.heap.size, .cells (mgB q bo lb cb) mgT)]) := hM
  have kc : ∀ i, w2.cell? ⟨w.heap.size, i, none⟩ = (mgB q bo lb cb)[i]? := hM.cell 0 rfl
  have hb := mbytes_any HL.out.2.2.2.2.2.2.2.1 (HV.out.below hM.below (Nat.le_refl _))
  rw [HL.out.1, HL.out.2.1, HL.out.2.2.1] at hb
  clear hM hbel hk
  go_wp2_with fail
  refine hb.mono ?_
  rintro e w3 ⟨u1, rfl, hown3, hbel3⟩
  clear hb kc
  have hM := HM2.out.after hbel3
  have HM3 : Hid (Mem w w3 [(w.heap.size, .cells (mgB q bo lb cb) mgT)]) := hM
  have kc : ∀ i, w3.cell? ⟨w.heap.size, i, none⟩ = (mgB q bo lb cb)[i]? := hM.cell 0 rfl
  have hb := rmbytes_any HL.out.2.2.2.2.2.2.2.1 (HV.out.below hM.below (Nat.le_refl _))
  rw [HL.out.1, HL.out.2.1, HL.out.2.2.1] at hb
  have HO3 : Hid _ := hown3
  clear hM hbel3 HM2 hown3
  go_wp2_with fail
  refine hb.mono ?_
  rintro e w4 ⟨u2, rfl, hown4, hbel4⟩
  clear hb kc
  have HM4 : Hid (Mem w w4 [(w.heap.size, .cells (mgB q bo lb cb) mgT)]) := HM3.out.after hbel4
  have hown3 := own_after HO3.out hbel4 (Nat.le_refl _)
  obtain ⟨a1, c1, rfl, hr1, hn1, hf1, hc1⟩ := own_read hown3 HL.out.2.2.1 HL.out.2.2.2.1 (by have := HL.out; omega)
  obtain ⟨a2, c2, rfl, hr2, hn2, hf2, hc2⟩ := own_read hown4 HL.out.2.2.1 HL.out.2.2.2.1 (by have := HL.out; omega)
  have HR1 : Hid (Row w4 a1 L ∧ Row w4 a2 L) := ⟨hr1, hr2⟩
  have hpa := mparse_out hr1 HL.out.2.2.1 hc1 HL.out.2.2.2.2.2.1 HL.out.2.2.2.2.2.2.1 HL.out.2.2.2.2.2.2.2.2
  clear hown3 hown4 hr1 hn1 hf1 hc1 hr2 hn2 hf2 hc2 hbel4 HM3 HO3
  go_wp2_with fail
  refine hpa.mono ?_
  rintro e w6 ⟨b6, d6, rfl, hv6, hb6⟩
  clear hpa
  have hM6 := HM4.out.after hb6
  have hR6 : Row w6 a1 L ∧ Row w6 a2 L := ⟨HR1.out.1.below hb6 (Nat.le_refl _), HR1.out.2.below hb6 (Nat.le_refl _)⟩
  go_upto_region 8 with fail
  refine wp_letter (fun W => Mem w W [(w.heap.size, .cells (mgB q bo lb cb) mgT), (w6.heap.size, .cells (mgB q b6 lb d6) mgT)] ∧ MgV W w4.heap.size (.agg (mgB q b6 lb d6)) q ∧ Row W a1 L ∧ Row W a2 L) ⟨hM6.push w6.heap.size _ rfl, mgv_box hv6 _, row_alloc hR6.1, row_alloc hR6.2⟩ ?_
  intro w7 ⟨hM7, hv7, hr1, hr2⟩
  have hh := hbytes_yes hr1 hr2 nL nL HL.out.2.2.1 HL.out.2.2.1 c1 c2
  have ka : ∀ i, w7.cell? ⟨w.heap.size, i, none⟩ = (mgB q bo lb cb)[i]? := hM7.cell 0 rfl
  have kb : ∀ i, w7.cell? ⟨w6.heap.size, i, none⟩ = (mgB q b6 lb d6)[i]? := hM7.cell 1 rfl
  have hhip := hmsg_yes hv7 (HV.out.below hM7.below (Nat.le_refl _))
  have HB7 : Hid (Below w.heap.size w w7) := hM7.below
  clear hM6 hv6 hb6 hM7 hv7 HM4 hr1 hr2 hR6 HR1
  go_wp2_with fail
  refine hh.mono ?_
  rintro e w' ⟨rfl, rfl⟩
  clear hh
  go_wp2_with fail
  refine hhip.mono ?_
  rintro e w8 ⟨rfl, hb8⟩
  have HB8 : Hid (Below w.heap.size w w8) := HB7.out.trans (hb8.mono HB7.out.size)
  clear hb8 hhip
  go_wp2_with fail
  go_ret
  exact ⟨rfl, HB8.out⟩

/-! ### IcmpGreat -/
def mgz (n : Nat) : Mg := ⟨0, 0, 0, 0, List.replicate n 0⟩
theorem mgz_ok (n : Nat) : (mgz n).Ok := ⟨by simp [mgz], by simp [mgz], by simp [mgz], by simp [mgz], bytes_noughts n⟩
theorem mgz_err (n : Nat) : mgbErr (mgz n) = if 65507 < n then 23 else 0 := by
  unfold mgbErr
  rw [show (mgz n).body.length = n by simp [mgz]]
theorem mgz_len (n : Nat) : (mgOut (mgz n)).length = if 65507 < n then 0 else 8 + n := by
  unfold mgOut
  rw [mgz_err]
  by_cases h : 65507 < n
  · rw [if_pos h, if_pos h]; rfl
  · rw [if_neg h, if_neg h, if_pos rfl, mgb_len]; simp [mgz, mlen]
theorem mgz_sum (n : Nat) (h : 65507 < n) : msum (mgz n) = 0 := by
  unfold msum
  rw [mgz_err, if_pos h]; rfl
theorem mgz_v (W : World) (n : Nat) (hn : n ≤ 70000) : MgV (W.alloc (.cells (madeCells #[.int .u8 0] n) 5)) 0 (.agg (mgA 0 0 0 0 (.slice (some ⟨W.heap.size, 0, none⟩) n n))) (mgz n) :=
  ⟨some ⟨W.heap.size, 0, none⟩, n, by simp [mgz], noughts_at W n (by omega) _ rfl, fun e => (by cases e), fun _ _ => Nat.zero_le _⟩

set_option maxRecDepth 20000 in
set_option maxHeartbeats 2000000 in
theorem mgreat_core (w : World) (a0 : Int) (g0 : -9223372036854775808 ≤ a0) (g1 : a0 ≤ 9223372036854775807) :
    Calls Try.prog 6 #[.int .i64 a0] w fun e w' => e = .returned (.bool true) ∧ Below w.heap.size w w' := by
  have hk := mknown_any w
  have hpr := plc_range a0 5 (by omega)
  have hplace : ∀ W, Calls Try.prog 23 #[.int .i64 a0, .int .i64 5] W _ := fun W => place_any a0 5 W g0 g1 (by omega) (by omega)
  obtain ⟨P, hP⟩ : ∃ P : Nat, plc a0 5 = P := ⟨(plc a0 5).toNat, by omega⟩
  rw [hP] at hplace
  obtain ⟨n, hn⟩ : ∃ n : Nat, (65505 : Int) + P = n := ⟨65505 + P, by omega⟩
  have HEn : Hid ((65505 : Int) + P = n) := hn
  have u5 : IntKind.i64.wrap ((65505 : Int) + P) = (65505 : Int) + P := wrap64_small _ (by omega) (by omega)
  have t6 : IntKind.i64.wrap ((n : Int) + 8) = (n : Int) + 8 := wrap64_small _ (by omega) (by omega)
  have hmn := make_bytes n (by omega)
  have HO : Hid (n ≤ 70000) := (by omega : n ≤ 70000)
  clear hpr hP hn
  go_enter Try.func6, Try.ntmps6
  go_wp2_with fail
  refine hk.mono ?_
  rintro e w1 ⟨rfl, hb1⟩
  have HB1 : Hid _ := hb1
  clear hk hb1
  go_wp2_with fail
  refine (hplace _).mono ?_
  rintro e w' ⟨rfl, rfl⟩
  go_upto_region 4 with fail
  rw [HEn.out]
  go_wp2_with fail
  refine (mbytes_any (mgz_ok n) (mgz_v w1 n HO.out)).mono ?_
  rintro e w5 ⟨v5, rfl, hown5, hbel5⟩
  have HBz : Hid (Below w.heap.size w w5) := by
    have h1 := HB1.out.alloc HB1.out.size (.cells (madeCells #[.int .u8 0] n) 5)
    exact h1.trans (hbel5.mono h1.size)
  rw [mgz_len] at hown5
  obtain ⟨a, cap, rfl⟩ := own_len hown5
  rw [mgz_err]
  clear hown5 hbel5 HB1
  by_cases h : 65507 < n
  · rw [if_pos h, if_pos h]
    have h' : (65507 : Int) < n := by omega
    have hsm := msum_any (mgz_ok n) (mgz_v w5 n HO.out)
    rw [mgz_sum n h] at hsm
    go_wp2_with fail
    refine hsm.mono ?_
    rintro e w6 ⟨rfl, hb6⟩
    have HB6 : Hid (Below w.heap.size w w6) := by
      have h1 := HBz.out.alloc HBz.out.size (.cells (madeCells #[.int .u8 0] n) 5)
      exact h1.trans (hb6.mono h1.size)
    clear hsm hb6 HBz
    go_wp2_with fail
    go_ret
    exact ⟨rfl, HB6.out⟩
  · rw [if_neg h, if_neg h]
    have h' : (n : Int) ≤ 65507 := by omega
    obtain ⟨K, hK⟩ : ∃ K, K = 8 + n := ⟨_, rfl⟩
    have hK' : (K : Int) = (n : Int) + 8 := by omega
    rw [← hK]
    clear hK
    go_wp2_with fail
    go_ret
    exact ⟨by simp, HBz.out⟩

/-! ### IcmpKinds -/
set_option maxRecDepth 20000 in
set_option maxHeartbeats 1000000 in
theorem mkinds_at (w : World) (t c r : Int) (X Y : Bool) (hX : mecho ⟨t, c, 0, r, []⟩ = X) (hY : merror ⟨t, c, 0, r, []⟩ = Y)
    (hc : (t = 0 ∧ X = (c == 0)) ∨ (t = 8 ∧ X = (c == 0)) ∨ (t ≠ 0 ∧ t ≠ 8 ∧ X = false)) (he : (t = 3 ∧ Y = true) ∨ (t = 11 ∧ Y = true) ∨ (t = 12 ∧ Y = true) ∨ (t ≠ 3 ∧ t ≠ 11 ∧ t ≠ 12 ∧ Y = false)) :
    Calls Try.prog 7 #[.int .u8 t, .int .u8 c, .int .u32 r] w fun e w' => e = .returned (.bool true) ∧ Below w.heap.size w w' := by
  have hk := mknown_any w
  have H1 : Hid (∀ W, Calls Try.prog 12 #[.agg (mgA t c 0 r (.slice none 0 0))] W fun e w' => e = .returned (.bool X) ∧ Below W.heap.size W w') := fun W => by
    have := mecho_any (w := W) (B := 0) (v := .agg (mgA t c 0 r (.slice none 0 0))) (q := ⟨t, c, 0, r, []⟩) ⟨none, 0, rfl, row_nil W, fun _ => rfl, fun x hx => (by cases hx)⟩
    rwa [hX] at this
  have H2 : Hid (∀ W, Calls Try.prog 14 #[.agg (mgA t c 0 r (.slice none 0 0))] W fun e w' => e = .returned (.bool Y) ∧ Below W.heap.size W w') := fun W => by
    have := merror_any (w := W) (B := 0) (v := .agg (mgA t c 0 r (.slice none 0 0))) (q := ⟨t, c, 0, r, []⟩) ⟨none, 0, rfl, row_nil W, fun _ => rfl, fun x hx => (by cases hx)⟩
    rwa [hY] at this
  clear hX hY
  rcases hc with ⟨rfl, rfl⟩ | ⟨rfl, rfl⟩ | ⟨n0, n8, rfl⟩
  · obtain rfl : Y = false := by rcases he with ⟨h, -⟩ | ⟨h, -⟩ | ⟨h, -⟩ | ⟨-, -, -, h⟩ <;> first | exact h | exact absurd h (by decide)
    clear he
    by_cases hc0 : c = 0
    · subst hc0
      go_enter Try.func7, Try.ntmps7
      go_wp2_with fail
      refine hk.mono ?_
      rintro e w1 ⟨rfl, hb1⟩
      have hM1 : Mem w w1 [] := (Mem.nil w).after hb1
      clear hk hb1
      go_upto_region 4 with fail
      refine wp_letter (fun W => Mem w W [(w1.heap.size, .cells (mgA 0 0 0 r (.slice none 0 0)) mgT)]) (hM1.push w1.heap.size _ rfl) ?_
      intro w2 hM2
      clear hM1
      generalize w1.heap.size = P at *
      have HM2 : Hid _ := hM2
      have kc : ∀ i, w2.cell? ⟨P, i, none⟩ = (mgA 0 0 0 r (.slice none 0 0))[i]? := hM2.cell 0 rfl
      clear hM2
      go_wp2_with fail
      refine (H1.out _).mono ?_
      rintro e w3 ⟨rfl, hb3⟩
      have hM3 := HM2.out.after hb3
      have HM3 : Hid _ := hM3
      clear hb3 kc HM2
      have kc : ∀ i, w3.cell? ⟨P, i, none⟩ = (mgA 0 0 0 r (.slice none 0 0))[i]? := hM3.cell 0 rfl
      clear hM3
      go_wp2_with fail
      refine (H2.out _).mono ?_
      rintro e w4 ⟨rfl, hb4⟩
      have HB4 : Hid (Below w.heap.size w w4) := (HM3.out.after hb4).below
      clear hb4 kc HM3
      go_wp2_with fail
      go_ret
      exact ⟨by simp, HB4.out⟩
    · have hc1 : (c == 0) = false := by simp [hc0]
      go_enter Try.func7, Try.ntmps7
      go_wp2_with fail
      refine hk.mono ?_
      rintro e w1 ⟨rfl, hb1⟩
      have hM1 : Mem w w1 [] := (Mem.nil w).after hb1
      clear hk hb1
      go_upto_region 4 with fail
      refine wp_letter (fun W => Mem w W [(w1.heap.size, .cells (mgA 0 c 0 r (.slice none 0 0)) mgT)]) (hM1.push w1.heap.size _ rfl) ?_
      intro w2 hM2
      clear hM1
      generalize w1.heap.size = P at *
      have HM2 : Hid _ := hM2
      have kc : ∀ i, w2.cell? ⟨P, i, none⟩ = (mgA 0 c 0 r (.slice none 0 0))[i]? := hM2.cell 0 rfl
      clear hM2
      go_wp2_with fail
      refine (H1.out _).mono ?_
      rintro e w3 ⟨rfl, hb3⟩
      have hM3 := HM2.out.after hb3
      have HM3 : Hid _ := hM3
      clear hb3 kc HM2
      have kc : ∀ i, w3.cell? ⟨P, i, none⟩ = (mgA 0 c 0 r (.slice none 0 0))[i]? := hM3.cell 0 rfl
      clear hM3
      go_wp2_with fail
      refine (H2.out _).mono ?_
      rintro e w4 ⟨rfl, hb4⟩
      have HB4 : Hid (Below w.heap.size w w4) := (HM3.out.after hb4).below
      clear hb4 kc HM3
      go_wp2_with fail
      go_ret
      exact ⟨by simp, HB4.out⟩
  · obtain rfl : Y = false := by rcases he with ⟨h, -⟩ | ⟨h, -⟩ | ⟨h, -⟩ | ⟨-, -, -, h⟩ <;> first | exact h | exact absurd h (by decide)
    clear he
    by_cases hc0 : c = 0
    · subst hc0
      go_enter Try.func7, Try.ntmps7
      go_wp2_with fail
      refine hk.mono ?_
      rintro e w1 ⟨rfl, hb1⟩
      have hM1 : Mem w w1 [] := (Mem.nil w).after hb1
      clear hk hb1
      go_upto_region 4 with fail
      refine wp_letter (fun W => Mem w W [(w1.heap.size, .cells (mgA 8 0 0 r (.slice none 0 0)) mgT)]) (hM1.push w1.heap.size _ rfl) ?_
      intro w2 hM2
      clear hM1
      generalize w1.heap.size = P at *
      have HM2 : Hid _ := hM2
      have kc : ∀ i, w2.cell? ⟨P, i, none⟩ = (mgA 8 0 0 r (.slice none 0 0))[i]? := hM2.cell 0 rfl
      clear hM2
      go_wp2_with fail
      refine (H1.out _).mono ?_
      rintro e w3 ⟨rfl, hb3⟩
      have hM3 := HM2.out.after hb3
      have HM3 : Hid _ := hM3
      clear hb3 kc HM2
      have kc : ∀ i, w3.cell? ⟨P, i, none⟩ = (mgA 8 0 0 r (.slice none 0 0))[i]? := hM3.cell 0 rfl
      clear hM3
      go_wp2_with fail
      refine (H2.out _).mono ?_
      rintro e w4 ⟨rfl, hb4⟩
      have HB4 : Hid (Below w.heap.size w w4) := (HM3.out.after hb4).below
      clear hb4 kc HM3
      go_wp2_with fail
      go_ret
      exact ⟨by simp, HB4.out⟩
    · have hc1 : (c == 0) = false := by simp [hc0]
      go_enter Try.func7, Try.ntmps7
      go_wp2_with fail
      refine hk.mono ?_
      rintro e w1 ⟨rfl, hb1⟩
      have hM1 : Mem w w1 [] := (Mem.nil w).after hb1
      clear hk hb1
      go_upto_region 4 with fail
      refine wp_letter (fun W => Mem w W [(w1.heap.size, .cells (mgA 8 c 0 r (.slice none 0 0)) mgT)]) (hM1.push w1.heap.size _ rfl) ?_
      intro w2 hM2
      clear hM1
      generalize w1.heap.size = P at *
      have HM2 : Hid _ := hM2
      have kc : ∀ i, w2.cell? ⟨P, i, none⟩ = (mgA 8 c 0 r (.slice none 0 0))[i]? := hM2.cell 0 rfl
      clear hM2
      go_wp2_with fail
      refine (H1.out _).mono ?_
      rintro e w3 ⟨rfl, hb3⟩
      have hM3 := HM2.out.after hb3
      have HM3 : Hid _ := hM3
      clear hb3 kc HM2
      have kc : ∀ i, w3.cell? ⟨P, i, none⟩ = (mgA 8 c 0 r (.slice none 0 0))[i]? := hM3.cell 0 rfl
      clear hM3
      go_wp2_with fail
      refine (H2.out _).mono ?_
      rintro e w4 ⟨rfl, hb4⟩
      have HB4 : Hid (Below w.heap.size w w4) := (HM3.out.after hb4).below
      clear hb4 kc HM3
      go_wp2_with fail
      go_ret
      exact ⟨by simp, HB4.out⟩
  · rcases he with ⟨rfl, rfl⟩ | ⟨rfl, rfl⟩ | ⟨rfl, rfl⟩ | ⟨n3, n11, n12, rfl⟩
    · clear n0 n8
      go_enter Try.func7, Try.ntmps7
      go_wp2_with fail
      refine hk.mono ?_
      rintro e w1 ⟨rfl, hb1⟩
      have hM1 : Mem w w1 [] := (Mem.nil w).after hb1
      clear hk hb1
      go_upto_region 4 with fail
      refine wp_letter (fun W => Mem w W [(w1.heap.size, .cells (mgA 3 c 0 r (.slice none 0 0)) mgT)]) (hM1.push w1.heap.size _ rfl) ?_
      intro w2 hM2
      clear hM1
      generalize w1.heap.size = P at *
      have HM2 : Hid _ := hM2
      have kc : ∀ i, w2.cell? ⟨P, i, none⟩ = (mgA 3 c 0 r (.slice none 0 0))[i]? := hM2.cell 0 rfl
      clear hM2
      go_wp2_with fail
      refine (H1.out _).mono ?_
      rintro e w3 ⟨rfl, hb3⟩
      have hM3 := HM2.out.after hb3
      have HM3 : Hid _ := hM3
      clear hb3 kc HM2
      have kc : ∀ i, w3.cell? ⟨P, i, none⟩ = (mgA 3 c 0 r (.slice none 0 0))[i]? := hM3.cell 0 rfl
      clear hM3
      go_wp2_with fail
      refine (H2.out _).mono ?_
      rintro e w4 ⟨rfl, hb4⟩
      have HB4 : Hid (Below w.heap.size w w4) := (HM3.out.after hb4).below
      clear hb4 kc HM3
      go_wp2_with fail
      go_ret
      exact ⟨by simp, HB4.out⟩
    · clear n0 n8
      go_enter Try.func7, Try.ntmps7
      go_wp2_with fail
      refine hk.mono ?_
      rintro e w1 ⟨rfl, hb1⟩
      have hM1 : Mem w w1 [] := (Mem.nil w).after hb1
      clear hk hb1
      go_upto_region 4 with fail
      refine wp_letter (fun W => Mem w W [(w1.heap.size, .cells (mgA 11 c 0 r (.slice none 0 0)) mgT)]) (hM1.push w1.heap.size _ rfl) ?_
      intro w2 hM2
      clear hM1
      generalize w1.heap.size = P at *
      have HM2 : Hid _ := hM2
      have kc : ∀ i, w2.cell? ⟨P, i, none⟩ = (mgA 11 c 0 r (.slice none 0 0))[i]? := hM2.cell 0 rfl
      clear hM2
      go_wp2_with fail
      refine (H1.out _).mono ?_
      rintro e w3 ⟨rfl, hb3⟩
      have hM3 := HM2.out.after hb3
      have HM3 : Hid _ := hM3
      clear hb3 kc HM2
      have kc : ∀ i, w3.cell? ⟨P, i, none⟩ = (mgA 11 c 0 r (.slice none 0 0))[i]? := hM3.cell 0 rfl
      clear hM3
      go_wp2_with fail
      refine (H2.out _).mono ?_
      rintro e w4 ⟨rfl, hb4⟩
      have HB4 : Hid (Below w.heap.size w w4) := (HM3.out.after hb4).below
      clear hb4 kc HM3
      go_wp2_with fail
      go_ret
      exact ⟨by simp, HB4.out⟩
    · clear n0 n8
      go_enter Try.func7, Try.ntmps7
      go_wp2_with fail
      refine hk.mono ?_
      rintro e w1 ⟨rfl, hb1⟩
      have hM1 : Mem w w1 [] := (Mem.nil w).after hb1
      clear hk hb1
      go_upto_region 4 with fail
      refine wp_letter (fun W => Mem w W [(w1.heap.size, .cells (mgA 12 c 0 r (.slice none 0 0)) mgT)]) (hM1.push w1.heap.size _ rfl) ?_
      intro w2 hM2
      clear hM1
      generalize w1.heap.size = P at *
      have HM2 : Hid _ := hM2
      have kc : ∀ i, w2.cell? ⟨P, i, none⟩ = (mgA 12 c 0 r (.slice none 0 0))[i]? := hM2.cell 0 rfl
      clear hM2
      go_wp2_with fail
      refine (H1.out _).mono ?_
      rintro e w3 ⟨rfl, hb3⟩
      have hM3 := HM2.out.after hb3
      have HM3 : Hid _ := hM3
      clear hb3 kc HM2
      have kc : ∀ i, w3.cell? ⟨P, i, none⟩ = (mgA 12 c 0 r (.slice none 0 0))[i]? := hM3.cell 0 rfl
      clear hM3
      go_wp2_with fail
      refine (H2.out _).mono ?_
      rintro e w4 ⟨rfl, hb4⟩
      have HB4 : Hid (Below w.heap.size w w4) := (HM3.out.after hb4).below
      clear hb4 kc HM3
      go_wp2_with fail
      go_ret
      exact ⟨by simp, HB4.out⟩
    · have e0 : (t == 0) = false := by simp [n0]
      have e8 : (t == 8) = false := by simp [n8]
      have e3 : (t == 3) = false := by simp [n3]
      have e11 : (t == 11) = false := by simp [n11]
      have e12 : (t == 12) = false := by simp [n12]
      clear n0 n8 n3 n11 n12
      go_enter Try.func7, Try.ntmps7
      go_wp2_with fail
      refine hk.mono ?_
      rintro e w1 ⟨rfl, hb1⟩
      have hM1 : Mem w w1 [] := (Mem.nil w).after hb1
      clear hk hb1
      go_upto_region 4 with fail
      refine wp_letter (fun W => Mem w W [(w1.heap.size, .cells (mgA t c 0 r (.slice none 0 0)) mgT)]) (hM1.push w1.heap.size _ rfl) ?_
      intro w2 hM2
      clear hM1
      generalize w1.heap.size = P at *
      have HM2 : Hid _ := hM2
      have kc : ∀ i, w2.cell? ⟨P, i, none⟩ = (mgA t c 0 r (.slice none 0 0))[i]? := hM2.cell 0 rfl
      clear hM2
      go_wp2_with fail
      refine (H1.out _).mono ?_
      rintro e w3 ⟨rfl, hb3⟩
      have hM3 := HM2.out.after hb3
      have HM3 : Hid _ := hM3
      clear hb3 kc HM2
      have kc : ∀ i, w3.cell? ⟨P, i, none⟩ = (mgA t c 0 r (.slice none 0 0))[i]? := hM3.cell 0 rfl
      clear hM3
      go_wp2_with fail
      refine (H2.out _).mono ?_
      rintro e w4 ⟨rfl, hb4⟩
      have HB4 : Hid (Below w.heap.size w w4) := (HM3.out.after hb4).below
      clear hb4 kc HM3
      go_wp2_with fail
      go_ret
      exact ⟨by simp, HB4.out⟩

set_option maxHeartbeats 1000000 in
theorem mkinds_core (w : World) (t c r : Int) :
    Calls Try.prog 7 #[.int .u8 t, .int .u8 c, .int .u32 r] w fun e w' => e = .returned (.bool true) ∧ Below w.heap.size w w' := by
  refine mkinds_at w t c r _ _ rfl rfl ?_ ?_
  · by_cases h0 : t = 0
    · exact Or.inl ⟨h0, by simp [mecho, h0] <;> rfl⟩
    by_cases h8 : t = 8
    · exact Or.inr (Or.inl ⟨h8, by simp [mecho, h8] <;> rfl⟩)
    · exact Or.inr (Or.inr ⟨h0, h8, by simp [mecho, h0, h8]⟩)
  · by_cases h3 : t = 3
    · exact Or.inl ⟨h3, by simp [merror, h3]⟩
    by_cases h11 : t = 11
    · exact Or.inr (Or.inl ⟨h11, by simp [merror, h11]⟩)
    by_cases h12 : t = 12
    · exact Or.inr (Or.inr (Or.inl ⟨h12, by simp [merror, h12]⟩))
    · exact Or.inr (Or.inr (Or.inr ⟨h3, h11, h12, by simp [merror, h3, h11, h12]⟩))
end Go.Proofs.Ytlcgfeddkpoekaa
