/-
  The walks of lychlaw4.UdpReads, UdpBack, UdpGreat, UdpNone: each answers true.
-/
import Derived.Test.YtekfeifdgbipnaaUdpKnown
namespace Go.Proofs.Ytekfeifdgbipnaa
open Go.RowKit
open Sm
set_option linter.unusedVariables false

abbrev dgA (q : Dg) (b : Value) : Array Value := udA q.src q.dst q.sum b

/-! ### UdpReads -/
set_option maxRecDepth 20000 in
set_option maxHeartbeats 1000000 in
theorem ureads_long {w : World} (a : Option Addr) (n c : Nat) (h : 3000 < n) :
    Calls Try.prog 3 #[.slice a n c] w fun e w' => e = .returned (.bool true) ∧ Below w.heap.size w w' := by
  have h' : (3000 : Int) < n := by omega
  have hk := uknown_any w
  clear h
  go_enter Try.func3, Try.ntmps3
  go_wp2_with fail
  refine hk.mono ?_
  rintro e w1 ⟨rfl, hb⟩
  go_wp2_with fail
  go_ret
  exact ⟨rfl, hb⟩

set_option maxRecDepth 20000 in
set_option maxHeartbeats 2000000 in
theorem ureads_core {w : World} {a : Option Addr} {l : List Int} (hr : Row w a l) (n c : Nat) (hn : l.length = n) (hc : n ≤ c) (h3 : n ≤ 3000) :
    Calls Try.prog 3 #[.slice a n c] w fun e w' => e = .returned (.bool true) ∧ Below w.heap.size w w' := by
  have h3' : (n : Int) ≤ 3000 := by omega
  have hk := uknown_any w
  obtain ⟨E, eE⟩ : ∃ E, udErr l = E := ⟨_, rfl⟩
  obtain ⟨p, ep⟩ : ∃ p, udRes l = p := ⟨_, rfl⟩
  obtain ⟨nb, enb⟩ : ∃ nb, p.body.length = nb := ⟨_, rfl⟩
  have HR : Hid (Row w a l ∧ l.length = n ∧ n ≤ c ∧ udErr l = E ∧ udRes l = p ∧ p.body.length = nb) := ⟨hr, hn, hc, eE, ep, enb⟩
  clear hr hn hc h3 eE ep enb
  go_enter Try.func3, Try.ntmps3
  go_wp2_with fail
  refine hk.mono ?_
  rintro e w1 ⟨rfl, hb1⟩
  have HB1 : Hid _ := hb1
  have hpa := uparse_out (HR.out.1.below hb1 (Nat.le_refl _)) HR.out.2.1 HR.out.2.2.1 HR.out.2.2.2.1 HR.out.2.2.2.2.1 HR.out.2.2.2.2.2
  clear hk hb1
  go_wp2_with fail
  refine hpa.mono ?_
  rintro e w2 ⟨bo1, cb1, rfl, hv2, hb2⟩
  clear hpa
  have hM2 : Mem w w2 [] := ((Mem.nil w).after HB1.out).after hb2
  go_upto_region 6 with fail
  refine wp_letter (fun W => Mem w W [(w2.heap.size, .cells (dgA p (.slice bo1 nb cb1)) udT)] ∧ UdV W 0 (.agg (dgA p (.slice bo1 nb cb1))) p) ⟨hM2.push w2.heap.size _ rfl, udv_box (hv2.mono (Nat.zero_le _)) _⟩ ?_
  intro w3 ⟨hM3, hv3⟩
  have HM3 : Hid _ := hM3
  have HV3 : Hid (UdV w3 0 (.agg (dgA p (.slice bo1 nb cb1))) p) := hv3
  have hpb := rudp_out (hM3.row HR.out.1) HR.out.2.1 HR.out.2.2.1 HR.out.2.2.2.1 HR.out.2.2.2.2.1 HR.out.2.2.2.2.2
  clear hM2 hv2 hb2 hM3 hv3 HB1
  generalize w2.heap.size = P at *
  go_wp2_with fail
  refine hpb.mono ?_
  rintro e w4 ⟨bo2, cb2, rfl, hv4, hb4⟩
  clear hpb
  go_upto_region 7 with fail
  refine wp_letter (fun W => Mem w W [(P, .cells (dgA p (.slice bo1 nb cb1)) udT), (w4.heap.size, .cells (dgA p (.slice bo2 nb cb2)) udT)] ∧ UdV W 0 (.agg (dgA p (.slice bo1 nb cb1))) p ∧ UdV W 0 (.agg (dgA p (.slice bo2 nb cb2))) p) ⟨(HM3.out.after hb4).push w4.heap.size _ rfl, udv_box (HV3.out.below hb4 (Nat.le_refl _)) _, udv_box (hv4.mono (Nat.zero_le _)) _⟩ ?_
  intro w5 ⟨hM5, hv5, hx5⟩
  have ka : ∀ i, w5.cell? ⟨P, i, none⟩ = (dgA p (.slice bo1 nb cb1))[i]? := hM5.cell 0 rfl
  have kb : ∀ i, w5.cell? ⟨w4.heap.size, i, none⟩ = (dgA p (.slice bo2 nb cb2))[i]? := hM5.cell 1 rfl
  have HB5 : Hid (Below w.heap.size w w5) := hM5.below
  have hh := hudp_yes hv5 hx5
  clear hM5 hv5 hx5 hv4 hb4 HM3 HV3
  go_wp2_with fail
  refine hh.mono ?_
  rintro e w6 ⟨rfl, hb6⟩
  have HB6 : Hid (Below w.heap.size w w6) := HB5.out.trans (hb6.mono HB5.out.size)
  clear hh hb6 ka kb
  go_wp2_with fail
  go_ret
  exact ⟨rfl, HB6.out⟩

/-! ### UdpBack -/
set_option maxRecDepth 20000 in
set_option maxHeartbeats 1000000 in
theorem uback_long {w : World} (q : Dg) (bo : Option Addr) (lb cb : Nat) (h : 3000 < lb) :
    Calls Try.prog 4 #[.agg (dgA q (.slice bo lb cb))] w fun e w' => e = .returned (.bool true) ∧ Below w.heap.size w w' := by
  have h' : (3000 : Int) < lb := by omega
  have hk := uknown_any (w.alloc (.cells (dgA q (.slice bo lb cb)) udT))
  clear h
  go_enter Try.func4, Try.ntmps4
  go_wp2_with fail
  refine hk.mono ?_
  rintro e w2 ⟨rfl, hbel⟩
  have hM := ((Mem.nil w).push w.heap.size (.cells (dgA q (.slice bo lb cb)) udT) rfl).after hbel
  have HM : Hid _ := hM
  have k3 : w2.cell? ⟨w.heap.size, 3, none⟩ = some (.slice bo lb cb) := hM.cell 0 rfl 3
  clear hM hbel hk
  go_wp2_with fail
  go_ret
  exact ⟨rfl, HM.out.below⟩

set_option maxRecDepth 20000 in
set_option maxHeartbeats 4000000 in
theorem uback_core {w : World} (q : Dg) (hq : q.Ok) {bo : Option Addr} (lb cb : Nat) (hl : q.body.length = lb) (hv : UdV w 0 (.agg (dgA q (.slice bo lb cb))) q) (h1 : lb ≤ 3000) :
    Calls Try.prog 4 #[.agg (dgA q (.slice bo lb cb))] w fun e w' => e = .returned (.bool true) ∧ Below w.heap.size w w' := by
  have hk := uknown_any (w.alloc (.cells (dgA q (.slice bo lb cb)) udT))
  have h1' : (lb : Int) ≤ 3000 := by omega
  have hE := (udbErr_zero q).mpr (by omega)
  have hO : udOut q = udb q := if_pos hE
  have hof := udOut_facts hq
  obtain ⟨L, eL⟩ : ∃ L, udOut q = L := ⟨_, rfl⟩
  obtain ⟨nL, enL⟩ : ∃ n, L.length = n := ⟨_, rfl⟩
  have hpe : udErr L = 0 := by rw [← eL, hO]; exact back_uerr q (by omega)
  have hpr : udRes L = q := by rw [← eL, hO]; exact back_ures hq (by omega)
  rw [eL] at hof
  have HL : Hid (udOut q = L ∧ udbErr q = 0 ∧ L.length = nL ∧ IsBytes L ∧ L.length ≤ 65535 ∧ udErr L = 0 ∧ udRes L = q ∧ q.Ok ∧ q.body.length = lb) := ⟨eL, hE, enL, hof.1, hof.2, hpe, hpr, hq, hl⟩
  have HV : Hid (UdV w 0 (.agg (dgA q (.slice bo lb cb))) q) := hv
  clear hq hv h1 hl hE hO eL enL hof hpe hpr
  go_enter Try.func4, Try.ntmps4
  go_wp2_with fail
  refine hk.mono ?_
  rintro e w2 ⟨rfl, hbel⟩
  have hM := ((Mem.nil w).push w.heap.size (.cells (dgA q (.slice bo lb cb)) udT) rfl).after hbel
  have HM2 : Hid (Mem w w2 [(w.heap.size, .cells (dgA q (.slice bo lb cb)) udT)]) := hM
  have kc : ∀ i, w2.cell? ⟨w.heap.size, i, none⟩ = (dgA q (.slice bo lb cb))[i]? := hM.cell 0 rfl
  have hb := ubytes_any HL.out.2.2.2.2.2.2.2.1 (HV.out.below hM.below (Nat.le_refl _))
  rw [HL.out.1, HL.out.2.1, HL.out.2.2.1] at hb
  clear hM hbel hk
  go_wp2_with fail
  refine hb.mono ?_
  rintro e w3 ⟨u1, rfl, hown3, hbel3⟩
  clear hb kc
  have hM := HM2.out.after hbel3
  have HM3 : Hid (Mem w w3 [(w.heap.size, .cells (dgA q (.slice bo lb cb)) udT)]) := hM
  have kc : ∀ i, w3.cell? ⟨w.heap.size, i, none⟩ = (dgA q (.slice bo lb cb))[i]? := hM.cell 0 rfl
  have hb := rubytes_any HL.out.2.2.2.2.2.2.2.1 (HV.out.below hM.below (Nat.le_refl _))
  rw [HL.out.1, HL.out.2.1, HL.out.2.2.1] at hb
  have HO3 : Hid _ := hown3
  clear hM hbel3 HM2 hown3
  go_wp2_with fail
  refine hb.mono ?_
  rintro e w4 ⟨u2, rfl, hown4, hbel4⟩
  clear hb kc
  have HM4 : Hid (Mem w w4 [(w.heap.size, .cells (dgA q (.slice bo lb cb)) udT)]) := HM3.out.after hbel4
  have hown3 := own_after HO3.out hbel4 (Nat.le_refl _)
  obtain ⟨a1, c1, rfl, hr1, hn1, hf1, hc1⟩ := own_read hown3 HL.out.2.2.1 HL.out.2.2.2.1 (by have := HL.out; omega)
  obtain ⟨a2, c2, rfl, hr2, hn2, hf2, hc2⟩ := own_read hown4 HL.out.2.2.1 HL.out.2.2.2.1 (by have := HL.out; omega)
  have hh := hbytes_yes hr1 hr2 nL nL HL.out.2.2.1 HL.out.2.2.1 c1 c2
  have hpa := uparse_out hr1 HL.out.2.2.1 hc1 HL.out.2.2.2.2.2.1 HL.out.2.2.2.2.2.2.1 HL.out.2.2.2.2.2.2.2.2
  clear hown3 hown4 hr1 hn1 hf1 hc1 hr2 hn2 hf2 hc2 hbel4 HM3 HO3
  go_wp2_with fail
  refine hh.mono ?_
  rintro e w' ⟨rfl, rfl⟩
  clear hh
  go_wp2_with fail
  refine hpa.mono ?_
  rintro e w6 ⟨b6, d6, rfl, hv6, hb6⟩
  clear hpa
  have hM6 := HM4.out.after hb6
  go_upto_region 10 with fail
  refine wp_letter (fun W => Mem w W [(w.heap.size, .cells (dgA q (.slice bo lb cb)) udT), (w6.heap.size, .cells (dgA q (.slice b6 lb d6)) udT)] ∧ UdV W w4.heap.size (.agg (dgA q (.slice b6 lb d6))) q) ⟨hM6.push w6.heap.size _ rfl, udv_box hv6 _⟩ ?_
  intro w7 ⟨hM7, hv7⟩
  have ka : ∀ i, w7.cell? ⟨w.heap.size, i, none⟩ = (dgA q (.slice bo lb cb))[i]? := hM7.cell 0 rfl
  have kb : ∀ i, w7.cell? ⟨w6.heap.size, i, none⟩ = (dgA q (.slice b6 lb d6))[i]? := hM7.cell 1 rfl
  have hhip := hudp_yes hv7 (HV.out.below hM7.below (Nat.le_refl _))
  have HB7 : Hid (Below w.heap.size w w7) := hM7.below
  clear hM6 hv6 hb6 hM7 hv7 HM4
  go_wp2_with fail
  refine hhip.mono ?_
  rintro e w8 ⟨rfl, hb8⟩
  have HB8 : Hid (Below w.heap.size w w8) := HB7.out.trans (hb8.mono HB7.out.size)
  clear hb8 hhip
  go_wp2_with fail
  go_ret
  exact ⟨rfl, HB8.out⟩

/-! ### UdpGreat -/
def dgz (n : Nat) : Dg := ⟨0, 0, 0, List.replicate n 0⟩
theorem dgz_ok (n : Nat) : (dgz n).Ok := ⟨by simp [dgz], by simp [dgz], by simp [dgz], bytes_noughts n⟩
theorem dgz_err (n : Nat) : udbErr (dgz n) = if 65527 < n then 23 else 0 := by simp [udbErr, dgz]
theorem dgz_len (n : Nat) : (udOut (dgz n)).length = if 65527 < n then 0 else 8 + n := by
  unfold udOut
  rw [dgz_err]
  by_cases h : 65527 < n
  · rw [if_pos h, if_pos h]; rfl
  · rw [if_neg h, if_neg h, if_pos rfl, udb_len]; simp [dgz]
theorem dgz_v (W : World) (n : Nat) (hn : n ≤ 70000) : UdV (W.alloc (.cells (madeCells #[.int .u8 0] n) 5)) 0 (.agg (udA 0 0 0 (.slice (some ⟨W.heap.size, 0, none⟩) n n))) (dgz n) :=
  ⟨some ⟨W.heap.size, 0, none⟩, n, by simp [dgz], noughts_at W n (by omega) _ rfl, fun e => (by cases e), fun _ _ => Nat.zero_le _⟩

set_option maxRecDepth 20000 in
set_option maxHeartbeats 2000000 in
theorem ugreat_core (w : World) (a0 : Int) (g0 : -9223372036854775808 ≤ a0) (g1 : a0 ≤ 9223372036854775807) :
    Calls Try.prog 6 #[.int .i64 a0] w fun e w' => e = .returned (.bool true) ∧ Below w.heap.size w w' := by
  have hk := uknown_any w
  have hpr := plc_range a0 5 (by omega)
  have hplace : ∀ W, Calls Try.prog 20 #[.int .i64 a0, .int .i64 5] W _ := fun W => place_any a0 5 W g0 g1 (by omega) (by omega)
  obtain ⟨P, hP⟩ : ∃ P : Nat, plc a0 5 = P := ⟨(plc a0 5).toNat, by omega⟩
  rw [hP] at hplace
  obtain ⟨n, hn⟩ : ∃ n : Nat, (65525 : Int) + P = n := ⟨65525 + P, by omega⟩
  have HEn : Hid ((65525 : Int) + P = n) := hn
  have u5 : IntKind.i64.wrap ((65525 : Int) + P) = (65525 : Int) + P := wrap64_small _ (by omega) (by omega)
  have t6 : IntKind.i64.wrap ((n : Int) + 8) = (n : Int) + 8 := wrap64_small _ (by omega) (by omega)
  have hmn := make_bytes n (by omega)
  have HO : Hid (n ≤ 70000) := (by omega : n ≤ 70000)
  clear hpr hP hn
  go_enter Try.func6, Try.ntmps6
  go_wp2_with fail
  refine hk.mono ?_
  rintro e w1 ⟨rfl, hb1⟩
  have HB1 : Hid _ := hb1
  clear hk hb1
  go_wp2_with fail
  refine (hplace _).mono ?_
  rintro e w' ⟨rfl, rfl⟩
  go_upto_region 4 with fail
  rw [HEn.out]
  go_wp2_with fail
  refine (ubytes_any (dgz_ok n) (dgz_v w1 n HO.out)).mono ?_
  rintro e w5 ⟨v5, rfl, hown5, hbel5⟩
  have HBz : Hid (Below w.heap.size w w5) := by
    have h1 := HB1.out.alloc HB1.out.size (.cells (madeCells #[.int .u8 0] n) 5)
    exact h1.trans (hbel5.mono h1.size)
  rw [dgz_len] at hown5
  obtain ⟨a, cap, rfl⟩ := own_len hown5
  rw [dgz_err]
  clear hown5 hbel5 HB1
  by_cases h : 65527 < n
  · rw [if_pos h, if_pos h]
    have h' : (65527 : Int) < n := by omega
    go_wp2_with fail
    go_ret
    exact ⟨rfl, HBz.out⟩
  · rw [if_neg h, if_neg h]
    have h' : (n : Int) ≤ 65527 := by omega
    obtain ⟨K, hK⟩ : ∃ K, K = 8 + n := ⟨_, rfl⟩
    have hK' : (K : Int) = (n : Int) + 8 := by omega
    rw [← hK]
    clear hK
    go_wp2_with fail
    go_ret
    exact ⟨by simp, HBz.out⟩

/-! ### UdpNone -/
set_option maxRecDepth 20000 in
set_option maxHeartbeats 1000000 in
theorem unone_long {w : World} (s d : Int) (q : Dg) (bo : Option Addr) (lb cb : Nat) (h : 1000 < lb) :
    Calls Try.prog 8 #[.int .u32 s, .int .u32 d, .agg (dgA q (.slice bo lb cb))] w fun e w' => e = .returned (.bool true) ∧ Below w.heap.size w w' := by
  have h' : (1000 : Int) < lb := by omega
  have hk := uknown_any (w.alloc (.cells (dgA q (.slice bo lb cb)) udT))
  clear h
  go_enter Try.func8, Try.ntmps8
  go_wp2_with fail
  refine hk.mono ?_
  rintro e w2 ⟨rfl, hbel⟩
  have hM := ((Mem.nil w).push w.heap.size (.cells (dgA q (.slice bo lb cb)) udT) rfl).after hbel
  have HM : Hid _ := hM
  have k3 : w2.cell? ⟨w.heap.size, 3, none⟩ = some (.slice bo lb cb) := hM.cell 0 rfl 3
  clear hM hbel hk
  go_wp2_with fail
  go_ret
  exact ⟨rfl, HM.out.below⟩

set_option maxRecDepth 20000 in
set_option maxHeartbeats 2000000 in
theorem unone_core {w : World} (s d : Int) (s0 : 0 ≤ s) (s1 : s ≤ 4294967295) (d0 : 0 ≤ d) (d1 : d ≤ 4294967295) (q : Dg) (hq : q.Ok) {bo : Option Addr} (lb cb : Nat) (hl : q.body.length = lb) (hv : UdV w 0 (.agg (dgA q (.slice bo lb cb))) q) (h1 : lb ≤ 1000) :
    Calls Try.prog 8 #[.int .u32 s, .int .u32 d, .agg (dgA q (.slice bo lb cb))] w fun e w' => e = .returned (.bool true) ∧ Below w.heap.size w w' := by
  have hk := uknown_any (w.alloc (.cells (dgA q (.slice bo lb cb)) udT))
  have h1' : (lb : Int) ≤ 1000 := by omega
  have hne := usum_some (u := q) (by omega) s d
  have hzr : uright s d (q.at 0) = true := by unfold uright; simp [Dg.at]
  have HQ : Hid (q.Ok ∧ q.body.length = lb ∧ UdV w 0 (.agg (dgA q (.slice bo lb cb))) q ∧ uright s d (q.at 0) = true) := ⟨hq, hl, hv, hzr⟩
  clear hq hv h1 hl hzr
  go_enter Try.func8, Try.ntmps8
  go_wp2_with fail
  refine hk.mono ?_
  rintro e w2 ⟨rfl, hbel⟩
  have hM := ((Mem.nil w).push w.heap.size (.cells (dgA q (.slice bo lb cb)) udT) rfl).after hbel
  have HM2 : Hid (Mem w w2 [(w.heap.size, .cells (dgA q (.slice bo lb cb)) udT)]) := hM
  have kc : ∀ i, w2.cell? ⟨w.heap.size, i, none⟩ = (dgA q (.slice bo lb cb))[i]? := hM.cell 0 rfl
  have hb := usum_any HQ.out.1 (HQ.out.2.2.1.below hM.below (Nat.le_refl _)) s d s0 s1 d0 d1
  generalize usum s d q = S at *
  clear hM hbel hk
  go_wp2_with fail
  refine hb.mono ?_
  rintro e w3 ⟨rfl, hbel3⟩
  have HM3 : Hid _ := HM2.out.after hbel3
  clear hb kc HM2 hbel3
  have k2 : w3.cell? ⟨w.heap.size, 2, none⟩ = some (.int .u16 q.sum) := HM3.out.cell 0 rfl 2
  have kf : ∀ i, w3.frozen? ⟨w.heap.size, i, none⟩ = false := HM3.out.free 0 rfl
  go_upto_region 7 with fail
  refine wp_letter (fun W => Mem w W [(w.heap.size, .cells (udA q.src q.dst 0 (.slice bo lb cb)) udT)]) (HM3.out.set 0 rfl 2 (.int .u16 0)) ?_
  intro w4 hM4
  have HM4 : Hid _ := hM4
  have kc : ∀ i, w4.cell? ⟨w.heap.size, i, none⟩ = (udA q.src q.dst 0 (.slice bo lb cb))[i]? := hM4.cell 0 rfl
  have hvv : UdV w4 0 (.agg (udA q.src q.dst 0 (.slice bo lb cb))) (q.at 0) := by
    have h := HQ.out.2.2.1.below hM4.below (Nat.le_refl _)
    have e := HQ.out.2.1
    subst e
    exact udv_at h 0
  have hb := uright_any (HQ.out.1.at (c := 0) (by omega) (by omega)) hvv s d s0 s1 d0 d1
  rw [HQ.out.2.2.2] at hb
  clear hM4 hvv HM3 k2 kf
  have hne' : (S != 0) = true := by simp [hne]
  go_wp2_with fail
  refine hb.mono ?_
  rintro e w5 ⟨rfl, hb5⟩
  have HB5 : Hid (Below w.heap.size w w5) := (HM4.out.after hb5).below
  clear hb hb5 kc HM4
  go_wp2_with fail
  go_ret
  exact ⟨by simp, HB5.out⟩
end Go.Proofs.Ytekfeifdgbipnaa
