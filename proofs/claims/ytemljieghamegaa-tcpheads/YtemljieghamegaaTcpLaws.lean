/-
  The walks of lychlaw5.TcpReads, TcpBack, TcpGreat: each answers true.
-/
import Derived.Test.YtemljieghamegaaTcpKnown
namespace Go.Proofs.Ytemljieghamegaa
open Go.RowKit
open Sm
set_option linter.unusedVariables false

/-! ### TcpReads -/
set_option maxRecDepth 20000 in
set_option maxHeartbeats 1000000 in
theorem treads_long {w : World} (a : Option Addr) (n c : Nat) (h : 3000 < n) :
    Calls Try.prog 3 #[.slice a n c] w fun e w' => e = .returned (.bool true) ∧ Below w.heap.size w w' := by
  have h' : (3000 : Int) < n := by omega
  have hk := tknown_any w
  clear h
  go_enter Try.func3, Try.ntmps3
  go_wp2_with fail
  refine hk.mono ?_
  rintro e w1 ⟨rfl, hb⟩
  go_wp2_with fail
  go_ret
  exact ⟨rfl, hb⟩

set_option maxRecDepth 20000 in
set_option maxHeartbeats 2000000 in
theorem treads_core {w : World} {a : Option Addr} {l : List Int} (hr : Row w a l) (n c : Nat) (hn : l.length = n) (hc : n ≤ c) (h3 : n ≤ 3000) :
    Calls Try.prog 3 #[.slice a n c] w fun e w' => e = .returned (.bool true) ∧ Below w.heap.size w w' := by
  have h3' : (n : Int) ≤ 3000 := by omega
  have hk := tknown_any w
  obtain ⟨E, eE⟩ : ∃ E, tcErr l = E := ⟨_, rfl⟩
  obtain ⟨p, ep⟩ : ∃ p, tcRes l = p := ⟨_, rfl⟩
  obtain ⟨no, eno⟩ : ∃ no, p.opts.length = no := ⟨_, rfl⟩
  obtain ⟨nb, enb⟩ : ∃ nb, p.body.length = nb := ⟨_, rfl⟩
  have HR : Hid (Row w a l ∧ l.length = n ∧ n ≤ c ∧ tcErr l = E ∧ tcRes l = p ∧ p.opts.length = no ∧ p.body.length = nb ∧ n ≤ 70000) := ⟨hr, hn, hc, eE, ep, eno, enb, by omega⟩
  clear hr hn hc h3 eE ep eno enb
  go_enter Try.func3, Try.ntmps3
  go_wp2_with fail
  refine hk.mono ?_
  rintro e w1 ⟨rfl, hb1⟩
  have HB1 : Hid _ := hb1
  have hpa := tparse_out (HR.out.1.below hb1 (Nat.le_refl _)) HR.out.2.1 HR.out.2.2.1 HR.out.2.2.2.1 HR.out.2.2.2.2.1 HR.out.2.2.2.2.2.1 HR.out.2.2.2.2.2.2.1
  clear hk hb1
  go_wp2_with fail
  refine hpa.mono ?_
  rintro e w2 ⟨ao1, co1, bo1, cb1, rfl, hv2, hb2⟩
  clear hpa
  have hM2 : Mem w w2 [] := ((Mem.nil w).after HB1.out).after hb2
  go_upto_region 6 with fail
  refine wp_letter (fun W => Mem w W [(w2.heap.size, .cells (tcB p ao1 no co1 bo1 nb cb1) tcT)] ∧ TcV W 0 (.agg (tcB p ao1 no co1 bo1 nb cb1)) p) ⟨hM2.push w2.heap.size _ rfl, tcv_box (hv2.mono (Nat.zero_le _)) _⟩ ?_
  intro w3 ⟨hM3, hv3⟩
  have HM3 : Hid _ := hM3
  have HV3 : Hid (TcV w3 0 (.agg (tcB p ao1 no co1 bo1 nb cb1)) p) := hv3
  have hpb := rtcp_out (hM3.row HR.out.1) HR.out.2.1 HR.out.2.2.1 HR.out.2.2.2.2.2.2.2 HR.out.2.2.2.1 HR.out.2.2.2.2.1 HR.out.2.2.2.2.2.1 HR.out.2.2.2.2.2.2.1
  clear hM2 hv2 hb2 hM3 hv3 HB1
  generalize w2.heap.size = P at *
  go_wp2_with fail
  refine hpb.mono ?_
  rintro e w4 ⟨ao2, co2, bo2, cb2, rfl, hv4, hb4⟩
  clear hpb
  go_upto_region 7 with fail
  refine wp_letter (fun W => Mem w W [(P, .cells (tcB p ao1 no co1 bo1 nb cb1) tcT), (w4.heap.size, .cells (tcB p ao2 no co2 bo2 nb cb2) tcT)] ∧ TcV W 0 (.agg (tcB p ao1 no co1 bo1 nb cb1)) p ∧ TcV W 0 (.agg (tcB p ao2 no co2 bo2 nb cb2)) p) ⟨(HM3.out.after hb4).push w4.heap.size _ rfl, tcv_box (HV3.out.below hb4 (Nat.le_refl _)) _, tcv_box (hv4.mono (Nat.zero_le _)) _⟩ ?_
  intro w5 ⟨hM5, hv5, hx5⟩
  have ka : ∀ i, w5.cell? ⟨P, i, none⟩ = (tcB p ao1 no co1 bo1 nb cb1)[i]? := hM5.cell 0 rfl
  have kb : ∀ i, w5.cell? ⟨w4.heap.size, i, none⟩ = (tcB p ao2 no co2 bo2 nb cb2)[i]? := hM5.cell 1 rfl
  have HB5 : Hid (Below w.heap.size w w5) := hM5.below
  have hh := htcp_yes hv5 hx5
  clear hM5 hv5 hx5 hv4 hb4 HM3 HV3
  go_wp2_with fail
  refine hh.mono ?_
  rintro e w6 ⟨rfl, hb6⟩
  have HB6 : Hid (Below w.heap.size w w6) := HB5.out.trans (hb6.mono HB5.out.size)
  clear hh hb6 ka kb
  go_wp2_with fail
  go_ret
  exact ⟨rfl, HB6.out⟩

/-! ### TcpBack -/
set_option maxRecDepth 20000 in
set_option maxHeartbeats 1000000 in
theorem tback_long {w : World} (q : Sg) (ao bo : Option Addr) (lo co lb cb : Nat) (h : 3000 < lb ∨ (lb ≤ 3000 ∧ 200 < lo)) :
    Calls Try.prog 4 #[.agg (tcB q ao lo co bo lb cb)] w fun e w' => e = .returned (.bool true) ∧ Below w.heap.size w w' := by
  have hk := tknown_any (w.alloc (.cells (tcB q ao lo co bo lb cb) tcT))
  rcases h with h | ⟨h1, h2⟩
  · have h' : (3000 : Int) < lb := by omega
    clear h
    go_enter Try.func4, Try.ntmps4
    go_wp2_with fail
    refine hk.mono ?_
    rintro e w2 ⟨rfl, hbel⟩
    have hM := ((Mem.nil w).push w.heap.size (.cells (tcB q ao lo co bo lb cb) tcT) rfl).after hbel
    have HM : Hid _ := hM
    have k9 : w2.cell? ⟨w.heap.size, 9, none⟩ = some (.slice bo lb cb) := hM.cell 0 rfl 9
    clear hM hbel hk
    go_wp2_with fail
    go_ret
    exact ⟨rfl, HM.out.below⟩
  · have h1' : (lb : Int) ≤ 3000 := by omega
    have h2' : (200 : Int) < lo := by omega
    clear h1 h2
    go_enter Try.func4, Try.ntmps4
    go_wp2_with fail
    refine hk.mono ?_
    rintro e w2 ⟨rfl, hbel⟩
    have hM := ((Mem.nil w).push w.heap.size (.cells (tcB q ao lo co bo lb cb) tcT) rfl).after hbel
    have HM : Hid _ := hM
    have k9 : w2.cell? ⟨w.heap.size, 9, none⟩ = some (.slice bo lb cb) := hM.cell 0 rfl 9
    have k8 : w2.cell? ⟨w.heap.size, 8, none⟩ = some (.slice ao lo co) := hM.cell 0 rfl 8
    clear hM hbel hk
    go_wp2_with fail
    go_ret
    exact ⟨rfl, HM.out.below⟩

set_option maxRecDepth 20000 in
set_option maxHeartbeats 4000000 in
theorem tback_core {w : World} (q : Sg) (hq : q.Ok) {ao bo : Option Addr} (lo co lb cb : Nat) (hlo : q.opts.length = lo) (hl : q.body.length = lb) (hv : TcV w 0 (.agg (tcB q ao lo co bo lb cb)) q) (h1 : lb ≤ 3000) (h2 : lo ≤ 200) :
    Calls Try.prog 4 #[.agg (tcB q ao lo co bo lb cb)] w fun e w' => e = .returned (.bool true) ∧ Below w.heap.size w w' := by
  have hk := tknown_any (w.alloc (.cells (tcB q ao lo co bo lb cb) tcT))
  have h1' : (lb : Int) ≤ 3000 := by omega
  have h2' : (lo : Int) ≤ 200 := by omega
  have hof := tcOut_facts hq
  obtain ⟨E, eE⟩ : ∃ E, tcbErr q = E := ⟨_, rfl⟩
  obtain ⟨L, eL⟩ : ∃ L, tcOut q = L := ⟨_, rfl⟩
  obtain ⟨nL, enL⟩ : ∃ n, L.length = n := ⟨_, rfl⟩
  have hpe : E = 0 → tcErr L = 0 := fun e => by
    rw [← eL]; unfold tcOut; rw [if_pos (eE.trans e)]; exact back_terr q ((tfits_iff q).mp (eE.trans e))
  have hpr : E = 0 → tcRes L = q := fun e => by
    rw [← eL]; unfold tcOut; rw [if_pos (eE.trans e)]; exact back_tres hq ((tfits_iff q).mp (eE.trans e))
  have hz : E ≠ 0 → nL = 0 := fun e => by
    rw [← enL, ← eL]; unfold tcOut; rw [if_neg (by rw [eE]; exact e)]; rfl
  rw [eL] at hof
  have HL : Hid (tcOut q = L ∧ tcbErr q = E ∧ L.length = nL ∧ IsBytes L ∧ L.length ≤ 65515 ∧ (E = 0 → tcErr L = 0) ∧ (E = 0 → tcRes L = q) ∧ q.Ok ∧ q.opts.length = lo ∧ q.body.length = lb ∧ (E ≠ 0 → nL = 0)) := ⟨eL, eE, enL, hof.1, hof.2, hpe, hpr, hq, hlo, hl, hz⟩
  have HV : Hid (TcV w 0 (.agg (tcB q ao lo co bo lb cb)) q) := hv
  clear hq hv h1 h2 hl hlo eE eL enL hof hpe hpr hz
  go_enter Try.func4, Try.ntmps4
  go_wp2_with fail
  refine hk.mono ?_
  rintro e w2 ⟨rfl, hbel⟩
  have hM := ((Mem.nil w).push w.heap.size (.cells (tcB q ao lo co bo lb cb) tcT) rfl).after hbel
  have HM2 : Hid (Mem w w2 [(w.heap.size, .cells (tcB q ao lo co bo lb cb) tcT)]) := hM
  have kc : ∀ i, w2.cell? ⟨w.heap.size, i, none⟩ = (tcB q ao lo co bo lb cb)[i]? := hM.cell 0 rfl
  have hb := tbytes_any HL.out.2.2.2.2.2.2.2.1 (HV.out.below hM.below (Nat.le_refl _))
  rw [HL.out.1, HL.out.2.1, HL.out.2.2.1] at hb
  clear hM hbel hk
  go_wp2_with fail
  refine hb.mono ?_
  rintro e w3 ⟨u1, rfl, hown3, hbel3⟩
  clear hb kc
  have hM := HM2.out.after hbel3
  have HM3 : Hid (Mem w w3 [(w.heap.size, .cells (tcB q ao lo co bo lb cb) tcT)]) := hM
  have kc : ∀ i, w3.cell? ⟨w.heap.size, i, none⟩ = (tcB q ao lo co bo lb cb)[i]? := hM.cell 0 rfl
  have hb := rtbytes_any HL.out.2.2.2.2.2.2.2.1 (HV.out.below hM.below (Nat.le_refl _))
  rw [HL.out.1, HL.out.2.1, HL.out.2.2.1] at hb
  have HO3 : Hid _ := hown3
  clear hM hbel3 HM2 hown3
  go_wp2_with fail
  refine hb.mono ?_
  rintro e w4 ⟨u2, rfl, hown4, hbel4⟩
  clear hb kc
  have HM4 : Hid (Mem w w4 [(w.heap.size, .cells (tcB q ao lo co bo lb cb) tcT)]) := HM3.out.after hbel4
  have hown3 := own_after HO3.out hbel4 (Nat.le_refl _)
  obtain ⟨a1, c1, rfl, hr1, hn1, hf1, hc1⟩ := own_read hown3 HL.out.2.2.1 HL.out.2.2.2.1 (by have := HL.out; omega)
  obtain ⟨a2, c2, rfl, hr2, hn2, hf2, hc2⟩ := own_read hown4 HL.out.2.2.1 HL.out.2.2.2.1 (by have := HL.out; omega)
  have hh := hbytes_yes hr1 hr2 nL nL HL.out.2.2.1 HL.out.2.2.1 c1 c2
  by_cases hE : E = 0
  · have hpa := tparse_out hr1 HL.out.2.2.1 hc1 (HL.out.2.2.2.2.2.1 hE) (HL.out.2.2.2.2.2.2.1 hE) HL.out.2.2.2.2.2.2.2.2.1 HL.out.2.2.2.2.2.2.2.2.2.1
    clear hown3 hown4 hr1 hn1 hf1 hc1 hr2 hn2 hf2 hc2 hbel4 HM3 HO3
    subst hE
    go_wp2_with fail
    refine hh.mono ?_
    rintro e w' ⟨rfl, rfl⟩
    clear hh
    go_wp2_with fail
    refine hpa.mono ?_
    rintro e w6 ⟨a6, o6, b6, d6, rfl, hv6, hb6⟩
    clear hpa
    have hM6 := HM4.out.after hb6
    go_upto_region 10 with fail
    refine wp_letter (fun W => Mem w W [(w.heap.size, .cells (tcB q ao lo co bo lb cb) tcT), (w6.heap.size, .cells (tcB q a6 lo o6 b6 lb d6) tcT)] ∧ TcV W w4.heap.size (.agg (tcB q a6 lo o6 b6 lb d6)) q) ⟨hM6.push w6.heap.size _ rfl, tcv_box hv6 _⟩ ?_
    intro w7 ⟨hM7, hv7⟩
    have ka : ∀ i, w7.cell? ⟨w.heap.size, i, none⟩ = (tcB q ao lo co bo lb cb)[i]? := hM7.cell 0 rfl
    have kb : ∀ i, w7.cell? ⟨w6.heap.size, i, none⟩ = (tcB q a6 lo o6 b6 lb d6)[i]? := hM7.cell 1 rfl
    have hhip := htcp_yes hv7 (HV.out.below hM7.below (Nat.le_refl _))
    have HB7 : Hid (Below w.heap.size w w7) := hM7.below
    clear hM6 hv6 hb6 hM7 hv7 HM4
    go_wp2_with fail
    refine hhip.mono ?_
    rintro e w8 ⟨rfl, hb8⟩
    have HB8 : Hid (Below w.heap.size w w8) := HB7.out.trans (hb8.mono HB7.out.size)
    clear hb8 hhip
    go_wp2_with fail
    go_ret
    exact ⟨rfl, HB8.out⟩
  · have hn0 := HL.out.2.2.2.2.2.2.2.2.2.2 hE
    have hE' : (E == 0) = false := by simp [hE]
    clear hown3 hown4 hr1 hn1 hf1 hc1 hr2 hn2 hf2 hc2 hbel4 HM3 HO3
    have HB4 : Hid (Below w.heap.size w w4) := HM4.out.below
    clear HM4
    subst hn0
    go_wp2_with fail
    refine hh.mono ?_
    rintro e w' ⟨rfl, rfl⟩
    clear hh
    go_wp2_with fail
    go_ret
    exact ⟨by simp, HB4.out⟩

/-! ### TcpGreat -/
def sgz (n : Nat) : Sg := ⟨0, 0, 0, 0, 0, 0, 0, 0, [], List.replicate n 0⟩
theorem sgz_ok (n : Nat) : (sgz n).Ok := ⟨by simp [sgz], by simp [sgz], by simp [sgz], by simp [sgz], by simp [sgz], by simp [sgz], by simp [sgz], by simp [sgz], bytes_nil, bytes_noughts n⟩
theorem sgz_err (n : Nat) : tcbErr (sgz n) = if 65495 < n then 23 else 0 := by
  unfold tcbErr
  have e1 : (sgz n).opts.length = 0 := rfl
  have e2 : (sgz n).body.length = n := by simp [sgz]
  rw [e1, e2, if_neg (by omega)]
  by_cases h : 65495 < n
  · rw [if_pos h, if_pos (by omega)]
  · rw [if_neg h, if_neg (by omega)]
theorem sgz_len (n : Nat) : (tcOut (sgz n)).length = if 65495 < n then 0 else 20 + n := by
  unfold tcOut
  rw [sgz_err]
  by_cases h : 65495 < n
  · rw [if_pos h, if_pos h]; rfl
  · rw [if_neg h, if_neg h, if_pos rfl, tcb_len]; simp [sgz, tlen]
theorem sgz_v (W : World) (n : Nat) (hn : n ≤ 70000) : TcV (W.alloc (.cells (madeCells #[.int .u8 0] n) 5)) 0 (.agg (tcA 0 0 0 0 0 0 0 0 (.slice none 0 0) (.slice (some ⟨W.heap.size, 0, none⟩) n n))) (sgz n) :=
  ⟨none, 0, some ⟨W.heap.size, 0, none⟩, n, by simp [sgz], row_nil _, noughts_at W n (by omega) _ rfl, fun _ => rfl, fun e => (by cases e), fun _ _ => Nat.zero_le _, fun _ _ => Nat.zero_le _⟩

set_option maxRecDepth 20000 in
set_option maxHeartbeats 2000000 in
theorem tgreat_core (w : World) (a0 : Int) (g0 : -9223372036854775808 ≤ a0) (g1 : a0 ≤ 9223372036854775807) :
    Calls Try.prog 6 #[.int .i64 a0] w fun e w' => e = .returned (.bool true) ∧ Below w.heap.size w w' := by
  have hk := tknown_any w
  have hpr := plc_range a0 5 (by omega)
  have hplace : ∀ W, Calls Try.prog 19 #[.int .i64 a0, .int .i64 5] W _ := fun W => place_any a0 5 W g0 g1 (by omega) (by omega)
  obtain ⟨P, hP⟩ : ∃ P : Nat, plc a0 5 = P := ⟨(plc a0 5).toNat, by omega⟩
  rw [hP] at hplace
  obtain ⟨n, hn⟩ : ∃ n : Nat, (65493 : Int) + P = n := ⟨65493 + P, by omega⟩
  have HEn : Hid ((65493 : Int) + P = n) := hn
  have u5 : IntKind.i64.wrap ((65493 : Int) + P) = (65493 : Int) + P := wrap64_small _ (by omega) (by omega)
  have t6 : IntKind.i64.wrap ((n : Int) + 20) = (n : Int) + 20 := wrap64_small _ (by omega) (by omega)
  have hmn := make_bytes n (by omega)
  have HO : Hid (n ≤ 70000) := (by omega : n ≤ 70000)
  clear hpr hP hn
  go_enter Try.func6, Try.ntmps6
  go_wp2_with fail
  refine hk.mono ?_
  rintro e w1 ⟨rfl, hb1⟩
  have HB1 : Hid _ := hb1
  clear hk hb1
  go_wp2_with fail
  refine (hplace _).mono ?_
  rintro e w' ⟨rfl, rfl⟩
  go_upto_region 4 with fail
  rw [HEn.out]
  go_wp2_with fail
  refine (tbytes_any (sgz_ok n) (sgz_v w1 n HO.out)).mono ?_
  rintro e w5 ⟨v5, rfl, hown5, hbel5⟩
  have HBz : Hid (Below w.heap.size w w5) := by
    have h1 := HB1.out.alloc HB1.out.size (.cells (madeCells #[.int .u8 0] n) 5)
    exact h1.trans (hbel5.mono h1.size)
  rw [sgz_len] at hown5
  obtain ⟨a, cap, rfl⟩ := own_len hown5
  rw [sgz_err]
  clear hown5 hbel5 HB1
  by_cases h : 65495 < n
  · rw [if_pos h, if_pos h]
    have h' : (65495 : Int) < n := by omega
    go_wp2_with fail
    go_ret
    exact ⟨rfl, HBz.out⟩
  · rw [if_neg h, if_neg h]
    have h' : (n : Int) ≤ 65495 := by omega
    obtain ⟨K, hK⟩ : ∃ K, K = 20 + n := ⟨_, rfl⟩
    have hK' : (K : Int) = (n : Int) + 20 := by omega
    rw [← hK]
    clear hK
    go_wp2_with fail
    go_ret
    exact ⟨by simp, HBz.out⟩
end Go.Proofs.Ytemljieghamegaa
