/-
  The walk of lychlaw8.RewriteLooks: it answers true.
-/
import Derived.Test.YtjalpbkfpjfigaaGreatM40
import Derived.Test.YtjalpbkfpjfigaaGreatM25
import Derived.Test.YtjalpbkfpjfigaaGreatM38
import Derived.Test.YtjalpbkfpjfigaaGreatM36
import Derived.Test.YtjalpbkfpjfigaaGreatM20
namespace Go.Proofs.YtjalpbkfpjfigaaGreat
open Go.RowKit
open Sm
set_option linter.unusedVariables false
set_option maxRecDepth 20000

theorem rLook_any {w : World} {a : Option Addr} {n c : Nat} {l : List Int} (hr : Row w a l) (hn : l.length = n) (hc : n ≤ c) :
    Calls Tryz.prog 16 #[.slice a n c] w fun e w' => RlV w w' l e := by
  by_cases h0 : ipErr l = 0
  · exact rlook_yes hr hn hc h0
  · exact rlook_no hr hn hc h0
/-- The document's Look, in the program's words. -/
theorem rLook_lk {w : World} {a : Option Addr} {n c : Nat} {l : List Int} (hr : Row w a l) (hn : l.length = n) (hc : n ≤ c) :
    Calls Tryz.prog 16 #[.slice a n c] w fun e w' => ∃ ao bo ia co cb ic, e = .returned (.tuple #[.agg (ipB (lkPk l) (.slice ao (lkPk l).opts.length co) (.slice bo (lkPk l).body.length cb)), .agg (flB (lkFl l) (.slice ia (lkFl l).inner.length ic)), .int .i64 (lkErr l)]) ∧
      IpV w' w.heap.size (.agg (ipB (lkPk l) (.slice ao (lkPk l).opts.length co) (.slice bo (lkPk l).body.length cb))) (lkPk l) ∧ PtsV w' w.heap.size (.slice ia (lkFl l).inner.length ic) (lkFl l).inner ∧ Below w.heap.size w w' := by
  refine (rLook_any hr hn hc).mono ?_
  rintro e w' (⟨h0, rfl, hb⟩ | ⟨h0, ao, bo, ia, co, cb, ic, rfl, hv, -, hp, hb⟩)
  · have e1 : lkPk l = Pk.zero := if_neg h0
    have e2 : lkFl l = Fl.zero := if_neg h0
    rw [e1, e2]
    exact ⟨none, none, none, 0, 0, 0, rfl, ipv_zero w' _, Or.inl ⟨rfl, rfl⟩, hb⟩
  · have e1 : lkPk l = ipPk l := if_pos h0
    have e2 : lkFl l = flFl (ipPk l) := if_pos h0
    rw [e1, e2, h0]
    exact ⟨ao, bo, ia, co, cb, ic, rfl, hv, hp, hb⟩

set_option maxHeartbeats 2000000 in
theorem same_flow {w : World} {C D : Nat} (f : Fl) {ia ja : Option Addr} {ni ic jc : Nat} (h1 : PtsV w C (.slice ia ni ic) f.inner) (h2 : PtsV w D (.slice ja ni jc) f.inner) :
    Calls Tryz.prog 18 #[.agg (flB f (.slice ia ni ic)), .agg (flB f (.slice ja ni jc))] w fun e w' => e = .returned (.bool true) ∧ Below w.heap.size w w' := by
  have hM : Mem w ((w.alloc (.cells (flB f (.slice ia ni ic)) flT)).alloc (.cells (flB f (.slice ja ni jc)) rfT)) [(w.heap.size, .cells (flB f (.slice ia ni ic)) flT), (w.heap.size + 1, .cells (flB f (.slice ja ni jc)) rfT)] := ((Mem.nil w).push1 rfl).push2 (by simp)
  have hp := hpoints_yes (h1.below hM.below (Nat.le_refl _)) (h2.below hM.below (Nat.le_refl _))
  have HB : Hid (Below w.heap.size w ((w.alloc (.cells (flB f (.slice ia ni ic)) flT)).alloc (.cells (flB f (.slice ja ni jc)) rfT))) := hM.below
  have e1 := pt_eq f.src.ip f.src.port f.src.ip f.src.port
  have e2 := pt_eq f.dst.ip f.dst.port f.dst.ip f.dst.port
  simp only [BEq.rfl, Bool.and_self] at e1 e2
  clear hM h1 h2
  go_enter Tryz.func18, Tryz.ntmps18
  go_wp2_with fail
  refine hp.mono ?_
  rintro e w2 ⟨rfl, hb2⟩
  have HB2 : Hid (Below w.heap.size w w2) := HB.out.trans (hb2.mono HB.out.size)
  clear hp hb2 e1 e2
  go_wp2_with fail
  go_ret
  exact ⟨rfl, HB2.out⟩

set_option maxHeartbeats 4000000 in
theorem looks_any {w : World} {a : Option Addr} {n c : Nat} {l : List Int} (hr : Row w a l) (hn : l.length = n) (hc : n ≤ c) :
    Calls Tryz.prog 7 #[.slice a n c] w fun e w' => e = .returned (.bool true) ∧ Below w.heap.size w w' := by
  have hL := Look_any hr hn hc
  have HR2 : Hid (∀ W, Below w.heap.size w W → Calls Tryz.prog 16 #[.slice a n c] W _) := fun W hb => rLook_lk (hr.below hb (Nat.le_refl _)) hn hc
  clear hr hn hc
  generalize lkErr l = E at *
  generalize lkPk l = p at *
  generalize lkFl l = f at *
  generalize p.opts.length = no at *
  generalize p.body.length = nb at *
  generalize f.inner.length = ni at *
  go_enter Tryz.func7, Tryz.ntmps7
  go_wp2_with fail
  refine hL.mono ?_
  rintro e w1 ⟨ao, bo, ia, co, cb, ic, rfl, hv1, hp1, hb1⟩
  have hM1 := (Mem.nil w).after hb1
  have HV1 : Hid (IpV w1 w.heap.size (.agg (ipB p (.slice ao no co) (.slice bo nb cb))) p ∧ PtsV w1 w.heap.size (.slice ia ni ic) f.inner) := ⟨hv1, hp1⟩
  clear hL hb1 hv1 hp1
  go_upto_region 2 with fail
  refine wp_letter (fun W => Mem w W [(w1.heap.size, .cells (ipB p (.slice ao no co) (.slice bo nb cb)) ipT), (w1.heap.size + 1, .cells (flB f (.slice ia ni ic)) flT)] ∧ IpV W 0 (.agg (ipB p (.slice ao no co) (.slice bo nb cb))) p ∧ PtsV W 0 (.slice ia ni ic) f.inner) ⟨(hM1.push1 rfl).push2 (by simp), ((HV1.out.1.below ((Below.refl _ _).alloc (Nat.le_refl _) _) (Nat.le_refl _)).below ((Below.refl _ _).alloc (Nat.le_refl _) _) (Nat.le_refl _)).mono (Nat.zero_le _), ((HV1.out.2.below ((Below.refl _ _).alloc (Nat.le_refl _) _) (Nat.le_refl _)).below ((Below.refl _ _).alloc (Nat.le_refl _) _) (Nat.le_refl _)).mono (Nat.zero_le _)⟩ ?_
  intro w2 ⟨hM2, hv2⟩
  have HM2 : Hid _ := hM2
  have HV2 : Hid (IpV w2 0 (.agg (ipB p (.slice ao no co) (.slice bo nb cb))) p ∧ PtsV w2 0 (.slice ia ni ic) f.inner) := hv2
  have hL := HR2.out w2 hM2.below
  clear hM1 HV1 hM2 hv2 HR2
  generalize w1.heap.size = G at *
  go_wp2_with fail
  refine Calls.mono hL ?_
  rintro e w3 ⟨ao2, bo2, ia2, co2, cb2, ic2, rfl, hv3, hp3, hb3⟩
  have hM3 := HM2.out.after hb3
  have HV3 : Hid (IpV w3 0 (.agg (ipB p (.slice ao no co) (.slice bo nb cb))) p ∧ PtsV w3 0 (.slice ia ni ic) f.inner ∧ IpV w3 0 (.agg (ipB p (.slice ao2 no co2) (.slice bo2 nb cb2))) p ∧ PtsV w3 0 (.slice ia2 ni ic2) f.inner) := ⟨HV2.out.1.below hb3 (Nat.le_refl _), HV2.out.2.below hb3 (Nat.le_refl _), hv3.mono (Nat.zero_le _), hp3.mono (Nat.zero_le _)⟩
  clear hL hb3 hv3 hp3 HM2 HV2
  go_upto_region 3 with fail
  refine wp_letter (fun W => Mem w W [(G, .cells (ipB p (.slice ao no co) (.slice bo nb cb)) ipT), (G + 1, .cells (flB f (.slice ia ni ic)) flT), (w3.heap.size, .cells (ipB p (.slice ao2 no co2) (.slice bo2 nb cb2)) ipT), (w3.heap.size + 1, .cells (flB f (.slice ia2 ni ic2)) rfT)] ∧ (IpV W 0 (.agg (ipB p (.slice ao no co) (.slice bo nb cb))) p ∧ PtsV W 0 (.slice ia ni ic) f.inner ∧ IpV W 0 (.agg (ipB p (.slice ao2 no co2) (.slice bo2 nb cb2))) p ∧ PtsV W 0 (.slice ia2 ni ic2) f.inner)) ⟨(hM3.push3 rfl).push4 (by simp), (HV3.out.1.below ((Below.refl _ _).alloc (Nat.le_refl _) _) (Nat.le_refl _)).below ((Below.refl _ _).alloc (Nat.le_refl _) _) (Nat.le_refl _), (HV3.out.2.1.below ((Below.refl _ _).alloc (Nat.le_refl _) _) (Nat.le_refl _)).below ((Below.refl _ _).alloc (Nat.le_refl _) _) (Nat.le_refl _), (HV3.out.2.2.1.below ((Below.refl _ _).alloc (Nat.le_refl _) _) (Nat.le_refl _)).below ((Below.refl _ _).alloc (Nat.le_refl _) _) (Nat.le_refl _), (HV3.out.2.2.2.below ((Below.refl _ _).alloc (Nat.le_refl _) _) (Nat.le_refl _)).below ((Below.refl _ _).alloc (Nat.le_refl _) _) (Nat.le_refl _)⟩ ?_
  intro w4 ⟨hM4, hv4⟩
  have HM4 : Hid _ := hM4
  have HV4 : Hid (PtsV w4 0 (.slice ia ni ic) f.inner ∧ PtsV w4 0 (.slice ia2 ni ic2) f.inner) := ⟨hv4.2.1, hv4.2.2.2⟩
  have hI := hip_yes hv4.1 hv4.2.2.1
  clear hM3 HV3 hv4
  generalize w3.heap.size = H at *
  have k1 : ∀ i, w4.cell? ⟨G, i, none⟩ = (ipB p (.slice ao no co) (.slice bo nb cb))[i]? := hM4.cell 0 rfl
  have k2 : ∀ i, w4.cell? ⟨H, i, none⟩ = (ipB p (.slice ao2 no co2) (.slice bo2 nb cb2))[i]? := hM4.cell 2 rfl
  clear hM4
  go_wp2_with fail
  refine hI.mono ?_
  rintro e w5 ⟨rfl, hb5⟩
  have hM5 := HM4.out.after hb5
  have HB5 : Hid (Below w.heap.size w w5) := hM5.below
  have hS := same_flow f (HV4.out.1.below hb5 (Nat.le_refl _)) (HV4.out.2.below hb5 (Nat.le_refl _))
  clear hI hb5 k1 k2 HM4 HV4
  have k1 : ∀ i, w5.cell? ⟨G + 1, i, none⟩ = (flB f (.slice ia ni ic))[i]? := hM5.cell 1 rfl
  have k2 : ∀ i, w5.cell? ⟨H + 1, i, none⟩ = (flB f (.slice ia2 ni ic2))[i]? := hM5.cell 3 rfl
  clear hM5
  go_wp2_with fail
  refine hS.mono ?_
  rintro e w6 ⟨rfl, hb6⟩
  have HB6 : Hid (Below w.heap.size w w6) := HB5.out.trans (hb6.mono HB5.out.size)
  clear hS hb6 k1 k2
  go_wp2_with fail
  go_ret
  exact ⟨rfl, HB6.out⟩

set_option maxHeartbeats 2000000 in
theorem rlooks_long {w : World} (a : Option Addr) (n c : Nat) (P : Pa) (side k : Int) (h : 2000 < n) :
    Calls Tryz.prog 3 #[.slice a n c, .agg (paB P), .int .u8 side, .int .u8 k] w fun e w' => e = .returned (.bool true) ∧ Below w.heap.size w w' := by
  have hk := rknown_any (w.alloc (.cells (paB P) paT))
  have h1 : (2000 : Int) < n := by omega
  have HB : Hid (Below w.heap.size w (w.alloc (.cells (paB P) paT))) := (Below.refl _ _).alloc (Nat.le_refl _) _
  clear h
  go_enter Tryz.func3, Tryz.ntmps3
  go_wp2_with fail
  refine hk.mono ?_
  rintro e w2 ⟨rfl, hbel⟩
  have HB2 : Hid (Below w.heap.size w w2) := HB.out.trans (hbel.mono HB.out.size)
  clear hk hbel
  go_wp2_with fail
  go_ret
  exact ⟨rfl, HB2.out⟩

set_option maxHeartbeats 4000000 in
theorem rlooks_core {w : World} {a : Option Addr} {n c : Nat} {l : List Int} (hr : Row w a l) (hn : l.length = n) (hc : n ≤ c) (h1 : n ≤ 2000) (P : Pa) (hP : P.Ok) (side k : Int) (s0 : 0 ≤ side) (s1 : side ≤ 255) (k0 : 0 ≤ k) (k1 : k ≤ 255) :
    Calls Tryz.prog 3 #[.slice a n c, .agg (paB P), .int .u8 side, .int .u8 k] w fun e w' => e = .returned (.bool true) ∧ Below w.heap.size w w' := by
  have hk := rknown_any (w.alloc (.cells (paB P) paT))
  have h1' : (n : Int) ≤ 2000 := by omega
  have hst : side.tmod 2 = side % 2 := Int.tmod_eq_emod_of_nonneg s0
  have hsw := wrap64_small (side % 2) (by omega) (by omega)
  have hkt : k.tmod 4 = k % 4 := Int.tmod_eq_emod_of_nonneg k0
  have hkw := wrap64_small (k % 4) (by omega) (by omega)
  have HS : Hid ((side % 2 = 0 ∨ side % 2 = 1) ∧ (0 ≤ k % 4 ∧ k % 4 ≤ 255)) := ⟨by omega, by omega⟩
  have HR : Hid (∀ W, Below w.heap.size w W → Row W a l) := fun W hb => hr.below hb (Nat.le_refl _)
  have HN : Hid (l.length = n ∧ n ≤ c ∧ P.Ok) := ⟨hn, hc, hP⟩
  have HM1 : Hid (Mem w (w.alloc (.cells (paB P) paT)) [(w.heap.size, .cells (paB P) paT)]) := (Mem.nil w).push1 rfl
  clear hr hn hc h1 hP
  generalize side % 2 = sd at *
  generalize k % 4 = kk at *
  go_enter Tryz.func3, Tryz.ntmps3
  go_wp2_with fail
  refine hk.mono ?_
  rintro e w2 ⟨rfl, hbel⟩
  have HM2 : Hid (Mem w w2 [(w.heap.size, .cells (paB P) paT)]) := HM1.out.after hbel
  have hL := looks_any (HR.out w2 HM2.out.below) HN.out.1 HN.out.2.1
  clear hk hbel HM1
  go_wp2_with fail
  refine hL.mono ?_
  rintro e w3 ⟨rfl, hb3⟩
  have HM3 : Hid (Mem w w3 [(w.heap.size, .cells (paB P) paT)]) := HM2.out.after hb3
  have kc : ∀ i, w3.cell? ⟨w.heap.size, i, none⟩ = (paB P)[i]? := HM3.out.cell 0 rfl
  have hPk := packet_any w3 P HN.out.2.2 sd kk HS.out.1 HS.out.2
  have hpf := pktb_facts HN.out.2.2 (side := sd) (k := kk) HS.out.2
  obtain ⟨B, hB⟩ : ∃ B, pktb P sd kk = B := ⟨_, rfl⟩
  obtain ⟨nB, hnB⟩ : ∃ n, B.length = n := ⟨_, rfl⟩
  rw [hB] at hPk hpf
  rw [hnB] at hPk
  have HB : Hid (B.length = nB ∧ IsBytes B ∧ B.length ≤ 65535) := ⟨hnB, hpf⟩
  clear hL hb3 HM2 hB hnB hpf
  go_wp2_with fail
  refine hPk.mono ?_
  rintro e w4 ⟨u, rfl, ho, hb4⟩
  have HB4 : Hid (Below w.heap.size w w4) := (HM3.out.after hb4).below
  obtain ⟨a4, c4, rfl, hr4, -, -, hc4⟩ := own_read ho HB.out.1 HB.out.2.1 (by have := HB.out; omega)
  have hL := looks_any hr4 HB.out.1 hc4
  clear hPk ho hb4 kc HM3 hr4 hc4
  go_wp2_with fail
  refine hL.mono ?_
  rintro e w5 ⟨rfl, hb5⟩
  have HB5 : Hid (Below w.heap.size w w5) := HB4.out.trans (hb5.mono HB4.out.size)
  clear hL hb5
  go_wp2_with fail
  go_ret
  exact ⟨rfl, HB5.out⟩
end Go.Proofs.YtjalpbkfpjfigaaGreat

