/-
  The walk of lychlaw3.IpBits: it answers true.
-/
import Derived.Test.YtnjejakhikonpaaIpLawBack
namespace Go.Proofs.Ytnjejakhikonpaa
open Go.RowKit
open Sm
set_option linter.unusedVariables false

theorem xor_ne (x : Int) (h0 : 0 ≤ x) (h1 : x ≤ 255) (m : Nat) (hm : m < 256) (hm0 : m ≠ 0) : bits .xor .u8 x (m : Int) ≠ x ∧ 0 ≤ bits .xor .u8 x (m : Int) ∧ bits .xor .u8 x (m : Int) ≤ 255 := by
  obtain ⟨a, rfl⟩ := Int.eq_ofNat_of_zero_le h0
  rw [u8_xor_nat a m (by omega) hm]
  have hlt : a ^^^ m < 2 ^ 8 := Nat.xor_lt_two_pow (by omega) (by omega)
  refine ⟨fun h => hm0 ?_, by omega, by omega⟩
  have h' : a ^^^ m = a := by omega
  have h2 : a ^^^ (a ^^^ m) = a ^^^ a := by rw [h']
  rw [← Nat.xor_assoc, Nat.xor_self, Nat.zero_xor] at h2
  exact h2

set_option maxRecDepth 20000 in
set_option maxHeartbeats 2000000 in
theorem bits_long {w : World} (q : Pk) (ao bo : Option Addr) (lo co lb cb : Nat) (at_ bit : Int) (h : 500 < lb ∨ 40 < lo) :
    Calls Try.prog 5 #[.agg (pkA q (.slice ao lo co) (.slice bo lb cb)), .int .i64 at_, .int .u8 bit] w fun e w' => e = .returned (.bool true) ∧ Below w.heap.size w w' := by
  have hk := known_any (w.alloc (.cells (pkA q (.slice ao lo co) (.slice bo lb cb)) ipT))
  have cs : (500 : Int) < lb ∨ ((lb : Int) ≤ 500 ∧ (40 : Int) < lo) := by omega
  clear h
  rcases cs with h1 | ⟨h1, h2⟩
  all_goals
    go_enter Try.func5, Try.ntmps5
    go_wp2_with fail
    refine hk.mono ?_
    rintro e w2 ⟨rfl, hbel⟩
    have hM := ((Mem.nil w).push w.heap.size (.cells (pkA q (.slice ao lo co) (.slice bo lb cb)) ipT) rfl).after hbel
    have HM : Hid _ := hM
    have k9 : w2.cell? ⟨w.heap.size, 9, none⟩ = some (.slice bo lb cb) := hM.cell 0 rfl 9
    have k8 : w2.cell? ⟨w.heap.size, 8, none⟩ = some (.slice ao lo co) := hM.cell 0 rfl 8
    clear hM hbel hk
    go_wp2_with fail
    go_ret
    exact ⟨rfl, HM.out.below⟩

set_option maxRecDepth 20000 in
set_option maxHeartbeats 4000000 in
theorem bits_core {w : World} (q : Pk) (hq : q.Ok) {ao bo : Option Addr} (lo co lb cb : Nat) (at_ bit : Int) (hv : IpV w 0 (.agg (pkA q (.slice ao lo co) (.slice bo lb cb))) q) (eo : q.opts.length = lo) (h1 : lb ≤ 500) (h3 : lo ≤ 40)
    (g0 : -9223372036854775808 ≤ at_) (g1 : at_ ≤ 9223372036854775807) (b0 : 0 ≤ bit) (b1 : bit ≤ 255) :
    Calls Try.prog 5 #[.agg (pkA q (.slice ao lo co) (.slice bo lb cb)), .int .i64 at_, .int .u8 bit] w fun e w' => e = .returned (.bool true) ∧ Below w.heap.size w w' := by
  have hk := known_any (w.alloc (.cells (pkA q (.slice ao lo co) (.slice bo lb cb)) ipT))
  have h1' : (lb : Int) ≤ 500 := by omega
  have h3' : (lo : Int) ≤ 40 := by omega
  have HV : Hid (IpV w 0 (.agg (pkA q (.slice ao lo co) (.slice bo lb cb))) q) := hv
  have HQ : Hid (q.Ok ∧ q.opts.length = lo ∧ lo ≤ 40) := ⟨hq, eo, h3⟩
  obtain ⟨L, eL⟩ : ∃ L, ipOut q = L := ⟨_, rfl⟩
  obtain ⟨E, eE⟩ : ∃ E, ipbErr q = E := ⟨_, rfl⟩
  obtain ⟨nL, enL⟩ : ∃ n, L.length = n := ⟨_, rfl⟩
  have hof := out_facts hq
  rw [eL] at hof
  have HL : Hid (ipOut q = L ∧ ipbErr q = E ∧ L.length = nL ∧ IsBytes L ∧ L.length ≤ 65535) := ⟨eL, eE, enL, hof.1, hof.2⟩
  have hpr := plc_range at_ ((20 : Int) + lo) (by omega)
  have hplace : ∀ W, Calls Try.prog 18 #[.int .i64 at_, .int .i64 ((20 : Int) + lo)] W _ := fun W => place_any at_ ((20 : Int) + lo) W g0 g1 (by omega) (by omega)
  obtain ⟨P, hP⟩ : ∃ P : Nat, plc at_ ((20 : Int) + lo) = P := ⟨(plc at_ ((20 : Int) + lo)).toNat, by omega⟩
  rw [hP] at hplace
  have HPn : Hid (P < 20 + lo) := by show P < 20 + lo; omega
  have v1 := wrap64_small ((20 : Int) + lo) (by omega) (by omega)
  obtain ⟨r, hr⟩ : ∃ r : Nat, bit % 8 = r := ⟨(bit % 8).toNat, by omega⟩
  have hrt : bit.tmod 8 = r := by rw [Int.tmod_eq_emod_of_nonneg b0]; exact hr
  have hr7 : r ≤ 7 := by omega
  clear hq hv eo h1 h3 eL eE enL hof hpr hP g0 g1
  go_enter Try.func5, Try.ntmps5
  go_wp2_with fail
  refine hk.mono ?_
  rintro e w2 ⟨rfl, hbel⟩
  have hM := ((Mem.nil w).push w.heap.size (.cells (pkA q (.slice ao lo co) (.slice bo lb cb)) ipT) rfl).after hbel
  have HM2 : Hid (Mem w w2 [(w.heap.size, .cells (pkA q (.slice ao lo co) (.slice bo lb cb)) ipT)]) := hM
  have kc : ∀ i, w2.cell? ⟨w.heap.size, i, none⟩ = (pkA q (.slice ao lo co) (.slice bo lb cb))[i]? := hM.cell 0 rfl
  have hb := bytes_any HQ.out.1 (HV.out.below hM.below (Nat.le_refl _))
  rw [HL.out.1, HL.out.2.1, HL.out.2.2.1] at hb
  clear hM hbel hk
  go_wp2_with fail
  refine hb.mono ?_
  rintro e w3 ⟨u1, rfl, hown3, hbel3⟩
  clear hb kc
  have hM := HM2.out.after hbel3
  have HM3 : Hid (Mem w w3 [(w.heap.size, .cells (pkA q (.slice ao lo co) (.slice bo lb cb)) ipT)]) := hM
  have HW2 : Hid (w.heap.size ≤ w2.heap.size) := HM2.out.below.size
  have HO3 : Hid _ := hown3
  clear hM hbel3 HM2 hown3
  by_cases hE : E = 0
  · subst hE
    have f : Fits q := (fits_iff q).mp HL.out.2.1
    have hLb : L = ipb q := by
      rw [← HL.out.1]; exact if_pos HL.out.2.1
    have hlen : L.length = 20 + q.opts.length + q.body.length := by rw [hLb, ipb_len]
    have hnL : 20 + lo ≤ nL := by have := HL.out.2.2.1; have := HQ.out; omega
    have hE0 := back_err HQ.out.1 f []
    have hH0 := ipb_hdl f []
    rw [List.append_nil, ← hLb] at hE0 hH0
    obtain ⟨g, c1, rfl, hg, hc1, hob⟩ := own_shape2 HO3.out HL.out.2.2.1 (by omega)
    have HEL : Hid (ipErr L = 0 ∧ hdl L = 20 + lo ∧ 20 + lo ≤ nL ∧ P < nL) := ⟨hE0, by rw [hH0, HQ.out.2.1], hnL, by have := HPn.out; omega⟩
    have HG : Hid (w2.heap.size ≤ g ∧ w.heap.size ≤ g ∧ nL ≤ c1) := ⟨hg, Nat.le_trans HW2.out hg, hc1⟩
    have kP := hob.cell P (by have := HL.out.2.2.1; have := HPn.out; omega)
    have fP := hob.free P
    have HOB : Hid (OwnB w3 w2.heap.size g c1 L) := hob
    have xr := HL.out.2.2.2.1 P
    obtain ⟨x, hx⟩ : ∃ x, L.getD P 0 = x := ⟨_, rfl⟩
    rw [hx] at kP xr
    obtain ⟨x0, x1⟩ := xr
    have HX : Hid (L.getD P 0 = x) := hx
    have kc : w3.cell? ⟨w.heap.size, 8, none⟩ = some (.slice ao lo co) := HM3.out.cell 0 rfl 8
    have iP0 : (0 : Int) ≤ P := by omega
    have iP1 : (P : Int) < nL := by have := HPn.out; omega
    have HBw : Hid (Below w.heap.size w w3) := HM3.out.below
    clear hob hg hc1 hx f hLb hlen hnL hE0 hH0 HO3
    go_wp2_with fail
    refine (hplace _).mono ?_
    rintro e w' ⟨rfl, rfl⟩
    clear hplace
    go_upto_region 9 with fail
    go_cut [] from 13 (fun wx => ∃ y, y ≠ x ∧ (0 ≤ y ∧ y ≤ 255) ∧ OwnB wx w2.heap.size g c1 (L.set P y) ∧ Below w.heap.size w wx)
    case first =>
      have key : ∀ m : Nat, m < 256 → m ≠ 0 → ∃ y, y ≠ x ∧ (0 ≤ y ∧ y ≤ 255) ∧ OwnB (w3.setCell ⟨g, P, none⟩ (.int .u8 (bits .xor .u8 x (m : Int)))) w2.heap.size g c1 (L.set P y) ∧ Below w.heap.size w (w3.setCell ⟨g, P, none⟩ (.int .u8 (bits .xor .u8 x (m : Int)))) := by
        intro m hm hm0
        obtain ⟨q1, q2⟩ := xor_ne x x0 x1 m hm hm0
        exact ⟨_, q1, q2, HOB.out.store P _, below_set HBw.out HG.out.2.1⟩
      have HK : Hid _ := key
      clear key
      have cs : r = 0 ∨ r = 1 ∨ r = 2 ∨ r = 3 ∨ r = 4 ∨ r = 5 ∨ r = 6 ∨ r = 7 := by omega
      rcases cs with rfl | rfl | rfl | rfl | rfl | rfl | rfl | rfl
      · go_wp2_with fail
        go_meet
        case rel => exact HK.out 1 (by decide) (by decide)
      · go_wp2_with fail
        go_meet
        case rel => exact HK.out 2 (by decide) (by decide)
      · go_wp2_with fail
        go_meet
        case rel => exact HK.out 4 (by decide) (by decide)
      · go_wp2_with fail
        go_meet
        case rel => exact HK.out 8 (by decide) (by decide)
      · go_wp2_with fail
        go_meet
        case rel => exact HK.out 16 (by decide) (by decide)
      · go_wp2_with fail
        go_meet
        case rel => exact HK.out 32 (by decide) (by decide)
      · go_wp2_with fail
        go_meet
        case rel => exact HK.out 64 (by decide) (by decide)
      · go_wp2_with fail
        go_meet
        case rel => exact HK.out 128 (by decide) (by decide)
    case rest =>
    obtain ⟨y, hyx, hyr, hob6, hb6⟩ := hcut
    have hl : (L.set P y).length = nL := by rw [List.length_set]; exact HL.out.2.2.1
    have hby : IsBytes (L.set P y) := by
      intro i
      rw [getD_set _ _ _ _ (by rw [HL.out.2.2.1]; exact HEL.out.2.2.2)]
      split
      · exact hyr
      · exact HL.out.2.2.2.1 i
    have hbit : P ≠ 0 → ipErr (L.set P y) ≠ 0 := fun hP0 => bit_err HL.out.2.2.2.1 HEL.out.1 P hP0 (by rw [HEL.out.2.1]; exact HPn.out) y hyr (by rw [HX.out]; exact hyx)
    have hr6 := hob6.row hby (by rw [hl]; have := HL.out; omega)
    generalize L.set P y = Z at *
    generalize wc = w6 at *
    have HB6 : Hid (Below w.heap.size w w6) := hb6
    have HR6 : Hid (Row w6 (some ⟨g, 0, none⟩) Z ∧ Z.length = nL) := ⟨hr6, hl⟩
    have HC6 : Hid (nL ≤ c1) := HG.out.2.2
    clear hb6 hr6 hl hby hob6 hyr hyx
    by_cases hz : ipErr Z = 0
    · have hP0 : P = 0 := Classical.byContradiction fun h => hbit h hz
      clear hbit
      have hE : ipErr (Z) = ipErr (Z) := rfl
      obtain ⟨E, eE⟩ : ∃ E, ipErr (Z) = E := ⟨_, rfl⟩
      obtain ⟨p, ep⟩ : ∃ p, ipRes (Z) = p := ⟨_, rfl⟩
      obtain ⟨no, eno⟩ : ∃ no, p.opts.length = no := ⟨_, rfl⟩
      obtain ⟨nb, enb⟩ : ∃ nb, p.body.length = nb := ⟨_, rfl⟩
      have HTl : Hid (Below w.heap.size w w6 ∧ Row w6 (some ⟨g, 0, none⟩) (Z) ∧ (Z).length = nL ∧ nL ≤ c1 ∧ ipErr (Z) = E ∧ ipRes (Z) = p ∧ p.opts.length = no ∧ p.body.length = nb) := ⟨HB6.out, HR6.out.1, HR6.out.2, HC6.out, eE, ep, eno, enb⟩
      have hE0 : E = 0 := by rw [← eE]; exact hz
      subst hE0
      clear hE eE ep eno enb
      have hpa := parse_out HTl.out.2.1 HTl.out.2.2.1 HTl.out.2.2.2.1 HTl.out.2.2.2.2.1 HTl.out.2.2.2.2.2.1 HTl.out.2.2.2.2.2.2.1 HTl.out.2.2.2.2.2.2.2
      go_wp2_with fail
      refine hpa.mono ?_
      rintro e wa ⟨ao1, co1, bo1, cb1, rfl, hva, hba⟩
      clear hpa
      go_upto_region 11 with fail
      refine wp_letter (fun Wx => Row Wx (some ⟨g, 0, none⟩) (Z) ∧ Mem wa Wx [(wa.heap.size, .cells (ipA p.tos p.ttl p.proto p.id p.flags p.off p.src p.dst (.slice ao1 no co1) (.slice bo1 nb cb1)) ipT)]) ⟨(HTl.out.2.1.below hba (Nat.le_refl _)).below ((Below.refl wa.heap.size wa).alloc (Nat.le_refl _) _) (Nat.le_refl _), (Mem.nil wa).push wa.heap.size _ rfl⟩ ?_
      intro wb ⟨hrb, hMb⟩
      have hpb := rip_out hrb HTl.out.2.2.1 HTl.out.2.2.2.1 HTl.out.2.2.2.2.1 HTl.out.2.2.2.2.2.1 HTl.out.2.2.2.2.2.2.1 HTl.out.2.2.2.2.2.2.2
      have HVa : Hid (IpV wa w6.heap.size (.agg (ipA p.tos p.ttl p.proto p.id p.flags p.off p.src p.dst (.slice ao1 no co1) (.slice bo1 nb cb1))) p) := hva
      have HMb : Hid _ := hMb
      have HBa : Hid (Below w.heap.size w wa) := HTl.out.1.trans (hba.mono HTl.out.1.size)
      clear hva hMb hba hrb HTl
      go_wp2_with fail
      refine hpb.mono ?_
      rintro e wd ⟨ao2, co2, bo2, cb2, rfl, hvd, hbd⟩
      clear hpb
      go_upto_region 12 with fail
      refine wp_letter (fun Wx => Mem wa Wx [(wa.heap.size, .cells (ipA p.tos p.ttl p.proto p.id p.flags p.off p.src p.dst (.slice ao1 no co1) (.slice bo1 nb cb1)) ipT), (wd.heap.size, .cells (ipA p.tos p.ttl p.proto p.id p.flags p.off p.src p.dst (.slice ao2 no co2) (.slice bo2 nb cb2)) ipT)] ∧ IpV Wx wb.heap.size (.agg (ipA p.tos p.ttl p.proto p.id p.flags p.off p.src p.dst (.slice ao2 no co2) (.slice bo2 nb cb2))) p) ⟨(HMb.out.after hbd).push wd.heap.size _ rfl, hvd.below ((Below.refl wd.heap.size wd).alloc (Nat.le_refl _) _) (Nat.le_refl _)⟩ ?_
      intro wz ⟨hMz, hvz⟩
      have kpa : ∀ i, wz.cell? ⟨wa.heap.size, i, none⟩ = (ipA p.tos p.ttl p.proto p.id p.flags p.off p.src p.dst (.slice ao1 no co1) (.slice bo1 nb cb1))[i]? := hMz.cell 0 rfl
      have kpb : ∀ i, wz.cell? ⟨wd.heap.size, i, none⟩ = (ipA p.tos p.ttl p.proto p.id p.flags p.off p.src p.dst (.slice ao2 no co2) (.slice bo2 nb cb2))[i]? := hMz.cell 1 rfl
      have hhip := hip_yes (HVa.out.below hMz.below (Nat.le_refl _)) hvz
      have HBz : Hid (Below w.heap.size w wz) := HBa.out.trans (hMz.below.mono HBa.out.size)
      clear hMz hvz hvd hbd HMb HVa HBa
      go_wp2_with fail
      refine hhip.mono ?_
      rintro e wy ⟨rfl, hby⟩
      have HBy2 : Hid (Below w.heap.size w wy) := HBz.out.trans (hby.mono HBz.out.size)
      clear hhip hby HBz kpa kpb
      go_wp2_with fail
      go_ret
      exact ⟨rfl, HBy2.out⟩
    · clear hbit
      have hE : ipErr (Z) = ipErr (Z) := rfl
      obtain ⟨E, eE⟩ : ∃ E, ipErr (Z) = E := ⟨_, rfl⟩
      obtain ⟨p, ep⟩ : ∃ p, ipRes (Z) = p := ⟨_, rfl⟩
      obtain ⟨no, eno⟩ : ∃ no, p.opts.length = no := ⟨_, rfl⟩
      obtain ⟨nb, enb⟩ : ∃ nb, p.body.length = nb := ⟨_, rfl⟩
      have HTl : Hid (Below w.heap.size w w6 ∧ Row w6 (some ⟨g, 0, none⟩) (Z) ∧ (Z).length = nL ∧ nL ≤ c1 ∧ ipErr (Z) = E ∧ ipRes (Z) = p ∧ p.opts.length = no ∧ p.body.length = nb) := ⟨HB6.out, HR6.out.1, HR6.out.2, HC6.out, eE, ep, eno, enb⟩
      have hEn : E ≠ 0 := by rw [← eE]; exact hz
      clear hE eE ep eno enb
      have hpa := parse_out HTl.out.2.1 HTl.out.2.2.1 HTl.out.2.2.2.1 HTl.out.2.2.2.2.1 HTl.out.2.2.2.2.2.1 HTl.out.2.2.2.2.2.2.1 HTl.out.2.2.2.2.2.2.2
      go_wp2_with fail
      refine hpa.mono ?_
      rintro e wa ⟨ao1, co1, bo1, cb1, rfl, hva, hba⟩
      clear hpa
      go_upto_region 11 with fail
      refine wp_letter (fun Wx => Row Wx (some ⟨g, 0, none⟩) (Z) ∧ Mem wa Wx [(wa.heap.size, .cells (ipA p.tos p.ttl p.proto p.id p.flags p.off p.src p.dst (.slice ao1 no co1) (.slice bo1 nb cb1)) ipT)]) ⟨(HTl.out.2.1.below hba (Nat.le_refl _)).below ((Below.refl wa.heap.size wa).alloc (Nat.le_refl _) _) (Nat.le_refl _), (Mem.nil wa).push wa.heap.size _ rfl⟩ ?_
      intro wb ⟨hrb, hMb⟩
      have hpb := rip_out hrb HTl.out.2.2.1 HTl.out.2.2.2.1 HTl.out.2.2.2.2.1 HTl.out.2.2.2.2.2.1 HTl.out.2.2.2.2.2.2.1 HTl.out.2.2.2.2.2.2.2
      have HVa : Hid (IpV wa w6.heap.size (.agg (ipA p.tos p.ttl p.proto p.id p.flags p.off p.src p.dst (.slice ao1 no co1) (.slice bo1 nb cb1))) p) := hva
      have HMb : Hid _ := hMb
      have HBa : Hid (Below w.heap.size w wa) := HTl.out.1.trans (hba.mono HTl.out.1.size)
      clear hva hMb hba hrb HTl
      go_wp2_with fail
      refine hpb.mono ?_
      rintro e wd ⟨ao2, co2, bo2, cb2, rfl, hvd, hbd⟩
      clear hpb
      go_upto_region 12 with fail
      refine wp_letter (fun Wx => Mem wa Wx [(wa.heap.size, .cells (ipA p.tos p.ttl p.proto p.id p.flags p.off p.src p.dst (.slice ao1 no co1) (.slice bo1 nb cb1)) ipT), (wd.heap.size, .cells (ipA p.tos p.ttl p.proto p.id p.flags p.off p.src p.dst (.slice ao2 no co2) (.slice bo2 nb cb2)) ipT)] ∧ IpV Wx wb.heap.size (.agg (ipA p.tos p.ttl p.proto p.id p.flags p.off p.src p.dst (.slice ao2 no co2) (.slice bo2 nb cb2))) p) ⟨(HMb.out.after hbd).push wd.heap.size _ rfl, hvd.below ((Below.refl wd.heap.size wd).alloc (Nat.le_refl _) _) (Nat.le_refl _)⟩ ?_
      intro wz ⟨hMz, hvz⟩
      have kpa : ∀ i, wz.cell? ⟨wa.heap.size, i, none⟩ = (ipA p.tos p.ttl p.proto p.id p.flags p.off p.src p.dst (.slice ao1 no co1) (.slice bo1 nb cb1))[i]? := hMz.cell 0 rfl
      have kpb : ∀ i, wz.cell? ⟨wd.heap.size, i, none⟩ = (ipA p.tos p.ttl p.proto p.id p.flags p.off p.src p.dst (.slice ao2 no co2) (.slice bo2 nb cb2))[i]? := hMz.cell 1 rfl
      have hhip := hip_yes (HVa.out.below hMz.below (Nat.le_refl _)) hvz
      have HBz : Hid (Below w.heap.size w wz) := HBa.out.trans (hMz.below.mono HBa.out.size)
      clear hMz hvz hvd hbd HMb HVa HBa
      go_wp2_with fail
      refine hhip.mono ?_
      rintro e wy ⟨rfl, hby⟩
      have HBy2 : Hid (Below w.heap.size w wy) := HBz.out.trans (hby.mono HBz.out.size)
      clear hhip hby HBz kpa kpb
      go_wp2_with fail
      go_ret
      exact ⟨rfl, HBy2.out⟩
  · go_wp2_with fail
    go_ret
    exact ⟨rfl, HM3.out.below⟩
end Go.Proofs.Ytnjejakhikonpaa
