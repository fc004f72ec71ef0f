/-
  The walk of lychlaw3.IpReads: it answers true.
-/
import Derived.Test.YtnjejakhikonpaaIpKnown
namespace Go.Proofs.Ytnjejakhikonpaa
open Go.RowKit
open Sm
set_option linter.unusedVariables false

set_option maxHeartbeats 400000 in
theorem first_any {w : World} {a : Option Addr} {l : List Int} (h : Row w a l) (n c : Nat) (hn : l.length = n) :
    Calls Try.prog 10 #[.slice a n c] w fun e w' => e = .returned (.int .u8 (l.getD 0 0)) ∧ w = w' := by
  by_cases h0 : n = 0
  · subst h0
    obtain rfl : l = [] := List.eq_nil_of_length_eq_zero hn
    go_enter Try.func10, Try.ntmps10
    go_wp2
    go_ret
    exact ⟨rfl, rfl⟩
  · have hne : l ≠ [] := by rintro rfl; simp at hn; omega
    obtain ⟨b, off, rfl, -⟩ : ∃ b off, a = some ⟨b, off, none⟩ ∧ ∀ i, i < l.length → w.cell? ⟨b, off + i, none⟩ = some (.int .u8 (l.getD i 0)) := by
      rcases h.cells with e | e
      · exact absurd e hne
      · exact e
    have c0 : w.cell? ⟨b, off, none⟩ = some (.int .u8 (l.getD 0 0)) := h.cellAt 0 (by omega)
    generalize l.getD 0 0 = x at *
    have n0 : 0 < n := by omega
    clear h hn hne
    go_enter Try.func10, Try.ntmps10
    go_wp2
    go_ret
    exact ⟨rfl, rfl⟩

set_option maxRecDepth 20000 in
set_option maxHeartbeats 1000000 in
theorem reads_long {w : World} (a : Option Addr) (n c : Nat) (right : Bool) (h : 3000 < n) :
    Calls Try.prog 3 #[.slice a n c, .bool right] w fun e w' => e = .returned (.bool true) ∧ Below w.heap.size w w' := by
  have h' : (3000 : Int) < n := by omega
  have hk := known_any w
  clear h
  go_enter Try.func3, Try.ntmps3
  go_wp2_with fail
  refine hk.mono ?_
  rintro e w1 ⟨rfl, hb⟩
  go_wp2_with fail
  go_ret
  exact ⟨rfl, hb⟩

set_option maxRecDepth 20000 in
set_option maxHeartbeats 4000000 in
theorem reads_core {w : World} {a : Option Addr} {l : List Int} (hr : Row w a l) (n c : Nat) (hn : l.length = n) (hnil : a = none → c = 0) (h3 : n ≤ 3000) (right : Bool) :
    Calls Try.prog 3 #[.slice a n c, .bool right] w fun e w' => e = .returned (.bool true) ∧ Below w.heap.size w w' := by
  have h3' : (n : Int) ≤ 3000 := by omega
  have hk := known_any w
  have HR : Hid (Row w a l ∧ l.length = n ∧ (a = none → c = 0) ∧ n ≤ 3000) := ⟨hr, hn, hnil, h3⟩
  clear hr hn hnil h3
  go_enter Try.func3, Try.ntmps3
  go_wp2_with fail
  refine hk.mono ?_
  rintro e w1 ⟨rfl, hb1⟩
  have HB1 : Hid _ := hb1
  clear hk hb1
  go_wp2_with (at_builtin; refine wpList_append_more _ rfl _ (.tmp 16) rfl w1.heap.size (.slice none 0 0) 0 [] rfl (World.ownsRow_nil _ _ _ _) a c n l rfl HR.out.2.1 HR.out.2.2.1 (HR.out.1.below HB1.out (Nat.le_refl _)) (by have := HR.out; omega) (Nat.le_refl _) ?_; intro v2 w2 hown2 hbel2)
  rw [Nat.zero_add, List.nil_append] at hown2
  have hby := HR.out.1.bytes
  obtain ⟨ao, cap, rfl, hrow, hnl, hfar, hcap⟩ := own_read hown2 HR.out.2.1 hby HR.out.1.len
  have hB2 : Below w.heap.size w w2 := HB1.out.trans (hbel2.mono HB1.out.size)
  have hfi := first_any hrow n cap HR.out.2.1
  obtain ⟨x0, hx0⟩ : ∃ x0, l.getD 0 0 = x0 := ⟨_, rfl⟩
  have r0 := hby 0
  rw [hx0] at hfi r0
  have hand := sm_low4 x0 r0.1 r0.2
  obtain ⟨k, hk⟩ : ∃ k : Nat, x0 % 16 = k := ⟨(x0 % 16).toNat, by omega⟩
  rw [hk] at hand
  have v3 := wrap64_small (k : Int) (by omega) (by omega)
  have v4 := wrap64_small (4 * (k : Int)) (by omega) (by omega)
  obtain ⟨m, hm⟩ : ∃ m : Nat, 4 * (k : Int) = m := ⟨4 * k, by omega⟩
  have hm60 : m ≤ 60 := by omega
  have HE1 : Hid (4 * (k : Int) = m) := hm
  have HRW : Hid (Row w2 ao l ∧ l.length = n) := ⟨hrow, HR.out.2.1⟩
  have HCW : Hid (n ≤ cap) := hcap
  have HBW : Hid (Below w.heap.size w w2) := hB2
  have HOW : Hid (w2.ownsRow w1.heap.size 5 1 (.slice ao n cap) n (l.map (Value.int .u8)) ∧ w.heap.size ≤ w1.heap.size) := ⟨hown2, HB1.out.size⟩
  have HBY : Hid (IsBytes l ∧ m ≤ 60 ∧ n ≤ 3000) := ⟨hby, hm60, HR.out.2.2.2⟩
  clear hown2 hrow hnl hfar hcap hB2 hbel2 HB1 HR hx0 r0 hm hby hk
  go_wp2_with fail
  refine hfi.mono ?_
  rintro e w' ⟨rfl, rfl⟩
  clear hfi
  go_upto_region 7 with fail
  rw [HE1.out]
  clear hand v3 v4 HE1
  by_cases hC : right = true ∧ 20 ≤ n ∧ m ≤ n ∧ 20 ≤ m
  · obtain ⟨rfl, c1, c2, c3⟩ := hC
    obtain ⟨g, cap', hvs, hg, -, hob⟩ := own_shape2 HOW.out.1 HRW.out.2 (by omega)
    simp only [Value.slice.injEq, true_and] at hvs
    obtain ⟨rfl, rfl⟩ := hvs
    have hgw : w.heap.size ≤ g := Nat.le_trans HOW.out.2 hg
    have k10 := hob.cell 10 (by rw [HRW.out.2]; omega)
    have k11 := hob.cell 11 (by rw [HRW.out.2]; omega)
    have f10 := hob.free 10
    have f11 := hob.free 11
    have hob3 := (hob.store 10 0).store 11 0
    have hbw3 : Below w.heap.size w ((w2.setCell ⟨g, 10, none⟩ (.int .u8 0)).setCell ⟨g, 11, none⟩ (.int .u8 0)) := below_set (below_set HBW.out hgw) hgw
    have hby3 : IsBytes ((l.set 10 0).set 11 0) := setw_bytes HBY.out.1 5 0 0 (by rw [HRW.out.2]; omega) (by omega) (by omega)
    have hl3 : ((l.set 10 0).set 11 0).length = n := by simp [HRW.out.2]
    generalize (l.set 10 0).set 11 0 = Z1 at *
    have HOB3 : Hid (OwnB ((w2.setCell ⟨g, 10, none⟩ (.int .u8 0)).setCell ⟨g, 11, none⟩ (.int .u8 0)) w1.heap.size g cap Z1 ∧ Below w.heap.size w ((w2.setCell ⟨g, 10, none⟩ (.int .u8 0)).setCell ⟨g, 11, none⟩ (.int .u8 0))) := ⟨hob3, hbw3⟩
    have HZ1 : Hid (IsBytes Z1 ∧ Z1.length = n) := ⟨hby3, hl3⟩
    have HG : Hid (w1.heap.size ≤ g ∧ w.heap.size ≤ g ∧ 20 ≤ n ∧ m ≤ n ∧ 20 ≤ m) := ⟨hg, hgw, c1, c2, c3⟩
    have c1' : (20 : Int) ≤ n := by omega
    have c2' : (m : Int) ≤ n := by omega
    have c3' : (20 : Int) ≤ m := by omega
    have c4' : (m : Int) ≤ cap := by have := HCW.out; omega
    have c10 : (10 : Int) < n := by omega
    have c11 : (11 : Int) < n := by omega
    clear hob hob3 hbw3 hby3 hl3 hg hgw c1 c2 c3 HOW HBW
    go_upto_region 9 with fail
    refine wp_letter (fun W => OwnB W w1.heap.size g cap Z1 ∧ Below w.heap.size w W) HOB3.out ?_
    intro w3 ⟨hob4, hb4⟩
    have HO4 : Hid _ := hob4
    have HB4 : Hid _ := hb4
    have hof : Calls Try.prog 11 #[.slice (some ⟨g, 0, none⟩) m cap] w3 fun e w' => e = .returned (.int .u16 (ofv (Z1.take m))) ∧ Below w3.heap.size w3 w' := by
      have q := HG.out
      have hl : (Z1.take m).length = m := by rw [List.length_take, HZ1.out.2]; omega
      have hr3 := (hob4.row HZ1.out.1 (by rw [HZ1.out.2]; have := HBY.out; omega)).part 0 m (by rw [HZ1.out.2]; omega)
      rw [List.drop_zero] at hr3
      have := rof_any hr3 (by rw [hl]; have := HBY.out; omega) cap
      rw [hl] at this
      exact this
    have cr := ofv_range (Z1.take m)
    generalize ofv (Z1.take m) = C at *
    obtain ⟨cr0, cr1⟩ := cr
    have u1 : IntKind.u8.wrap (C / 256) = C / 256 := wrap8_small _ (by omega) (by omega)
    have u2 : IntKind.u8.wrap C = C % 256 := by simp [IntKind.wrap, IntKind.bits, IntKind.signed]
    clear hob4 hb4 HOB3 k10 k11 f10 f11
    go_wp2_with fail
    refine hof.mono ?_
    rintro e w4 ⟨rfl, hbe4⟩
    have hob5 : OwnB w4 w1.heap.size g cap Z1 := own_after HO4.out hbe4 (Nat.le_refl _)
    have k10 := hob5.cell 10 (by rw [HZ1.out.2]; have := HG.out; omega)
    have k11 := hob5.cell 11 (by rw [HZ1.out.2]; have := HG.out; omega)
    have f10 := hob5.free 10
    have f11 := hob5.free 11
    have HO6 : Hid (OwnB ((w4.setCell ⟨g, 10, none⟩ (.int .u8 (C / 256))).setCell ⟨g, 11, none⟩ (.int .u8 (C % 256))) w1.heap.size g cap ((Z1.set 10 (C / 256)).set 11 (C % 256))) := (hob5.store 10 (C / 256)).store 11 (C % 256)
    have HB6 : Hid (Below w.heap.size w ((w4.setCell ⟨g, 10, none⟩ (.int .u8 (C / 256))).setCell ⟨g, 11, none⟩ (.int .u8 (C % 256)))) := below_set (below_set (HB4.out.trans (hbe4.mono HB4.out.size)) HG.out.2.1) HG.out.2.1
    have HZ2 : Hid (IsBytes ((Z1.set 10 (C / 256)).set 11 (C % 256)) ∧ ((Z1.set 10 (C / 256)).set 11 (C % 256)).length = n) := ⟨setw_bytes HZ1.out.1 5 _ _ (by rw [HZ1.out.2]; have := HG.out; omega) (by omega) (by omega), by simp [HZ1.out.2]⟩
    generalize (Z1.set 10 (C / 256)).set 11 (C % 256) = Z2 at *
    clear hob5 hbe4 hof HO4 HB4
    go_upto_region 11 with fail
    refine wp_letter (fun W => Row W (some ⟨g, 0, none⟩) Z2 ∧ Below w.heap.size w W) ⟨HO6.out.row HZ2.out.1 (by rw [HZ2.out.2]; have := HBY.out; omega), HB6.out⟩ ?_
    intro w5 ⟨hr5, hb5⟩
    have HR5 : Hid (Row w5 (some ⟨g, 0, none⟩) Z2 ∧ Z2.length = n) := ⟨hr5, HZ2.out.2⟩
    have HBW5 : Hid (Below w.heap.size w w5) := hb5
    clear hr5 hb5 HO6 HB6 k10 k11 f10 f11
    have hE : ipErr (Z2) = ipErr (Z2) := rfl
    obtain ⟨E, eE⟩ : ∃ E, ipErr (Z2) = E := ⟨_, rfl⟩
    obtain ⟨p, ep⟩ : ∃ p, ipRes (Z2) = p := ⟨_, rfl⟩
    obtain ⟨no, eno⟩ : ∃ no, p.opts.length = no := ⟨_, rfl⟩
    obtain ⟨nb, enb⟩ : ∃ nb, p.body.length = nb := ⟨_, rfl⟩
    have HTl : Hid (Below w.heap.size w w5 ∧ Row w5 (some ⟨g, 0, none⟩) (Z2) ∧ (Z2).length = n ∧ n ≤ cap ∧ ipErr (Z2) = E ∧ ipRes (Z2) = p ∧ p.opts.length = no ∧ p.body.length = nb) := ⟨HBW5.out, HR5.out.1, HR5.out.2, HCW.out, eE, ep, eno, enb⟩
    clear hE eE ep eno enb
    have hpa := parse_out HTl.out.2.1 HTl.out.2.2.1 HTl.out.2.2.2.1 HTl.out.2.2.2.2.1 HTl.out.2.2.2.2.2.1 HTl.out.2.2.2.2.2.2.1 HTl.out.2.2.2.2.2.2.2
    go_wp2_with fail
    refine hpa.mono ?_
    rintro e wa ⟨ao1, co1, bo1, cb1, rfl, hva, hba⟩
    clear hpa
    go_upto_region 12 with fail
    refine wp_letter (fun Wx => Row Wx (some ⟨g, 0, none⟩) (Z2) ∧ Mem wa Wx [(wa.heap.size, .cells (ipA p.tos p.ttl p.proto p.id p.flags p.off p.src p.dst (.slice ao1 no co1) (.slice bo1 nb cb1)) ipT)]) ⟨(HTl.out.2.1.below hba (Nat.le_refl _)).below ((Below.refl wa.heap.size wa).alloc (Nat.le_refl _) _) (Nat.le_refl _), (Mem.nil wa).push wa.heap.size _ rfl⟩ ?_
    intro wb ⟨hrb, hMb⟩
    have hpb := rip_out hrb HTl.out.2.2.1 HTl.out.2.2.2.1 HTl.out.2.2.2.2.1 HTl.out.2.2.2.2.2.1 HTl.out.2.2.2.2.2.2.1 HTl.out.2.2.2.2.2.2.2
    have HVa : Hid (IpV wa w5.heap.size (.agg (ipA p.tos p.ttl p.proto p.id p.flags p.off p.src p.dst (.slice ao1 no co1) (.slice bo1 nb cb1))) p) := hva
    have HMb : Hid _ := hMb
    have HBa : Hid (Below w.heap.size w wa) := HTl.out.1.trans (hba.mono HTl.out.1.size)
    clear hva hMb hba hrb HTl
    go_wp2_with fail
    refine hpb.mono ?_
    rintro e wd ⟨ao2, co2, bo2, cb2, rfl, hvd, hbd⟩
    clear hpb
    go_upto_region 13 with fail
    refine wp_letter (fun Wx => Mem wa Wx [(wa.heap.size, .cells (ipA p.tos p.ttl p.proto p.id p.flags p.off p.src p.dst (.slice ao1 no co1) (.slice bo1 nb cb1)) ipT), (wd.heap.size, .cells (ipA p.tos p.ttl p.proto p.id p.flags p.off p.src p.dst (.slice ao2 no co2) (.slice bo2 nb cb2)) ipT)] ∧ IpV Wx wb.heap.size (.agg (ipA p.tos p.ttl p.proto p.id p.flags p.off p.src p.dst (.slice ao2 no co2) (.slice bo2 nb cb2))) p) ⟨(HMb.out.after hbd).push wd.heap.size _ rfl, hvd.below ((Below.refl wd.heap.size wd).alloc (Nat.le_refl _) _) (Nat.le_refl _)⟩ ?_
    intro wz ⟨hMz, hvz⟩
    have kpa : ∀ i, wz.cell? ⟨wa.heap.size, i, none⟩ = (ipA p.tos p.ttl p.proto p.id p.flags p.off p.src p.dst (.slice ao1 no co1) (.slice bo1 nb cb1))[i]? := hMz.cell 0 rfl
    have kpb : ∀ i, wz.cell? ⟨wd.heap.size, i, none⟩ = (ipA p.tos p.ttl p.proto p.id p.flags p.off p.src p.dst (.slice ao2 no co2) (.slice bo2 nb cb2))[i]? := hMz.cell 1 rfl
    have hhip := hip_yes (HVa.out.below hMz.below (Nat.le_refl _)) hvz
    have HBz : Hid (Below w.heap.size w wz) := HBa.out.trans (hMz.below.mono HBa.out.size)
    clear hMz hvz hvd hbd HMb HVa HBa
    go_wp2_with fail
    refine hhip.mono ?_
    rintro e wy ⟨rfl, hby⟩
    have HBy2 : Hid (Below w.heap.size w wy) := HBz.out.trans (hby.mono HBz.out.size)
    clear hhip hby HBz kpa kpb
    go_wp2_with fail
    go_ret
    exact ⟨rfl, HBy2.out⟩
  · have cs : right = false ∨ (right = true ∧ (n : Int) < 20) ∨ (right = true ∧ (20 : Int) ≤ n ∧ (n : Int) < m) ∨ (right = true ∧ (20 : Int) ≤ n ∧ (m : Int) ≤ n ∧ (m : Int) < 20) := by
      cases right
      · exact Or.inl rfl
      · simp only [true_and] at hC
        right
        simp only [true_and]
        omega
    clear hC
    rcases cs with rfl | ⟨rfl, h2⟩ | ⟨rfl, h2, h3⟩ | ⟨rfl, h2, h3, h4⟩
    all_goals
      have hE : ipErr (l) = ipErr (l) := rfl
      obtain ⟨E, eE⟩ : ∃ E, ipErr (l) = E := ⟨_, rfl⟩
      obtain ⟨p, ep⟩ : ∃ p, ipRes (l) = p := ⟨_, rfl⟩
      obtain ⟨no, eno⟩ : ∃ no, p.opts.length = no := ⟨_, rfl⟩
      obtain ⟨nb, enb⟩ : ∃ nb, p.body.length = nb := ⟨_, rfl⟩
      have HTl : Hid (Below w.heap.size w w2 ∧ Row w2 ao (l) ∧ (l).length = n ∧ n ≤ cap ∧ ipErr (l) = E ∧ ipRes (l) = p ∧ p.opts.length = no ∧ p.body.length = nb) := ⟨HBW.out, HRW.out.1, HRW.out.2, HCW.out, eE, ep, eno, enb⟩
      clear hE eE ep eno enb
      have hpa := parse_out HTl.out.2.1 HTl.out.2.2.1 HTl.out.2.2.2.1 HTl.out.2.2.2.2.1 HTl.out.2.2.2.2.2.1 HTl.out.2.2.2.2.2.2.1 HTl.out.2.2.2.2.2.2.2
      go_wp2_with fail
      refine hpa.mono ?_
      rintro e wa ⟨ao1, co1, bo1, cb1, rfl, hva, hba⟩
      clear hpa
      go_upto_region 12 with fail
      refine wp_letter (fun Wx => Row Wx ao (l) ∧ Mem wa Wx [(wa.heap.size, .cells (ipA p.tos p.ttl p.proto p.id p.flags p.off p.src p.dst (.slice ao1 no co1) (.slice bo1 nb cb1)) ipT)]) ⟨(HTl.out.2.1.below hba (Nat.le_refl _)).below ((Below.refl wa.heap.size wa).alloc (Nat.le_refl _) _) (Nat.le_refl _), (Mem.nil wa).push wa.heap.size _ rfl⟩ ?_
      intro wb ⟨hrb, hMb⟩
      have hpb := rip_out hrb HTl.out.2.2.1 HTl.out.2.2.2.1 HTl.out.2.2.2.2.1 HTl.out.2.2.2.2.2.1 HTl.out.2.2.2.2.2.2.1 HTl.out.2.2.2.2.2.2.2
      have HVa : Hid (IpV wa w2.heap.size (.agg (ipA p.tos p.ttl p.proto p.id p.flags p.off p.src p.dst (.slice ao1 no co1) (.slice bo1 nb cb1))) p) := hva
      have HMb : Hid _ := hMb
      have HBa : Hid (Below w.heap.size w wa) := HTl.out.1.trans (hba.mono HTl.out.1.size)
      clear hva hMb hba hrb HTl
      go_wp2_with fail
      refine hpb.mono ?_
      rintro e wd ⟨ao2, co2, bo2, cb2, rfl, hvd, hbd⟩
      clear hpb
      go_upto_region 13 with fail
      refine wp_letter (fun Wx => Mem wa Wx [(wa.heap.size, .cells (ipA p.tos p.ttl p.proto p.id p.flags p.off p.src p.dst (.slice ao1 no co1) (.slice bo1 nb cb1)) ipT), (wd.heap.size, .cells (ipA p.tos p.ttl p.proto p.id p.flags p.off p.src p.dst (.slice ao2 no co2) (.slice bo2 nb cb2)) ipT)] ∧ IpV Wx wb.heap.size (.agg (ipA p.tos p.ttl p.proto p.id p.flags p.off p.src p.dst (.slice ao2 no co2) (.slice bo2 nb cb2))) p) ⟨(HMb.out.after hbd).push wd.heap.size _ rfl, hvd.below ((Below.refl wd.heap.size wd).alloc (Nat.le_refl _) _) (Nat.le_refl _)⟩ ?_
      intro wz ⟨hMz, hvz⟩
      have kpa : ∀ i, wz.cell? ⟨wa.heap.size, i, none⟩ = (ipA p.tos p.ttl p.proto p.id p.flags p.off p.src p.dst (.slice ao1 no co1) (.slice bo1 nb cb1))[i]? := hMz.cell 0 rfl
      have kpb : ∀ i, wz.cell? ⟨wd.heap.size, i, none⟩ = (ipA p.tos p.ttl p.proto p.id p.flags p.off p.src p.dst (.slice ao2 no co2) (.slice bo2 nb cb2))[i]? := hMz.cell 1 rfl
      have hhip := hip_yes (HVa.out.below hMz.below (Nat.le_refl _)) hvz
      have HBz : Hid (Below w.heap.size w wz) := HBa.out.trans (hMz.below.mono HBa.out.size)
      clear hMz hvz hvd hbd HMb HVa HBa
      go_wp2_with fail
      refine hhip.mono ?_
      rintro e wy ⟨rfl, hby⟩
      have HBy2 : Hid (Below w.heap.size w wy) := HBz.out.trans (hby.mono HBz.out.size)
      clear hhip hby HBz kpa kpb
      go_wp2_with fail
      go_ret
      exact ⟨rfl, HBy2.out⟩
end Go.Proofs.Ytnjejakhikonpaa
