/-
  The walk of lychlaw3.IpHeads: it answers true.
-/
import Derived.Test.YtnjejakhikonpaaIpKnown
namespace Go.Proofs.Ytnjejakhikonpaa
open Go.RowKit
open Sm
set_option linter.unusedVariables false

theorem fold_set_bytes (xs : List (Nat × Int)) (l : List Int) (hl : IsBytes l) (h : ∀ q ∈ xs, 0 ≤ q.2 ∧ q.2 ≤ 255) : IsBytes (xs.foldl (fun l q => l.set q.1 q.2) l) := by
  induction xs generalizing l with
  | nil => exact hl
  | cons q xs ih =>
    rw [List.foldl_cons]
    refine ih _ ?_ (fun r hr => h r (List.mem_cons_of_mem _ hr))
    have hq := h q (List.mem_cons_self ..)
    intro i
    by_cases hi : q.1 < l.length
    · rw [getD_set _ _ _ _ hi]; split
      · exact hq
      · exact hl i
    · rw [List.set_eq_of_length_le (by omega)]; exact hl i
theorem blz_bytes (n : Nat) (xs : List (Nat × Int)) (h : ∀ q ∈ xs, 0 ≤ q.2 ∧ q.2 ≤ 255) : IsBytes (blz n xs) := fold_set_bytes xs _ (bytes_noughts n) h

set_option maxRecDepth 20000 in
set_option maxHeartbeats 4000000 in
theorem heads_core (w : World) (x y nn : Int) (x0 : 0 ≤ x) (x1 : x ≤ 255) (y0 : 0 ≤ y) (y1 : y ≤ 65535) (n0 : 0 ≤ nn) (n1 : nn ≤ 255) :
    Calls Try.prog 8 #[.int .u8 x, .int .u16 y, .int .u8 nn] w fun e w' => e = .returned (.bool true) ∧ Below w.heap.size w w' := by
  have hk := known_any w
  obtain ⟨r, hr⟩ : ∃ r : Nat, nn % 80 = r := ⟨(nn % 80).toNat, by omega⟩
  have hrt : nn.tmod 80 = r := by rw [Int.tmod_eq_emod_of_nonneg n0]; exact hr
  obtain ⟨N, hN⟩ : ∃ N : Nat, (r : Int) + 20 = N := ⟨r + 20, by omega⟩
  have N20 : 20 ≤ N := by omega
  have N100 : N ≤ 100 := by omega
  have hmk : ∀ W : World, (Instr.makeSlice 22 (.int .i64 ((r : Int) + 20)) (.int .i64 ((r : Int) + 20))).run Try.prog W = .ok (.slice (some ⟨W.heap.size, 0, none⟩) N N) (W.alloc (.cells (madeCells #[.int .u8 0] N) 5)) := by
    rw [hN]; exact make_bytes N (by omega)
  have u0 : IntKind.u8.wrap (r : Int) = r := wrap8_small _ (by omega) (by omega)
  have u1 : IntKind.i64.wrap (r : Int) = r := wrap64_small _ (by omega) (by omega)
  have u2 : IntKind.i64.wrap ((r : Int) + 20) = (r : Int) + 20 := wrap64_small _ (by omega) (by omega)
  have u3 : IntKind.u8.wrap (y / 256) = y / 256 := wrap8_small _ (by omega) (by omega)
  have yt : y.tmod 100 = y % 100 := Int.tmod_eq_emod_of_nonneg y0
  have u4 : IntKind.u16.wrap (y % 100) = y % 100 := wrap16_small _ (by omega) (by omega)
  have u5 : IntKind.u8.wrap (y % 100) = y % 100 := wrap8_small _ (by omega) (by omega)
  have hand := sm_low4 x x0 x1
  obtain ⟨k, hkk⟩ : ∃ k : Nat, x % 16 = k := ⟨(x % 16).toNat, by omega⟩
  rw [hkk] at hand
  have v3 := wrap64_small (k : Int) (by omega) (by omega)
  have v4 := wrap64_small (4 * (k : Int)) (by omega) (by omega)
  obtain ⟨m, hm⟩ : ∃ m : Nat, 4 * (k : Int) = m := ⟨4 * k, by omega⟩
  have hm60 : m ≤ 60 := by omega
  have HE1 : Hid (4 * (k : Int) = m) := hm
  have HNN : Hid (20 ≤ N ∧ N ≤ 100 ∧ m ≤ 60 ∧ 0 ≤ x ∧ x ≤ 255 ∧ 0 ≤ y ∧ y ≤ 65535) := ⟨N20, N100, hm60, x0, x1, y0, y1⟩
  have i0 : 0 < N := by omega
  have i2 : (2 : Int) < N := by omega
  have i3 : (3 : Int) < N := by omega
  clear hN N20 N100 hm hm60 hkk
  go_enter Try.func8, Try.ntmps8
  go_wp2_with fail
  refine hk.mono ?_
  rintro e w1 ⟨rfl, hb1⟩
  have HB1 : Hid _ := hb1
  clear hk hb1
  go_upto_region 4 with fail
  refine wp_letter (fun W => Mem w1 W [(w1.heap.size, .cells (bs (blz N [])) 5 (0, 0))]) (by rw [show blz N [] = List.replicate N 0 from rfl, ← bs_made]; exact (Mem.nil w1).push w1.heap.size _ rfl) ?_
  intro w2 hM2
  obtain ⟨z0, k0⟩ := hM2.spot 0 rfl 0 (by have := HNN.out; omega)
  obtain ⟨z2, k2⟩ := hM2.spot 0 rfl 2 (by have := HNN.out; omega)
  obtain ⟨z3, k3⟩ := hM2.spot 0 rfl 3 (by have := HNN.out; omega)
  have kf : ∀ i, w2.frozen? ⟨w1.heap.size, i, none⟩ = false := hM2.free 0 rfl
  have HM2 : Hid _ := hM2
  clear hM2
  go_upto_region 5 with fail
  refine wp_letter (fun W => Mem w1 W [(w1.heap.size, .cells (bs (blz N [(0, x), (2, y / 256), (3, y % 100)])) 5 (0, 0))]) (((HM2.out.put 0 rfl 0 x).put 0 rfl 2 (y / 256)).put 0 rfl 3 (y % 100)) ?_
  intro w3 hM3
  have hby : IsBytes (blz N [(0, x), (2, y / 256), (3, y % 100)]) := blz_bytes _ _ (by
    have q := HNN.out
    intro p hp
    simp only [List.mem_cons, List.not_mem_nil, or_false] at hp
    rcases hp with rfl | rfl | rfl <;> simp only <;> omega)
  have hlen : (blz N [(0, x), (2, y / 256), (3, y % 100)]).length = N := blz_len _ _
  generalize blz N [(0, x), (2, y / 256), (3, y % 100)] = Z at *
  have HZ : Hid (Below w.heap.size w w3 ∧ Row w3 (some ⟨w1.heap.size, 0, none⟩) Z ∧ IsBytes Z ∧ Z.length = N ∧ w.heap.size ≤ w1.heap.size) := ⟨HB1.out.trans (hM3.below.mono HB1.out.size), hM3.own 0 rfl hby (by rw [hlen]; have := HNN.out; omega), hby, hlen, HB1.out.size⟩
  have HM3 : Hid (Mem w1 w3 [(w1.heap.size, .cells (bs Z) 5 (0, 0))]) := hM3
  clear hM3 hby hlen HM2 k0 k2 k3 kf
  generalize hg : w1.heap.size = g at *
  clear hg
  go_upto_region 6 with fail
  rw [HE1.out]
  clear hand v3 v4 HE1
  by_cases hC : 20 ≤ m ∧ m ≤ N
  · obtain ⟨c1, c2⟩ := hC
    have c1' : (20 : Int) ≤ m := by omega
    have c2' : (m : Int) ≤ N := by omega
    have HG : Hid (20 ≤ m ∧ m ≤ N) := ⟨c1, c2⟩
    have c10 : (10 : Int) < N := by omega
    have c11 : (11 : Int) < N := by omega
    have hof : Calls Try.prog 11 #[.slice (some ⟨g, 0, none⟩) m N] w3 fun e w' => e = .returned (.int .u16 (ofv (Z.take m))) ∧ Below w3.heap.size w3 w' := by
      have hl : (Z.take m).length = m := by rw [List.length_take, HZ.out.2.2.2.1]; omega
      have hr3 := HZ.out.2.1.part 0 m (by rw [HZ.out.2.2.2.1]; omega)
      rw [List.drop_zero] at hr3
      have := rof_any hr3 (by rw [hl]; have := HNN.out; omega) N
      rw [hl] at this
      exact this
    have cr := ofv_range (Z.take m)
    generalize ofv (Z.take m) = C at *
    obtain ⟨cr0, cr1⟩ := cr
    have u6 : IntKind.u8.wrap (C / 256) = C / 256 := wrap8_small _ (by omega) (by omega)
    have u7 : IntKind.u8.wrap C = C % 256 := by simp [IntKind.wrap, IntKind.bits, IntKind.signed]
    clear c1 c2
    go_wp2_with fail
    refine hof.mono ?_
    rintro e w4 ⟨rfl, hbe4⟩
    have hM4 := HM3.out.after hbe4
    have k10 := (hM4.cell 0 rfl 10).trans (bs_get (by rw [HZ.out.2.2.2.1]; have := HNN.out; omega))
    have k11 := (hM4.cell 0 rfl 11).trans (bs_get (by rw [HZ.out.2.2.2.1]; have := HNN.out; omega))
    have kf : ∀ i, w4.frozen? ⟨g, i, none⟩ = false := hM4.free 0 rfl
    have hM5 := (hM4.set 0 rfl 10 (.int .u8 (C / 256))).set 0 rfl 11 (.int .u8 (C % 256))
    rw [bs_set, bs_set] at hM5
    have HM5 : Hid (Mem w1 ((w4.setCell ⟨g, 10, none⟩ (.int .u8 (C / 256))).setCell ⟨g, 11, none⟩ (.int .u8 (C % 256))) [(g, .cells (bs ((Z.set 10 (C / 256)).set 11 (C % 256))) 5 (0, 0))]) := hM5
    have HZ2 : Hid (IsBytes ((Z.set 10 (C / 256)).set 11 (C % 256)) ∧ ((Z.set 10 (C / 256)).set 11 (C % 256)).length = N) := ⟨setw_bytes HZ.out.2.2.1 5 _ _ (by rw [HZ.out.2.2.2.1]; have := HNN.out; omega) (by omega) (by omega), by simp [HZ.out.2.2.2.1]⟩
    generalize (Z.set 10 (C / 256)).set 11 (C % 256) = Z2 at *
    clear hM4 hM5 hbe4 hof HM3
    go_upto_region 9 with fail
    refine wp_letter (fun W => Row W (some ⟨g, 0, none⟩) Z2 ∧ Below w.heap.size w W) ⟨HM5.out.own 0 rfl HZ2.out.1 (by rw [HZ2.out.2]; have := HNN.out; omega), HB1.out.trans (HM5.out.below.mono HB1.out.size)⟩ ?_
    intro w5 ⟨hr5, hb5⟩
    have HR5 : Hid (Row w5 (some ⟨g, 0, none⟩) Z2 ∧ Z2.length = N) := ⟨hr5, HZ2.out.2⟩
    have HBW5 : Hid (Below w.heap.size w w5) := hb5
    clear hr5 hb5 HM5 k10 k11 kf
    have hE : ipErr (Z2) = ipErr (Z2) := rfl
    obtain ⟨E, eE⟩ : ∃ E, ipErr (Z2) = E := ⟨_, rfl⟩
    obtain ⟨p, ep⟩ : ∃ p, ipRes (Z2) = p := ⟨_, rfl⟩
    obtain ⟨no, eno⟩ : ∃ no, p.opts.length = no := ⟨_, rfl⟩
    obtain ⟨nb, enb⟩ : ∃ nb, p.body.length = nb := ⟨_, rfl⟩
    have HTl : Hid (Below w.heap.size w w5 ∧ Row w5 (some ⟨g, 0, none⟩) (Z2) ∧ (Z2).length = N ∧ N ≤ N ∧ ipErr (Z2) = E ∧ ipRes (Z2) = p ∧ p.opts.length = no ∧ p.body.length = nb) := ⟨HBW5.out, HR5.out.1, HR5.out.2, (Nat.le_refl N), eE, ep, eno, enb⟩
    clear hE eE ep eno enb
    have hpa := parse_out HTl.out.2.1 HTl.out.2.2.1 HTl.out.2.2.2.1 HTl.out.2.2.2.2.1 HTl.out.2.2.2.2.2.1 HTl.out.2.2.2.2.2.2.1 HTl.out.2.2.2.2.2.2.2
    go_wp2_with fail
    refine hpa.mono ?_
    rintro e wa ⟨ao1, co1, bo1, cb1, rfl, hva, hba⟩
    clear hpa
    go_upto_region 10 with fail
    refine wp_letter (fun Wx => Row Wx (some ⟨g, 0, none⟩) (Z2) ∧ Mem wa Wx [(wa.heap.size, .cells (ipA p.tos p.ttl p.proto p.id p.flags p.off p.src p.dst (.slice ao1 no co1) (.slice bo1 nb cb1)) ipT)]) ⟨(HTl.out.2.1.below hba (Nat.le_refl _)).below ((Below.refl wa.heap.size wa).alloc (Nat.le_refl _) _) (Nat.le_refl _), (Mem.nil wa).push wa.heap.size _ rfl⟩ ?_
    intro wb ⟨hrb, hMb⟩
    have hpb := rip_out hrb HTl.out.2.2.1 HTl.out.2.2.2.1 HTl.out.2.2.2.2.1 HTl.out.2.2.2.2.2.1 HTl.out.2.2.2.2.2.2.1 HTl.out.2.2.2.2.2.2.2
    have HVa : Hid (IpV wa w5.heap.size (.agg (ipA p.tos p.ttl p.proto p.id p.flags p.off p.src p.dst (.slice ao1 no co1) (.slice bo1 nb cb1))) p) := hva
    have HMb : Hid _ := hMb
    have HBa : Hid (Below w.heap.size w wa) := HTl.out.1.trans (hba.mono HTl.out.1.size)
    clear hva hMb hba hrb HTl
    go_wp2_with fail
    refine hpb.mono ?_
    rintro e wd ⟨ao2, co2, bo2, cb2, rfl, hvd, hbd⟩
    clear hpb
    go_upto_region 11 with fail
    refine wp_letter (fun Wx => Mem wa Wx [(wa.heap.size, .cells (ipA p.tos p.ttl p.proto p.id p.flags p.off p.src p.dst (.slice ao1 no co1) (.slice bo1 nb cb1)) ipT), (wd.heap.size, .cells (ipA p.tos p.ttl p.proto p.id p.flags p.off p.src p.dst (.slice ao2 no co2) (.slice bo2 nb cb2)) ipT)] ∧ IpV Wx wb.heap.size (.agg (ipA p.tos p.ttl p.proto p.id p.flags p.off p.src p.dst (.slice ao2 no co2) (.slice bo2 nb cb2))) p) ⟨(HMb.out.after hbd).push wd.heap.size _ rfl, hvd.below ((Below.refl wd.heap.size wd).alloc (Nat.le_refl _) _) (Nat.le_refl _)⟩ ?_
    intro wz ⟨hMz, hvz⟩
    have kpa : ∀ i, wz.cell? ⟨wa.heap.size, i, none⟩ = (ipA p.tos p.ttl p.proto p.id p.flags p.off p.src p.dst (.slice ao1 no co1) (.slice bo1 nb cb1))[i]? := hMz.cell 0 rfl
    have kpb : ∀ i, wz.cell? ⟨wd.heap.size, i, none⟩ = (ipA p.tos p.ttl p.proto p.id p.flags p.off p.src p.dst (.slice ao2 no co2) (.slice bo2 nb cb2))[i]? := hMz.cell 1 rfl
    have hhip := hip_yes (HVa.out.below hMz.below (Nat.le_refl _)) hvz
    have HBz : Hid (Below w.heap.size w wz) := HBa.out.trans (hMz.below.mono HBa.out.size)
    clear hMz hvz hvd hbd HMb HVa HBa
    go_wp2_with fail
    refine hhip.mono ?_
    rintro e wy ⟨rfl, hby⟩
    have HBy2 : Hid (Below w.heap.size w wy) := HBz.out.trans (hby.mono HBz.out.size)
    clear hhip hby HBz kpa kpb
    go_wp2_with fail
    go_ret
    exact ⟨rfl, HBy2.out⟩
  · have cs : (m : Int) < 20 ∨ ((20 : Int) ≤ m ∧ (N : Int) < m) := by omega
    clear hC
    rcases cs with c1 | ⟨c1, c2⟩
    all_goals
      have hE : ipErr (Z) = ipErr (Z) := rfl
      obtain ⟨E, eE⟩ : ∃ E, ipErr (Z) = E := ⟨_, rfl⟩
      obtain ⟨p, ep⟩ : ∃ p, ipRes (Z) = p := ⟨_, rfl⟩
      obtain ⟨no, eno⟩ : ∃ no, p.opts.length = no := ⟨_, rfl⟩
      obtain ⟨nb, enb⟩ : ∃ nb, p.body.length = nb := ⟨_, rfl⟩
      have HTl : Hid (Below w.heap.size w w3 ∧ Row w3 (some ⟨g, 0, none⟩) (Z) ∧ (Z).length = N ∧ N ≤ N ∧ ipErr (Z) = E ∧ ipRes (Z) = p ∧ p.opts.length = no ∧ p.body.length = nb) := ⟨HZ.out.1, HZ.out.2.1, HZ.out.2.2.2.1, (Nat.le_refl N), eE, ep, eno, enb⟩
      clear hE eE ep eno enb
      have hpa := parse_out HTl.out.2.1 HTl.out.2.2.1 HTl.out.2.2.2.1 HTl.out.2.2.2.2.1 HTl.out.2.2.2.2.2.1 HTl.out.2.2.2.2.2.2.1 HTl.out.2.2.2.2.2.2.2
      go_wp2_with fail
      refine hpa.mono ?_
      rintro e wa ⟨ao1, co1, bo1, cb1, rfl, hva, hba⟩
      clear hpa
      go_upto_region 10 with fail
      refine wp_letter (fun Wx => Row Wx (some ⟨g, 0, none⟩) (Z) ∧ Mem wa Wx [(wa.heap.size, .cells (ipA p.tos p.ttl p.proto p.id p.flags p.off p.src p.dst (.slice ao1 no co1) (.slice bo1 nb cb1)) ipT)]) ⟨(HTl.out.2.1.below hba (Nat.le_refl _)).below ((Below.refl wa.heap.size wa).alloc (Nat.le_refl _) _) (Nat.le_refl _), (Mem.nil wa).push wa.heap.size _ rfl⟩ ?_
      intro wb ⟨hrb, hMb⟩
      have hpb := rip_out hrb HTl.out.2.2.1 HTl.out.2.2.2.1 HTl.out.2.2.2.2.1 HTl.out.2.2.2.2.2.1 HTl.out.2.2.2.2.2.2.1 HTl.out.2.2.2.2.2.2.2
      have HVa : Hid (IpV wa w3.heap.size (.agg (ipA p.tos p.ttl p.proto p.id p.flags p.off p.src p.dst (.slice ao1 no co1) (.slice bo1 nb cb1))) p) := hva
      have HMb : Hid _ := hMb
      have HBa : Hid (Below w.heap.size w wa) := HTl.out.1.trans (hba.mono HTl.out.1.size)
      clear hva hMb hba hrb HTl
      go_wp2_with fail
      refine hpb.mono ?_
      rintro e wd ⟨ao2, co2, bo2, cb2, rfl, hvd, hbd⟩
      clear hpb
      go_upto_region 11 with fail
      refine wp_letter (fun Wx => Mem wa Wx [(wa.heap.size, .cells (ipA p.tos p.ttl p.proto p.id p.flags p.off p.src p.dst (.slice ao1 no co1) (.slice bo1 nb cb1)) ipT), (wd.heap.size, .cells (ipA p.tos p.ttl p.proto p.id p.flags p.off p.src p.dst (.slice ao2 no co2) (.slice bo2 nb cb2)) ipT)] ∧ IpV Wx wb.heap.size (.agg (ipA p.tos p.ttl p.proto p.id p.flags p.off p.src p.dst (.slice ao2 no co2) (.slice bo2 nb cb2))) p) ⟨(HMb.out.after hbd).push wd.heap.size _ rfl, hvd.below ((Below.refl wd.heap.size wd).alloc (Nat.le_refl _) _) (Nat.le_refl _)⟩ ?_
      intro wz ⟨hMz, hvz⟩
      have kpa : ∀ i, wz.cell? ⟨wa.heap.size, i, none⟩ = (ipA p.tos p.ttl p.proto p.id p.flags p.off p.src p.dst (.slice ao1 no co1) (.slice bo1 nb cb1))[i]? := hMz.cell 0 rfl
      have kpb : ∀ i, wz.cell? ⟨wd.heap.size, i, none⟩ = (ipA p.tos p.ttl p.proto p.id p.flags p.off p.src p.dst (.slice ao2 no co2) (.slice bo2 nb cb2))[i]? := hMz.cell 1 rfl
      have hhip := hip_yes (HVa.out.below hMz.below (Nat.le_refl _)) hvz
      have HBz : Hid (Below w.heap.size w wz) := HBa.out.trans (hMz.below.mono HBa.out.size)
      clear hMz hvz hvd hbd HMb HVa HBa
      go_wp2_with fail
      refine hhip.mono ?_
      rintro e wy ⟨rfl, hby⟩
      have HBy2 : Hid (Below w.heap.size w wy) := HBz.out.trans (hby.mono HBz.out.size)
      clear hhip hby HBz kpa kpb
      go_wp2_with fail
      go_ret
      exact ⟨rfl, HBy2.out⟩
end Go.Proofs.Ytnjejakhikonpaa
