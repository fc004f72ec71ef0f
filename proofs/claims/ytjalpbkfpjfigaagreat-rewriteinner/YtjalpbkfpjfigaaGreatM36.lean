/-
  lychlaw8.known answers true.
  A packet that was read fits, and with one hop less too: what the document's own leaves unasked.
-/
import Derived.Test.YtjalpbkfpjfigaaGreatM35
namespace Go.Proofs.YtjalpbkfpjfigaaGreat
open Go.RowKit
open Sm
set_option linter.unusedVariables false
set_option maxRecDepth 20000

theorem pt_eq1 (w : World) : (Op.equalIn 10000 ptT (.agg #[.int .u32 1, .int .u16 9]) (.agg #[.int .u32 1, .int .u16 9])).run Tryz.prog w = .ok true w := by kernel_rfl
theorem pt_eq2 (w : World) : (Op.equalIn 10000 ptT (.agg #[.int .u32 2, .int .u16 9]) (.agg #[.int .u32 2, .int .u16 9])).run Tryz.prog w = .ok true w := by kernel_rfl
theorem kl_bytes : IsBytes kl := by
  unfold kl
  repeat (first | exact bytes_nil | refine bytes_cons ⟨by decide, by decide⟩ ?_)
theorem kp_ok : kp1.Ok ∧ kp2.Ok := ⟨⟨by decide, by decide⟩, ⟨by decide, by decide⟩⟩

/-- Look's answer, its packet and flow as letters, in two boxes. -/
abbrev lkB (p : Pk) (ao bo : Option Addr) (no co nb cb : Nat) : Array Value := ipB p (.slice ao no co) (.slice bo nb cb)
theorem look_box {w : World} {a : Option Addr} {n c : Nat} {l : List Int} (hr : Row w a l) (hn : l.length = n) (hc : n ≤ c) {E : Int} (hE : lkErr l = E) :
    Calls Tryz.prog 14 #[.slice a n c] w fun e w' => ∃ p ao bo no co nb cb ia ni ic, e = .returned (.tuple #[.agg (lkB p ao bo no co nb cb), .agg (flB (lkFl l) (.slice ia ni ic)), .int .i64 E]) ∧ Below w.heap.size w w' := by
  refine (Look_any hr hn hc).mono ?_
  rintro e w' ⟨ao, bo, ia, co, cb, ic, rfl, -, -, hb⟩
  rw [hE]
  exact ⟨_, ao, bo, _, co, _, cb, ia, _, ic, rfl, hb⟩

set_option maxHeartbeats 4000000 in
theorem rknown_any (w : World) : Calls Tryz.prog 6 #[] w fun e w' => e = .returned (.bool true) ∧ Below w.heap.size w w' := by
  have hK := kpacket w
  have q1 := pt_eq1
  have q2 := pt_eq2
  go_enter Tryz.func6, Tryz.ntmps6
  go_wp2_with fail
  refine hK.mono ?_
  rintro e w1 ⟨u, rfl, hown, hb1⟩
  obtain ⟨a, ca, hu, hrow1, -, -, hca⟩ := own_read hown kl_len kl_bytes (by decide)
  subst hu
  have HR1 : Hid (Row w1 a kl) := hrow1
  have HC : Hid (28 ≤ ca) := hca
  have hM1 : Mem w w1 [] := (Mem.nil w).after hb1
  have HM1 : Hid _ := hM1
  have hL := look_box hrow1 kl_len hca kl_look
  clear hK hown hb1 hrow1 hca hM1
  go_wp2_with fail
  refine hL.mono ?_
  rintro e w2 ⟨p1, ao1, bo1, no1, co1, nb1, cb1, ia1, ni1, ic1, rfl, hb2⟩
  have hM2 := HM1.out.after hb2
  have HR2 : Hid (Row w2 a kl) := HR1.out.below hb2 (Nat.le_refl _)
  clear hL hb2 HM1 HR1
  have hF1 : Hid ((lkFl kl).src.port = 1000) := kl_port
  generalize lkFl kl = F1 at *
  go_upto_region 3 with fail
  refine wp_letter (fun W => Mem w W [(w2.heap.size, .cells (lkB p1 ao1 bo1 no1 co1 nb1 cb1) ipT), (w2.heap.size + 1, .cells (flB F1 (.slice ia1 ni1 ic1)) flT)] ∧ Row W a kl) ⟨(hM2.push1 rfl).push2 (g := w2.heap.size + 1) (by simp), row_alloc (row_alloc HR2.out)⟩ ?_
  intro w3 ⟨hM3, hrow3⟩
  have HM3 : Hid _ := hM3
  have HR3 : Hid (Row w3 a kl) := hrow3
  have hCh := change_any hrow3 kl_len HC.out kp1 kp2 kp_ok.1 kp_ok.2
  rw [kc_err, show chOut kl kp1 kp2 = kc from rfl, kc_len] at hCh
  clear hM2 HR2 hM3 hrow3
  generalize w2.heap.size = G1 at *
  go_wp2_with fail
  refine hCh.mono ?_
  rintro e w4 ⟨u, rfl, hown, hb4⟩
  have hcb : IsBytes kc := (chOut_bytes kl_bytes kp_ok.1 kp_ok.2).1
  obtain ⟨b, cbb, hu, hrow4, -, -, hcc⟩ := own_read hown kc_len hcb (by rw [kc_len]; decide)
  subst hu
  have hM4 := HM3.out.after hb4
  have HM4 : Hid _ := hM4
  have HR4 : Hid (Row w4 a kl) := HR3.out.below hb4 (Nat.le_refl _)
  have hL := look_box hrow4 kc_len hcc kc_look
  clear hCh hown hb4 hcb hrow4 hcc hM4 HM3 HR3
  go_wp2_with fail
  refine hL.mono ?_
  rintro e w5 ⟨p2, ao2, bo2, no2, co2, nb2, cb2, ia2, ni2, ic2, rfl, hb5⟩
  have hM5 := HM4.out.after hb5
  have HR5 : Hid (Row w5 a kl) := HR4.out.below hb5 (Nat.le_refl _)
  clear hL hb5 HM4 HR4
  have hF2 : Hid ((lkFl kc).src.ip = 1 ∧ (lkFl kc).src.port = 9) := kc_src
  have hF3 : Hid ((lkFl kc).dst.ip = 2 ∧ (lkFl kc).dst.port = 9) := kc_dst
  generalize lkFl kc = F2 at *
  go_upto_region 5 with fail
  refine wp_letter (fun W => Mem w W [(G1, .cells (lkB p1 ao1 bo1 no1 co1 nb1 cb1) ipT), (G1 + 1, .cells (flB F1 (.slice ia1 ni1 ic1)) flT), (w5.heap.size, .cells (lkB p2 ao2 bo2 no2 co2 nb2 cb2) ipT), (w5.heap.size + 1, .cells (flB F2 (.slice ia2 ni2 ic2)) flT)] ∧ Row W a kl) ⟨(hM5.push3 rfl).push4 (g := w5.heap.size + 1) (by simp), row_alloc (row_alloc HR5.out)⟩ ?_
  intro w6 ⟨hM6, hrow6⟩
  have HM6 : Hid _ := hM6
  have HR6 : Hid (Row w6 a kl) := hrow6
  have hL := look_box (row_nil w6) (n := 0) (c := 0) rfl (Nat.le_refl _) kn_look
  clear hM5 HR5 hM6 hrow6
  generalize w5.heap.size = G2 at *
  go_wp2_with fail
  refine hL.mono ?_
  rintro e w7 ⟨p3, ao3, bo3, no3, co3, nb3, cb3, ia3, ni3, ic3, rfl, hb7⟩
  have hM7 := HM6.out.after hb7
  have HM7 : Hid _ := hM7
  have HR7 : Hid (Row w7 a kl) := HR6.out.below hb7 (Nat.le_refl _)
  clear hL hb7 HM6 HR6 hM7
  generalize lkFl [] = F3 at *
  go_upto_region 6 with fail
  refine wp_letter (fun W => Mem w W [(G1, .cells (lkB p1 ao1 bo1 no1 co1 nb1 cb1) ipT), (G1 + 1, .cells (flB F1 (.slice ia1 ni1 ic1)) flT), (G2, .cells (lkB p2 ao2 bo2 no2 co2 nb2 cb2) ipT), (G2 + 1, .cells (flB F2 (.slice ia2 ni2 ic2)) flT)] ∧ Row W a kl) ⟨(HM7.out.after ((Below.refl _ _).alloc (Nat.le_refl _) _)).after ((Below.refl _ _).alloc (Nat.le_refl _) _), row_alloc (row_alloc HR7.out)⟩ ?_
  intro w8 ⟨hM8, hrow8⟩
  have HM8 : Hid _ := hM8
  have HR8 : Hid (Row w8 a kl) := hrow8
  have hH := hop_any hrow8 kl_len HC.out
  rw [kh_err, kh_len] at hH
  clear HM7 HR7 hM8 hrow8
  go_wp2_with fail
  refine hH.mono ?_
  rintro e w9 ⟨u, rfl, hown, hb9⟩
  have hhb : IsBytes (hopOut kl) := (hopOut_bytes kl_bytes).1
  obtain ⟨d, cd, hu, hrow9, -, -, hcd⟩ := own_read hown kh_len hhb (by rw [kh_len]; decide)
  subst hu
  have hM9 := HM8.out.after hb9
  have hka := HR8.out.below hb9 (Nat.le_refl _)
  obtain ⟨b1, o1, rfl, hc1⟩ : ∃ b1 o1, a = some ⟨b1, o1, none⟩ ∧ w9.cell? ⟨b1, o1 + 8, none⟩ = some (.int .u8 64) := by
    rcases hka.cells with e | ⟨b1, o1, rfl, hc⟩
    · exact absurd e (by decide)
    · exact ⟨b1, o1, rfl, hc 8 (by decide)⟩
  obtain ⟨b2, o2, rfl, hc2⟩ : ∃ b2 o2, d = some ⟨b2, o2, none⟩ ∧ w9.cell? ⟨b2, o2 + 8, none⟩ = some (.int .u8 63) := by
    rcases hrow9.cells with e | ⟨b1, o1, rfl, hc⟩
    · have := kh_len; rw [e] at this; simp at this
    · exact ⟨b1, o1, rfl, by have := hc 8 (by rw [kh_len]; decide); rw [kh_ttl] at this; exact this⟩
  have HB : Hid _ := hM9.below
  have f1 : w9.cell? ⟨G1 + 1, 2, none⟩ = some (.int .u16 1000) := by rw [← hF1.out]; exact hM9.cell 1 rfl 2
  have f2 : w9.cell? ⟨G2 + 1, 1, none⟩ = some (.int .u32 1) := by rw [← hF2.out.1]; exact hM9.cell 3 rfl 1
  have f3 : w9.cell? ⟨G2 + 1, 2, none⟩ = some (.int .u16 9) := by rw [← hF2.out.2]; exact hM9.cell 3 rfl 2
  have f4 : w9.cell? ⟨G2 + 1, 3, none⟩ = some (.int .u32 2) := by rw [← hF3.out.1]; exact hM9.cell 3 rfl 3
  have f5 : w9.cell? ⟨G2 + 1, 4, none⟩ = some (.int .u16 9) := by rw [← hF3.out.2]; exact hM9.cell 3 rfl 4
  have z8 : IntKind.u8.wrap 63 = 63 := rfl
  have z64 : IntKind.i64.wrap 0 = 0 := rfl
  clear hH hown hb9 hhb hrow9 hcd hM9 hka HM8 HR8 hF1 hF2 hF3 HC
  go_wp2_with fail
  go_quiet (fail)
  go_wp2_with fail
  go_ret
  exact ⟨rfl, (below_drewN HB.out _)⟩
end Go.Proofs.YtjalpbkfpjfigaaGreat

namespace Go.Proofs.YtjalpbkfpjfigaaGreat
open Go.RowKit
open Sm
set_option linter.unusedVariables false
namespace Sm
theorem pk_fits {l : List Int} (h : IsBytes l) (h0 : ipErr l = 0) : Fits (ipPk l) ∧ 20 + (ipPk l).opts.length + (ipPk l).body.length = whl l := by
  have hp := ip_parts h0
  have hh := hdl_le h
  have hw := w16_range h 6
  have h2 := w16_range h 2
  have hwl : whl l ≤ 65535 := by unfold whl; omega
  have h4 : hdl l % 4 = 0 := by unfold hdl; omega
  have lo : (ipPk l).opts.length = hdl l - 20 := by simp only [ipPk, List.length_take, List.length_drop]; omega
  have lb : (ipPk l).body.length = whl l - hdl l := by simp only [ipPk, List.length_take, List.length_drop]; omega
  refine ⟨⟨by rw [lo]; omega, by rw [lo]; omega, ?_, ?_, by rw [lo, lb]; omega⟩, by rw [lo, lb]; omega⟩
  · show w16 l 6 / 8192 ≤ 7; omega
  · show w16 l 6 % 8192 ≤ 8191; omega
theorem hop_err {l : List Int} (h : IsBytes l) : hopErr l = if ipErr l ≠ 0 then ipErr l else if (ipPk l).ttl = 0 then 21 else 0 := by
  unfold hopErr
  by_cases e : ipErr l = 0
  · have f := (pk_fits h e).1
    have e2 : ipbErr (ipPk l).hop = 0 := (fits_iff _).mpr ⟨f.o4, f.o40, f.flags, f.off, f.n⟩
    rw [e2]
  · rw [if_pos e, if_pos e]
end Sm
end Go.Proofs.YtjalpbkfpjfigaaGreat

