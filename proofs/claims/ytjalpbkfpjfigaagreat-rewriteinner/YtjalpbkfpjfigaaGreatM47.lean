/-
  The walk of lychlaw8.RewriteInner: it answers true.
-/
import Derived.Test.YtjalpbkfpjfigaaGreatM46
import Derived.Test.YtjalpbkfpjfigaaGreatM38
namespace Go.Proofs.YtjalpbkfpjfigaaGreat
open Go.RowKit
open Sm
set_option linter.unusedVariables false
set_option maxRecDepth 20000

/-- What the document's own Inner answers, whatever it is handed. -/
theorem rinn_any {w : World} {a : Option Addr} {n c : Nat} {l : List Int} (hr : Row w a l) (hn : l.length = n) (hc : n ≤ c) (s d : Pt) (hs : s.Ok) (hd : d.Ok) :
    Calls Tryz.prog 13 #[.slice a n c, .agg (ptA s), .agg (ptA d)] w fun e w' => ∃ u, e = .returned (.tuple #[u, .int .i64 (inErr l s d)]) ∧ w'.ownsRow w.heap.size 5 1 u (inOut l s d).length ((inOut l s d).map (Value.int .u8)) ∧ Below w.heap.size w w' := by
  by_cases h0 : lkErr l = 0
  · exact rinn_yes hr hn hc s d hs hd h0
  · refine (rinn_no hr hn hc s d h0).mono ?_
    rintro e w' ⟨rfl, hb⟩
    rw [show inErr l s d = lkErr l by unfold inErr; rw [if_pos h0], show inOut l s d = [] by unfold inOut; rw [if_pos h0]]
    exact ⟨_, rfl, World.ownsRow_nil _ _ _ _, hb⟩

set_option maxHeartbeats 4000000 in
theorem inner_core {w : World} (P : Pa) (hP : P.Ok) (side : Int) (s0 : 0 ≤ side) (s1 : side ≤ 255) (s d : Pt) (hs : s.Ok) (hd : d.Ok) (raw : Bool) :
    Calls Tryz.prog 5 #[.agg (paB P), .int .u8 side, .agg (ptA s), .agg (ptA d), .bool raw] w fun e w' => e = .returned (.bool true) ∧ Below w.heap.size w w' := by
  have HM1 : Hid (Mem w (((w.alloc (.cells (paB P) paT)).alloc (.cells (ptA s) ptT)).alloc (.cells (ptA d) ptT)) [(w.heap.size, .cells (paB P) paT), (w.heap.size + 1, .cells (ptA s) ptT), (w.heap.size + 2, .cells (ptA d) ptT)]) := (((Mem.nil w).push1 rfl).push2 (by simp)).push3 (by simp)
  have hk := rknown_any (((w.alloc (.cells (paB P) paT)).alloc (.cells (ptA s) ptT)).alloc (.cells (ptA d) ptT))
  have hst : side.tmod 2 = side % 2 := Int.tmod_eq_emod_of_nonneg s0
  have hsw := wrap64_small (side % 2) (by omega) (by omega)
  have HS : Hid (side % 2 = 0 ∨ side % 2 = 1) := by show _ ∨ _; omega
  have HN : Hid (P.Ok ∧ s.Ok ∧ d.Ok) := ⟨hP, hs, hd⟩
  generalize side % 2 = sd at *
  clear hP hs hd
  go_enter Tryz.func5, Tryz.ntmps5
  go_wp2_with fail
  refine hk.mono ?_
  rintro e w2 ⟨rfl, hbel⟩
  have hM2 := HM1.out.after hbel
  have HM2 : Hid (Mem w w2 [(w.heap.size, .cells (paB P) paT), (w.heap.size + 1, .cells (ptA s) ptT), (w.heap.size + 2, .cells (ptA d) ptT)]) := hM2
  clear hk hbel HM1
  go_upto_if 19 with fail
  go_cut [] from 16 (fun wx => ∃ P' d', P'.Ok ∧ d'.Ok ∧ Mem w wx [(w.heap.size, .cells (paB P') paT), (w.heap.size + 1, .cells (ptA s) ptT), (w.heap.size + 2, .cells (ptA d') ptT)])
  case first =>
    have c1 : w2.cell? ⟨w.heap.size + 1, 1, none⟩ = some (.int .u16 s.port) := hM2.cell 1 rfl 1
    have c7 : w2.cell? ⟨w.heap.size, 7, none⟩ = some (.int .u8 P.er) := hM2.cell 0 rfl 7
    have cd : w2.cell? ⟨w.heap.size + 2, 1, none⟩ = some (.int .u16 d.port) := hM2.cell 2 rfl 1
    have f7 := hM2.free 0 rfl 7
    have fd := hM2.free 2 rfl 1
    clear hM2
    cases raw with
    | true =>
      go_wp2_with fail
      go_meet
      case rel => exact ⟨P, d, HN.out.1, HN.out.2.2, HM2.out⟩
    | false =>
      go_upto_region 4 with fail
      go_region
      all_goals
        go_wp2_with fail
        go_meet
        case rel =>
          have hm := ((HM2.out.set 0 rfl 7 (.int .u8 4)).set 2 rfl 1 (.int .u16 s.port)).drew
          have q := HN.out.1
          exact ⟨⟨P.pr, P.s, P.d, P.fr, P.tp, P.fl, P.ttl, 4, P.n, P.sp⟩, ⟨d.ip, s.port⟩, ⟨q.pr, q.s, q.d, q.fr, q.tp, q.fl, q.ttl, ⟨(by decide : (0 : Int) ≤ 4), (by decide : (4 : Int) ≤ 255)⟩, q.n, q.sp⟩, ⟨HN.out.2.2.ip, HN.out.2.1.port⟩, hm⟩
  case rest =>
    obtain ⟨P', d', hP', hd', hMc⟩ := hcut
    have HN2 : Hid (P'.Ok ∧ d'.Ok) := ⟨hP', hd'⟩
    have HMc : Hid (Mem w wc [(w.heap.size, .cells (paB P') paT), (w.heap.size + 1, .cells (ptA s) ptT), (w.heap.size + 2, .cells (ptA d') ptT)]) := hMc
    have kc : ∀ i, wc.cell? ⟨w.heap.size, i, none⟩ = (paB P')[i]? := hMc.cell 0 rfl
    clear hP' hd' hMc hM2 HM2
    have hPk := packet_any wc P' HN2.out.1 sd 0 HS.out ⟨by omega, by omega⟩
    have hpf := pktb_facts HN2.out.1 (side := sd) (k := 0) ⟨by omega, by omega⟩
    obtain ⟨B, hB⟩ : ∃ B, pktb P' sd 0 = B := ⟨_, rfl⟩
    obtain ⟨nB, hnB⟩ : ∃ n, B.length = n := ⟨_, rfl⟩
    rw [hB] at hPk hpf
    rw [hnB] at hPk
    have HB : Hid (B.length = nB ∧ IsBytes B ∧ B.length ≤ 65535) := ⟨hnB, hpf⟩
    clear hB hnB hpf
    go_wp2_with fail
    refine hPk.mono ?_
    rintro e w3 ⟨u, rfl, ho, hb3⟩
    have hM3 := HMc.out.after hb3
    have HM3 : Hid (Mem w w3 [(w.heap.size, .cells (paB P') paT), (w.heap.size + 1, .cells (ptA s) ptT), (w.heap.size + 2, .cells (ptA d') ptT)]) := hM3
    obtain ⟨a3, c3, rfl, hr3, -, -, hc3⟩ := own_read ho HB.out.1 HB.out.2.1 (by have := HB.out; omega)
    have HR3 : Hid (Row w3 a3 B ∧ nB ≤ c3) := ⟨hr3, hc3⟩
    have ks : ∀ i, w3.cell? ⟨w.heap.size + 1, i, none⟩ = (ptA s)[i]? := hM3.cell 1 rfl
    have kd : ∀ i, w3.cell? ⟨w.heap.size + 2, i, none⟩ = (ptA d')[i]? := hM3.cell 2 rfl
    have hC := inner_any hr3 HB.out.1 hc3 s d' HN.out.2.1 HN2.out.2
    have hof := inOut_bytes HB.out.2.1 HN.out.2.1 HN2.out.2
    obtain ⟨E, hE⟩ : ∃ E, inErr B s d' = E := ⟨_, rfl⟩
    obtain ⟨L, hL⟩ : ∃ L, inOut B s d' = L := ⟨_, rfl⟩
    obtain ⟨nL, hnL⟩ : ∃ n, L.length = n := ⟨_, rfl⟩
    rw [hL] at hof
    have HE : Hid (inErr B s d' = E ∧ inOut B s d' = L ∧ L.length = nL ∧ IsBytes L ∧ L.length ≤ 65535) := ⟨hE, hL, hnL, hof.1, hof.2⟩
    rw [hE, hL, hnL] at hC
    clear hPk ho hb3 kc HMc hM3 hr3 hc3 hof hE hL hnL
    go_wp2_with fail
    refine hC.mono ?_
    rintro e w4 ⟨u1, rfl, ho1, hb4⟩
    have hM4 := HM3.out.after hb4
    have HM4 : Hid (Mem w w4 [(w.heap.size, .cells (paB P') paT), (w.heap.size + 1, .cells (ptA s) ptT), (w.heap.size + 2, .cells (ptA d') ptT)]) := hM4
    have HO1 : Hid (w4.ownsRow w3.heap.size 5 1 u1 nL (L.map (Value.int .u8))) := ho1
    have hC2 := rinn_any (HR3.out.1.below hb4 (Nat.le_refl _)) HB.out.1 HR3.out.2 s d' HN.out.2.1 HN2.out.2
    rw [HE.out.1, HE.out.2.1, HE.out.2.2.1] at hC2
    clear hC ho1 hb4 ks kd HM3
    have ks : ∀ i, w4.cell? ⟨w.heap.size + 1, i, none⟩ = (ptA s)[i]? := hM4.cell 1 rfl
    have kd : ∀ i, w4.cell? ⟨w.heap.size + 2, i, none⟩ = (ptA d')[i]? := hM4.cell 2 rfl
    clear hM4
    go_wp2_with fail
    refine hC2.mono ?_
    rintro e w5 ⟨u2, rfl, ho2, hb5⟩
    have HB5 : Hid (Below w.heap.size w w5) := (HM4.out.after hb5).below
    obtain ⟨a1, c1, rfl, hr1, -⟩ := own_read (own_after HO1.out hb5 (Nat.le_refl _)) HE.out.2.2.1 HE.out.2.2.2.1 (by have := HE.out; omega)
    obtain ⟨a2, c2, rfl, hr2, -⟩ := own_read ho2 HE.out.2.2.1 HE.out.2.2.2.1 (by have := HE.out; omega)
    have hh := hbytes_yes hr1 hr2 nL nL HE.out.2.2.1 HE.out.2.2.1 c1 c2
    clear hC2 ho2 hb5 ks kd HM4 HO1 hr1 hr2
    go_wp2_with fail
    refine hh.mono ?_
    rintro e w' ⟨rfl, rfl⟩
    clear hh
    go_wp2_with fail
    go_ret
    exact ⟨rfl, HB5.out⟩
end Go.Proofs.YtjalpbkfpjfigaaGreat

