/-
  The walk of lychlaw8.RewriteInnerBack: it answers true.
-/
import Derived.Test.YtjalpbkfpjfigabM38
import Derived.Test.YtjalpbkfpjfigabM37
namespace Go.Proofs.Ytjalpbkfpjfigab
open Go.RowKit
open Sm
set_option linter.unusedVariables false
set_option maxRecDepth 20000

/-- Two points that were told. -/
theorem pts_two {w : World} {C : Nat} {ia : Option Addr} {ic : Nat} {p q : Pt} (h : PtsV w C (.slice ia 2 ic) [p, q]) : ∃ g, ia = some ⟨g, 0, none⟩ ∧ ic = 2 := by
  rcases h with ⟨e, -⟩ | ⟨g, s, d, e, ev, hg, hC⟩
  · cases e
  · simp only [Value.slice.injEq] at ev
    exact ⟨g, ev.1, ev.2.2⟩
theorem pts_cells {w : World} {C g : Nat} {p q : Pt} (h : PtsV w C (.slice (some ⟨g, 0, none⟩) 2 2) [p, q]) : ∀ i, w.cell? ⟨g, i, none⟩ = (pt2 p q)[i]? := by
  rcases h with ⟨e, -⟩ | ⟨g', s, d, e, ev, hg, hC⟩
  · cases e
  · simp only [Value.slice.injEq, Option.some.injEq, Addr.mk.injEq, and_true] at ev
    simp only [List.cons.injEq, and_true] at e
    obtain ⟨rfl, rfl⟩ := e
    subst ev
    exact cells_at hg

set_option maxHeartbeats 8000000 in
theorem innerback_core {w : World} (P : Pa) (hP : P.Ok) (side : Int) (s0 : 0 ≤ side) (s1 : side ≤ 255) (s d : Pt) (hs : s.Ok) (hd : d.Ok) :
    Calls Try.prog 3 #[.agg (paB P), .int .u8 side, .agg (ptA s), .agg (ptA d)] w fun e w' => e = .returned (.bool true) ∧ Below w.heap.size w w' := by
  have HM1 : Hid (Mem w (((w.alloc (.cells (paB P) paT)).alloc (.cells (ptA s) ptT)).alloc (.cells (ptA d) ptT)) [(w.heap.size, .cells (paB P) paT), (w.heap.size + 1, .cells (ptA s) ptT), (w.heap.size + 2, .cells (ptA d) ptT)]) := (((Mem.nil w).push1 rfl).push2 (by simp)).push3 (by simp)
  have hk := rknown_any (((w.alloc (.cells (paB P) paT)).alloc (.cells (ptA s) ptT)).alloc (.cells (ptA d) ptT))
  have hst : side.tmod 2 = side % 2 := Int.tmod_eq_emod_of_nonneg s0
  have hsw := wrap64_small (side % 2) (by omega) (by omega)
  have HS : Hid (side % 2 = 0 ∨ side % 2 = 1) := by show _ ∨ _; omega
  have HP : Hid ((⟨P.pr, P.s, P.d, P.fr, P.tp, P.fl, 9, 4, P.n, 0⟩ : Pa).Ok) := ⟨hP.pr, hP.s, hP.d, hP.fr, hP.tp, hP.fl, by simp, by simp, hP.n, by simp⟩
  generalize side % 2 = sd at *
  have hd2 : (⟨d.ip, s.port⟩ : Pt).Ok := ⟨hd.ip, hs.port⟩
  obtain ⟨L, L2, L3, x, y, p, q, hIM⟩ := in_math HP.out sd hs hd2 rfl rfl rfl rfl
  have HI : Hid (InM ⟨P.pr, P.s, P.d, P.fr, P.tp, P.fl, 9, 4, P.n, 0⟩ sd s ⟨d.ip, s.port⟩ L L2 L3 x y p q) := hIM
  have HSD : Hid (s.Ok ∧ (⟨d.ip, s.port⟩ : Pt).Ok) := ⟨hs, hd2⟩
  clear hP hIM hs hd hd2
  go_enter Try.func3, Try.ntmps3
  go_wp2_with fail
  refine hk.mono ?_
  rintro e w2 ⟨rfl, hbel⟩
  have hM2 := HM1.out.after hbel
  have HM2 : Hid (Mem w w2 [(w.heap.size, .cells (paB P) paT), (w.heap.size + 1, .cells (ptA s) ptT), (w.heap.size + 2, .cells (ptA d) ptT)]) := hM2
  have kc : ∀ i, w2.cell? ⟨w.heap.size, i, none⟩ = (paB P)[i]? := hM2.cell 0 rfl
  have kf : ∀ i, w2.frozen? ⟨w.heap.size, i, none⟩ = false := hM2.free 0 rfl
  clear hk hbel HM1 hM2
  go_upto_region 4 with fail
  refine wp_letter (fun W => Mem w W [(w.heap.size, .cells (paA P.pr P.s P.d P.fr P.tp P.fl 9 4 P.n 0) paT), (w.heap.size + 1, .cells (ptA s) ptT), (w.heap.size + 2, .cells (ptA d) ptT)]) (((HM2.out.set 0 rfl 6 _).set 0 rfl 9 _).set 0 rfl 7 _) ?_
  intro w3 hM3
  have HM3 : Hid _ := hM3
  clear kc kf HM2
  have ks : ∀ i, w3.cell? ⟨w.heap.size + 1, i, none⟩ = (ptA s)[i]? := hM3.cell 1 rfl
  have kd : ∀ i, w3.cell? ⟨w.heap.size + 2, i, none⟩ = (ptA d)[i]? := hM3.cell 2 rfl
  have fd : ∀ i, w3.frozen? ⟨w.heap.size + 2, i, none⟩ = false := hM3.free 2 rfl
  clear hM3
  go_upto_region 5 with fail
  refine wp_letter (fun W => Mem w W [(w.heap.size, .cells (paA P.pr P.s P.d P.fr P.tp P.fl 9 4 P.n 0) paT), (w.heap.size + 1, .cells (ptA s) ptT), (w.heap.size + 2, .cells #[.int .u32 d.ip, .int .u16 s.port] ptT)]) (HM3.out.set 2 rfl 1 _) ?_
  intro w4 hM4
  have HM4 : Hid _ := hM4
  clear ks kd fd HM3
  have kc : ∀ i, w4.cell? ⟨w.heap.size, i, none⟩ = (paA P.pr P.s P.d P.fr P.tp P.fl 9 4 P.n 0)[i]? := hM4.cell 0 rfl
  have hPk := packet_any w4 ⟨P.pr, P.s, P.d, P.fr, P.tp, P.fl, 9, 4, P.n, 0⟩ HP.out sd 0 HS.out ⟨by omega, by omega⟩
  obtain ⟨n, hn⟩ : ∃ n, L.length = n := ⟨_, rfl⟩
  rw [HI.out.pk, hn] at hPk
  have HN : Hid (L.length = n ∧ L2.length = n ∧ L3.length = n ∧ n ≤ 65535) := ⟨hn, by rw [HI.out.b2.2, hn], by rw [HI.out.b3.2, hn], by have := HI.out.b1.2; omega⟩
  clear hM4 hn
  go_wp2_with fail
  refine hPk.mono ?_
  rintro e w5 ⟨u, rfl, hown, hb5⟩
  have HM5 : Hid (Mem w w5 [(w.heap.size + 1, .cells (ptA s) ptT), (w.heap.size + 2, .cells #[.int .u32 d.ip, .int .u16 s.port] ptT)]) := (HM4.out.after hb5).rest
  obtain ⟨a, ca, rfl, hr5, -, -, hca⟩ := own_read hown HN.out.1 HI.out.b1.1 (by have := HN.out; omega)
  have HR5 : Hid (Row w5 a L) := hr5
  have HCA : Hid (n ≤ ca) := hca
  have hL := look_pts hr5 HN.out.1 hca HI.out.e1 HI.out.f1
  simp only [List.length_cons, List.length_nil, Nat.zero_add, Nat.reduceAdd] at hL
  clear hPk hown hb5 kc HM4 hr5 hca
  go_wp2_with fail
  refine hL.mono ?_
  rintro e w6 ⟨p1, ao1, bo1, no1, co1, nb1, cb1, ia1, ic1, rfl, hp6, hb6⟩
  obtain ⟨g1, rfl, rfl⟩ := pts_two hp6
  have hM6 := HM5.out.after hb6
  have HR6 : Hid (Row w6 a L ∧ PtsV w6 0 (.slice (some ⟨g1, 0, none⟩) 2 2) [p, q]) := ⟨HR5.out.below hb6 (Nat.le_refl _), hp6.mono (Nat.zero_le _)⟩
  clear hL hb6 hp6
  go_upto_region 7 with fail
  refine wp_letter (fun W => Mem w W [(w.heap.size + 1, .cells (ptA s) ptT), (w.heap.size + 2, .cells #[.int .u32 d.ip, .int .u16 s.port] ptT), (w6.heap.size + 1, .cells (flA 1 x 0 y 0 0 (.slice (some ⟨g1, 0, none⟩) 2 2)) flT)] ∧ Row W a L ∧ PtsV W 0 (.slice (some ⟨g1, 0, none⟩) 2 2) [p, q]) ⟨(hM6.after ((Below.refl _ _).alloc (Nat.le_refl _) _)).push3 (by simp), row_alloc (row_alloc HR6.out.1), (HR6.out.2.below ((Below.refl _ _).alloc (Nat.le_refl _) _) (Nat.le_refl _)).below ((Below.refl _ _).alloc (Nat.le_refl _) _) (Nat.le_refl _)⟩ ?_
  intro w7 ⟨hM7, hr7, hp7⟩
  have HM7 : Hid _ := hM7
  have HR7 : Hid (Row w7 a L ∧ PtsV w7 0 (.slice (some ⟨g1, 0, none⟩) 2 2) [p, q]) := ⟨hr7, hp7⟩
  clear hM6 HR6 HM5 HR5 hM7 hr7 hp7
  generalize w6.heap.size + 1 = G at *
  have g6 : w7.cell? ⟨G, 6, none⟩ = some (.slice (some ⟨g1, 0, none⟩) 2 2) := HM7.out.cell 2 rfl 6
  have ks : ∀ i, w7.cell? ⟨w.heap.size + 1, i, none⟩ = (ptA s)[i]? := HM7.out.cell 0 rfl
  have kd : ∀ i, w7.cell? ⟨w.heap.size + 2, i, none⟩ = (#[.int .u32 d.ip, .int .u16 s.port] : Array Value)[i]? := HM7.out.cell 1 rfl
  have hIn := inner_any HR7.out.1 HN.out.1 HCA.out s ⟨d.ip, s.port⟩ HSD.out.1 HSD.out.2
  rw [HI.out.c1, HI.out.o1, HN.out.2.1] at hIn
  go_wp2_with fail
  refine hIn.mono ?_
  rintro e w8 ⟨u2, rfl, hown, hb8⟩
  have HM8 : Hid (Mem w w8 [(w.heap.size + 1, .cells (ptA s) ptT), (w.heap.size + 2, .cells #[.int .u32 d.ip, .int .u16 s.port] ptT), (G, .cells (flA 1 x 0 y 0 0 (.slice (some ⟨g1, 0, none⟩) 2 2)) flT)]) := HM7.out.after hb8
  obtain ⟨a2, c2, rfl, hr8, -, -, hc2⟩ := own_read hown HN.out.2.1 HI.out.b2.1 (by have := HN.out; omega)
  have HR8 : Hid (PtsV w8 0 (.slice (some ⟨g1, 0, none⟩) 2 2) [p, q] ∧ Row w8 a2 L2) := ⟨HR7.out.2.below hb8 (Nat.le_refl _), hr8⟩
  have HC2 : Hid (n ≤ c2) := hc2
  have hL := look_pts hr8 HN.out.2.1 hc2 HI.out.e2 HI.out.f2
  simp only [List.length_cons, List.length_nil, Nat.zero_add, Nat.reduceAdd] at hL
  clear hIn hown hb8 g6 ks kd HM7 HR7 hr8 hc2
  go_wp2_with fail
  refine hL.mono ?_
  rintro e w9 ⟨p2, ao2, bo2, no2, co2, nb2, cb2, ia2, ic2, rfl, hp9, hb9⟩
  obtain ⟨g2, rfl, rfl⟩ := pts_two hp9
  have hM9 := HM8.out.after hb9
  have HR9 : Hid (PtsV w9 0 (.slice (some ⟨g1, 0, none⟩) 2 2) [p, q] ∧ Row w9 a2 L2 ∧ PtsV w9 0 (.slice (some ⟨g2, 0, none⟩) 2 2) [s, ⟨d.ip, s.port⟩]) := ⟨HR8.out.1.below hb9 (Nat.le_refl _), HR8.out.2.below hb9 (Nat.le_refl _), hp9.mono (Nat.zero_le _)⟩
  clear hL hb9 hp9
  go_upto_region 11 with fail
  refine wp_letter (fun W => Mem w W [(w.heap.size + 1, .cells (ptA s) ptT), (w.heap.size + 2, .cells #[.int .u32 d.ip, .int .u16 s.port] ptT), (G, .cells (flA 1 x 0 y 0 0 (.slice (some ⟨g1, 0, none⟩) 2 2)) flT), (w9.heap.size + 1, .cells (flA 1 x 0 y 0 0 (.slice (some ⟨g2, 0, none⟩) 2 2)) flT)] ∧ (PtsV W 0 (.slice (some ⟨g1, 0, none⟩) 2 2) [p, q] ∧ Row W a2 L2 ∧ PtsV W 0 (.slice (some ⟨g2, 0, none⟩) 2 2) [s, ⟨d.ip, s.port⟩])) ⟨(hM9.after ((Below.refl _ _).alloc (Nat.le_refl _) _)).push4 (by simp), (HR9.out.1.below ((Below.refl _ _).alloc (Nat.le_refl _) _) (Nat.le_refl _)).below ((Below.refl _ _).alloc (Nat.le_refl _) _) (Nat.le_refl _), row_alloc (row_alloc HR9.out.2.1), (HR9.out.2.2.below ((Below.refl _ _).alloc (Nat.le_refl _) _) (Nat.le_refl _)).below ((Below.refl _ _).alloc (Nat.le_refl _) _) (Nat.le_refl _)⟩ ?_
  intro w10 ⟨hM10, hq10⟩
  have HM10 : Hid _ := hM10
  have HQ10 : Hid (PtsV w10 0 (.slice (some ⟨g1, 0, none⟩) 2 2) [p, q] ∧ Row w10 a2 L2 ∧ PtsV w10 0 (.slice (some ⟨g2, 0, none⟩) 2 2) [s, ⟨d.ip, s.port⟩]) := hq10
  clear hM9 HR9 HM8 HR8 hM10 hq10
  generalize w9.heap.size + 1 = H at *
  have g6 : w10.cell? ⟨G, 6, none⟩ = some (.slice (some ⟨g1, 0, none⟩) 2 2) := HM10.out.cell 2 rfl 6
  have t0 : w10.cell? ⟨g1, 0, none⟩ = some (.int .u32 p.ip) := pts_cells HQ10.out.1 0
  have t1 : w10.cell? ⟨g1, 1, none⟩ = some (.int .u16 p.port) := pts_cells HQ10.out.1 1
  have t2 : w10.cell? ⟨g1, 2, none⟩ = some (.int .u32 q.ip) := pts_cells HQ10.out.1 2
  have t3 : w10.cell? ⟨g1, 3, none⟩ = some (.int .u16 q.port) := pts_cells HQ10.out.1 3
  have HIn : Hid (∀ W, Below w10.heap.size w10 W → Calls Try.prog 8 #[.slice a2 n c2, .agg (ptA p), .agg (ptA q)] W fun e w' => ∃ u, e = .returned (.tuple #[u, .int .i64 0]) ∧ w'.ownsRow W.heap.size 5 1 u n (L3.map (Value.int .u8)) ∧ Below W.heap.size W w') := fun W hb => by
    have := inner_any (HQ10.out.2.1.below hb (Nat.le_refl _)) HN.out.2.1 HC2.out p q HI.out.ok.1 HI.out.ok.2
    rw [HI.out.c2, HI.out.o2, HN.out.2.2.1] at this
    exact this
  have HB10 : Hid (Below w10.heap.size w10 w10.drew) := (Below.refl _ _).drew
  go_region_held3 (fun w' => w'.cell? ⟨G, 6, none⟩ = some (.slice (some ⟨g1, 0, none⟩) 2 2) ∧ w'.cell? ⟨g1, 0, none⟩ = some (.int .u32 p.ip) ∧ w'.cell? ⟨g1, 1, none⟩ = some (.int .u16 p.port) ∧ w'.cell? ⟨g1, 2, none⟩ = some (.int .u32 q.ip) ∧ w'.cell? ⟨g1, 3, none⟩ = some (.int .u16 q.port)) (first | go_keep | assumption | (refine ⟨?_, ?_, ?_, ?_, ?_⟩ <;> assumption))
    (first
      | (go_at_call 8; refine (HIn.out _ HB10.out).mono ?_; rintro e w11 ⟨u3, rfl, hown, hb11⟩
         have m6 : w11.cell? ⟨G, 6, none⟩ = some (.slice (some ⟨g1, 0, none⟩) 2 2) := (HM10.out.drew.after hb11).cell 2 rfl 6
         have m0 : w11.cell? ⟨g1, 0, none⟩ = some (.int .u32 p.ip) := pts_cells (HQ10.out.1.below (HB10.out.trans hb11) (Nat.le_refl _)) 0
         have m1 : w11.cell? ⟨g1, 1, none⟩ = some (.int .u16 p.port) := pts_cells (HQ10.out.1.below (HB10.out.trans hb11) (Nat.le_refl _)) 1
         have m2 : w11.cell? ⟨g1, 2, none⟩ = some (.int .u32 q.ip) := pts_cells (HQ10.out.1.below (HB10.out.trans hb11) (Nat.le_refl _)) 2
         have m3 : w11.cell? ⟨g1, 3, none⟩ = some (.int .u16 q.port) := pts_cells (HQ10.out.1.below (HB10.out.trans hb11) (Nat.le_refl _)) 3
         obtain ⟨a3, c3, rfl, hr3, -, -, hc3⟩ := own_read hown HN.out.2.2.1 HI.out.b3.1 (by have := HN.out; omega)
         have HR11 : Hid (Row w11 a3 L3 ∧ n ≤ c3 ∧ Below w10.heap.size w10 w11) := ⟨hr3, hc3, HB10.out.trans hb11⟩
         clear hown hb11 hr3 hc3))
  all_goals
    have HM11 : Hid (Mem w w11 [(w.heap.size + 1, .cells (ptA s) ptT), (w.heap.size + 2, .cells #[.int .u32 d.ip, .int .u16 s.port] ptT), (G, .cells (flA 1 x 0 y 0 0 (.slice (some ⟨g1, 0, none⟩) 2 2)) flT), (H, .cells (flA 1 x 0 y 0 0 (.slice (some ⟨g2, 0, none⟩) 2 2)) flT)]) := HM10.out.after HR11.out.2.2
    have HQ11 : Hid (PtsV w11 0 (.slice (some ⟨g1, 0, none⟩) 2 2) [p, q] ∧ PtsV w11 0 (.slice (some ⟨g2, 0, none⟩) 2 2) [s, ⟨d.ip, s.port⟩]) := ⟨HQ10.out.1.below HR11.out.2.2 (Nat.le_refl _), HQ10.out.2.2.below HR11.out.2.2 (Nat.le_refl _)⟩
    have hL := look_pts HR11.out.1 HN.out.2.2.1 HR11.out.2.1 HI.out.e3 HI.out.f3
    simp only [List.length_cons, List.length_nil, Nat.zero_add, Nat.reduceAdd] at hL
    clear m6 m0 m1 m2 m3 g6 t0 t1 t2 t3 HIn HB10 HM10 HQ10
    go_wp2_with fail
    refine hL.mono ?_
    rintro e w12 ⟨p3, ao3, bo3, no3, co3, nb3, cb3, ia3, ic3, rfl, hp12, hb12⟩
    obtain ⟨g3, rfl, rfl⟩ := pts_two hp12
    have hM12 := HM11.out.after hb12
    have HR12 : Hid (PtsV w12 0 (.slice (some ⟨g1, 0, none⟩) 2 2) [p, q] ∧ PtsV w12 0 (.slice (some ⟨g2, 0, none⟩) 2 2) [s, ⟨d.ip, s.port⟩] ∧ PtsV w12 0 (.slice (some ⟨g3, 0, none⟩) 2 2) [p, q]) := ⟨HQ11.out.1.below hb12 (Nat.le_refl _), HQ11.out.2.below hb12 (Nat.le_refl _), hp12.mono (Nat.zero_le _)⟩
    clear hL hb12 hp12
    go_upto_region 13 with fail
    refine wp_letter (fun W => Mem w W [(w.heap.size + 1, .cells (ptA s) ptT), (w.heap.size + 2, .cells #[.int .u32 d.ip, .int .u16 s.port] ptT), (G, .cells (flA 1 x 0 y 0 0 (.slice (some ⟨g1, 0, none⟩) 2 2)) flT), (H, .cells (flA 1 x 0 y 0 0 (.slice (some ⟨g2, 0, none⟩) 2 2)) flT), (w12.heap.size + 1, .cells (flA 1 x 0 y 0 0 (.slice (some ⟨g3, 0, none⟩) 2 2)) flT)] ∧ (PtsV W 0 (.slice (some ⟨g1, 0, none⟩) 2 2) [p, q] ∧ PtsV W 0 (.slice (some ⟨g2, 0, none⟩) 2 2) [s, ⟨d.ip, s.port⟩] ∧ PtsV W 0 (.slice (some ⟨g3, 0, none⟩) 2 2) [p, q])) ⟨(hM12.after ((Below.refl _ _).alloc (Nat.le_refl _) _)).push _ _ (by simp), (HR12.out.1.below ((Below.refl _ _).alloc (Nat.le_refl _) _) (Nat.le_refl _)).below ((Below.refl _ _).alloc (Nat.le_refl _) _) (Nat.le_refl _), (HR12.out.2.1.below ((Below.refl _ _).alloc (Nat.le_refl _) _) (Nat.le_refl _)).below ((Below.refl _ _).alloc (Nat.le_refl _) _) (Nat.le_refl _), (HR12.out.2.2.below ((Below.refl _ _).alloc (Nat.le_refl _) _) (Nat.le_refl _)).below ((Below.refl _ _).alloc (Nat.le_refl _) _) (Nat.le_refl _)⟩ ?_
    intro w13 ⟨hM13, hq13⟩
    clear hM12 HR12 HM11 HQ11
    generalize w12.heap.size + 1 = J at *
    have HB13 : Hid (Below w.heap.size w w13) := hM13.below
    have HMF : Hid (∀ W, Below w13.heap.size w13 W → Mem w W [(w.heap.size + 1, .cells (ptA s) ptT), (w.heap.size + 2, .cells #[.int .u32 d.ip, .int .u16 s.port] ptT), (G, .cells (flA 1 x 0 y 0 0 (.slice (some ⟨g1, 0, none⟩) 2 2)) flT), (H, .cells (flA 1 x 0 y 0 0 (.slice (some ⟨g2, 0, none⟩) 2 2)) flT), (J, .cells (flA 1 x 0 y 0 0 (.slice (some ⟨g3, 0, none⟩) 2 2)) flT)] ∧ PtsV W 0 (.slice (some ⟨g2, 0, none⟩) 2 2) [s, ⟨d.ip, s.port⟩]) := fun W hb => ⟨hM13.after hb, hq13.2.1.below hb (Nat.le_refl _)⟩
    have HPt : Hid (∀ W, Below w13.heap.size w13 W → Calls Try.prog 9 #[.slice (some ⟨g3, 0, none⟩) 2 2, .slice (some ⟨g1, 0, none⟩) 2 2] W fun e w' => e = .returned (.bool true) ∧ Below W.heap.size W w') := fun W hb => hpoints_yes (hq13.2.2.below hb (Nat.le_refl _)) (hq13.1.below hb (Nat.le_refl _))
    have HBd : Hid (Below w13.heap.size w13 w13.drew) := (Below.refl _ _).drew
    have r0 : w13.cell? ⟨g2, 0, none⟩ = some (.int .u32 s.ip) := pts_cells hq13.2.1 0
    have r2 : w13.cell? ⟨g2, 2, none⟩ = some (.int .u32 d.ip) := pts_cells hq13.2.1 2
    have ks : w13.cell? ⟨w.heap.size + 1, 0, none⟩ = some (.int .u32 s.ip) := hM13.cell 0 rfl 0
    have kd : w13.cell? ⟨w.heap.size + 2, 0, none⟩ = some (.int .u32 d.ip) := hM13.cell 1 rfl 0
    have kG : w13.cell? ⟨G, 6, none⟩ = some (.slice (some ⟨g1, 0, none⟩) 2 2) := hM13.cell 2 rfl 6
    have kH : w13.cell? ⟨H, 6, none⟩ = some (.slice (some ⟨g2, 0, none⟩) 2 2) := hM13.cell 3 rfl 6
    have kJ : w13.cell? ⟨J, 6, none⟩ = some (.slice (some ⟨g3, 0, none⟩) 2 2) := hM13.cell 4 rfl 6
    have q1 : w13.cell? ⟨G, 1, none⟩ = some (.int .u32 x) := hM13.cell 2 rfl 1
    have q2 : w13.cell? ⟨G, 2, none⟩ = some (.int .u16 0) := hM13.cell 2 rfl 2
    have q3 : w13.cell? ⟨G, 3, none⟩ = some (.int .u32 y) := hM13.cell 2 rfl 3
    have q4 : w13.cell? ⟨G, 4, none⟩ = some (.int .u16 0) := hM13.cell 2 rfl 4
    have v1 : w13.cell? ⟨H, 1, none⟩ = some (.int .u32 x) := hM13.cell 3 rfl 1
    have v2 : w13.cell? ⟨H, 2, none⟩ = some (.int .u16 0) := hM13.cell 3 rfl 2
    have v3 : w13.cell? ⟨H, 3, none⟩ = some (.int .u32 y) := hM13.cell 3 rfl 3
    have v4 : w13.cell? ⟨H, 4, none⟩ = some (.int .u16 0) := hM13.cell 3 rfl 4
    have e1 := pt_eq x 0 x 0
    have e2 := pt_eq y 0 y 0
    simp only [BEq.rfl, Bool.and_self] at e1 e2
    clear hM13 hq13
    simp only [List.append_eq, List.cons_append, List.nil_append]
    go_region_held3 (fun w' => w'.cell? ⟨g2, 0, none⟩ = some (.int .u32 s.ip) ∧ w'.cell? ⟨g2, 2, none⟩ = some (.int .u32 d.ip) ∧ w'.cell? ⟨w.heap.size + 1, 0, none⟩ = some (.int .u32 s.ip) ∧ w'.cell? ⟨w.heap.size + 2, 0, none⟩ = some (.int .u32 d.ip) ∧ w'.cell? ⟨G, 6, none⟩ = some (.slice (some ⟨g1, 0, none⟩) 2 2) ∧ w'.cell? ⟨H, 6, none⟩ = some (.slice (some ⟨g2, 0, none⟩) 2 2) ∧ w'.cell? ⟨J, 6, none⟩ = some (.slice (some ⟨g3, 0, none⟩) 2 2) ∧ w'.cell? ⟨G, 1, none⟩ = some (.int .u32 x) ∧ w'.cell? ⟨G, 2, none⟩ = some (.int .u16 0) ∧ w'.cell? ⟨G, 3, none⟩ = some (.int .u32 y) ∧ w'.cell? ⟨G, 4, none⟩ = some (.int .u16 0) ∧ w'.cell? ⟨H, 1, none⟩ = some (.int .u32 x) ∧ w'.cell? ⟨H, 2, none⟩ = some (.int .u16 0) ∧ w'.cell? ⟨H, 3, none⟩ = some (.int .u32 y) ∧ w'.cell? ⟨H, 4, none⟩ = some (.int .u16 0)) (first | go_keep | assumption | (refine ⟨?_, ?_, ?_, ?_, ?_, ?_, ?_, ?_, ?_, ?_, ?_, ?_, ?_, ?_, ?_⟩ <;> assumption))
      (first
        | (go_at_call 9; refine (HPt.out _ HBd.out).mono ?_; rintro e w14 ⟨rfl, hb14⟩
           obtain ⟨hM14, hq14⟩ := HMF.out w14 (HBd.out.trans hb14)
           have HB14 : Hid (Below w.heap.size w w14) := hM14.below
           have yr0 : w14.cell? ⟨g2, 0, none⟩ = some (.int .u32 s.ip) := pts_cells hq14 0
           have yr2 : w14.cell? ⟨g2, 2, none⟩ = some (.int .u32 d.ip) := pts_cells hq14 2
           have yks : w14.cell? ⟨w.heap.size + 1, 0, none⟩ = some (.int .u32 s.ip) := hM14.cell 0 rfl 0
           have ykd : w14.cell? ⟨w.heap.size + 2, 0, none⟩ = some (.int .u32 d.ip) := hM14.cell 1 rfl 0
           have ykG : w14.cell? ⟨G, 6, none⟩ = some (.slice (some ⟨g1, 0, none⟩) 2 2) := hM14.cell 2 rfl 6
           have ykH : w14.cell? ⟨H, 6, none⟩ = some (.slice (some ⟨g2, 0, none⟩) 2 2) := hM14.cell 3 rfl 6
           have ykJ : w14.cell? ⟨J, 6, none⟩ = some (.slice (some ⟨g3, 0, none⟩) 2 2) := hM14.cell 4 rfl 6
           have yq1 : w14.cell? ⟨G, 1, none⟩ = some (.int .u32 x) := hM14.cell 2 rfl 1
           have yq2 : w14.cell? ⟨G, 2, none⟩ = some (.int .u16 0) := hM14.cell 2 rfl 2
           have yq3 : w14.cell? ⟨G, 3, none⟩ = some (.int .u32 y) := hM14.cell 2 rfl 3
           have yq4 : w14.cell? ⟨G, 4, none⟩ = some (.int .u16 0) := hM14.cell 2 rfl 4
           have yv1 : w14.cell? ⟨H, 1, none⟩ = some (.int .u32 x) := hM14.cell 3 rfl 1
           have yv2 : w14.cell? ⟨H, 2, none⟩ = some (.int .u16 0) := hM14.cell 3 rfl 2
           have yv3 : w14.cell? ⟨H, 3, none⟩ = some (.int .u32 y) := hM14.cell 3 rfl 3
           have yv4 : w14.cell? ⟨H, 4, none⟩ = some (.int .u16 0) := hM14.cell 3 rfl 4
           clear hM14 hq14 hb14))
    all_goals
      go_wp2_with fail
      go_ret
      exact ⟨rfl, HB14.out⟩
end Go.Proofs.Ytjalpbkfpjfigab

