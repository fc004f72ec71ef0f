/-
  The walk of lychlaw8.RewriteBack: it answers true.
-/
import Derived.Test.YtjalpbkfpjfigaaM35
import Derived.Test.YtjalpbkfpjfigaaM37
import Derived.Test.YtjalpbkfpjfigaaM24
import Derived.Test.YtjalpbkfpjfigaaM34
import Derived.Deep.CutBlock
namespace Go.Proofs.Ytjalpbkfpjfigaa
open Go.RowKit
open Sm
set_option linter.unusedVariables false
set_option maxRecDepth 20000

namespace Sm
theorem flFl_ok {K : Pk} (h : K.Ok) : (flFl K).src.Ok ∧ (flFl K).dst.Ok := by
  have m := (mgRes_ok h.body).rest
  unfold flFl
  split
  · exact ⟨⟨h.src, (udRes_ok h.body).src⟩, ⟨h.dst, (udRes_ok h.body).dst⟩⟩
  · split
    · exact ⟨⟨h.src, (tcRes_ok h.body).src⟩, ⟨h.dst, (tcRes_ok h.body).dst⟩⟩
    · unfold mfFl fl0
      split
      · exact ⟨⟨h.src, by simp only; omega⟩, ⟨h.dst, by simp only; omega⟩⟩
      · split
        · exact ⟨⟨h.src, by simp⟩, ⟨h.dst, by simp⟩⟩
        · exact ⟨⟨by simp [Fl.zero], by simp [Fl.zero]⟩, ⟨by simp [Fl.zero], by simp [Fl.zero]⟩⟩
/-- The points that fit a flow. -/
def fitS (F : Fl) (s : Pt) : Pt := if 0 < F.inner.length then ⟨s.ip, 0⟩ else s
def fitD (F : Fl) (s d : Pt) : Pt := if 0 < F.inner.length then ⟨d.ip, 0⟩ else if F.proto = 1 then ⟨d.ip, s.port⟩ else d
theorem fit_ok (F : Fl) {s d : Pt} (hs : s.Ok) (hd : d.Ok) : (fitS F s).Ok ∧ (fitD F s d).Ok ∧ pfit F (fitS F s) (fitD F s d) = true := by
  unfold fitS fitD pfit
  by_cases h : 0 < F.inner.length
  · simp only [if_pos h]
    exact ⟨⟨hs.ip, by simp⟩, ⟨hd.ip, by simp⟩, by simp⟩
  · simp only [if_neg h]
    by_cases e : F.proto = 1
    · simp only [if_pos e]
      exact ⟨hs, ⟨hd.ip, hs.port⟩, by simp⟩
    · simp only [if_neg e]
      exact ⟨hs, hd, by simp [e]⟩
structure BackM (P : Pa) (sd : Int) (s d : Pt) (L : List Int) (F : Fl) (L2 : List Int) : Prop where
  pk : pktb P sd 0 = L
  b1 : IsBytes L ∧ L.length ≤ 65535
  e1 : lkErr L = 0
  f1 : lkFl L = F
  okF : F.src.Ok ∧ F.dst.Ok
  okS : (fitS F s).Ok ∧ (fitD F s d).Ok
  c1 : chErr L (fitS F s) (fitD F s d) = 0
  o1 : chOut L (fitS F s) (fitD F s d) = L2
  b2 : IsBytes L2 ∧ L2.length ≤ 65535
  e2 : lkErr L2 = 0
  f2 : lkFl L2 = ⟨F.proto, fitS F s, fitD F s d, F.flags, F.inner⟩
  c2 : chErr L2 F.src F.dst = 0
  o2 : chOut L2 F.src F.dst = L
theorem ch_kd {K : Pk} (h : K.Ok) (f : Fits K) (k : Kd K) {s d : Pt} (hs : s.Ok) (hd : d.Ok) (hp : pfit (flFl K) s d = true) : chErr (ipb K) s d = 0 ∧ chOut (ipb K) s d = ipb (chPk K (flFl K) s d) := by
  obtain ⟨a, b⟩ := kd_look h f k
  have t := kd_twice h f k hs hd hp
  unfold chErr chOut
  rw [a, b, hp, if_neg (by decide), if_neg (by decide), if_neg (by decide), if_neg (by decide)]
  exact ⟨(fits_iff _).mpr t.fits, ipOut_fits t.fits⟩
theorem back_math {P : Pa} (hP : P.Ok) (sd : Int) {s d : Pt} (hs : s.Ok) (hd : d.Ok) (ht : P.ttl = 9) (hsp : P.sp = 0) : ∃ L F L2, BackM P sd s d L F L2 := by
  obtain ⟨k, -, f⟩ := pk1_kd hP sd 0 ⟨by omega, by omega⟩
  have ok := pk1_ok (side := sd) (k := 0) hP ⟨by omega, by omega⟩
  have e := pktb_nine hP sd 0 ⟨by omega, by omega⟩ (by rw [ht]; decide) (by rw [hsp]; decide)
  generalize pk1 P sd 0 = K at *
  obtain ⟨a, b⟩ := kd_look ok f k
  obtain ⟨q1, q2, q3⟩ := fit_ok (flFl K) hs hd
  have t := kd_twice ok f k q1 q2 q3
  have c := ch_kd ok f k q1 q2 q3
  obtain ⟨a2, b2⟩ := kd_look t.ok t.fits t.kd
  have okF := flFl_ok ok
  have c2 := ch_kd t.ok t.fits t.kd okF.1 okF.2 t.fit
  refine ⟨ipb K, flFl K, ipb (chPk K (flFl K) (fitS (flFl K) s) (fitD (flFl K) s d)), e, ⟨ipb_bytes ok f, by rw [ipb_len]; exact f.n⟩, a, ?_, okF, ⟨q1, q2⟩, c.1, c.2, ⟨ipb_bytes t.ok t.fits, by rw [ipb_len]; exact t.fits.n⟩, a2, ?_, c2.1, ?_⟩
  · rw [show lkFl (ipb K) = flFl (ipPk (ipb K)) from if_pos a, b]
  · rw [show lkFl (ipb (chPk K (flFl K) (fitS (flFl K) s) (fitD (flFl K) s d))) = flFl (ipPk (ipb (chPk K (flFl K) (fitS (flFl K) s) (fitD (flFl K) s d)))) from if_pos a2, b2]
    exact t.fl
  · rw [c2.2, t.back]
end Sm

/-- Look's answer where it is none refused: its flow's points. -/
theorem look_pts {w : World} {a : Option Addr} {n c : Nat} {l : List Int} (hr : Row w a l) (hn : l.length = n) (hc : n ≤ c) (hE : lkErr l = 0) {F : Fl} (hF : lkFl l = F) :
    Calls Try.prog 11 #[.slice a n c] w fun e w' => ∃ p ao bo no co nb cb ia ic, e = .returned (.tuple #[.agg (lkB p ao bo no co nb cb), .agg (flB F (.slice ia F.inner.length ic)), .int .i64 0]) ∧ PtsV w' w.heap.size (.slice ia F.inner.length ic) F.inner ∧ Below w.heap.size w w' := by
  refine (Look_any hr hn hc).mono ?_
  rintro e w' ⟨ao, bo, ia, co, cb, ic, rfl, -, hp, hb⟩
  rw [hE]
  rw [hF] at hp ⊢
  exact ⟨_, ao, bo, _, co, _, cb, ia, ic, rfl, hp, hb⟩
theorem Mem.rest {w W : World} {p : Nat × Obj} {L : List (Nat × Obj)} (h : Mem w W (p :: L)) : Mem w W L :=
  ⟨h.below, fun q hq => h.low q (List.mem_cons_of_mem _ hq), fun q hq => h.at_ q (List.mem_cons_of_mem _ hq), (List.nodup_cons.mp h.apart).2⟩

set_option maxHeartbeats 8000000 in
theorem back_core {w : World} (P : Pa) (hP : P.Ok) (side : Int) (s0 : 0 ≤ side) (s1 : side ≤ 255) (s d : Pt) (hs : s.Ok) (hd : d.Ok) :
    Calls Try.prog 4 #[.agg (paB P), .int .u8 side, .agg (ptA s), .agg (ptA d)] w fun e w' => e = .returned (.bool true) ∧ Below w.heap.size w w' := by
  have HM1 : Hid (Mem w (((w.alloc (.cells (paB P) paT)).alloc (.cells (ptA s) ptT)).alloc (.cells (ptA d) ptT)) [(w.heap.size, .cells (paB P) paT), (w.heap.size + 1, .cells (ptA s) ptT), (w.heap.size + 2, .cells (ptA d) ptT)]) := (((Mem.nil w).push1 rfl).push2 (by simp)).push3 (by simp)
  have hk := rknown_any (((w.alloc (.cells (paB P) paT)).alloc (.cells (ptA s) ptT)).alloc (.cells (ptA d) ptT))
  have hst : side.tmod 2 = side % 2 := Int.tmod_eq_emod_of_nonneg s0
  have hsw := wrap64_small (side % 2) (by omega) (by omega)
  have HS : Hid (side % 2 = 0 ∨ side % 2 = 1) := by show _ ∨ _; omega
  have HP : Hid ((⟨P.pr, P.s, P.d, P.fr, P.tp, P.fl, 9, P.er, P.n, 0⟩ : Pa).Ok) := ⟨hP.pr, hP.s, hP.d, hP.fr, hP.tp, hP.fl, by simp, hP.er, hP.n, by simp⟩
  generalize side % 2 = sd at *
  obtain ⟨L, F, L2, hBM⟩ := back_math HP.out sd hs hd rfl rfl
  have HBM : Hid (BackM ⟨P.pr, P.s, P.d, P.fr, P.tp, P.fl, 9, P.er, P.n, 0⟩ sd s d L F L2) := hBM
  clear hP hBM
  go_enter Try.func4, Try.ntmps4
  go_wp2_with fail
  refine hk.mono ?_
  rintro e w2 ⟨rfl, hbel⟩
  have hM2 := HM1.out.after hbel
  have HM2 : Hid (Mem w w2 [(w.heap.size, .cells (paB P) paT), (w.heap.size + 1, .cells (ptA s) ptT), (w.heap.size + 2, .cells (ptA d) ptT)]) := hM2
  have kc : ∀ i, w2.cell? ⟨w.heap.size, i, none⟩ = (paB P)[i]? := hM2.cell 0 rfl
  have kf : ∀ i, w2.frozen? ⟨w.heap.size, i, none⟩ = false := hM2.free 0 rfl
  clear hk hbel HM1 hM2
  go_upto_region 4 with fail
  refine wp_letter (fun W => Mem w W [(w.heap.size, .cells (paA P.pr P.s P.d P.fr P.tp P.fl 9 P.er P.n 0) paT), (w.heap.size + 1, .cells (ptA s) ptT), (w.heap.size + 2, .cells (ptA d) ptT)]) ((HM2.out.set 0 rfl 6 _).set 0 rfl 9 _) ?_
  intro w3 hM3
  have HM3 : Hid _ := hM3
  clear kc kf HM2
  have kc : ∀ i, w3.cell? ⟨w.heap.size, i, none⟩ = (paA P.pr P.s P.d P.fr P.tp P.fl 9 P.er P.n 0)[i]? := hM3.cell 0 rfl
  have hPk := packet_any w3 ⟨P.pr, P.s, P.d, P.fr, P.tp, P.fl, 9, P.er, P.n, 0⟩ HP.out sd 0 HS.out ⟨by omega, by omega⟩
  obtain ⟨n, hn⟩ : ∃ n, L.length = n := ⟨_, rfl⟩
  rw [HBM.out.pk, hn] at hPk
  have HN : Hid (L.length = n) := hn
  clear hM3 hn
  go_wp2_with fail
  refine hPk.mono ?_
  rintro e w4 ⟨u, rfl, hown, hb4⟩
  have HM4 : Hid (Mem w w4 [(w.heap.size + 1, .cells (ptA s) ptT), (w.heap.size + 2, .cells (ptA d) ptT)]) := (HM3.out.after hb4).rest
  obtain ⟨a, ca, rfl, hr4, -, hf4, hca⟩ := own_read hown HN.out HBM.out.b1.1 (by have := HBM.out.b1.2; omega)
  have HR4 : Hid (Row w4 a L) := hr4
  have HCA : Hid (n ≤ ca ∧ Far (w.heap.size + 1) a L ∧ Far (w.heap.size + 2) a L) := ⟨hca, Or.inr fun x hx e => by
      have h1 := hf4 x hx
      have h2 := HM3.out.ltAt 1 rfl
      omega, Or.inr fun x hx e => by
      have h1 := hf4 x hx
      have h2 := HM3.out.ltAt 2 rfl
      omega⟩
  have hL := look_pts hr4 HN.out hca HBM.out.e1 HBM.out.f1
  obtain ⟨ni, hni⟩ : ∃ ni, F.inner.length = ni := ⟨_, rfl⟩
  have HNI : Hid (F.inner.length = ni) := hni
  rw [hni] at hL
  clear hPk hown hb4 kc HM3 hr4 hf4 hca hni
  go_wp2_with fail
  refine hL.mono ?_
  rintro e w5 ⟨p1, ao1, bo1, no1, co1, nb1, cb1, ia1, ic1, rfl, hp5, hb5⟩
  have hM5 := HM4.out.after hb5
  have HR5 : Hid (Row w5 a L) := HR4.out.below hb5 (Nat.le_refl _)
  have HP5 : Hid (PtsV w5 w4.heap.size (.slice ia1 ni ic1) F.inner) := hp5
  clear hL hb5 hp5
  go_upto_region 6 with fail
  refine wp_letter (fun W => Mem w W [(w.heap.size + 1, .cells (ptA s) ptT), (w.heap.size + 2, .cells (ptA d) ptT), (w5.heap.size + 1, .cells (flB F (.slice ia1 ni ic1)) flT)] ∧ Row W a L ∧ PtsV W w4.heap.size (.slice ia1 ni ic1) F.inner) ⟨(hM5.after ((Below.refl _ _).alloc (Nat.le_refl _) _)).push3 (by simp), row_alloc (row_alloc HR5.out), (HP5.out.below ((Below.refl _ _).alloc (Nat.le_refl _) _) (Nat.le_refl _)).below ((Below.refl _ _).alloc (Nat.le_refl _) _) (Nat.le_refl _)⟩ ?_
  intro w6 ⟨hM6, hr6, hp6⟩
  have HM6 : Hid _ := hM6
  have HR6 : Hid (Row w6 a L) := hr6
  have HP6 : Hid (PtsV w6 w4.heap.size (.slice ia1 ni ic1) F.inner) := hp6
  have HW4 : Hid (w.heap.size + 1 < w4.heap.size ∧ w.heap.size + 2 < w4.heap.size) := ⟨HM4.out.ltAt 0 rfl, HM4.out.ltAt 1 rfl⟩
  clear hM5 HR5 HP5 HM4 HR4 hM6 hr6 hp6
  generalize w5.heap.size + 1 = G at *
  have g6 : w6.cell? ⟨G, 6, none⟩ = some (.slice ia1 ni ic1) := HM6.out.cell 2 rfl 6
  have g0 : w6.cell? ⟨G, 0, none⟩ = some (.int .u8 F.proto) := HM6.out.cell 2 rfl 0
  have ks : ∀ i, w6.cell? ⟨w.heap.size + 1, i, none⟩ = (ptA s)[i]? := HM6.out.cell 0 rfl
  have kd : ∀ i, w6.cell? ⟨w.heap.size + 2, i, none⟩ = (ptA d)[i]? := HM6.out.cell 1 rfl
  have fs : ∀ i, w6.frozen? ⟨w.heap.size + 1, i, none⟩ = false := HM6.out.free 0 rfl
  have fd : ∀ i, w6.frozen? ⟨w.heap.size + 2, i, none⟩ = false := HM6.out.free 1 rfl
  have HSF : Hid ((0 < ni → fitS F s = ⟨s.ip, 0⟩ ∧ fitD F s d = ⟨d.ip, 0⟩) ∧ (¬ 0 < ni → fitS F s = s ∧ (F.proto = 1 → fitD F s d = ⟨d.ip, s.port⟩) ∧ (¬ F.proto = 1 → fitD F s d = d))) := by
    rw [← HNI.out]
    unfold fitS fitD
    exact ⟨fun h => ⟨if_pos h, if_pos h⟩, fun h => ⟨if_neg h, fun e => by rw [if_neg h, if_pos e], fun e => by rw [if_neg h, if_neg e]⟩⟩
  obtain ⟨s', hs'⟩ : ∃ s', fitS F s = s' := ⟨_, rfl⟩
  obtain ⟨d', hd'⟩ : ∃ d', fitD F s d = d' := ⟨_, rfl⟩
  rw [hs', hd'] at HSF
  have HF2 : Hid (fitS F s = s' ∧ fitD F s d = d') := ⟨hs', hd'⟩
  clear hs' hd'
  go_upto_block 0 with fail
  go_cut [8] (fun s8 wx => s8 = .bool false ∧ Mem w wx [(w.heap.size + 1, .cells (ptA s') ptT), (w.heap.size + 2, .cells (ptA d') ptT), (G, .cells (flB F (.slice ia1 ni ic1)) flT)] ∧ Row wx a L ∧ PtsV wx w4.heap.size (.slice ia1 ni ic1) F.inner)
  case first =>
    by_cases hi : 0 < ni
    · have hi' : (0 : Int) < ni := by omega
      obtain ⟨q1, q2⟩ := HSF.out.1 hi
      have HQ : Hid (s' = ⟨s.ip, 0⟩ ∧ d' = ⟨d.ip, 0⟩) := ⟨q1, q2⟩
      clear q1 q2
      go_wp2_with fail
      go_meet
      case rel =>
        rw [HQ.out.1, HQ.out.2]
        exact ⟨rfl, (HM6.out.set 0 rfl 1 _).set 1 rfl 1 _, (HR6.out.beside HCA.out.2.1).beside HCA.out.2.2, (HP6.out.far HW4.out.1).far HW4.out.2⟩
    · have hi' : ¬ (0 : Int) < ni := by omega
      obtain ⟨q1, q2, q3⟩ := HSF.out.2 hi
      by_cases hp : F.proto = 1
      · have HQ : Hid (s' = s ∧ d' = ⟨d.ip, s.port⟩) := ⟨q1, q2 hp⟩
        clear q1 q2 q3
        go_wp2_with fail
        go_meet
        case rel =>
          rw [HQ.out.1, HQ.out.2]
          exact ⟨rfl, HM6.out.set 1 rfl 1 _, HR6.out.beside HCA.out.2.2, HP6.out.far HW4.out.2⟩
      · have HQ : Hid (s' = s ∧ d' = d) := ⟨q1, q3 hp⟩
        clear q1 q2 q3
        go_wp2_with fail
        go_meet
        case rel =>
          rw [HQ.out.1, HQ.out.2]
          exact ⟨rfl, HM6.out, HR6.out, HP6.out⟩
  case rest =>
    obtain ⟨rfl, hM7, hr7, hp7⟩ := hcut
    have HM7 : Hid (Mem w wc [(w.heap.size + 1, .cells (ptA s') ptT), (w.heap.size + 2, .cells (ptA d') ptT), (G, .cells (flB F (.slice ia1 ni ic1)) flT)]) := hM7
    have HR7 : Hid (Row wc a L ∧ PtsV wc w4.heap.size (.slice ia1 ni ic1) F.inner) := ⟨hr7, hp7⟩
    clear g6 g0 ks kd fs fd HM6 HR6 HP6 HSF
    have HB2 : Hid (BackM ⟨P.pr, P.s, P.d, P.fr, P.tp, P.fl, 9, P.er, P.n, 0⟩ sd s d L F L2 ∧ (s'.Ok ∧ d'.Ok) ∧ chErr L s' d' = 0 ∧ chOut L s' d' = L2 ∧ lkFl L2 = ⟨F.proto, s', d', F.flags, F.inner⟩) := by
      have := HBM.out
      have a1 := this.okS
      have a2 := this.c1
      have a3 := this.o1
      have a4 := this.f2
      rw [HF2.out.1, HF2.out.2] at a1 a2 a3 a4
      exact ⟨this, a1, a2, a3, a4⟩
    have ks : ∀ i, wc.cell? ⟨w.heap.size + 1, i, none⟩ = (ptA s')[i]? := hM7.cell 0 rfl
    have kd : ∀ i, wc.cell? ⟨w.heap.size + 2, i, none⟩ = (ptA d')[i]? := hM7.cell 1 rfl
    obtain ⟨n2, hn2⟩ : ∃ n, L2.length = n := ⟨_, rfl⟩
    have HN2 : Hid (L2.length = n2) := hn2
    have hCh := change_any hr7 HN.out HCA.out.1 s' d' HB2.out.2.1.1 HB2.out.2.1.2
    rw [HB2.out.2.2.1, HB2.out.2.2.2.1, hn2] at hCh
    clear hM7 hr7 hp7 hn2
    go_wp2_with fail
    refine hCh.mono ?_
    rintro e w8 ⟨u2, rfl, hown, hb8⟩
    have HM8 : Hid (Mem w w8 [(w.heap.size + 1, .cells (ptA s') ptT), (w.heap.size + 2, .cells (ptA d') ptT), (G, .cells (flB F (.slice ia1 ni ic1)) flT)]) := HM7.out.after hb8
    have HR8 : Hid (Row w8 a L ∧ PtsV w8 w4.heap.size (.slice ia1 ni ic1) F.inner) := ⟨HR7.out.1.below hb8 (Nat.le_refl _), HR7.out.2.below hb8 (Nat.le_refl _)⟩
    obtain ⟨a2, c2, rfl, hr8, -, -, hc2⟩ := own_read hown HN2.out HBM.out.b2.1 (by have := HBM.out.b2.2; omega)
    have HR82 : Hid (Row w8 a2 L2) := hr8
    have HC2 : Hid (n2 ≤ c2) := hc2
    have hL := look_pts hr8 HN2.out hc2 HBM.out.e2 HB2.out.2.2.2.2
    rw [show (⟨F.proto, s', d', F.flags, F.inner⟩ : Fl).inner.length = F.inner.length from rfl, HNI.out] at hL
    clear hCh hown hb8 ks kd HM7 HR7 hr8 hc2
    go_wp2_with fail
    refine hL.mono ?_
    rintro e w9 ⟨p2, ao2, bo2, no2, co2, nb2, cb2, ia2, ic2, rfl, hp9, hb9⟩
    have hM9 := HM8.out.after hb9
    have HR9 : Hid (Row w9 a L ∧ PtsV w9 w4.heap.size (.slice ia1 ni ic1) F.inner ∧ Row w9 a2 L2 ∧ PtsV w9 w8.heap.size (.slice ia2 ni ic2) F.inner) := ⟨HR8.out.1.below hb9 (Nat.le_refl _), HR8.out.2.below hb9 (Nat.le_refl _), HR82.out.below hb9 (Nat.le_refl _), hp9⟩
    clear hL hb9 hp9
    go_upto_region 14 with fail
    refine wp_letter (fun W => Mem w W [(w.heap.size + 1, .cells (ptA s') ptT), (w.heap.size + 2, .cells (ptA d') ptT), (G, .cells (flB F (.slice ia1 ni ic1)) flT), (w9.heap.size + 1, .cells (flB ⟨F.proto, s', d', F.flags, F.inner⟩ (.slice ia2 ni ic2)) flT)] ∧ (Row W a L ∧ PtsV W w4.heap.size (.slice ia1 ni ic1) F.inner ∧ Row W a2 L2 ∧ PtsV W w8.heap.size (.slice ia2 ni ic2) F.inner)) ⟨(hM9.after ((Below.refl _ _).alloc (Nat.le_refl _) _)).push4 (by simp), row_alloc (row_alloc HR9.out.1), (HR9.out.2.1.below ((Below.refl _ _).alloc (Nat.le_refl _) _) (Nat.le_refl _)).below ((Below.refl _ _).alloc (Nat.le_refl _) _) (Nat.le_refl _), row_alloc (row_alloc HR9.out.2.2.1), (HR9.out.2.2.2.below ((Below.refl _ _).alloc (Nat.le_refl _) _) (Nat.le_refl _)).below ((Below.refl _ _).alloc (Nat.le_refl _) _) (Nat.le_refl _)⟩ ?_
    intro w10 ⟨hM10, hq10⟩
    have HM10 : Hid _ := hM10
    have HQ10 : Hid _ := hq10
    clear hM9 HR9 HM8 HR8 HR82 hM10 hq10
    generalize w9.heap.size + 1 = H at *
    have g1 : w10.cell? ⟨G, 1, none⟩ = some (.int .u32 F.src.ip) := HM10.out.cell 2 rfl 1
    have g2 : w10.cell? ⟨G, 2, none⟩ = some (.int .u16 F.src.port) := HM10.out.cell 2 rfl 2
    have g3 : w10.cell? ⟨G, 3, none⟩ = some (.int .u32 F.dst.ip) := HM10.out.cell 2 rfl 3
    have g4 : w10.cell? ⟨G, 4, none⟩ = some (.int .u16 F.dst.port) := HM10.out.cell 2 rfl 4
    have hCh := change_any HQ10.out.2.2.1 HN2.out HC2.out F.src F.dst HBM.out.okF.1 HBM.out.okF.2
    rw [HBM.out.c2, HBM.out.o2, HN.out] at hCh
    go_wp2_with fail
    refine hCh.mono ?_
    rintro e w11 ⟨u3, rfl, hown, hb11⟩
    have hM11 := HM10.out.after hb11
    have HB11 : Hid (Below w.heap.size w w11) := hM11.below
    obtain ⟨a3, c3, rfl, hr3, -, -, hc3⟩ := own_read hown HN.out HBM.out.b1.1 (by have := HBM.out.b1.2; omega)
    have hh := hbytes_yes hr3 (HQ10.out.1.below hb11 (Nat.le_refl _)) n n HN.out HN.out c3 ca
    have HH : Hid (Calls Try.prog 10 #[.slice a3 n c3, .slice a n ca] w11 fun e w' => e = .returned (.bool true) ∧ w11 = w') := hh
    have hpt := hpoints_yes (HQ10.out.2.2.2.below hb11 (Nat.le_refl _)) (HQ10.out.2.1.below hb11 (Nat.le_refl _))
    have HH2 : Hid (∀ W, Below w11.heap.size w11 W → Calls Try.prog 10 #[.slice a3 n c3, .slice a n ca] W fun e w' => e = .returned (.bool true) ∧ W = w') := fun W hb => hbytes_yes (hr3.below hb (Nat.le_refl _)) ((HQ10.out.1.below hb11 (Nat.le_refl _)).below hb (Nat.le_refl _)) n n HN.out HN.out c3 ca
    clear g1 g2 g3 g4 hCh hown hr3 hc3 hb11 HM10 HQ10 hh
    have k1 : w11.cell? ⟨H, 1, none⟩ = some (.int .u32 s'.ip) := hM11.cell 3 rfl 1
    have k2 : w11.cell? ⟨H, 2, none⟩ = some (.int .u16 s'.port) := hM11.cell 3 rfl 2
    have k3 : w11.cell? ⟨H, 3, none⟩ = some (.int .u32 d'.ip) := hM11.cell 3 rfl 3
    have k4 : w11.cell? ⟨H, 4, none⟩ = some (.int .u16 d'.port) := hM11.cell 3 rfl 4
    have k5 : w11.cell? ⟨H, 5, none⟩ = some (.int .u8 F.flags) := hM11.cell 3 rfl 5
    have k6 : w11.cell? ⟨H, 6, none⟩ = some (.slice ia2 ni ic2) := hM11.cell 3 rfl 6
    have g5 : w11.cell? ⟨G, 5, none⟩ = some (.int .u8 F.flags) := hM11.cell 2 rfl 5
    have g6 : w11.cell? ⟨G, 6, none⟩ = some (.slice ia1 ni ic1) := hM11.cell 2 rfl 6
    have ks0 : w11.cell? ⟨w.heap.size + 1, 0, none⟩ = some (.int .u32 s'.ip) := hM11.cell 0 rfl 0
    have ks1 : w11.cell? ⟨w.heap.size + 1, 1, none⟩ = some (.int .u16 s'.port) := hM11.cell 0 rfl 1
    have kd0 : w11.cell? ⟨w.heap.size + 2, 0, none⟩ = some (.int .u32 d'.ip) := hM11.cell 1 rfl 0
    have kd1 : w11.cell? ⟨w.heap.size + 2, 1, none⟩ = some (.int .u16 d'.port) := hM11.cell 1 rfl 1
    have e1 := pt_eq s'.ip s'.port s'.ip s'.port
    have e2 := pt_eq d'.ip d'.port d'.ip d'.port
    simp only [BEq.rfl, Bool.and_self] at e1 e2
    clear hM11
    go_wp2_with fail
    refine hpt.mono ?_
    rintro e w12 ⟨rfl, hb12⟩
    have hh := HH2.out w12 hb12
    have HB12 : Hid (Below w.heap.size w w12) := HB11.out.trans (hb12.mono HB11.out.size)
    clear hpt hb12 HH2 HH k1 k2 k3 k4 k5 k6 g5 g6 ks0 ks1 kd0 kd1 e1 e2
    go_wp2_with fail
    refine hh.mono ?_
    rintro e w' ⟨rfl, rfl⟩
    clear hh
    go_wp2_with fail
    go_ret
    exact ⟨rfl, HB12.out⟩
end Go.Proofs.Ytjalpbkfpjfigaa

