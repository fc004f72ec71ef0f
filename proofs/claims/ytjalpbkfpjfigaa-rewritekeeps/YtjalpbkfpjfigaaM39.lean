/-
  The walk of lychlaw8.RewriteKeeps: it answers true.
-/
import Derived.Test.YtjalpbkfpjfigaaM38
import Derived.Test.YtjalpbkfpjfigaaM35
import Derived.Test.YtjalpbkfpjfigaaM15
import Derived.Test.YtjalpbkfpjfigaaM11
namespace Go.Proofs.Ytjalpbkfpjfigaa
open Go.RowKit
open Sm
set_option linter.unusedVariables false
set_option maxRecDepth 20000

namespace Sm
theorem pk2_kd {P : Pa} (h : P.Ok) (side k : Int) (hk : 0 ≤ k ∧ k ≤ 255) (ht : 4 ≤ P.ttl % 16) (hs : P.sp % 8 ≠ 7) : pktb P side k = ipb (pk2 P side k) ∧ Kd (pk2 P side k) ∧ Fits (pk2 P side k) ∧ (pk2 P side k).proto = (pk1 P side k).proto := by
  obtain ⟨a, b, f⟩ := pk1_kd h side k hk
  have hF : Fits (pk2 P side k) ∧ Kd (pk2 P side k) ∧ (pk2 P side k).proto = (pk1 P side k).proto := by
    unfold pk2 pkt
    rw [if_neg (by omega), if_neg (by omega), if_neg (by omega), if_neg (by omega)]
    split
    · exact ⟨⟨by simp, by simp, f.flags, f.off, by simp only [List.length_cons, List.length_nil]; omega⟩, a, rfl⟩
    · exact ⟨f, a, rfl⟩
  refine ⟨?_, hF.2.1, hF.1, hF.2.2⟩
  unfold pktb spoil
  rw [if_neg (by omega), ipOut_fits hF.1]
structure KeepM (P : Pa) (sd : Int) (s d : Pt) (L L2 : List Int) (K : Pk) (D D2 : Dg) : Prop where
  pk : pktb P sd 0 = L
  b1 : IsBytes L ∧ L.length ≤ 65535
  c1 : chErr L s d = 0
  o1 : chOut L s d = L2
  b2 : IsBytes L2 ∧ L2.length = L.length
  e1 : ipErr L = 0
  r1 : ipRes L = K
  e2 : ipErr L2 = 0
  r2 : ipRes L2 = ⟨K.tos, K.ttl, K.proto, K.id, K.flags, K.off, s.ip, d.ip, K.opts, udb D2⟩
  f1 : udErr K.body = 0
  u1 : udRes K.body = D
  f2 : udErr (udb D2) = 0
  u2 : udRes (udb D2) = D2
  p2 : D2.src = s.port ∧ D2.dst = d.port
  y2 : D2.body = D.body
  ok : D2.Ok
  z : D2.sum = 0 ↔ D.sum = 0
  rt : uright s.ip d.ip D2 = true
theorem keep_math {P : Pa} (hP : P.Ok) (sd : Int) {s d : Pt} (hs : s.Ok) (hd : d.Ok) (ht : 4 ≤ P.ttl % 16) (hsp : P.sp = 0) (he : P.er = 0) (hpr : P.pr = 0 ∨ P.pr = 3) : ∃ L L2 K D D2, KeepM P sd s d L L2 K D D2 := by
  have hk0 : (0 : Int) ≤ 0 ∧ (0 : Int) ≤ 255 := ⟨by omega, by omega⟩
  obtain ⟨e, k, f, hpp⟩ := pk2_kd hP sd 0 hk0 ht (by rw [hsp]; decide)
  have ok := pk2_ok (side := sd) (k := 0) hP hk0
  have hp17 : (pk2 P sd 0).proto = 17 := by
    rw [hpp]
    unfold pk1
    rw [he, if_neg (by decide)]
    show prt P.pr = 17
    rcases hpr with h | h <;> rw [h] <;> rfl
  generalize pk2 P sd 0 = K at *
  have hpf : pfit (flFl K) s d = true := by
    have : (flFl K).inner = [] ∧ (flFl K).proto = 17 := by unfold flFl; rw [if_pos hp17]; exact ⟨rfl, hp17⟩
    unfold pfit
    rw [this.1, this.2]
    simp
  have c := ch_kd ok f k hs hd hpf
  have t := kd_twice ok f k hs hd hpf
  obtain ⟨a1, -, a3⟩ := ip_back ok f
  obtain ⟨b1, -, b3⟩ := ip_back t.ok t.fits
  rcases k with ⟨pr, D, hb, hD, hn, hsm⟩ | ⟨pr, -⟩ | ⟨pr, -⟩
  · have hl : (chDg D s d).body.length ≤ 65527 := by rw [chDg_body]; exact hn
    have hDo := chDg_ok hD hs hd
    have eu := back_ures hD hn
    have eb : chBody K (flFl K) s d = udb (chDg D s d) := by unfold chBody; rw [if_pos pr, hb, eu, udOut_fits hl]
    have ex : chPk K (flFl K) s d = ⟨K.tos, K.ttl, K.proto, K.id, K.flags, K.off, s.ip, d.ip, K.opts, udb (chDg D s d)⟩ := by unfold chPk Pk.to; rw [eb]
    have hr := kd_body t.ok t.kd
    have e2 := back_ures hDo hl
    refine ⟨ipb K, ipb (chPk K (flFl K) s d), K, D, chDg D s d, e, ⟨ipb_bytes ok f, by rw [ipb_len]; exact f.n⟩, c.1, c.2, ⟨ipb_bytes t.ok t.fits, ?_⟩, a1, a3, b1, by rw [b3, ex], by rw [hb]; exact back_uerr D hn, by rw [hb]; exact eu, back_uerr _ hl, e2, chDg_src D s d, chDg_body D s d, hDo, chDg_none D hn s d, ?_⟩
    · rw [ipb_len, ipb_len, ex]
      simp only
      rw [hb, udb_len, udb_len, chDg_body]
    · have := hr.2.1
      unfold bdRight at this
      rw [ex] at this
      rw [if_pos pr] at this
      simp only at this
      rw [e2] at this
      exact this
  · omega
  · omega
end Sm

/-- The document's own Udp's answer written out. -/
theorem rudp_seen {w : World} {a : Option Addr} {n c : Nat} {l : List Int} (hr : Row w a l) (hn : l.length = n) (hc : n ≤ c) {D : Dg} (hE : udErr l = 0) (hD : udRes l = D) {nb : Nat} (hb : D.body.length = nb) :
    Calls Try.prog 15 #[.slice a n c] w fun r w' => ∃ bo cb, r = .returned (.tuple #[.agg (udA D.src D.dst D.sum (.slice bo nb cb)), .int .i64 0]) ∧ Row w' bo D.body ∧ UdV w' 0 (.agg (udA D.src D.dst D.sum (.slice bo nb cb))) D ∧ Below w.heap.size w w' := by
  subst hb
  refine (rudp_any hr hn hc).mono ?_
  rintro r w' ⟨v, rfl, hv, hb⟩
  rw [hE]
  rw [hD] at hv
  obtain ⟨bo, cb, rfl, h1, h2, h3⟩ := hv
  exact ⟨bo, cb, rfl, h1, ⟨bo, cb, rfl, h1, h2, fun _ _ => Nat.zero_le _⟩, hb⟩
/-- The document's own Ip's answer where none is refused. -/
theorem rip_read {w : World} {a : Option Addr} {n c : Nat} {l : List Int} (hr : Row w a l) (hn : l.length = n) (hc : n ≤ c) {K : Pk} (hE : ipErr l = 0) (hK : ipRes l = K) {no nb : Nat} (ho : K.opts.length = no) (hb : K.body.length = nb) :
    Calls Try.prog 14 #[.slice a n c] w fun r w' => ∃ ao co bo cb, r = .returned (.tuple #[.agg (ipB K (.slice ao no co) (.slice bo nb cb)), .int .i64 0]) ∧ Row w' ao K.opts ∧ Row w' bo K.body ∧ nb ≤ cb ∧ Below w.heap.size w w' := by
  subst ho hb
  refine (rip_seen hr hn hc).mono ?_
  rintro r w' ⟨ao, co, bo, cb, rfl, hv, hcap, hb⟩
  rw [hE]
  rw [hK] at hv hcap ⊢
  obtain ⟨ao', co', bo', cb', e, h1, h2, -⟩ := hv
  simp only [ipA, Value.agg.injEq, Array.mk.injEq, List.cons.injEq, true_and, and_true, Value.slice.injEq] at e
  obtain ⟨⟨rfl, rfl⟩, rfl, rfl⟩ := e
  exact ⟨ao, co, bo, cb, rfl, h1, h2, hcap, hb⟩

set_option maxHeartbeats 8000000 in
theorem keeps_core {w : World} (P : Pa) (hP : P.Ok) (side : Int) (s0 : 0 ≤ side) (s1 : side ≤ 255) (s d : Pt) (hs : s.Ok) (hd : d.Ok) :
    Calls Try.prog 5 #[.agg (paB P), .int .u8 side, .agg (ptA s), .agg (ptA d)] w fun e w' => e = .returned (.bool true) ∧ Below w.heap.size w w' := by
  have HM1 : Hid (Mem w (((w.alloc (.cells (paB P) paT)).alloc (.cells (ptA s) ptT)).alloc (.cells (ptA d) ptT)) [(w.heap.size, .cells (paB P) paT), (w.heap.size + 1, .cells (ptA s) ptT), (w.heap.size + 2, .cells (ptA d) ptT)]) := (((Mem.nil w).push1 rfl).push2 (by simp)).push3 (by simp)
  have hk := rknown_any (((w.alloc (.cells (paB P) paT)).alloc (.cells (ptA s) ptT)).alloc (.cells (ptA d) ptT))
  have hst : side.tmod 2 = side % 2 := Int.tmod_eq_emod_of_nonneg s0
  have hsw := wrap64_small (side % 2) (by omega) (by omega)
  have HS : Hid (side % 2 = 0 ∨ side % 2 = 1) := by show _ ∨ _; omega
  have p0 := hP.pr.1
  have t0 := hP.ttl.1
  have hpt : P.pr.tmod 2 = P.pr % 2 := Int.tmod_eq_emod_of_nonneg p0
  have hp3 : IntKind.u8.wrap (P.pr % 2 * 3) = P.pr % 2 * 3 := wrap8_small _ (by omega) (by omega)
  have htt : P.ttl.tmod 16 = P.ttl % 16 := Int.tmod_eq_emod_of_nonneg t0
  obtain ⟨T, hT⟩ : ∃ T, (if P.ttl % 16 < 4 then 9 else P.ttl) = T := ⟨_, rfl⟩
  have hT4 : 0 ≤ T ∧ T ≤ 255 ∧ 4 ≤ T % 16 := by have := hP.ttl; subst hT; split <;> omega
  have HP : Hid ((⟨P.pr % 2 * 3, P.s, P.d, P.fr, P.tp, P.fl, T, 0, P.n, 0⟩ : Pa).Ok) := ⟨⟨by simp only; omega, by simp only; omega⟩, hP.s, hP.d, hP.fr, hP.tp, hP.fl, ⟨hT4.1, hT4.2.1⟩, by simp, hP.n, by simp⟩
  generalize side % 2 = sd at *
  obtain ⟨L, L2, K, D, D2, hBM⟩ := keep_math HP.out sd hs hd hT4.2.2 rfl rfl (by simp only; omega)
  have HK : Hid (KeepM ⟨P.pr % 2 * 3, P.s, P.d, P.fr, P.tp, P.fl, T, 0, P.n, 0⟩ sd s d L L2 K D D2) := hBM
  have HSD : Hid (s.Ok ∧ d.Ok) := ⟨hs, hd⟩
  have HT : Hid ((if P.ttl % 16 < 4 then 9 else P.ttl) = T) := hT
  clear hP hBM hs hd hT hT4
  go_enter Try.func5, Try.ntmps5
  go_wp2_with fail
  refine hk.mono ?_
  rintro e w2 ⟨rfl, hbel⟩
  have hM2 := HM1.out.after hbel
  have HM2 : Hid (Mem w w2 [(w.heap.size, .cells (paB P) paT), (w.heap.size + 1, .cells (ptA s) ptT), (w.heap.size + 2, .cells (ptA d) ptT)]) := hM2
  have kc : ∀ i, w2.cell? ⟨w.heap.size, i, none⟩ = (paB P)[i]? := hM2.cell 0 rfl
  have kf : ∀ i, w2.frozen? ⟨w.heap.size, i, none⟩ = false := hM2.free 0 rfl
  clear hk hbel HM1 hM2
  go_upto_region 4 with fail
  refine wp_letter (fun W => Mem w W [(w.heap.size, .cells (paA (P.pr % 2 * 3) P.s P.d P.fr P.tp P.fl P.ttl P.er P.n 0) paT), (w.heap.size + 1, .cells (ptA s) ptT), (w.heap.size + 2, .cells (ptA d) ptT)]) ((HM2.out.set 0 rfl 9 _).set 0 rfl 0 _) ?_
  intro w3 hM3
  have HM3 : Hid _ := hM3
  clear kc kf HM2
  have c6 : w3.cell? ⟨w.heap.size, 6, none⟩ = some (.int .u8 P.ttl) := hM3.cell 0 rfl 6
  have kf : ∀ i, w3.frozen? ⟨w.heap.size, i, none⟩ = false := hM3.free 0 rfl
  clear hM3
  go_upto_if 31 with fail
  go_cut [8] (fun s8 wx => s8 = .bool false ∧ Mem w wx [(w.heap.size, .cells (paA (P.pr % 2 * 3) P.s P.d P.fr P.tp P.fl T P.er P.n 0) paT), (w.heap.size + 1, .cells (ptA s) ptT), (w.heap.size + 2, .cells (ptA d) ptT)])
  case first =>
    by_cases h4 : P.ttl % 16 < 4
    · have HT9 : Hid (T = 9) := by have := HT.out; rw [if_pos h4] at this; exact this.symm
      go_wp2_with fail
      go_meet
      case rel =>
        rw [HT9.out]
        exact ⟨rfl, HM3.out.set 0 rfl 6 _⟩
    · have HT9 : Hid (T = P.ttl) := by have := HT.out; rw [if_neg h4] at this; exact this.symm
      go_wp2_with fail
      go_meet
      case rel =>
        rw [HT9.out]
        exact ⟨rfl, HM3.out⟩
  case rest =>
    obtain ⟨rfl, hM4⟩ := hcut
    have HM4 : Hid (Mem w wc [(w.heap.size, .cells (paA (P.pr % 2 * 3) P.s P.d P.fr P.tp P.fl T P.er P.n 0) paT), (w.heap.size + 1, .cells (ptA s) ptT), (w.heap.size + 2, .cells (ptA d) ptT)]) := hM4
    clear c6 kf HM3 HT
    have c7 : wc.cell? ⟨w.heap.size, 7, none⟩ = some (.int .u8 P.er) := hM4.cell 0 rfl 7
    have kf : ∀ i, wc.frozen? ⟨w.heap.size, i, none⟩ = false := hM4.free 0 rfl
    clear hM4
    go_upto_region 7 with fail
    refine wp_letter (fun W => Mem w W [(w.heap.size, .cells (paA (P.pr % 2 * 3) P.s P.d P.fr P.tp P.fl T 0 P.n 0) paT), (w.heap.size + 1, .cells (ptA s) ptT), (w.heap.size + 2, .cells (ptA d) ptT)]) (HM4.out.set 0 rfl 7 _) ?_
    intro w5 hM5
    have HM5 : Hid _ := hM5
    clear c7 kf HM4
    have kc : ∀ i, w5.cell? ⟨w.heap.size, i, none⟩ = (paA (P.pr % 2 * 3) P.s P.d P.fr P.tp P.fl T 0 P.n 0)[i]? := hM5.cell 0 rfl
    have hPk := packet_any w5 ⟨P.pr % 2 * 3, P.s, P.d, P.fr, P.tp, P.fl, T, 0, P.n, 0⟩ HP.out sd 0 HS.out ⟨by omega, by omega⟩
    obtain ⟨n, hn⟩ : ∃ n, L.length = n := ⟨_, rfl⟩
    rw [HK.out.pk, hn] at hPk
    have HN : Hid (L.length = n ∧ L2.length = n) := ⟨hn, by rw [HK.out.b2.2, hn]⟩
    clear hM5 hn
    go_wp2_with fail
    refine hPk.mono ?_
    rintro e w6 ⟨u, rfl, hown, hb6⟩
    have hM6 := (HM5.out.after hb6).rest
    have HM6 : Hid (Mem w w6 [(w.heap.size + 1, .cells (ptA s) ptT), (w.heap.size + 2, .cells (ptA d) ptT)]) := hM6
    obtain ⟨a, ca, rfl, hr6, -, -, hca⟩ := own_read hown HN.out.1 HK.out.b1.1 (by have := HK.out.b1.2; omega)
    have HR6 : Hid (Row w6 a L) := hr6
    have HCA : Hid (n ≤ ca) := hca
    have ks : ∀ i, w6.cell? ⟨w.heap.size + 1, i, none⟩ = (ptA s)[i]? := hM6.cell 0 rfl
    have kd : ∀ i, w6.cell? ⟨w.heap.size + 2, i, none⟩ = (ptA d)[i]? := hM6.cell 1 rfl
    have hCh := change_any hr6 HN.out.1 hca s d HSD.out.1 HSD.out.2
    rw [HK.out.c1, HK.out.o1, HN.out.2] at hCh
    clear hPk hown hb6 kc HM5 hM6 hr6 hca
    go_wp2_with fail
    refine hCh.mono ?_
    rintro e w7 ⟨u2, rfl, hown, hb7⟩
    have HM7 : Hid (Mem w w7 [(w.heap.size + 1, .cells (ptA s) ptT), (w.heap.size + 2, .cells (ptA d) ptT)]) := HM6.out.after hb7
    have hr7 := HR6.out.below hb7 (Nat.le_refl _)
    obtain ⟨a2, c2, rfl, hr72, -, -, hc2⟩ := own_read hown HN.out.2 HK.out.b2.1 (by have := HK.out.b1.2; have := HK.out.b2.2; omega)
    have HR7 : Hid (Row w7 a2 L2) := hr72
    have HC2 : Hid (n ≤ c2) := hc2
    obtain ⟨no, hno⟩ : ∃ no, K.opts.length = no := ⟨_, rfl⟩
    obtain ⟨nb, hnb⟩ : ∃ no, K.body.length = no := ⟨_, rfl⟩
    obtain ⟨nx, hnx⟩ : ∃ no, (udb D2).length = no := ⟨_, rfl⟩
    obtain ⟨nd, hnd⟩ : ∃ no, D.body.length = no := ⟨_, rfl⟩
    have HNO : Hid (K.opts.length = no ∧ K.body.length = nb ∧ (udb D2).length = nx ∧ D.body.length = nd) := ⟨hno, hnb, hnx, hnd⟩
    have hI := rip_read hr7 HN.out.1 HCA.out HK.out.e1 HK.out.r1 hno hnb
    clear hCh hown hb7 ks kd HM6 HR6 hr7 hr72 hc2 hno hnb hnx hnd
    go_wp2_with fail
    refine hI.mono ?_
    rintro e w8 ⟨ao1, co1, bo1, cb1, rfl, ho8, hB8, hcb1, hb8⟩
    have hM8 := HM7.out.after hb8
    have HR8 : Hid (Row w8 ao1 K.opts ∧ Row w8 bo1 K.body ∧ Row w8 a2 L2) := ⟨ho8, hB8, HR7.out.below hb8 (Nat.le_refl _)⟩
    have HCB1 : Hid (nb ≤ cb1) := hcb1
    clear hI hb8 ho8 hB8 hcb1
    go_upto_region 10 with fail
    refine wp_letter (fun W => Mem w W [(w.heap.size + 1, .cells (ptA s) ptT), (w.heap.size + 2, .cells (ptA d) ptT), (w8.heap.size, .cells (ipB K (.slice ao1 no co1) (.slice bo1 nb cb1)) ipT)] ∧ (Row W ao1 K.opts ∧ Row W bo1 K.body ∧ Row W a2 L2)) ⟨hM8.push3 rfl, row_alloc HR8.out.1, row_alloc HR8.out.2.1, row_alloc HR8.out.2.2⟩ ?_
    intro w9 ⟨hM9, hq9⟩
    have HM9 : Hid _ := hM9
    have HQ9 : Hid (Row w9 ao1 K.opts ∧ Row w9 bo1 K.body ∧ Row w9 a2 L2) := hq9
    clear hM8 HR8 hM9 hq9 HM7 HR7
    generalize w8.heap.size = G1 at *
    have hI := rip_read HQ9.out.2.2 HN.out.2 HC2.out HK.out.e2 HK.out.r2 HNO.out.1 HNO.out.2.2.1
    go_wp2_with fail
    refine hI.mono ?_
    rintro e w10 ⟨ao2, co2, bo2, cb2, rfl, ho10, hB10, hcb2, hb10⟩
    have hM10 := HM9.out.after hb10
    have HR10 : Hid (Row w10 ao1 K.opts ∧ Row w10 bo1 K.body ∧ Row w10 ao2 K.opts ∧ Row w10 bo2 (udb D2)) := ⟨HQ9.out.1.below hb10 (Nat.le_refl _), HQ9.out.2.1.below hb10 (Nat.le_refl _), ho10, hB10⟩
    have HCB2 : Hid (nx ≤ cb2) := hcb2
    clear hI hb10 ho10 hB10 hcb2
    go_upto_region 11 with fail
    refine wp_letter (fun W => Mem w W [(w.heap.size + 1, .cells (ptA s) ptT), (w.heap.size + 2, .cells (ptA d) ptT), (G1, .cells (ipB K (.slice ao1 no co1) (.slice bo1 nb cb1)) ipT), (w10.heap.size, .cells (ipA K.tos K.ttl K.proto K.id K.flags K.off s.ip d.ip (.slice ao2 no co2) (.slice bo2 nx cb2)) ipT)] ∧ (Row W ao1 K.opts ∧ Row W bo1 K.body ∧ Row W ao2 K.opts ∧ Row W bo2 (udb D2))) ⟨hM10.push4 rfl, row_alloc HR10.out.1, row_alloc HR10.out.2.1, row_alloc HR10.out.2.2.1, row_alloc HR10.out.2.2.2⟩ ?_
    intro w11 ⟨hM11, hq11⟩
    have HM11 : Hid _ := hM11
    have HQ11 : Hid (Row w11 ao1 K.opts ∧ Row w11 bo1 K.body ∧ Row w11 ao2 K.opts ∧ Row w11 bo2 (udb D2)) := hq11
    clear hM10 HR10 hM11 hq11 HM9 HQ9
    generalize w10.heap.size = G2 at *
    have g9 : w11.cell? ⟨G1, 9, none⟩ = some (.slice bo1 nb cb1) := HM11.out.cell 2 rfl 9
    have hU := rudp_seen HQ11.out.2.1 HNO.out.2.1 HCB1.out HK.out.f1 HK.out.u1 HNO.out.2.2.2
    go_wp2_with fail
    refine hU.mono ?_
    rintro e w12 ⟨bo3, cb3, rfl, hy12, -, hb12⟩
    have hM12 := HM11.out.after hb12
    have HR12 : Hid (Row w12 ao1 K.opts ∧ Row w12 ao2 K.opts ∧ Row w12 bo2 (udb D2) ∧ Row w12 bo3 D.body) := ⟨HQ11.out.1.below hb12 (Nat.le_refl _), HQ11.out.2.2.1.below hb12 (Nat.le_refl _), HQ11.out.2.2.2.below hb12 (Nat.le_refl _), hy12⟩
    clear hU hb12 hy12 g9
    go_upto_region 12 with fail
    refine wp_letter (fun W => Mem w W [(w.heap.size + 1, .cells (ptA s) ptT), (w.heap.size + 2, .cells (ptA d) ptT), (G1, .cells (ipB K (.slice ao1 no co1) (.slice bo1 nb cb1)) ipT), (G2, .cells (ipA K.tos K.ttl K.proto K.id K.flags K.off s.ip d.ip (.slice ao2 no co2) (.slice bo2 nx cb2)) ipT), (w12.heap.size, .cells (udA D.src D.dst D.sum (.slice bo3 nd cb3)) udT)] ∧ (Row W ao1 K.opts ∧ Row W ao2 K.opts ∧ Row W bo2 (udb D2) ∧ Row W bo3 D.body)) ⟨hM12.push _ _ rfl, row_alloc HR12.out.1, row_alloc HR12.out.2.1, row_alloc HR12.out.2.2.1, row_alloc HR12.out.2.2.2⟩ ?_
    intro w13 ⟨hM13, hq13⟩
    have HM13 : Hid _ := hM13
    have HQ13 : Hid (Row w13 ao1 K.opts ∧ Row w13 ao2 K.opts ∧ Row w13 bo2 (udb D2) ∧ Row w13 bo3 D.body) := hq13
    clear hM12 HR12 hM13 hq13 HM11 HQ11
    generalize w12.heap.size = G3 at *
    have g9 : w13.cell? ⟨G2, 9, none⟩ = some (.slice bo2 nx cb2) := HM13.out.cell 3 rfl 9
    have hU := rudp_seen HQ13.out.2.2.1 HNO.out.2.2.1 HCB2.out HK.out.f2 HK.out.u2 (show D2.body.length = nd by rw [HK.out.y2]; exact HNO.out.2.2.2)
    rw [HK.out.p2.1, HK.out.p2.2] at hU
    go_wp2_with fail
    refine hU.mono ?_
    rintro e w14 ⟨bo4, cb4, rfl, hy14, hv14, hb14⟩
    have hM14 := HM13.out.after hb14
    rw [HK.out.y2] at hy14
    have HR14 : Hid (Row w14 ao1 K.opts ∧ Row w14 ao2 K.opts ∧ Row w14 bo3 D.body ∧ Row w14 bo4 D.body ∧ UdV w14 0 (.agg (udA s.port d.port D2.sum (.slice bo4 nd cb4))) D2) := ⟨HQ13.out.1.below hb14 (Nat.le_refl _), HQ13.out.2.1.below hb14 (Nat.le_refl _), HQ13.out.2.2.2.below hb14 (Nat.le_refl _), hy14, hv14⟩
    clear hU hb14 hy14 hv14 g9
    go_upto_region 13 with fail
    refine wp_letter (fun W => Mem w W [(w.heap.size + 1, .cells (ptA s) ptT), (w.heap.size + 2, .cells (ptA d) ptT), (G1, .cells (ipB K (.slice ao1 no co1) (.slice bo1 nb cb1)) ipT), (G2, .cells (ipA K.tos K.ttl K.proto K.id K.flags K.off s.ip d.ip (.slice ao2 no co2) (.slice bo2 nx cb2)) ipT), (G3, .cells (udA D.src D.dst D.sum (.slice bo3 nd cb3)) udT), (w14.heap.size, .cells (udA s.port d.port D2.sum (.slice bo4 nd cb4)) udT)] ∧ (Row W ao1 K.opts ∧ Row W ao2 K.opts ∧ Row W bo3 D.body ∧ Row W bo4 D.body ∧ UdV W 0 (.agg (udA s.port d.port D2.sum (.slice bo4 nd cb4))) D2)) ⟨hM14.push _ _ rfl, row_alloc HR14.out.1, row_alloc HR14.out.2.1, row_alloc HR14.out.2.2.1, row_alloc HR14.out.2.2.2.1, HR14.out.2.2.2.2.below ((Below.refl _ _).alloc (Nat.le_refl _) _) (Nat.le_refl _)⟩ ?_
    intro w15 ⟨hM15, hq15⟩
    have HB15 : Hid (Below w.heap.size w w15) := hM15.below
    clear hM14 HR14 HM13 HQ13
    generalize w14.heap.size = G4 at *
    have ks : ∀ i, w15.cell? ⟨w.heap.size + 1, i, none⟩ = (ptA s)[i]? := hM15.cell 0 rfl
    have kd : ∀ i, w15.cell? ⟨w.heap.size + 2, i, none⟩ = (ptA d)[i]? := hM15.cell 1 rfl
    have k1 : ∀ i, w15.cell? ⟨G1, i, none⟩ = (ipB K (.slice ao1 no co1) (.slice bo1 nb cb1))[i]? := hM15.cell 2 rfl
    have k2 : ∀ i, w15.cell? ⟨G2, i, none⟩ = (ipA K.tos K.ttl K.proto K.id K.flags K.off s.ip d.ip (.slice ao2 no co2) (.slice bo2 nx cb2))[i]? := hM15.cell 3 rfl
    have k3 : ∀ i, w15.cell? ⟨G3, i, none⟩ = (udA D.src D.dst D.sum (.slice bo3 nd cb3))[i]? := hM15.cell 4 rfl
    have k4 : ∀ i, w15.cell? ⟨G4, i, none⟩ = (udA s.port d.port D2.sum (.slice bo4 nd cb4))[i]? := hM15.cell 5 rfl
    have hh := hbytes_yes hq15.2.1 hq15.1 no no HNO.out.1 HNO.out.1 co2 co1
    have hh2 := hbytes_yes hq15.2.2.1 hq15.2.2.2.1 nd nd HNO.out.2.2.2 HNO.out.2.2.2 cb3 cb4
    have HH2 : Hid (Calls Try.prog 10 #[.slice bo3 nd cb3, .slice bo4 nd cb4] w15 fun e w' => e = .returned (.bool true) ∧ w15 = w') := hh2
    have hrt := ruright_any HK.out.ok hq15.2.2.2.2 s.ip d.ip HSD.out.1.ip.1 HSD.out.1.ip.2 HSD.out.2.ip.1 HSD.out.2.ip.2
    rw [HK.out.rt] at hrt
    have HRT : Hid (Calls Try.prog 16 #[.int .u32 s.ip, .int .u32 d.ip, .agg (udA s.port d.port D2.sum (.slice bo4 nd cb4))] w15 fun r w' => r = .returned (.bool true) ∧ Below w15.heap.size w15 w') := hrt
    clear hM15 hq15 hh2 hrt
    obtain ⟨zz, z1, z2⟩ : ∃ zz, (D.sum == 0) = zz ∧ (D2.sum == 0) = zz := by
      by_cases e : D.sum = 0
      · exact ⟨true, by simp [e], by simp [HK.out.z.mpr e]⟩
      · exact ⟨false, by simp [e], by simp only [beq_eq_false_iff_ne]; exact mt HK.out.z.mp e⟩
    go_wp2_with fail
    refine hh.mono ?_
    rintro e w' ⟨rfl, rfl⟩
    clear hh
    go_wp2_with fail
    refine HH2.out.mono ?_
    rintro e w' ⟨rfl, rfl⟩
    clear HH2
    go_wp2_with fail
    refine HRT.out.mono ?_
    rintro e w16 ⟨rfl, hb16⟩
    have HB16 : Hid (Below w.heap.size w w16) := HB15.out.trans (hb16.mono HB15.out.size)
    clear hb16 HRT
    go_wp2_with fail
    go_ret
    exact ⟨rfl, HB16.out⟩
end Go.Proofs.Ytjalpbkfpjfigaa

