/-
  What the document's own lychref8.Look answers of a packet that is read.
-/
import Derived.Test.YtjalpbkfpjfigaaGreatRwRefLook
import Derived.Test.YtjalpbkfpjfigaaGreatRwPacket
import Derived.Test.YtjalpbkfpjfigaaGreatIcmpRef
import Derived.Test.YtjalpbkfpjfigaaGreatIcmpKind
import Derived.Test.YtjalpbkfpjfigaaGreatIcmpSum
import Derived.Test.YtjalpbkfpjfigaaGreatTcpSum
import Derived.Test.YtjalpbkfpjfigaaGreatUdpSum
namespace Go.Proofs.YtjalpbkfpjfigaaGreat
open Go.RowKit
open Sm
set_option linter.unusedVariables false
set_option maxRecDepth 20000

theorem post_fillD {P : Program} {fn : Func} {R : Ending → World → Prop} {e : Exit} {a : Act} {w : World} {g k : Nat} {p : Pk} {o b : Value} {f : Fl} {iv : Value} {t : TypeId} (hg : w.heap[g]? = some (.cells ip0 ipT (0, 0))) (hk : w.heap[k]? = some (.cells flZ t (0, 0))) (hne : k ≠ g)
    (K : ∀ W1 W2, Wrote w W1 g (ipB p o b) ipT → Wrote W1 W2 k (flB f iv) t → bodyPost P fn R e a W2.drew) :
    bodyPost P fn R e a (((((((((((((((((w.setCell ⟨g, 0, none⟩ (.int .u8 p.tos)).setCell ⟨g, 1, none⟩ (.int .u8 p.ttl)).setCell ⟨g, 2, none⟩ (.int .u8 p.proto)).setCell ⟨g, 3, none⟩ (.int .u16 p.id)).setCell ⟨g, 4, none⟩ (.int .u8 p.flags)).setCell ⟨g, 5, none⟩ (.int .u16 p.off)).setCell ⟨g, 6, none⟩ (.int .u32 p.src)).setCell ⟨g, 7, none⟩ (.int .u32 p.dst)).setCell ⟨g, 8, none⟩ (o)).setCell ⟨g, 9, none⟩ (b)).setCell ⟨k, 0, none⟩ (.int .u8 f.proto)).setCell ⟨k, 1, none⟩ (.int .u32 f.src.ip)).setCell ⟨k, 2, none⟩ (.int .u16 f.src.port)).setCell ⟨k, 3, none⟩ (.int .u32 f.dst.ip)).setCell ⟨k, 4, none⟩ (.int .u16 f.dst.port)).setCell ⟨k, 5, none⟩ (.int .u8 f.flags)).setCell ⟨k, 6, none⟩ (iv)).drew := by
  have h1 := wrote_ip g p o b w hg
  have h2 := wrote_flT t k f iv _ ((h1.there k hne).trans hk)
  exact K _ _ h1 h2
theorem ipv_rows {w : World} {B : Nat} {p : Pk} {ao bo : Option Addr} {no co nb cb : Nat} (h : IpV w B (.agg (ipB p (.slice ao no co) (.slice bo nb cb))) p) : Row w ao p.opts ∧ Row w bo p.body := by
  obtain ⟨ao', co', bo', cb', e, h1, h2, -⟩ := h
  simp only [ipA, Value.agg.injEq, Array.mk.injEq, List.cons.injEq, true_and, and_true, Value.slice.injEq] at e
  obtain ⟨⟨rfl, -⟩, rfl, -⟩ := e
  exact ⟨h1, h2⟩
theorem ipv_beside {w : World} {B G j : Nat} {p : Pk} {ao bo : Option Addr} {no co nb cb : Nat} {v : Value} (h : IpV w B (.agg (ipB p (.slice ao no co) (.slice bo nb cb))) p) (f1 : Far G ao p.opts) (f2 : Far G bo p.body) : IpV (w.setCell ⟨G, j, none⟩ v) B (.agg (ipB p (.slice ao no co) (.slice bo nb cb))) p := by
  have hrw := ipv_rows h
  obtain ⟨ao', co', bo', cb', e, h1, h2, h3⟩ := h
  have e' := e
  simp only [ipA, Value.agg.injEq, Array.mk.injEq, List.cons.injEq, true_and, and_true, Value.slice.injEq] at e'
  obtain ⟨⟨rfl, -⟩, rfl, -⟩ := e'
  exact ⟨ao, co', bo, cb', e, h1.beside f1, h2.beside f2, h3⟩
theorem Mem.four {w W : World} {p q r s t : Nat × Obj} (h : Mem w W [p, q, r, s, t]) : Mem w W [p, q, r, s] :=
  ⟨h.below, fun x hx => h.low x (by simp at hx; rcases hx with rfl | rfl | rfl | rfl <;> simp), fun x hx => h.at_ x (by simp at hx; rcases hx with rfl | rfl | rfl | rfl <;> simp), by have := h.apart; simp at this ⊢; omega⟩
theorem Mem.lead {w W : World} {p q r s : Nat × Obj} {L : List (Nat × Obj)} (h : Mem w W (p :: q :: r :: s :: L)) : Mem w W [p, q, r, s] :=
  ⟨h.below, fun x hx => h.low x (by simp at hx; rcases hx with rfl | rfl | rfl | rfl <;> simp), fun x hx => h.at_ x (by simp at hx; rcases hx with rfl | rfl | rfl | rfl <;> simp), by
    have := h.apart
    simp only [List.map_cons, List.nodup_cons, List.mem_cons, not_or] at this
    simp only [List.map_cons, List.map_nil, List.nodup_cons, List.mem_cons, List.not_mem_nil, not_or, List.nodup_nil]
    obtain ⟨⟨a1, a2, a3, -⟩, ⟨b1, b2, -⟩, ⟨c1, -⟩, -⟩ := this
    exact ⟨⟨a1, a2, a3, fun h => h⟩, ⟨b1, b2, fun h => h⟩, ⟨c1, fun h => h⟩, fun h => h, trivial⟩⟩
theorem IpV.drew {w : World} {B : Nat} {v : Value} {p : Pk} (h : IpV w B v p) : IpV w.drew B v p := h.below ((Below.refl _ _).drew) (Nat.le_refl _)

set_option maxHeartbeats 8000000 in
theorem rlook_yes {w : World} {a : Option Addr} {n c : Nat} {l : List Int} (hr : Row w a l) (hn : l.length = n) (hc : n ≤ c) (h0 : ipErr l = 0) :
    Calls Tryz.prog 16 #[.slice a n c] w fun e w' => RlV w w' l e := by
  have hM : Mem w ((w.alloc (.cells ip0 ipT)).alloc (.cells flZ rfT)) [(w.heap.size, .cells ip0 ipT), (w.heap.size + 1, .cells flZ rfT)] := ((Mem.nil w).push1 rfl).push2 (by simp)
  have hP := rip_seen (hM.row hr) hn hc
  have ep : ipRes l = ipPk l := if_pos h0
  rw [h0, ep] at hP
  have hok : (ipPk l).Ok := by have := ipRes_ok hr.bytes; rwa [ep] at this
  have HO : Hid ((ipPk l).Ok ∧ (ipPk l).body.length ≤ 65535) := ⟨hok, by have := (pk_fits hr.bytes h0).1.n; omega⟩
  have HLk : Hid (lkErr l = if bdErr (ipPk l) ≠ 0 then bdErr (ipPk l) else if bdRight (ipPk l) = false then 22 else flErr (ipPk l)) := by show _ = _; unfold lkErr; rw [if_neg (by omega)]
  have HF : Hid (∀ W' E, lkErr l = E ∧ E ≠ 0 → Below w.heap.size w W' → RlV w W' l (.returned (.tuple #[.agg ip0, .agg flZ, .int .i64 E]))) := fun W' E hE hb => Or.inl ⟨by rw [hE.1]; exact hE.2, by rw [hE.1], hb⟩
  have HG : Hid (∀ W' ao bo ia co cb ic no nb ni, (ipPk l).opts.length = no → (ipPk l).body.length = nb → (flFl (ipPk l)).inner.length = ni → lkErr l = 0 → IpV W' w.heap.size (.agg (ipB (ipPk l) (.slice ao no co) (.slice bo nb cb))) (ipPk l) → nb ≤ cb → PtsV W' w.heap.size (.slice ia ni ic) (flFl (ipPk l)).inner → Below w.heap.size w W' → RlV w W' l (.returned (.tuple #[.agg (ipB (ipPk l) (.slice ao no co) (.slice bo nb cb)), .agg (flB (flFl (ipPk l)) (.slice ia ni ic)), .int .i64 0]))) := fun W' ao bo ia co cb ic no nb ni e1 e2 e3 h1 h2 h3 h4 h5 => by
    subst e1 e2 e3
    exact Or.inr ⟨h1, ao, bo, ia, co, cb, ic, rfl, h2, h3, h4, h5⟩
  have HM : Hid _ := hM
  clear hM hr hn hc h0 hok ep
  generalize lkErr l = EE at *
  generalize ipPk l = p at *
  generalize hno : p.opts.length = no at *
  generalize hnb : p.body.length = nb at *
  have HNO : Hid (p.opts.length = no ∧ p.body.length = nb) := ⟨hno, hnb⟩
  clear hno hnb
  go_enter Tryz.func16, Tryz.ntmps16
  go_wp2_with fail
  refine hP.mono ?_
  rintro e w1 ⟨ao, co, bo, cb, rfl, hv1, hcap, hb1⟩
  have hM1 := HM.out.after hb1
  have hsz : ((w.alloc (.cells ip0 ipT)).alloc (.cells flZ rfT)).heap.size = w.heap.size + 2 := by simp
  rw [hsz] at hv1
  have HV1 : Hid (IpV w1 (w.heap.size + 2) (.agg (ipB p (.slice ao no co) (.slice bo nb cb))) p) := hv1
  have HC : Hid (nb ≤ cb) := hcap
  clear hP hb1 hsz hcap HM hv1
  go_upto_region 2 with fail
  refine wp_letter (fun W => Mem w W [(w.heap.size, .cells ip0 ipT), (w.heap.size + 1, .cells flZ rfT), (w1.heap.size, .cells (ipB p (.slice ao no co) (.slice bo nb cb)) ipT)] ∧ IpV W (w.heap.size + 2) (.agg (ipB p (.slice ao no co) (.slice bo nb cb))) p) ⟨hM1.push3 rfl, HV1.out.below ((Below.refl _ _).alloc (Nat.le_refl _) _) (Nat.le_refl _)⟩ ?_
  intro w2 ⟨hM2, hv2⟩
  have HM2 : Hid _ := hM2
  have HV2 : Hid (IpV w2 (w.heap.size + 2) (.agg (ipB p (.slice ao no co) (.slice bo nb cb))) p) := hv2
  clear hM1 HV1 hv2
  generalize w1.heap.size = Q at *
  have r2 : w2.cell? ⟨Q, 2, none⟩ = some (.int .u8 p.proto) := hM2.cell 2 rfl 2
  have r6 : w2.cell? ⟨Q, 6, none⟩ = some (.int .u32 p.src) := hM2.cell 2 rfl 6
  have r7 : w2.cell? ⟨Q, 7, none⟩ = some (.int .u32 p.dst) := hM2.cell 2 rfl 7
  clear hM2
  go_upto_region 5 with fail
  obtain ⟨G, hG⟩ : ∃ G, w2.heap.size = G := ⟨_, rfl⟩
  rw [hG]
  have HFa : Hid (Far G ao p.opts ∧ Far G bo p.body) := ⟨far_low (ipv_rows HV2.out).1 (by omega), far_low (ipv_rows HV2.out).2 (by omega)⟩
  refine wp_letter (fun W => Mem w W [(w.heap.size, .cells ip0 ipT), (w.heap.size + 1, .cells flZ rfT), (Q, .cells (ipB p (.slice ao no co) (.slice bo nb cb)) ipT), (G, .cells (flA p.proto p.src 0 p.dst 0 0 (.slice none 0 0)) rfT)] ∧ IpV W (w.heap.size + 2) (.agg (ipB p (.slice ao no co) (.slice bo nb cb))) p) ⟨by rw [← hG]; exact HM2.out.push4 rfl, HV2.out.below ((Below.refl _ _).alloc (Nat.le_refl _) _) (Nat.le_refl _)⟩ ?_
  intro w3 ⟨hM3, hv3⟩
  have HM3 : Hid (Mem w w3 [(w.heap.size, .cells ip0 ipT), (w.heap.size + 1, .cells flZ rfT), (Q, .cells (ipB p (.slice ao no co) (.slice bo nb cb)) ipT), (G, .cells (flA p.proto p.src 0 p.dst 0 0 (.slice none 0 0)) rfT)]) := hM3
  have HV3 : Hid (IpV w3 (w.heap.size + 2) (.agg (ipB p (.slice ao no co) (.slice bo nb cb))) p) := hv3
  clear r2 r6 r7 HM2 HV2 hv3 hG
  have r2 : w3.cell? ⟨Q, 2, none⟩ = some (.int .u8 p.proto) := hM3.cell 2 rfl 2
  have r6 : w3.cell? ⟨Q, 6, none⟩ = some (.int .u32 p.src) := hM3.cell 2 rfl 6
  have r7 : w3.cell? ⟨Q, 7, none⟩ = some (.int .u32 p.dst) := hM3.cell 2 rfl 7
  have r9 : w3.cell? ⟨Q, 9, none⟩ = some (.slice bo nb cb) := hM3.cell 2 rfl 9
  have HR3 : Hid (Row w3 bo p.body) := by
    have := HV3.out
    obtain ⟨ao', co', bo', cb', e, -, h2, -⟩ := this
    simp only [ipA, Value.agg.injEq, Array.mk.injEq, List.cons.injEq, true_and, and_true, Value.slice.injEq] at e
    obtain ⟨⟨rfl, -⟩, rfl, -⟩ := e
    exact h2
  clear hM3
  go_upto_block 0 with fail
  go_cut [4, 6, 8] (fun s4 s6 s8 wx => s4 = .int .i64 0 ∧ ∃ E1 R1 f ia ic, s6 = .int .i64 E1 ∧ s8 = .bool R1 ∧ Mem w wx [(w.heap.size, .cells ip0 ipT), (w.heap.size + 1, .cells flZ rfT), (Q, .cells (ipB p (.slice ao no co) (.slice bo nb cb)) ipT), (G, .cells (flB f (.slice ia f.inner.length ic)) rfT)] ∧ IpV wx (w.heap.size + 2) (.agg (ipB p (.slice ao no co) (.slice bo nb cb))) p ∧ PtsV wx (w.heap.size + 2) (.slice ia f.inner.length ic) f.inner ∧ EE = (if E1 ≠ 0 then E1 else if R1 = false then 22 else 0) ∧ (E1 = 0 → R1 = true → f = flFl p))
  case first =>
    by_cases p17 : p.proto = 17
    · have HE17 : Hid (EE = if udErr p.body ≠ 0 then udErr p.body else if uright p.src p.dst (udRes p.body) = false then 22 else 0) := by show _ = _; rw [HLk.out]; unfold bdErr bdRight flErr; simp only [if_pos p17]
      have HF17 : Hid (flFl p = ⟨p.proto, ⟨p.src, (udRes p.body).src⟩, ⟨p.dst, (udRes p.body).dst⟩, 0, []⟩) := by show _ = _; unfold flFl; rw [if_pos p17]
      have hU := rudp_any HR3.out HNO.out.2 HC.out
      have HUo : Hid ((udRes p.body).Ok) := udRes_ok HO.out.1.body
      have b17 : (p.proto == 17) = true := beq_iff_eq.mpr p17
      clear p17
      generalize udRes p.body = u at *
      generalize udErr p.body = E1 at *
      go_wp2_with fail
      refine hU.mono ?_
      rintro e w4 ⟨v, rfl, hv4, hb4⟩
      obtain ⟨ub, uc, rfl, hur, hun, huf⟩ := hv4
      have hM4 := HM3.out.after hb4
      have HV4 : Hid (IpV w4 (w.heap.size + 2) (.agg (ipB p (.slice ao no co) (.slice bo nb cb))) p) := HV3.out.below hb4 (Nat.le_refl _)
      have HU4 : Hid (UdV w4 0 (.agg (udA u.src u.dst u.sum (.slice ub u.body.length uc))) u) := ⟨ub, uc, rfl, hur, hun, fun _ _ => Nat.zero_le _⟩
      clear hU hb4 hur hun huf r9
      go_upto_region 10 with fail
      refine wp_letter (fun W => Mem w W [(w.heap.size, .cells ip0 ipT), (w.heap.size + 1, .cells flZ rfT), (Q, .cells (ipB p (.slice ao no co) (.slice bo nb cb)) ipT), (G, .cells (flA p.proto p.src 0 p.dst 0 0 (.slice none 0 0)) rfT), (w4.heap.size, .cells (udA u.src u.dst u.sum (.slice ub u.body.length uc)) udT)] ∧ IpV W (w.heap.size + 2) (.agg (ipB p (.slice ao no co) (.slice bo nb cb))) p ∧ UdV W 0 (.agg (udA u.src u.dst u.sum (.slice ub u.body.length uc))) u) ⟨hM4.push _ _ rfl, HV4.out.below ((Below.refl _ _).alloc (Nat.le_refl _) _) (Nat.le_refl _), HU4.out.below ((Below.refl _ _).alloc (Nat.le_refl _) _) (Nat.le_refl _)⟩ ?_
      intro w5 ⟨hM5, hv5, hu5⟩
      have HM5 : Hid (Mem w w5 [(w.heap.size, .cells ip0 ipT), (w.heap.size + 1, .cells flZ rfT), (Q, .cells (ipB p (.slice ao no co) (.slice bo nb cb)) ipT), (G, .cells (flA p.proto p.src 0 p.dst 0 0 (.slice none 0 0)) rfT), (w4.heap.size, .cells (udA u.src u.dst u.sum (.slice ub u.body.length uc)) udT)]) := hM5
      have HV5 : Hid (IpV w5 (w.heap.size + 2) (.agg (ipB p (.slice ao no co) (.slice bo nb cb))) p) := hv5
      have hR := ruright_any HUo.out hu5 p.src p.dst HO.out.1.src.1 HO.out.1.src.2 HO.out.1.dst.1 HO.out.1.dst.2
      clear hM4 HV4 HU4 hv5 hu5 r2 r6 r7
      generalize w4.heap.size = D at *
      have r6 : w5.cell? ⟨Q, 6, none⟩ = some (.int .u32 p.src) := hM5.cell 2 rfl 6
      have r7 : w5.cell? ⟨Q, 7, none⟩ = some (.int .u32 p.dst) := hM5.cell 2 rfl 7
      have kd : ∀ i, w5.cell? ⟨D, i, none⟩ = (udA u.src u.dst u.sum (.slice ub u.body.length uc))[i]? := hM5.cell 4 rfl
      clear hM5
      generalize uright p.src p.dst u = R1 at *
      go_wp2_with fail
      refine hR.mono ?_
      rintro e w6 ⟨rfl, hb6⟩
      have hM6 := HM5.out.after hb6
      have HM6 : Hid (Mem w w6 [(w.heap.size, .cells ip0 ipT), (w.heap.size + 1, .cells flZ rfT), (Q, .cells (ipB p (.slice ao no co) (.slice bo nb cb)) ipT), (G, .cells (flA p.proto p.src 0 p.dst 0 0 (.slice none 0 0)) rfT), (D, .cells (udA u.src u.dst u.sum (.slice ub u.body.length uc)) udT)]) := hM6
      have HV6 : Hid (IpV w6 (w.heap.size + 2) (.agg (ipB p (.slice ao no co) (.slice bo nb cb))) p) := HV5.out.below hb6 (Nat.le_refl _)
      clear hR hb6 r6 r7 kd HM5 HV5
      have k0 : w6.cell? ⟨D, 0, none⟩ = some (.int .u16 u.src) := hM6.cell 4 rfl 0
      have k1 : w6.cell? ⟨D, 1, none⟩ = some (.int .u16 u.dst) := hM6.cell 4 rfl 1
      have kg : ∀ i, w6.cell? ⟨G, i, none⟩ = (flA p.proto p.src 0 p.dst 0 0 (.slice none 0 0))[i]? := hM6.cell 3 rfl
      have kf : ∀ i, w6.frozen? ⟨G, i, none⟩ = false := hM6.free 3 rfl
      have d1 : G ≠ D := hM6.ne 3 4 rfl rfl (by decide)
      have d1' : D ≠ G := fun e => d1 e.symm
      clear hM6
      go_upto_region 11 with fail
      go_region_held3 (fun w' => w'.cell? ⟨D, 0, none⟩ = some (.int .u16 u.src) ∧ w'.cell? ⟨D, 1, none⟩ = some (.int .u16 u.dst)) (go_keep) (fail)
      all_goals
        go_wp2_with fail
        go_meet
        case rel =>
          refine ⟨rfl, E1, R1, ⟨p.proto, ⟨p.src, u.src⟩, ⟨p.dst, u.dst⟩, 0, []⟩, none, 0, rfl, rfl, ?_, ?_, Or.inl ⟨rfl, rfl⟩, HE17.out, fun _ _ => HF17.out.symm⟩
          · first | exact ((HM6.out.drew.set 3 rfl 2 _).set 3 rfl 4 _).four | exact ((HM6.out.drew.set 3 rfl 4 _).set 3 rfl 2 _).four
          · exact ipv_beside (ipv_beside HV6.out.drew HFa.out.1 HFa.out.2) HFa.out.1 HFa.out.2
    · by_cases p6 : p.proto = 6
      · have HE6 : Hid (EE = if tcErr p.body ≠ 0 then tcErr p.body else if tright p.src p.dst (tcRes p.body) = false then 22 else 0) := by show _ = _; rw [HLk.out]; unfold bdErr bdRight flErr; simp only [if_neg p17, if_pos p6]
        have HF6 : Hid (flFl p = ⟨p.proto, ⟨p.src, (tcRes p.body).src⟩, ⟨p.dst, (tcRes p.body).dst⟩, (tcRes p.body).flags, []⟩) := by show _ = _; unfold flFl; rw [if_neg p17, if_pos p6]
        have hU := rtcp_any HR3.out HNO.out.2 HC.out (by have := HO.out.2; omega)
        have HUo : Hid ((tcRes p.body).Ok) := tcRes_ok HO.out.1.body
        have b17 : (p.proto == 17) = false := beq_eq_false_iff_ne.mpr p17
        have b6 : (p.proto == 6) = true := beq_iff_eq.mpr p6
        clear p6 p17
        generalize tcRes p.body = u at *
        generalize tcErr p.body = E1 at *
        go_wp2_with fail
        refine hU.mono ?_
        rintro e w4 ⟨v, rfl, hv4, hb4⟩
        obtain ⟨uo, ud, ub, uc, rfl, hur, hur2, hun, hun2, huf⟩ := hv4
        have hM4 := HM3.out.after hb4
        have HV4 : Hid (IpV w4 (w.heap.size + 2) (.agg (ipB p (.slice ao no co) (.slice bo nb cb))) p) := HV3.out.below hb4 (Nat.le_refl _)
        have HU4 : Hid (TcV w4 0 (.agg (tcA u.src u.dst u.seq u.ack u.flags u.win u.sum u.urg (.slice uo u.opts.length ud) (.slice ub u.body.length uc))) u) := ⟨uo, ud, ub, uc, rfl, hur, hur2, hun, hun2, fun _ _ => Nat.zero_le _, fun _ _ => Nat.zero_le _⟩
        clear hU hb4 hur hur2 hun hun2 huf r9
        go_upto_region 14 with fail
        refine wp_letter (fun W => Mem w W [(w.heap.size, .cells ip0 ipT), (w.heap.size + 1, .cells flZ rfT), (Q, .cells (ipB p (.slice ao no co) (.slice bo nb cb)) ipT), (G, .cells (flA p.proto p.src 0 p.dst 0 0 (.slice none 0 0)) rfT), (w4.heap.size, .cells (tcA u.src u.dst u.seq u.ack u.flags u.win u.sum u.urg (.slice uo u.opts.length ud) (.slice ub u.body.length uc)) tcT)] ∧ IpV W (w.heap.size + 2) (.agg (ipB p (.slice ao no co) (.slice bo nb cb))) p ∧ TcV W 0 (.agg (tcA u.src u.dst u.seq u.ack u.flags u.win u.sum u.urg (.slice uo u.opts.length ud) (.slice ub u.body.length uc))) u) ⟨hM4.push _ _ rfl, HV4.out.below ((Below.refl _ _).alloc (Nat.le_refl _) _) (Nat.le_refl _), HU4.out.below ((Below.refl _ _).alloc (Nat.le_refl _) _) (Nat.le_refl _)⟩ ?_
        intro w5 ⟨hM5, hv5, hu5⟩
        have HM5 : Hid (Mem w w5 [(w.heap.size, .cells ip0 ipT), (w.heap.size + 1, .cells flZ rfT), (Q, .cells (ipB p (.slice ao no co) (.slice bo nb cb)) ipT), (G, .cells (flA p.proto p.src 0 p.dst 0 0 (.slice none 0 0)) rfT), (w4.heap.size, .cells (tcA u.src u.dst u.seq u.ack u.flags u.win u.sum u.urg (.slice uo u.opts.length ud) (.slice ub u.body.length uc)) tcT)]) := hM5
        have HV5 : Hid (IpV w5 (w.heap.size + 2) (.agg (ipB p (.slice ao no co) (.slice bo nb cb))) p) := hv5
        have hR := rtright_any HUo.out hu5 p.src p.dst HO.out.1.src.1 HO.out.1.src.2 HO.out.1.dst.1 HO.out.1.dst.2
        clear hM4 HV4 HU4 hv5 hu5 r2 r6 r7
        generalize w4.heap.size = D at *
        have r6 : w5.cell? ⟨Q, 6, none⟩ = some (.int .u32 p.src) := hM5.cell 2 rfl 6
        have r7 : w5.cell? ⟨Q, 7, none⟩ = some (.int .u32 p.dst) := hM5.cell 2 rfl 7
        have kd : ∀ i, w5.cell? ⟨D, i, none⟩ = (tcA u.src u.dst u.seq u.ack u.flags u.win u.sum u.urg (.slice uo u.opts.length ud) (.slice ub u.body.length uc))[i]? := hM5.cell 4 rfl
        clear hM5
        generalize tright p.src p.dst u = R1 at *
        go_wp2_with fail
        refine hR.mono ?_
        rintro e w6 ⟨rfl, hb6⟩
        have hM6 := HM5.out.after hb6
        have HM6 : Hid (Mem w w6 [(w.heap.size, .cells ip0 ipT), (w.heap.size + 1, .cells flZ rfT), (Q, .cells (ipB p (.slice ao no co) (.slice bo nb cb)) ipT), (G, .cells (flA p.proto p.src 0 p.dst 0 0 (.slice none 0 0)) rfT), (D, .cells (tcA u.src u.dst u.seq u.ack u.flags u.win u.sum u.urg (.slice uo u.opts.length ud) (.slice ub u.body.length uc)) tcT)]) := hM6
        have HV6 : Hid (IpV w6 (w.heap.size + 2) (.agg (ipB p (.slice ao no co) (.slice bo nb cb))) p) := HV5.out.below hb6 (Nat.le_refl _)
        clear hR hb6 r6 r7 kd HM5 HV5
        have k0 : w6.cell? ⟨D, 0, none⟩ = some (.int .u16 u.src) := hM6.cell 4 rfl 0
        have k1 : w6.cell? ⟨D, 1, none⟩ = some (.int .u16 u.dst) := hM6.cell 4 rfl 1
        have k4 : w6.cell? ⟨D, 4, none⟩ = some (.int .u8 u.flags) := hM6.cell 4 rfl 4
        have kg : ∀ i, w6.cell? ⟨G, i, none⟩ = (flA p.proto p.src 0 p.dst 0 0 (.slice none 0 0))[i]? := hM6.cell 3 rfl
        have kf : ∀ i, w6.frozen? ⟨G, i, none⟩ = false := hM6.free 3 rfl
        have d1 : G ≠ D := hM6.ne 3 4 rfl rfl (by decide)
        have d1' : D ≠ G := fun e => d1 e.symm
        clear hM6
        go_upto_region 15 with fail
        go_region_held3 (fun w' => w'.cell? ⟨D, 0, none⟩ = some (.int .u16 u.src) ∧ w'.cell? ⟨D, 1, none⟩ = some (.int .u16 u.dst) ∧ w'.cell? ⟨D, 4, none⟩ = some (.int .u8 u.flags)) (go_keep) (fail)
        all_goals
          go_wp2_with fail
          go_meet
          case rel =>
            refine ⟨rfl, E1, R1, ⟨p.proto, ⟨p.src, u.src⟩, ⟨p.dst, u.dst⟩, u.flags, []⟩, none, 0, rfl, rfl, ?_, ?_, Or.inl ⟨rfl, rfl⟩, HE6.out, fun _ _ => HF6.out.symm⟩
            · first | exact (((HM6.out.drew.set 3 rfl 2 _).set 3 rfl 4 _).set 3 rfl 5 _).four | exact (((HM6.out.drew.set 3 rfl 2 _).set 3 rfl 5 _).set 3 rfl 4 _).four | exact (((HM6.out.drew.set 3 rfl 4 _).set 3 rfl 2 _).set 3 rfl 5 _).four | exact (((HM6.out.drew.set 3 rfl 4 _).set 3 rfl 5 _).set 3 rfl 2 _).four | exact (((HM6.out.drew.set 3 rfl 5 _).set 3 rfl 2 _).set 3 rfl 4 _).four | exact (((HM6.out.drew.set 3 rfl 5 _).set 3 rfl 4 _).set 3 rfl 2 _).four
            · exact ipv_beside (ipv_beside (ipv_beside HV6.out.drew HFa.out.1 HFa.out.2) HFa.out.1 HFa.out.2) HFa.out.1 HFa.out.2
      · by_cases p1 : p.proto = 1
        · have HE1 : Hid (EE = if mgErr p.body ≠ 0 then mgErr p.body else if mright (mgRes p.body) = false then 22 else mfErr (mgRes p.body)) := by show _ = _; rw [HLk.out]; unfold bdErr bdRight flErr; simp only [if_neg p17, if_neg p6, if_pos p1]
          have HF1 : Hid (flFl p = mfFl (fl0 p) (mgRes p.body)) := by show _ = _; unfold flFl; rw [if_neg p17, if_neg p6]
          have hI := rmsg_own HR3.out HNO.out.2 HC.out (by have := HO.out.2; have := HNO.out.2; omega)
          have HMo : Hid ((mgRes p.body).Ok) := mgRes_ok HO.out.1.body
          have b17 : (p.proto == 17) = false := beq_eq_false_iff_ne.mpr p17
          have b6 : (p.proto == 6) = false := beq_eq_false_iff_ne.mpr p6
          have b1 : (p.proto == 1) = true := beq_iff_eq.mpr p1
          clear p1 p6 p17
          generalize mgRes p.body = m at *
          generalize mgErr p.body = E1 at *
          go_wp2_with fail
          refine hI.mono ?_
          rintro e w4 ⟨v, rfl, hv4, hb4⟩
          obtain ⟨ub, uc, rfl, hur, hun, huf⟩ := hv4.v
          have hM4 := HM3.out.after hb4
          have HV4 : Hid (IpV w4 (w.heap.size + 2) (.agg (ipB p (.slice ao no co) (.slice bo nb cb))) p) := HV3.out.below hb4 (Nat.le_refl _)
          obtain ⟨mb, hmb⟩ : ∃ mb, m.body.length = mb := ⟨_, rfl⟩
          have HMB : Hid (m.body.length = mb) := hmb
          have HU4 : Hid (MgV w4 0 (.agg (mgA m.typ m.code m.sum m.rest (.slice ub mb uc))) m ∧ Row w4 ub m.body) := ⟨⟨ub, uc, by rw [← hmb], hur, hun, fun _ _ => Nat.zero_le _⟩, hur⟩
          rw [hmb]
          clear hI hb4 hur hun huf r9 hv4 hmb
          go_upto_region 18 with fail
          refine wp_letter (fun W => Mem w W [(w.heap.size, .cells ip0 ipT), (w.heap.size + 1, .cells flZ rfT), (Q, .cells (ipB p (.slice ao no co) (.slice bo nb cb)) ipT), (G, .cells (flA p.proto p.src 0 p.dst 0 0 (.slice none 0 0)) rfT), (w4.heap.size, .cells (mgA m.typ m.code m.sum m.rest (.slice ub mb uc)) mgT)] ∧ IpV W (w.heap.size + 2) (.agg (ipB p (.slice ao no co) (.slice bo nb cb))) p ∧ MgV W 0 (.agg (mgA m.typ m.code m.sum m.rest (.slice ub mb uc))) m ∧ Row W ub m.body) ⟨hM4.push _ _ rfl, HV4.out.below ((Below.refl _ _).alloc (Nat.le_refl _) _) (Nat.le_refl _), HU4.out.1.below ((Below.refl _ _).alloc (Nat.le_refl _) _) (Nat.le_refl _), row_alloc HU4.out.2⟩ ?_
          intro w5 ⟨hM5, hv5, hu5, hw5⟩
          have HV5 : Hid (IpV w5 (w.heap.size + 2) (.agg (ipB p (.slice ao no co) (.slice bo nb cb))) p ∧ MgV w5 0 (.agg (mgA m.typ m.code m.sum m.rest (.slice ub mb uc))) m ∧ Row w5 ub m.body) := ⟨hv5, hu5, hw5⟩
          have hR := rmright_any HMo.out hu5
          clear hM4 HV4 HU4 hv5 hu5 hw5 r2 r6 r7
          generalize w4.heap.size = D at *
          have HM5 : Hid (Mem w w5 [(w.heap.size, .cells ip0 ipT), (w.heap.size + 1, .cells flZ rfT), (Q, .cells (ipB p (.slice ao no co) (.slice bo nb cb)) ipT), (G, .cells (flA p.proto p.src 0 p.dst 0 0 (.slice none 0 0)) rfT), (D, .cells (mgA m.typ m.code m.sum m.rest (.slice ub mb uc)) mgT)]) := hM5
          have kd : ∀ i, w5.cell? ⟨D, i, none⟩ = (mgA m.typ m.code m.sum m.rest (.slice ub mb uc))[i]? := hM5.cell 4 rfl
          clear hM5
          generalize mright m = R1 at *
          go_wp2_with fail
          refine hR.mono ?_
          rintro e w6 ⟨rfl, hb6⟩
          have HM6 : Hid (Mem w w6 [(w.heap.size, .cells ip0 ipT), (w.heap.size + 1, .cells flZ rfT), (Q, .cells (ipB p (.slice ao no co) (.slice bo nb cb)) ipT), (G, .cells (flA p.proto p.src 0 p.dst 0 0 (.slice none 0 0)) rfT), (D, .cells (mgA m.typ m.code m.sum m.rest (.slice ub mb uc)) mgT)]) := HM5.out.after hb6
          have HV6 : Hid (IpV w6 (w.heap.size + 2) (.agg (ipB p (.slice ao no co) (.slice bo nb cb))) p ∧ MgV w6 0 (.agg (mgA m.typ m.code m.sum m.rest (.slice ub mb uc))) m ∧ Row w6 ub m.body) := ⟨HV5.out.1.below hb6 (Nat.le_refl _), HV5.out.2.1.below hb6 (Nat.le_refl _), HV5.out.2.2.below hb6 (Nat.le_refl _)⟩
          clear hR hb6 kd HM5 HV5
          by_cases h0 : E1 = 0
          · subst h0
            cases R1 with
            | false =>
              go_wp2_with fail
              go_meet
              case rel => exact ⟨rfl, 0, false, ⟨p.proto, ⟨p.src, 0⟩, ⟨p.dst, 0⟩, 0, []⟩, none, 0, rfl, rfl, HM6.out.four, HV6.out.1, Or.inl ⟨rfl, rfl⟩, HE1.out.trans rfl, fun _ h => (by cases h)⟩
            | true =>
              have HEm : Hid (EE = mfErr m) := HE1.out.trans rfl
              have kd : ∀ i, w6.cell? ⟨D, i, none⟩ = (mgA m.typ m.code m.sum m.rest (.slice ub mb uc))[i]? := HM6.out.cell 4 rfl
              have hEc := rmecho_any HV6.out.2.1
              cases hec : mecho m with
              | true =>
                rw [hec] at hEc
                have HE0 : Hid (EE = 0) := by show EE = 0; rw [HEm.out]; unfold mfErr; rw [if_pos hec]
                have HFl : Hid (flFl p = ⟨p.proto, ⟨p.src, m.rest / 65536⟩, ⟨p.dst, m.rest / 65536⟩, 0, []⟩) := by show _ = _; rw [HF1.out]; unfold mfFl fl0; rw [if_pos hec]
                have hrs := HMo.out.rest
                have vr : IntKind.u16.wrap (m.rest / 65536) = m.rest / 65536 := wrap16_small _ (by omega) (by omega)
                clear hec hrs
                go_wp2_with fail
                refine hEc.mono ?_
                rintro e w7 ⟨rfl, hb7⟩
                have hM7 := HM6.out.after hb7
                have HM7 : Hid (Mem w w7 [(w.heap.size, .cells ip0 ipT), (w.heap.size + 1, .cells flZ rfT), (Q, .cells (ipB p (.slice ao no co) (.slice bo nb cb)) ipT), (G, .cells (flA p.proto p.src 0 p.dst 0 0 (.slice none 0 0)) rfT), (D, .cells (mgA m.typ m.code m.sum m.rest (.slice ub mb uc)) mgT)]) := hM7
                have HV7 : Hid (IpV w7 (w.heap.size + 2) (.agg (ipB p (.slice ao no co) (.slice bo nb cb))) p) := HV6.out.1.below hb7 (Nat.le_refl _)
                clear hEc hb7 kd HM6 HV6
                have k3 : w7.cell? ⟨D, 3, none⟩ = some (.int .u32 m.rest) := hM7.cell 4 rfl 3
                have kg : ∀ i, w7.cell? ⟨G, i, none⟩ = (flA p.proto p.src 0 p.dst 0 0 (.slice none 0 0))[i]? := hM7.cell 3 rfl
                have kf : ∀ i, w7.frozen? ⟨G, i, none⟩ = false := hM7.free 3 rfl
                have d1 : G ≠ D := hM7.ne 3 4 rfl rfl (by decide)
                have d1' : D ≠ G := fun e => d1 e.symm
                clear hM7
                go_upto_region 22 with fail
                go_region_held3 (fun w' => w'.cell? ⟨D, 3, none⟩ = some (.int .u32 m.rest)) (go_keep) (fail)
                all_goals
                  go_wp2_with fail
                  go_meet
                  case rel =>
                    refine ⟨rfl, 0, true, ⟨p.proto, ⟨p.src, m.rest / 65536⟩, ⟨p.dst, m.rest / 65536⟩, 0, []⟩, none, 0, rfl, rfl, ?_, ?_, Or.inl ⟨rfl, rfl⟩, HE0.out, fun _ _ => HFl.out.symm⟩
                    · first | exact ((HM7.out.drew.set 3 rfl 2 _).set 3 rfl 4 _).four | exact ((HM7.out.drew.set 3 rfl 4 _).set 3 rfl 2 _).four
                    · exact ipv_beside (ipv_beside HV7.out.drew HFa.out.1 HFa.out.2) HFa.out.1 HFa.out.2
              | false =>
                rw [hec] at hEc
                go_wp2_with fail
                refine hEc.mono ?_
                rintro e w7 ⟨rfl, hb7⟩
                have hM7 := HM6.out.after hb7
                have HM7 : Hid (Mem w w7 [(w.heap.size, .cells ip0 ipT), (w.heap.size + 1, .cells flZ rfT), (Q, .cells (ipB p (.slice ao no co) (.slice bo nb cb)) ipT), (G, .cells (flA p.proto p.src 0 p.dst 0 0 (.slice none 0 0)) rfT), (D, .cells (mgA m.typ m.code m.sum m.rest (.slice ub mb uc)) mgT)]) := hM7
                have HV7 : Hid (IpV w7 (w.heap.size + 2) (.agg (ipB p (.slice ao no co) (.slice bo nb cb))) p ∧ MgV w7 0 (.agg (mgA m.typ m.code m.sum m.rest (.slice ub mb uc))) m ∧ Row w7 ub m.body) := ⟨HV6.out.1.below hb7 (Nat.le_refl _), HV6.out.2.1.below hb7 (Nat.le_refl _), HV6.out.2.2.below hb7 (Nat.le_refl _)⟩
                clear hEc hb7 kd HM6 HV6
                have kd : ∀ i, w7.cell? ⟨D, i, none⟩ = (mgA m.typ m.code m.sum m.rest (.slice ub mb uc))[i]? := hM7.cell 4 rfl
                have hEr := rmerror_any HV7.out.2.1
                clear hM7
                cases her : merror m with
                | false =>
                  rw [her] at hEr
                  have HEE : Hid (EE = 21 ∧ (21 : Int) ≠ 0) := ⟨by rw [HEm.out]; unfold mfErr; rw [if_neg (by simp [hec]), if_neg (by simp [her])], by decide⟩
                  clear hec her
                  go_wp2_with fail
                  refine hEr.mono ?_
                  rintro e w8 ⟨rfl, hb8⟩
                  have HM8 : Hid (Mem w w8 [(w.heap.size, .cells ip0 ipT), (w.heap.size + 1, .cells flZ rfT), (Q, .cells (ipB p (.slice ao no co) (.slice bo nb cb)) ipT), (G, .cells (flA p.proto p.src 0 p.dst 0 0 (.slice none 0 0)) rfT), (D, .cells (mgA m.typ m.code m.sum m.rest (.slice ub mb uc)) mgT)]) := HM7.out.after hb8
                  clear hEr hb8 kd HM7 HV7
                  have ka : ∀ i, w8.cell? ⟨w.heap.size, i, none⟩ = ip0[i]? := HM8.out.cell 0 rfl
                  have kaf : ∀ i, w8.frozen? ⟨w.heap.size, i, none⟩ = false := HM8.out.free 0 rfl
                  have kb : ∀ i, w8.cell? ⟨w.heap.size + 1, i, none⟩ = flZ[i]? := HM8.out.cell 1 rfl
                  have kbf : ∀ i, w8.frozen? ⟨w.heap.size + 1, i, none⟩ = false := HM8.out.free 1 rfl
                  go_wp2_with fail
                  (try simp only [Exit.inBlock, Exit.then])
                  exact noughts_end HM8.out rfl rfl rfl rfl (fun W' hb => HF.out W' _ HEE.out hb)
                | true =>
                  rw [her] at hEr
                  go_wp2_with fail
                  refine hEr.mono ?_
                  rintro e w8 ⟨rfl, hb8⟩
                  have hM8 := HM7.out.after hb8
                  have HM8 : Hid (Mem w w8 [(w.heap.size, .cells ip0 ipT), (w.heap.size + 1, .cells flZ rfT), (Q, .cells (ipB p (.slice ao no co) (.slice bo nb cb)) ipT), (G, .cells (flA p.proto p.src 0 p.dst 0 0 (.slice none 0 0)) rfT), (D, .cells (mgA m.typ m.code m.sum m.rest (.slice ub mb uc)) mgT)]) := hM8
                  have HV8 : Hid (IpV w8 (w.heap.size + 2) (.agg (ipB p (.slice ao no co) (.slice bo nb cb))) p ∧ Row w8 ub m.body) := ⟨HV7.out.1.below hb8 (Nat.le_refl _), HV7.out.2.2.below hb8 (Nat.le_refl _)⟩
                  clear hEr hb8 kd HM7 HV7
                  have k4 : w8.cell? ⟨D, 4, none⟩ = some (.slice ub mb uc) := hM8.cell 4 rfl 4
                  clear hM8
                  cases hin : inOk m.body with
                  | false =>
                    have HEE : Hid (EE = 21 ∧ (21 : Int) ≠ 0) := ⟨by rw [HEm.out]; unfold mfErr; rw [if_neg (by simp [hec]), if_neg (by simp [hin])], by decide⟩
                    have hNo := rinner_no (c := uc) HV8.out.2 HMB.out hin
                    clear hec her hin
                    go_wp2_with fail
                    refine hNo.mono ?_
                    rintro e w9 ⟨rfl, hb9⟩
                    have hM9 := HM8.out.after hb9
                    clear hNo hb9 k4 HM8 HV8
                    go_upto_region 26 with fail
                    refine wp_letter (fun W => Mem w W [(w.heap.size, .cells ip0 ipT), (w.heap.size + 1, .cells flZ rfT), (Q, .cells (ipB p (.slice ao no co) (.slice bo nb cb)) ipT), (G, .cells (flA p.proto p.src 0 p.dst 0 0 (.slice none 0 0)) rfT), (D, .cells (mgA m.typ m.code m.sum m.rest (.slice ub mb uc)) mgT)]) ((hM9.after ((Below.refl _ _).alloc (Nat.le_refl _) _)).after ((Below.refl _ _).alloc (Nat.le_refl _) _)) ?_
                    intro w10 hM10
                    have HM10 : Hid (Mem w w10 [(w.heap.size, .cells ip0 ipT), (w.heap.size + 1, .cells flZ rfT), (Q, .cells (ipB p (.slice ao no co) (.slice bo nb cb)) ipT), (G, .cells (flA p.proto p.src 0 p.dst 0 0 (.slice none 0 0)) rfT), (D, .cells (mgA m.typ m.code m.sum m.rest (.slice ub mb uc)) mgT)]) := hM10
                    clear hM9 hM10
                    have ka : ∀ i, w10.cell? ⟨w.heap.size, i, none⟩ = ip0[i]? := HM10.out.cell 0 rfl
                    have kaf : ∀ i, w10.frozen? ⟨w.heap.size, i, none⟩ = false := HM10.out.free 0 rfl
                    have kb : ∀ i, w10.cell? ⟨w.heap.size + 1, i, none⟩ = flZ[i]? := HM10.out.cell 1 rfl
                    have kbf : ∀ i, w10.frozen? ⟨w.heap.size + 1, i, none⟩ = false := HM10.out.free 1 rfl
                    go_wp2_with fail
                    (try simp only [Exit.inBlock, Exit.then])
                    exact noughts_end HM10.out rfl rfl rfl rfl (fun W' hb => HF.out W' _ HEE.out hb)
                  | true =>
                    have HE0 : Hid (EE = 0) := by show EE = 0; rw [HEm.out]; unfold mfErr; rw [if_neg (by simp [hec]), if_pos ⟨her, hin⟩]
                    have HFl : Hid (flFl p = ⟨p.proto, ⟨p.src, 0⟩, ⟨p.dst, 0⟩, 0, [inSrc m.body, inDst m.body]⟩) := by show _ = _; rw [HF1.out]; unfold mfFl fl0; rw [if_neg (by simp [hec]), if_pos ⟨her, hin⟩]
                    have hYes := rinner_yes (c := uc) HV8.out.2 HMB.out hin
                    clear hec her hin
                    generalize inSrc m.body = ps at *
                    generalize inDst m.body = pd at *
                    go_wp2_with fail
                    refine hYes.mono ?_
                    rintro e w9 ⟨rfl, hb9⟩
                    have hM9 := HM8.out.after hb9
                    have HV9 : Hid (IpV w9 (w.heap.size + 2) (.agg (ipB p (.slice ao no co) (.slice bo nb cb))) p) := HV8.out.1.below hb9 (Nat.le_refl _)
                    clear hYes hb9 k4 HM8 HV8
                    go_upto_region 27 with fail
                    refine wp_letter (fun W => Mem w W [(w.heap.size, .cells ip0 ipT), (w.heap.size + 1, .cells flZ rfT), (Q, .cells (ipB p (.slice ao no co) (.slice bo nb cb)) ipT), (G, .cells (flA p.proto p.src 0 p.dst 0 0 (.slice none 0 0)) rfT), (D, .cells (mgA m.typ m.code m.sum m.rest (.slice ub mb uc)) mgT), (w9.heap.size, .cells #[.int .u32 ps.ip, .int .u16 ps.port] ptT), (w9.heap.size + 1, .cells #[.int .u32 pd.ip, .int .u16 pd.port] ptT)] ∧ IpV W (w.heap.size + 2) (.agg (ipB p (.slice ao no co) (.slice bo nb cb))) p) ⟨(hM9.push _ _ rfl).push _ _ (by simp), (HV9.out.below ((Below.refl _ _).alloc (Nat.le_refl _) _) (Nat.le_refl _)).below ((Below.refl _ _).alloc (Nat.le_refl _) _) (Nat.le_refl _)⟩ ?_
                    intro w10 ⟨hM10, hv10⟩
                    generalize w9.heap.size = X at *
                    have HM10 : Hid (Mem w w10 [(w.heap.size, .cells ip0 ipT), (w.heap.size + 1, .cells flZ rfT), (Q, .cells (ipB p (.slice ao no co) (.slice bo nb cb)) ipT), (G, .cells (flA p.proto p.src 0 p.dst 0 0 (.slice none 0 0)) rfT), (D, .cells (mgA m.typ m.code m.sum m.rest (.slice ub mb uc)) mgT), (X, .cells #[.int .u32 ps.ip, .int .u16 ps.port] ptT), (X + 1, .cells #[.int .u32 pd.ip, .int .u16 pd.port] ptT)]) := hM10
                    have HV10 : Hid (IpV w10 (w.heap.size + 2) (.agg (ipB p (.slice ao no co) (.slice bo nb cb))) p) := hv10
                    have x0 : w10.cell? ⟨X, 0, none⟩ = some (.int .u32 ps.ip) := hM10.cell 5 rfl 0
                    have x1 : w10.cell? ⟨X, 1, none⟩ = some (.int .u16 ps.port) := hM10.cell 5 rfl 1
                    have y0 : w10.cell? ⟨X + 1, 0, none⟩ = some (.int .u32 pd.ip) := hM10.cell 6 rfl 0
                    have y1 : w10.cell? ⟨X + 1, 1, none⟩ = some (.int .u16 pd.port) := hM10.cell 6 rfl 1
                    have kgA : ∀ (o : Obj) (i : Nat), (w10.alloc o).cell? ⟨G, i, none⟩ = (flA p.proto p.src 0 p.dst 0 0 (.slice none 0 0))[i]? := fun o => (hM10.push w10.heap.size o rfl).cell 3 rfl
                    have kfA : ∀ (o : Obj) (i : Nat), (w10.alloc o).frozen? ⟨G, i, none⟩ = false := fun o => (hM10.push w10.heap.size o rfl).free 3 rfl
                    have hne : G ≠ w10.heap.size := (hM10.push w10.heap.size (.cells (pt2 ps pd) ptT) rfl).ne 3 7 rfl rfl (by decide)
                    have HLo : Hid (w.heap.size + 2 ≤ w10.heap.size) := by show _ ≤ _; have := hM10.ltAt 1 rfl; omega
                    clear hM9 HV9 hM10 hv10
                    go_wp2_with fail
                    go_meet
                    case rel =>
                      have hN := (HM10.out.push w10.heap.size (.cells (pt2 ps pd) ptT) rfl).set 3 rfl 6 (.slice (some ⟨w10.heap.size, 0, none⟩) 2 2)
                      exact ⟨rfl, 0, true, ⟨p.proto, ⟨p.src, 0⟩, ⟨p.dst, 0⟩, 0, [ps, pd]⟩, some ⟨w10.heap.size, 0, none⟩, 2, rfl, rfl, hN.lead, ipv_beside (HV10.out.below ((Below.refl _ _).alloc (Nat.le_refl _) _) (Nat.le_refl _)) HFa.out.1 HFa.out.2, Or.inr ⟨w10.heap.size, ps, pd, rfl, rfl, hN.get 7 rfl, HLo.out⟩, HE0.out, fun _ _ => HFl.out.symm⟩
          · have h0' : (E1 == 0) = false := beq_eq_false_iff_ne.mpr h0
            have HEq : Hid (EE = (if E1 ≠ 0 then E1 else if R1 = false then 22 else 0) ∧ E1 ≠ 0) := ⟨by rw [HE1.out, if_pos h0, if_pos h0], h0⟩
            clear h0
            go_wp2_with fail
            go_meet
            case rel => exact ⟨rfl, E1, R1, ⟨p.proto, ⟨p.src, 0⟩, ⟨p.dst, 0⟩, 0, []⟩, none, 0, rfl, rfl, HM6.out.four, HV6.out.1, Or.inl ⟨rfl, rfl⟩, HEq.out.1, fun h _ => absurd h HEq.out.2⟩
        · have HEE : Hid (EE = 21 ∧ (21 : Int) ≠ 0) := ⟨by rw [HLk.out]; unfold bdErr; rw [if_neg p17, if_neg p6, if_neg p1]; rfl, by decide⟩
          have b1 : (p.proto == 17) = false := beq_eq_false_iff_ne.mpr p17
          have b2 : (p.proto == 6) = false := beq_eq_false_iff_ne.mpr p6
          have b3 : (p.proto == 1) = false := beq_eq_false_iff_ne.mpr p1
          have ka : ∀ i, w3.cell? ⟨w.heap.size, i, none⟩ = ip0[i]? := HM3.out.cell 0 rfl
          have kaf : ∀ i, w3.frozen? ⟨w.heap.size, i, none⟩ = false := HM3.out.free 0 rfl
          have kb : ∀ i, w3.cell? ⟨w.heap.size + 1, i, none⟩ = flZ[i]? := HM3.out.cell 1 rfl
          have kbf : ∀ i, w3.frozen? ⟨w.heap.size + 1, i, none⟩ = false := HM3.out.free 1 rfl
          go_wp2_with fail
          (try simp only [Exit.inBlock, Exit.then])
          exact noughts_end HM3.out rfl rfl rfl rfl (fun W' hb => HF.out W' _ HEE.out hb)
  case rest =>
    obtain ⟨rfl, E1, R1, f, ia, ic, rfl, rfl, hM5, hv5, hp5, hEE, hf⟩ := hcut
    have HM5 : Hid (Mem w wc [(w.heap.size, .cells ip0 ipT), (w.heap.size + 1, .cells flZ rfT), (Q, .cells (ipB p (.slice ao no co) (.slice bo nb cb)) ipT), (G, .cells (flB f (.slice ia f.inner.length ic)) rfT)]) := hM5
    have HV5 : Hid (IpV wc (w.heap.size + 2) (.agg (ipB p (.slice ao no co) (.slice bo nb cb))) p ∧ PtsV wc (w.heap.size + 2) (.slice ia f.inner.length ic) f.inner) := ⟨hv5, hp5⟩
    have HE5 : Hid (EE = (if E1 ≠ 0 then E1 else if R1 = false then 22 else 0) ∧ (E1 = 0 → R1 = true → f = flFl p)) := ⟨hEE, hf⟩
    clear hM5 hv5 hp5 hEE hf r2 r6 r7 r9 HR3 HM3 HV3 HLk
    by_cases e1 : E1 = 0
    · subst e1
      cases R1 with
      | false =>
        have HEE : Hid (EE = 22 ∧ (22 : Int) ≠ 0) := ⟨by rw [HE5.out.1]; rfl, by decide⟩
        have ka : ∀ i, wc.cell? ⟨w.heap.size, i, none⟩ = ip0[i]? := HM5.out.cell 0 rfl
        have kaf : ∀ i, wc.frozen? ⟨w.heap.size, i, none⟩ = false := HM5.out.free 0 rfl
        have kb : ∀ i, wc.cell? ⟨w.heap.size + 1, i, none⟩ = flZ[i]? := HM5.out.cell 1 rfl
        have kbf : ∀ i, wc.frozen? ⟨w.heap.size + 1, i, none⟩ = false := HM5.out.free 1 rfl
        go_wp2_with fail
        (try simp only [Exit.inBlock, Exit.then])
        exact noughts_end HM5.out rfl rfl rfl rfl (fun W' hb => HF.out W' _ HEE.out hb)
      | true =>
        have HEE : Hid (EE = 0) := by show EE = 0; rw [HE5.out.1]; rfl
        have hff := HE5.out.2 rfl rfl
        subst hff
        clear HE5
        obtain ⟨f, hff⟩ : ∃ f, flFl p = f := ⟨_, rfl⟩
        have HFF : Hid (flFl p = f) := hff
        rw [hff] at HM5 HV5
        clear hff
        generalize hni : f.inner.length = ni at *
        have HNI : Hid (f.inner.length = ni) := hni
        clear hni
        have zQ0 : wc.cell? ⟨Q, 0, none⟩ = some (.int .u8 p.tos) := HM5.out.cell 2 rfl 0
        have zQ1 : wc.cell? ⟨Q, 1, none⟩ = some (.int .u8 p.ttl) := HM5.out.cell 2 rfl 1
        have zQ2 : wc.cell? ⟨Q, 2, none⟩ = some (.int .u8 p.proto) := HM5.out.cell 2 rfl 2
        have zQ3 : wc.cell? ⟨Q, 3, none⟩ = some (.int .u16 p.id) := HM5.out.cell 2 rfl 3
        have zQ4 : wc.cell? ⟨Q, 4, none⟩ = some (.int .u8 p.flags) := HM5.out.cell 2 rfl 4
        have zQ5 : wc.cell? ⟨Q, 5, none⟩ = some (.int .u16 p.off) := HM5.out.cell 2 rfl 5
        have zQ6 : wc.cell? ⟨Q, 6, none⟩ = some (.int .u32 p.src) := HM5.out.cell 2 rfl 6
        have zQ7 : wc.cell? ⟨Q, 7, none⟩ = some (.int .u32 p.dst) := HM5.out.cell 2 rfl 7
        have zQ8 : wc.cell? ⟨Q, 8, none⟩ = some (.slice ao no co) := HM5.out.cell 2 rfl 8
        have zQ9 : wc.cell? ⟨Q, 9, none⟩ = some (.slice bo nb cb) := HM5.out.cell 2 rfl 9
        have zG0 : wc.cell? ⟨G, 0, none⟩ = some (.int .u8 f.proto) := HM5.out.cell 3 rfl 0
        have zG1 : wc.cell? ⟨G, 1, none⟩ = some (.int .u32 f.src.ip) := HM5.out.cell 3 rfl 1
        have zG2 : wc.cell? ⟨G, 2, none⟩ = some (.int .u16 f.src.port) := HM5.out.cell 3 rfl 2
        have zG3 : wc.cell? ⟨G, 3, none⟩ = some (.int .u32 f.dst.ip) := HM5.out.cell 3 rfl 3
        have zG4 : wc.cell? ⟨G, 4, none⟩ = some (.int .u16 f.dst.port) := HM5.out.cell 3 rfl 4
        have zG5 : wc.cell? ⟨G, 5, none⟩ = some (.int .u8 f.flags) := HM5.out.cell 3 rfl 5
        have zG6 : wc.cell? ⟨G, 6, none⟩ = some (.slice ia ni ic) := HM5.out.cell 3 rfl 6
        have ka : ∀ i, wc.cell? ⟨w.heap.size, i, none⟩ = ip0[i]? := HM5.out.cell 0 rfl
        have kaf : ∀ i, wc.frozen? ⟨w.heap.size, i, none⟩ = false := HM5.out.free 0 rfl
        have kb : ∀ i, wc.cell? ⟨w.heap.size + 1, i, none⟩ = flZ[i]? := HM5.out.cell 1 rfl
        have kbf : ∀ i, wc.frozen? ⟨w.heap.size + 1, i, none⟩ = false := HM5.out.free 1 rfl
        have d1 : w.heap.size ≠ Q := HM5.out.ne 0 2 rfl rfl (by decide)
        have d2 : w.heap.size + 1 ≠ Q := HM5.out.ne 1 2 rfl rfl (by decide)
        have d3 : w.heap.size ≠ G := HM5.out.ne 0 3 rfl rfl (by decide)
        have d4 : w.heap.size + 1 ≠ G := HM5.out.ne 1 3 rfl rfl (by decide)
        have d1' : Q ≠ w.heap.size := fun e => d1 e.symm
        have d2' : Q ≠ w.heap.size + 1 := fun e => d2 e.symm
        have d3' : G ≠ w.heap.size := fun e => d3 e.symm
        have d4' : G ≠ w.heap.size + 1 := fun e => d4 e.symm
        go_upto_region 32 with fail
        go_region_held3 (fun w' => w'.cell? ⟨Q, 0, none⟩ = some (.int .u8 p.tos) ∧ w'.cell? ⟨Q, 1, none⟩ = some (.int .u8 p.ttl) ∧ w'.cell? ⟨Q, 2, none⟩ = some (.int .u8 p.proto) ∧ w'.cell? ⟨Q, 3, none⟩ = some (.int .u16 p.id) ∧ w'.cell? ⟨Q, 4, none⟩ = some (.int .u8 p.flags) ∧ w'.cell? ⟨Q, 5, none⟩ = some (.int .u16 p.off) ∧ w'.cell? ⟨Q, 6, none⟩ = some (.int .u32 p.src) ∧ w'.cell? ⟨Q, 7, none⟩ = some (.int .u32 p.dst) ∧ w'.cell? ⟨Q, 8, none⟩ = some (.slice ao no co) ∧ w'.cell? ⟨Q, 9, none⟩ = some (.slice bo nb cb) ∧ w'.cell? ⟨G, 0, none⟩ = some (.int .u8 f.proto) ∧ w'.cell? ⟨G, 1, none⟩ = some (.int .u32 f.src.ip) ∧ w'.cell? ⟨G, 2, none⟩ = some (.int .u16 f.src.port) ∧ w'.cell? ⟨G, 3, none⟩ = some (.int .u32 f.dst.ip) ∧ w'.cell? ⟨G, 4, none⟩ = some (.int .u16 f.dst.port) ∧ w'.cell? ⟨G, 5, none⟩ = some (.int .u8 f.flags) ∧ w'.cell? ⟨G, 6, none⟩ = some (.slice ia ni ic)) (go_keep) (fail)
        all_goals
          go_wp2_with fail
          (try simp only [Exit.inBlock, Exit.then])
          refine post_fillD (HM5.out.get 0 rfl) (HM5.out.get 1 rfl) (by omega) ?_
          intro W1 W2 h1 h2
          have hM6 := ((HM5.out.wrote 0 rfl h1).wrote 1 rfl h2).drew
          have hab : Above (w.heap.size + 2) wc W2.drew := fun k hk => (h2.there k (by omega)).trans (h1.there k (by omega))
          refine post_letter (fun W => Mem w W [(w.heap.size, .cells (ipB p (.slice ao no co) (.slice bo nb cb)) ipT (0, 0)), (w.heap.size + 1, .cells (flB f (.slice ia ni ic)) rfT (0, 0)), (Q, .cells (ipB p (.slice ao no co) (.slice bo nb cb)) ipT (0, 0)), (G, .cells (flB f (.slice ia ni ic)) rfT (0, 0))] ∧ Above (w.heap.size + 2) wc W) ⟨hM6, hab⟩ ?_
          clear h1 h2 hM6 hab
          intro wz ⟨hz, hab⟩
          refine bodyPost_ret (v := .tuple #[.agg (ipB p (.slice ao no co) (.slice bo nb cb)), .agg (flB f (.slice ia ni ic)), .int .i64 0]) ?hres rfl ?hpost
          case hres => exact results_cell2_tmp (p := 2) (q := 3) (r := 4) (ty := ipT) (tz := rfT) rfl _ _ w.heap.size (w.heap.size + 1) (ipB p (.slice ao no co) (.slice bo nb cb)) (flB f (.slice ia ni ic)) rfl rfl (run_loadVar_row _ _ ipT ipT _ (0, 0) _ (hz.get 0 rfl) Tryz.underlying42 rfl (by kernel_rfl)) (run_loadVar_row _ _ rfT rfT _ (0, 0) _ (hz.get 1 rfl) Tryz.underlying49 rfl (by kernel_rfl))
          case hpost =>
            have := HG.out wz ao bo ia co cb ic no nb ni rfl rfl (by rw [HFF.out]; exact HNI.out) HEE.out ((HV5.out.1.above hab).mono (by omega)) HC.out (by rw [HFF.out]; exact (HV5.out.2.above hab).mono (by omega)) hz.below
            rw [HFF.out] at this
            exact this
    · have e1' : (E1 == 0) = false := beq_eq_false_iff_ne.mpr e1
      have e1'' : (E1 != 0) = true := bne_iff_ne.mpr e1
      have HEE : Hid (EE = E1 ∧ E1 ≠ 0) := ⟨by rw [HE5.out.1, if_pos e1], e1⟩
      have ka : ∀ i, wc.cell? ⟨w.heap.size, i, none⟩ = ip0[i]? := HM5.out.cell 0 rfl
      have kaf : ∀ i, wc.frozen? ⟨w.heap.size, i, none⟩ = false := HM5.out.free 0 rfl
      have kb : ∀ i, wc.cell? ⟨w.heap.size + 1, i, none⟩ = flZ[i]? := HM5.out.cell 1 rfl
      have kbf : ∀ i, wc.frozen? ⟨w.heap.size + 1, i, none⟩ = false := HM5.out.free 1 rfl
      go_wp2_with fail
      (try simp only [Exit.inBlock, Exit.then])
      exact noughts_end HM5.out rfl rfl rfl rfl (fun W' hb => HF.out W' _ HEE.out hb)
end Go.Proofs.YtjalpbkfpjfigaaGreat
