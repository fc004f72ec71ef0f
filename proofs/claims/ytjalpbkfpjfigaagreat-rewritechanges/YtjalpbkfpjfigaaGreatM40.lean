/-
  What the document's own lychref8.Look answers of a packet that is read.
  What rewrite.Inner answers, whatever bytes and points it is handed.
-/
import Derived.Test.YtjalpbkfpjfigaaGreatM39
import Derived.Test.YtjalpbkfpjfigaaGreatM38
import Derived.Test.YtjalpbkfpjfigaaGreatM18
import Derived.Test.YtjalpbkfpjfigaaGreatM12
import Derived.Test.YtjalpbkfpjfigaaGreatM17
import Derived.Test.YtjalpbkfpjfigaaGreatM22
import Derived.Test.YtjalpbkfpjfigaaGreatM15
import Derived.Test.YtjalpbkfpjfigaaGreatM34
import Derived.Test.YtjalpbkfpjfigaaGreatM36
namespace Go.Proofs.YtjalpbkfpjfigaaGreat
open Go.RowKit
open Sm
set_option linter.unusedVariables false
set_option maxRecDepth 20000

theorem post_fillD {P : Program} {fn : Func} {R : Ending → World → Prop} {e : Exit} {a : Act} {w : World} {g k : Nat} {p : Pk} {o b : Value} {f : Fl} {iv : Value} {t : TypeId} (hg : w.heap[g]? = some (.cells ip0 ipT (0, 0))) (hk : w.heap[k]? = some (.cells flZ t (0, 0))) (hne : k ≠ g)
    (K : ∀ W1 W2, Wrote w W1 g (ipB p o b) ipT → Wrote W1 W2 k (flB f iv) t → bodyPost P fn R e a W2.drew) :
    bodyPost P fn R e a (((((((((((((((((w.setCell ⟨g, 0, none⟩ (.int .u8 p.tos)).setCell ⟨g, 1, none⟩ (.int .u8 p.ttl)).setCell ⟨g, 2, none⟩ (.int .u8 p.proto)).setCell ⟨g, 3, none⟩ (.int .u16 p.id)).setCell ⟨g, 4, none⟩ (.int .u8 p.flags)).setCell ⟨g, 5, none⟩ (.int .u16 p.off)).setCell ⟨g, 6, none⟩ (.int .u32 p.src)).setCell ⟨g, 7, none⟩ (.int .u32 p.dst)).setCell ⟨g, 8, none⟩ (o)).setCell ⟨g, 9, none⟩ (b)).setCell ⟨k, 0, none⟩ (.int .u8 f.proto)).setCell ⟨k, 1, none⟩ (.int .u32 f.src.ip)).setCell ⟨k, 2, none⟩ (.int .u16 f.src.port)).setCell ⟨k, 3, none⟩ (.int .u32 f.dst.ip)).setCell ⟨k, 4, none⟩ (.int .u16 f.dst.port)).setCell ⟨k, 5, none⟩ (.int .u8 f.flags)).setCell ⟨k, 6, none⟩ (iv)).drew := by
  have h1 := wrote_ip g p o b w hg
  have h2 := wrote_flT t k f iv _ ((h1.there k hne).trans hk)
  exact K _ _ h1 h2
theorem ipv_rows {w : World} {B : Nat} {p : Pk} {ao bo : Option Addr} {no co nb cb : Nat} (h : IpV w B (.agg (ipB p (.slice ao no co) (.slice bo nb cb))) p) : Row w ao p.opts ∧ Row w bo p.body := by
  obtain ⟨ao', co', bo', cb', e, h1, h2, -⟩ := h
  simp only [ipA, Value.agg.injEq, Array.mk.injEq, List.cons.injEq, true_and, and_true, Value.slice.injEq] at e
  obtain ⟨⟨rfl, -⟩, rfl, -⟩ := e
  exact ⟨h1, h2⟩
theorem ipv_beside {w : World} {B G j : Nat} {p : Pk} {ao bo : Option Addr} {no co nb cb : Nat} {v : Value} (h : IpV w B (.agg (ipB p (.slice ao no co) (.slice bo nb cb))) p) (f1 : Far G ao p.opts) (f2 : Far G bo p.body) : IpV (w.setCell ⟨G, j, none⟩ v) B (.agg (ipB p (.slice ao no co) (.slice bo nb cb))) p := by
  have hrw := ipv_rows h
  obtain ⟨ao', co', bo', cb', e, h1, h2, h3⟩ := h
  have e' := e
  simp only [ipA, Value.agg.injEq, Array.mk.injEq, List.cons.injEq, true_and, and_true, Value.slice.injEq] at e'
  obtain ⟨⟨rfl, -⟩, rfl, -⟩ := e'
  exact ⟨ao, co', bo, cb', e, h1.beside f1, h2.beside f2, h3⟩
theorem Mem.four {w W : World} {p q r s t : Nat × Obj} (h : Mem w W [p, q, r, s, t]) : Mem w W [p, q, r, s] :=
  ⟨h.below, fun x hx => h.low x (by simp at hx; rcases hx with rfl | rfl | rfl | rfl <;> simp), fun x hx => h.at_ x (by simp at hx; rcases hx with rfl | rfl | rfl | rfl <;> simp), by have := h.apart; simp at this ⊢; omega⟩
theorem Mem.lead {w W : World} {p q r s : Nat × Obj} {L : List (Nat × Obj)} (h : Mem w W (p :: q :: r :: s :: L)) : Mem w W [p, q, r, s] :=
  ⟨h.below, fun x hx => h.low x (by simp at hx; rcases hx with rfl | rfl | rfl | rfl <;> simp), fun x hx => h.at_ x (by simp at hx; rcases hx with rfl | rfl | rfl | rfl <;> simp), by
    have := h.apart
    simp only [List.map_cons, List.nodup_cons, List.mem_cons, not_or] at this
    simp only [List.map_cons, List.map_nil, List.nodup_cons, List.mem_cons, List.not_mem_nil, not_or, List.nodup_nil]
    obtain ⟨⟨a1, a2, a3, -⟩, ⟨b1, b2, -⟩, ⟨c1, -⟩, -⟩ := this
    exact ⟨⟨a1, a2, a3, fun h => h⟩, ⟨b1, b2, fun h => h⟩, ⟨c1, fun h => h⟩, fun h => h, trivial⟩⟩
theorem IpV.drew {w : World} {B : Nat} {v : Value} {p : Pk} (h : IpV w B v p) : IpV w.drew B v p := h.below ((Below.refl _ _).drew) (Nat.le_refl _)

set_option maxHeartbeats 8000000 in
theorem rlook_yes {w : World} {a : Option Addr} {n c : Nat} {l : List Int} (hr : Row w a l) (hn : l.length = n) (hc : n ≤ c) (h0 : ipErr l = 0) :
    Calls Tryz.prog 16 #[.slice a n c] w fun e w' => RlV w w' l e := by
  have hM : Mem w ((w.alloc (.cells ip0 ipT)).alloc (.cells flZ rfT)) [(w.heap.size, .cells ip0 ipT), (w.heap.size + 1, .cells flZ rfT)] := ((Mem.nil w).push1 rfl).push2 (by simp)
  have hP := rip_seen (hM.row hr) hn hc
  have ep : ipRes l = ipPk l := if_pos h0
  rw [h0, ep] at hP
  have hok : (ipPk l).Ok := by have := ipRes_ok hr.bytes; rwa [ep] at this
  have HO : Hid ((ipPk l).Ok ∧ (ipPk l).body.length ≤ 65535) := ⟨hok, by have := (pk_fits hr.bytes h0).1.n; omega⟩
  have HLk : Hid (lkErr l = if bdErr (ipPk l) ≠ 0 then bdErr (ipPk l) else if bdRight (ipPk l) = false then 22 else flErr (ipPk l)) := by show _ = _; unfold lkErr; rw [if_neg (by omega)]
  have HF : Hid (∀ W' E, lkErr l = E ∧ E ≠ 0 → Below w.heap.size w W' → RlV w W' l (.returned (.tuple #[.agg ip0, .agg flZ, .int .i64 E]))) := fun W' E hE hb => Or.inl ⟨by rw [hE.1]; exact hE.2, by rw [hE.1], hb⟩
  have HG : Hid (∀ W' ao bo ia co cb ic no nb ni, (ipPk l).opts.length = no → (ipPk l).body.length = nb → (flFl (ipPk l)).inner.length = ni → lkErr l = 0 → IpV W' w.heap.size (.agg (ipB (ipPk l) (.slice ao no co) (.slice bo nb cb))) (ipPk l) → nb ≤ cb → PtsV W' w.heap.size (.slice ia ni ic) (flFl (ipPk l)).inner → Below w.heap.size w W' → RlV w W' l (.returned (.tuple #[.agg (ipB (ipPk l) (.slice ao no co) (.slice bo nb cb)), .agg (flB (flFl (ipPk l)) (.slice ia ni ic)), .int .i64 0]))) := fun W' ao bo ia co cb ic no nb ni e1 e2 e3 h1 h2 h3 h4 h5 => by
    subst e1 e2 e3
    exact Or.inr ⟨h1, ao, bo, ia, co, cb, ic, rfl, h2, h3, h4, h5⟩
  have HM : Hid _ := hM
  clear hM hr hn hc h0 hok ep
  generalize lkErr l = EE at *
  generalize ipPk l = p at *
  generalize hno : p.opts.length = no at *
  generalize hnb : p.body.length = nb at *
  have HNO : Hid (p.opts.length = no ∧ p.body.length = nb) := ⟨hno, hnb⟩
  clear hno hnb
  go_enter Tryz.func16, Tryz.ntmps16
  go_wp2_with fail
  refine hP.mono ?_
  rintro e w1 ⟨ao, co, bo, cb, rfl, hv1, hcap, hb1⟩
  have hM1 := HM.out.after hb1
  have hsz : ((w.alloc (.cells ip0 ipT)).alloc (.cells flZ rfT)).heap.size = w.heap.size + 2 := by simp
  rw [hsz] at hv1
  have HV1 : Hid (IpV w1 (w.heap.size + 2) (.agg (ipB p (.slice ao no co) (.slice bo nb cb))) p) := hv1
  have HC : Hid (nb ≤ cb) := hcap
  clear hP hb1 hsz hcap HM hv1
  go_upto_region 2 with fail
  refine wp_letter (fun W => Mem w W [(w.heap.size, .cells ip0 ipT), (w.heap.size + 1, .cells flZ rfT), (w1.heap.size, .cells (ipB p (.slice ao no co) (.slice bo nb cb)) ipT)] ∧ IpV W (w.heap.size + 2) (.agg (ipB p (.slice ao no co) (.slice bo nb cb))) p) ⟨hM1.push3 rfl, HV1.out.below ((Below.refl _ _).alloc (Nat.le_refl _) _) (Nat.le_refl _)⟩ ?_
  intro w2 ⟨hM2, hv2⟩
  have HM2 : Hid _ := hM2
  have HV2 : Hid (IpV w2 (w.heap.size + 2) (.agg (ipB p (.slice ao no co) (.slice bo nb cb))) p) := hv2
  clear hM1 HV1 hv2
  generalize w1.heap.size = Q at *
  have r2 : w2.cell? ⟨Q, 2, none⟩ = some (.int .u8 p.proto) := hM2.cell 2 rfl 2
  have r6 : w2.cell? ⟨Q, 6, none⟩ = some (.int .u32 p.src) := hM2.cell 2 rfl 6
  have r7 : w2.cell? ⟨Q, 7, none⟩ = some (.int .u32 p.dst) := hM2.cell 2 rfl 7
  clear hM2
  go_upto_region 5 with fail
  obtain ⟨G, hG⟩ : ∃ G, w2.heap.size = G := ⟨_, rfl⟩
  rw [hG]
  have HFa : Hid (Far G ao p.opts ∧ Far G bo p.body) := ⟨far_low (ipv_rows HV2.out).1 (by omega), far_low (ipv_rows HV2.out).2 (by omega)⟩
  refine wp_letter (fun W => Mem w W [(w.heap.size, .cells ip0 ipT), (w.heap.size + 1, .cells flZ rfT), (Q, .cells (ipB p (.slice ao no co) (.slice bo nb cb)) ipT), (G, .cells (flA p.proto p.src 0 p.dst 0 0 (.slice none 0 0)) rfT)] ∧ IpV W (w.heap.size + 2) (.agg (ipB p (.slice ao no co) (.slice bo nb cb))) p) ⟨by rw [← hG]; exact HM2.out.push4 rfl, HV2.out.below ((Below.refl _ _).alloc (Nat.le_refl _) _) (Nat.le_refl _)⟩ ?_
  intro w3 ⟨hM3, hv3⟩
  have HM3 : Hid (Mem w w3 [(w.heap.size, .cells ip0 ipT), (w.heap.size + 1, .cells flZ rfT), (Q, .cells (ipB p (.slice ao no co) (.slice bo nb cb)) ipT), (G, .cells (flA p.proto p.src 0 p.dst 0 0 (.slice none 0 0)) rfT)]) := hM3
  have HV3 : Hid (IpV w3 (w.heap.size + 2) (.agg (ipB p (.slice ao no co) (.slice bo nb cb))) p) := hv3
  clear r2 r6 r7 HM2 HV2 hv3 hG
  have r2 : w3.cell? ⟨Q, 2, none⟩ = some (.int .u8 p.proto) := hM3.cell 2 rfl 2
  have r6 : w3.cell? ⟨Q, 6, none⟩ = some (.int .u32 p.src) := hM3.cell 2 rfl 6
  have r7 : w3.cell? ⟨Q, 7, none⟩ = some (.int .u32 p.dst) := hM3.cell 2 rfl 7
  have r9 : w3.cell? ⟨Q, 9, none⟩ = some (.slice bo nb cb) := hM3.cell 2 rfl 9
  have HR3 : Hid (Row w3 bo p.body) := by
    have := HV3.out
    obtain ⟨ao', co', bo', cb', e, -, h2, -⟩ := this
    simp only [ipA, Value.agg.injEq, Array.mk.injEq, List.cons.injEq, true_and, and_true, Value.slice.injEq] at e
    obtain ⟨⟨rfl, -⟩, rfl, -⟩ := e
    exact h2
  clear hM3
  go_upto_block 0 with fail
  go_cut [4, 6, 8] (fun s4 s6 s8 wx => s4 = .int .i64 0 ∧ ∃ E1 R1 f ia ic, s6 = .int .i64 E1 ∧ s8 = .bool R1 ∧ Mem w wx [(w.heap.size, .cells ip0 ipT), (w.heap.size + 1, .cells flZ rfT), (Q, .cells (ipB p (.slice ao no co) (.slice bo nb cb)) ipT), (G, .cells (flB f (.slice ia f.inner.length ic)) rfT)] ∧ IpV wx (w.heap.size + 2) (.agg (ipB p (.slice ao no co) (.slice bo nb cb))) p ∧ PtsV wx (w.heap.size + 2) (.slice ia f.inner.length ic) f.inner ∧ EE = (if E1 ≠ 0 then E1 else if R1 = false then 22 else 0) ∧ (E1 = 0 → R1 = true → f = flFl p))
  case first =>
    by_cases p17 : p.proto = 17
    · have HE17 : Hid (EE = if udErr p.body ≠ 0 then udErr p.body else if uright p.src p.dst (udRes p.body) = false then 22 else 0) := by show _ = _; rw [HLk.out]; unfold bdErr bdRight flErr; simp only [if_pos p17]
      have HF17 : Hid (flFl p = ⟨p.proto, ⟨p.src, (udRes p.body).src⟩, ⟨p.dst, (udRes p.body).dst⟩, 0, []⟩) := by show _ = _; unfold flFl; rw [if_pos p17]
      have hU := rudp_any HR3.out HNO.out.2 HC.out
      have HUo : Hid ((udRes p.body).Ok) := udRes_ok HO.out.1.body
      have b17 : (p.proto == 17) = true := beq_iff_eq.mpr p17
      clear p17
      generalize udRes p.body = u at *
      generalize udErr p.body = E1 at *
      go_wp2_with fail
      refine hU.mono ?_
      rintro e w4 ⟨v, rfl, hv4, hb4⟩
      obtain ⟨ub, uc, rfl, hur, hun, huf⟩ := hv4
      have hM4 := HM3.out.after hb4
      have HV4 : Hid (IpV w4 (w.heap.size + 2) (.agg (ipB p (.slice ao no co) (.slice bo nb cb))) p) := HV3.out.below hb4 (Nat.le_refl _)
      have HU4 : Hid (UdV w4 0 (.agg (udA u.src u.dst u.sum (.slice ub u.body.length uc))) u) := ⟨ub, uc, rfl, hur, hun, fun _ _ => Nat.zero_le _⟩
      clear hU hb4 hur hun huf r9
      go_upto_region 10 with fail
      refine wp_letter (fun W => Mem w W [(w.heap.size, .cells ip0 ipT), (w.heap.size + 1, .cells flZ rfT), (Q, .cells (ipB p (.slice ao no co) (.slice bo nb cb)) ipT), (G, .cells (flA p.proto p.src 0 p.dst 0 0 (.slice none 0 0)) rfT), (w4.heap.size, .cells (udA u.src u.dst u.sum (.slice ub u.body.length uc)) udT)] ∧ IpV W (w.heap.size + 2) (.agg (ipB p (.slice ao no co) (.slice bo nb cb))) p ∧ UdV W 0 (.agg (udA u.src u.dst u.sum (.slice ub u.body.length uc))) u) ⟨hM4.push _ _ rfl, HV4.out.below ((Below.refl _ _).alloc (Nat.le_refl _) _) (Nat.le_refl _), HU4.out.below ((Below.refl _ _).alloc (Nat.le_refl _) _) (Nat.le_refl _)⟩ ?_
      intro w5 ⟨hM5, hv5, hu5⟩
      have HM5 : Hid (Mem w w5 [(w.heap.size, .cells ip0 ipT), (w.heap.size + 1, .cells flZ rfT), (Q, .cells (ipB p (.slice ao no co) (.slice bo nb cb)) ipT), (G, .cells (flA p.proto p.src 0 p.dst 0 0 (.slice none 0 0)) rfT), (w4.heap.size, .cells (udA u.src u.dst u.sum (.slice ub u.body.length uc)) udT)]) := hM5
      have HV5 : Hid (IpV w5 (w.heap.size + 2) (.agg (ipB p (.slice ao no co) (.slice bo nb cb))) p) := hv5
      have hR := ruright_any HUo.out hu5 p.src p.dst HO.out.1.src.1 HO.out.1.src.2 HO.out.1.dst.1 HO.out.1.dst.2
      clear hM4 HV4 HU4 hv5 hu5 r2 r6 r7
      generalize w4.heap.size = D at *
      have r6 : w5.cell? ⟨Q, 6, none⟩ = some (.int .u32 p.src) := hM5.cell 2 rfl 6
      have r7 : w5.cell? ⟨Q, 7, none⟩ = some (.int .u32 p.dst) := hM5.cell 2 rfl 7
      have kd : ∀ i, w5.cell? ⟨D, i, none⟩ = (udA u.src u.dst u.sum (.slice ub u.body.length uc))[i]? := hM5.cell 4 rfl
      clear hM5
      generalize uright p.src p.dst u = R1 at *
      go_wp2_with fail
      refine hR.mono ?_
      rintro e w6 ⟨rfl, hb6⟩
      have hM6 := HM5.out.after hb6
      have HM6 : Hid (Mem w w6 [(w.heap.size, .cells ip0 ipT), (w.heap.size + 1, .cells flZ rfT), (Q, .cells (ipB p (.slice ao no co) (.slice bo nb cb)) ipT), (G, .cells (flA p.proto p.src 0 p.dst 0 0 (.slice none 0 0)) rfT), (D, .cells (udA u.src u.dst u.sum (.slice ub u.body.length uc)) udT)]) := hM6
      have HV6 : Hid (IpV w6 (w.heap.size + 2) (.agg (ipB p (.slice ao no co) (.slice bo nb cb))) p) := HV5.out.below hb6 (Nat.le_refl _)
      clear hR hb6 r6 r7 kd HM5 HV5
      have k0 : w6.cell? ⟨D, 0, none⟩ = some (.int .u16 u.src) := hM6.cell 4 rfl 0
      have k1 : w6.cell? ⟨D, 1, none⟩ = some (.int .u16 u.dst) := hM6.cell 4 rfl 1
      have kg : ∀ i, w6.cell? ⟨G, i, none⟩ = (flA p.proto p.src 0 p.dst 0 0 (.slice none 0 0))[i]? := hM6.cell 3 rfl
      have kf : ∀ i, w6.frozen? ⟨G, i, none⟩ = false := hM6.free 3 rfl
      have d1 : G ≠ D := hM6.ne 3 4 rfl rfl (by decide)
      have d1' : D ≠ G := fun e => d1 e.symm
      clear hM6
      go_upto_region 11 with fail
      go_region_held3 (fun w' => w'.cell? ⟨D, 0, none⟩ = some (.int .u16 u.src) ∧ w'.cell? ⟨D, 1, none⟩ = some (.int .u16 u.dst)) (go_keep) (fail)
      all_goals
        go_wp2_with fail
        go_meet
        case rel =>
          refine ⟨rfl, E1, R1, ⟨p.proto, ⟨p.src, u.src⟩, ⟨p.dst, u.dst⟩, 0, []⟩, none, 0, rfl, rfl, ?_, ?_, Or.inl ⟨rfl, rfl⟩, HE17.out, fun _ _ => HF17.out.symm⟩
          · first | exact ((HM6.out.drew.set 3 rfl 2 _).set 3 rfl 4 _).four | exact ((HM6.out.drew.set 3 rfl 4 _).set 3 rfl 2 _).four
          · exact ipv_beside (ipv_beside HV6.out.drew HFa.out.1 HFa.out.2) HFa.out.1 HFa.out.2
    · by_cases p6 : p.proto = 6
      · have HE6 : Hid (EE = if tcErr p.body ≠ 0 then tcErr p.body else if tright p.src p.dst (tcRes p.body) = false then 22 else 0) := by show _ = _; rw [HLk.out]; unfold bdErr bdRight flErr; simp only [if_neg p17, if_pos p6]
        have HF6 : Hid (flFl p = ⟨p.proto, ⟨p.src, (tcRes p.body).src⟩, ⟨p.dst, (tcRes p.body).dst⟩, (tcRes p.body).flags, []⟩) := by show _ = _; unfold flFl; rw [if_neg p17, if_pos p6]
        have hU := rtcp_any HR3.out HNO.out.2 HC.out (by have := HO.out.2; omega)
        have HUo : Hid ((tcRes p.body).Ok) := tcRes_ok HO.out.1.body
        have b17 : (p.proto == 17) = false := beq_eq_false_iff_ne.mpr p17
        have b6 : (p.proto == 6) = true := beq_iff_eq.mpr p6
        clear p6 p17
        generalize tcRes p.body = u at *
        generalize tcErr p.body = E1 at *
        go_wp2_with fail
        refine hU.mono ?_
        rintro e w4 ⟨v, rfl, hv4, hb4⟩
        obtain ⟨uo, ud, ub, uc, rfl, hur, hur2, hun, hun2, huf⟩ := hv4
        have hM4 := HM3.out.after hb4
        have HV4 : Hid (IpV w4 (w.heap.size + 2) (.agg (ipB p (.slice ao no co) (.slice bo nb cb))) p) := HV3.out.below hb4 (Nat.le_refl _)
        have HU4 : Hid (TcV w4 0 (.agg (tcA u.src u.dst u.seq u.ack u.flags u.win u.sum u.urg (.slice uo u.opts.length ud) (.slice ub u.body.length uc))) u) := ⟨uo, ud, ub, uc, rfl, hur, hur2, hun, hun2, fun _ _ => Nat.zero_le _, fun _ _ => Nat.zero_le _⟩
        clear hU hb4 hur hur2 hun hun2 huf r9
        go_upto_region 14 with fail
        refine wp_letter (fun W => Mem w W [(w.heap.size, .cells ip0 ipT), (w.heap.size + 1, .cells flZ rfT), (Q, .cells (ipB p (.slice ao no co) (.slice bo nb cb)) ipT), (G, .cells (flA p.proto p.src 0 p.dst 0 0 (.slice none 0 0)) rfT), (w4.heap.size, .cells (tcA u.src u.dst u.seq u.ack u.flags u.win u.sum u.urg (.slice uo u.opts.length ud) (.slice ub u.body.length uc)) tcT)] ∧ IpV W (w.heap.size + 2) (.agg (ipB p (.slice ao no co) (.slice bo nb cb))) p ∧ TcV W 0 (.agg (tcA u.src u.dst u.seq u.ack u.flags u.win u.sum u.urg (.slice uo u.opts.length ud) (.slice ub u.body.length uc))) u) ⟨hM4.push _ _ rfl, HV4.out.below ((Below.refl _ _).alloc (Nat.le_refl _) _) (Nat.le_refl _), HU4.out.below ((Below.refl _ _).alloc (Nat.le_refl _) _) (Nat.le_refl _)⟩ ?_
        intro w5 ⟨hM5, hv5, hu5⟩
        have HM5 : Hid (Mem w w5 [(w.heap.size, .cells ip0 ipT), (w.heap.size + 1, .cells flZ rfT), (Q, .cells (ipB p (.slice ao no co) (.slice bo nb cb)) ipT), (G, .cells (flA p.proto p.src 0 p.dst 0 0 (.slice none 0 0)) rfT), (w4.heap.size, .cells (tcA u.src u.dst u.seq u.ack u.flags u.win u.sum u.urg (.slice uo u.opts.length ud) (.slice ub u.body.length uc)) tcT)]) := hM5
        have HV5 : Hid (IpV w5 (w.heap.size + 2) (.agg (ipB p (.slice ao no co) (.slice bo nb cb))) p) := hv5
        have hR := rtright_any HUo.out hu5 p.src p.dst HO.out.1.src.1 HO.out.1.src.2 HO.out.1.dst.1 HO.out.1.dst.2
        clear hM4 HV4 HU4 hv5 hu5 r2 r6 r7
        generalize w4.heap.size = D at *
        have r6 : w5.cell? ⟨Q, 6, none⟩ = some (.int .u32 p.src) := hM5.cell 2 rfl 6
        have r7 : w5.cell? ⟨Q, 7, none⟩ = some (.int .u32 p.dst) := hM5.cell 2 rfl 7
        have kd : ∀ i, w5.cell? ⟨D, i, none⟩ = (tcA u.src u.dst u.seq u.ack u.flags u.win u.sum u.urg (.slice uo u.opts.length ud) (.slice ub u.body.length uc))[i]? := hM5.cell 4 rfl
        clear hM5
        generalize tright p.src p.dst u = R1 at *
        go_wp2_with fail
        refine hR.mono ?_
        rintro e w6 ⟨rfl, hb6⟩
        have hM6 := HM5.out.after hb6
        have HM6 : Hid (Mem w w6 [(w.heap.size, .cells ip0 ipT), (w.heap.size + 1, .cells flZ rfT), (Q, .cells (ipB p (.slice ao no co) (.slice bo nb cb)) ipT), (G, .cells (flA p.proto p.src 0 p.dst 0 0 (.slice none 0 0)) rfT), (D, .cells (tcA u.src u.dst u.seq u.ack u.flags u.win u.sum u.urg (.slice uo u.opts.length ud) (.slice ub u.body.length uc)) tcT)]) := hM6
        have HV6 : Hid (IpV w6 (w.heap.size + 2) (.agg (ipB p (.slice ao no co) (.slice bo nb cb))) p) := HV5.out.below hb6 (Nat.le_refl _)
        clear hR hb6 r6 r7 kd HM5 HV5
        have k0 : w6.cell? ⟨D, 0, none⟩ = some (.int .u16 u.src) := hM6.cell 4 rfl 0
        have k1 : w6.cell? ⟨D, 1, none⟩ = some (.int .u16 u.dst) := hM6.cell 4 rfl 1
        have k4 : w6.cell? ⟨D, 4, none⟩ = some (.int .u8 u.flags) := hM6.cell 4 rfl 4
        have kg : ∀ i, w6.cell? ⟨G, i, none⟩ = (flA p.proto p.src 0 p.dst 0 0 (.slice none 0 0))[i]? := hM6.cell 3 rfl
        have kf : ∀ i, w6.frozen? ⟨G, i, none⟩ = false := hM6.free 3 rfl
        have d1 : G ≠ D := hM6.ne 3 4 rfl rfl (by decide)
        have d1' : D ≠ G := fun e => d1 e.symm
        clear hM6
        go_upto_region 15 with fail
        go_region_held3 (fun w' => w'.cell? ⟨D, 0, none⟩ = some (.int .u16 u.src) ∧ w'.cell? ⟨D, 1, none⟩ = some (.int .u16 u.dst) ∧ w'.cell? ⟨D, 4, none⟩ = some (.int .u8 u.flags)) (go_keep) (fail)
        all_goals
          go_wp2_with fail
          go_meet
          case rel =>
            refine ⟨rfl, E1, R1, ⟨p.proto, ⟨p.src, u.src⟩, ⟨p.dst, u.dst⟩, u.flags, []⟩, none, 0, rfl, rfl, ?_, ?_, Or.inl ⟨rfl, rfl⟩, HE6.out, fun _ _ => HF6.out.symm⟩
            · first | exact (((HM6.out.drew.set 3 rfl 2 _).set 3 rfl 4 _).set 3 rfl 5 _).four | exact (((HM6.out.drew.set 3 rfl 2 _).set 3 rfl 5 _).set 3 rfl 4 _).four | exact (((HM6.out.drew.set 3 rfl 4 _).set 3 rfl 2 _).set 3 rfl 5 _).four | exact (((HM6.out.drew.set 3 rfl 4 _).set 3 rfl 5 _).set 3 rfl 2 _).four | exact (((HM6.out.drew.set 3 rfl 5 _).set 3 rfl 2 _).set 3 rfl 4 _).four | exact (((HM6.out.drew.set 3 rfl 5 _).set 3 rfl 4 _).set 3 rfl 2 _).four
            · exact ipv_beside (ipv_beside (ipv_beside HV6.out.drew HFa.out.1 HFa.out.2) HFa.out.1 HFa.out.2) HFa.out.1 HFa.out.2
      · by_cases p1 : p.proto = 1
        · have HE1 : Hid (EE = if mgErr p.body ≠ 0 then mgErr p.body else if mright (mgRes p.body) = false then 22 else mfErr (mgRes p.body)) := by show _ = _; rw [HLk.out]; unfold bdErr bdRight flErr; simp only [if_neg p17, if_neg p6, if_pos p1]
          have HF1 : Hid (flFl p = mfFl (fl0 p) (mgRes p.body)) := by show _ = _; unfold flFl; rw [if_neg p17, if_neg p6]
          have hI := rmsg_own HR3.out HNO.out.2 HC.out (by have := HO.out.2; have := HNO.out.2; omega)
          have HMo : Hid ((mgRes p.body).Ok) := mgRes_ok HO.out.1.body
          have b17 : (p.proto == 17) = false := beq_eq_false_iff_ne.mpr p17
          have b6 : (p.proto == 6) = false := beq_eq_false_iff_ne.mpr p6
          have b1 : (p.proto == 1) = true := beq_iff_eq.mpr p1
          clear p1 p6 p17
          generalize mgRes p.body = m at *
          generalize mgErr p.body = E1 at *
          go_wp2_with fail
          refine hI.mono ?_
          rintro e w4 ⟨v, rfl, hv4, hb4⟩
          obtain ⟨ub, uc, rfl, hur, hun, huf⟩ := hv4.v
          have hM4 := HM3.out.after hb4
          have HV4 : Hid (IpV w4 (w.heap.size + 2) (.agg (ipB p (.slice ao no co) (.slice bo nb cb))) p) := HV3.out.below hb4 (Nat.le_refl _)
          obtain ⟨mb, hmb⟩ : ∃ mb, m.body.length = mb := ⟨_, rfl⟩
          have HMB : Hid (m.body.length = mb) := hmb
          have HU4 : Hid (MgV w4 0 (.agg (mgA m.typ m.code m.sum m.rest (.slice ub mb uc))) m ∧ Row w4 ub m.body) := ⟨⟨ub, uc, by rw [← hmb], hur, hun, fun _ _ => Nat.zero_le _⟩, hur⟩
          rw [hmb]
          clear hI hb4 hur hun huf r9 hv4 hmb
          go_upto_region 18 with fail
          refine wp_letter (fun W => Mem w W [(w.heap.size, .cells ip0 ipT), (w.heap.size + 1, .cells flZ rfT), (Q, .cells (ipB p (.slice ao no co) (.slice bo nb cb)) ipT), (G, .cells (flA p.proto p.src 0 p.dst 0 0 (.slice none 0 0)) rfT), (w4.heap.size, .cells (mgA m.typ m.code m.sum m.rest (.slice ub mb uc)) mgT)] ∧ IpV W (w.heap.size + 2) (.agg (ipB p (.slice ao no co) (.slice bo nb cb))) p ∧ MgV W 0 (.agg (mgA m.typ m.code m.sum m.rest (.slice ub mb uc))) m ∧ Row W ub m.body) ⟨hM4.push _ _ rfl, HV4.out.below ((Below.refl _ _).alloc (Nat.le_refl _) _) (Nat.le_refl _), HU4.out.1.below ((Below.refl _ _).alloc (Nat.le_refl _) _) (Nat.le_refl _), row_alloc HU4.out.2⟩ ?_
          intro w5 ⟨hM5, hv5, hu5, hw5⟩
          have HV5 : Hid (IpV w5 (w.heap.size + 2) (.agg (ipB p (.slice ao no co) (.slice bo nb cb))) p ∧ MgV w5 0 (.agg (mgA m.typ m.code m.sum m.rest (.slice ub mb uc))) m ∧ Row w5 ub m.body) := ⟨hv5, hu5, hw5⟩
          have hR := rmright_any HMo.out hu5
          clear hM4 HV4 HU4 hv5 hu5 hw5 r2 r6 r7
          generalize w4.heap.size = D at *
          have HM5 : Hid (Mem w w5 [(w.heap.size, .cells ip0 ipT), (w.heap.size + 1, .cells flZ rfT), (Q, .cells (ipB p (.slice ao no co) (.slice bo nb cb)) ipT), (G, .cells (flA p.proto p.src 0 p.dst 0 0 (.slice none 0 0)) rfT), (D, .cells (mgA m.typ m.code m.sum m.rest (.slice ub mb uc)) mgT)]) := hM5
          have kd : ∀ i, w5.cell? ⟨D, i, none⟩ = (mgA m.typ m.code m.sum m.rest (.slice ub mb uc))[i]? := hM5.cell 4 rfl
          clear hM5
          generalize mright m = R1 at *
          go_wp2_with fail
          refine hR.mono ?_
          rintro e w6 ⟨rfl, hb6⟩
          have HM6 : Hid (Mem w w6 [(w.heap.size, .cells ip0 ipT), (w.heap.size + 1, .cells flZ rfT), (Q, .cells (ipB p (.slice ao no co) (.slice bo nb cb)) ipT), (G, .cells (flA p.proto p.src 0 p.dst 0 0 (.slice none 0 0)) rfT), (D, .cells (mgA m.typ m.code m.sum m.rest (.slice ub mb uc)) mgT)]) := HM5.out.after hb6
          have HV6 : Hid (IpV w6 (w.heap.size + 2) (.agg (ipB p (.slice ao no co) (.slice bo nb cb))) p ∧ MgV w6 0 (.agg (mgA m.typ m.code m.sum m.rest (.slice ub mb uc))) m ∧ Row w6 ub m.body) := ⟨HV5.out.1.below hb6 (Nat.le_refl _), HV5.out.2.1.below hb6 (Nat.le_refl _), HV5.out.2.2.below hb6 (Nat.le_refl _)⟩
          clear hR hb6 kd HM5 HV5
          by_cases h0 : E1 = 0
          · subst h0
            cases R1 with
            | false =>
              go_wp2_with fail
              go_meet
              case rel => exact ⟨rfl, 0, false, ⟨p.proto, ⟨p.src, 0⟩, ⟨p.dst, 0⟩, 0, []⟩, none, 0, rfl, rfl, HM6.out.four, HV6.out.1, Or.inl ⟨rfl, rfl⟩, HE1.out.trans rfl, fun _ h => (by cases h)⟩
            | true =>
              have HEm : Hid (EE = mfErr m) := HE1.out.trans rfl
              have kd : ∀ i, w6.cell? ⟨D, i, none⟩ = (mgA m.typ m.code m.sum m.rest (.slice ub mb uc))[i]? := HM6.out.cell 4 rfl
              have hEc := rmecho_any HV6.out.2.1
              cases hec : mecho m with
              | true =>
                rw [hec] at hEc
                have HE0 : Hid (EE = 0) := by show EE = 0; rw [HEm.out]; unfold mfErr; rw [if_pos hec]
                have HFl : Hid (flFl p = ⟨p.proto, ⟨p.src, m.rest / 65536⟩, ⟨p.dst, m.rest / 65536⟩, 0, []⟩) := by show _ = _; rw [HF1.out]; unfold mfFl fl0; rw [if_pos hec]
                have hrs := HMo.out.rest
                have vr : IntKind.u16.wrap (m.rest / 65536) = m.rest / 65536 := wrap16_small _ (by omega) (by omega)
                clear hec hrs
                go_wp2_with fail
                refine hEc.mono ?_
                rintro e w7 ⟨rfl, hb7⟩
                have hM7 := HM6.out.after hb7
                have HM7 : Hid (Mem w w7 [(w.heap.size, .cells ip0 ipT), (w.heap.size + 1, .cells flZ rfT), (Q, .cells (ipB p (.slice ao no co) (.slice bo nb cb)) ipT), (G, .cells (flA p.proto p.src 0 p.dst 0 0 (.slice none 0 0)) rfT), (D, .cells (mgA m.typ m.code m.sum m.rest (.slice ub mb uc)) mgT)]) := hM7
                have HV7 : Hid (IpV w7 (w.heap.size + 2) (.agg (ipB p (.slice ao no co) (.slice bo nb cb))) p) := HV6.out.1.below hb7 (Nat.le_refl _)
                clear hEc hb7 kd HM6 HV6
                have k3 : w7.cell? ⟨D, 3, none⟩ = some (.int .u32 m.rest) := hM7.cell 4 rfl 3
                have kg : ∀ i, w7.cell? ⟨G, i, none⟩ = (flA p.proto p.src 0 p.dst 0 0 (.slice none 0 0))[i]? := hM7.cell 3 rfl
                have kf : ∀ i, w7.frozen? ⟨G, i, none⟩ = false := hM7.free 3 rfl
                have d1 : G ≠ D := hM7.ne 3 4 rfl rfl (by decide)
                have d1' : D ≠ G := fun e => d1 e.symm
                clear hM7
                go_upto_region 22 with fail
                go_region_held3 (fun w' => w'.cell? ⟨D, 3, none⟩ = some (.int .u32 m.rest)) (go_keep) (fail)
                all_goals
                  go_wp2_with fail
                  go_meet
                  case rel =>
                    refine ⟨rfl, 0, true, ⟨p.proto, ⟨p.src, m.rest / 65536⟩, ⟨p.dst, m.rest / 65536⟩, 0, []⟩, none, 0, rfl, rfl, ?_, ?_, Or.inl ⟨rfl, rfl⟩, HE0.out, fun _ _ => HFl.out.symm⟩
                    · first | exact ((HM7.out.drew.set 3 rfl 2 _).set 3 rfl 4 _).four | exact ((HM7.out.drew.set 3 rfl 4 _).set 3 rfl 2 _).four
                    · exact ipv_beside (ipv_beside HV7.out.drew HFa.out.1 HFa.out.2) HFa.out.1 HFa.out.2
              | false =>
                rw [hec] at hEc
                go_wp2_with fail
                refine hEc.mono ?_
                rintro e w7 ⟨rfl, hb7⟩
                have hM7 := HM6.out.after hb7
                have HM7 : Hid (Mem w w7 [(w.heap.size, .cells ip0 ipT), (w.heap.size + 1, .cells flZ rfT), (Q, .cells (ipB p (.slice ao no co) (.slice bo nb cb)) ipT), (G, .cells (flA p.proto p.src 0 p.dst 0 0 (.slice none 0 0)) rfT), (D, .cells (mgA m.typ m.code m.sum m.rest (.slice ub mb uc)) mgT)]) := hM7
                have HV7 : Hid (IpV w7 (w.heap.size + 2) (.agg (ipB p (.slice ao no co) (.slice bo nb cb))) p ∧ MgV w7 0 (.agg (mgA m.typ m.code m.sum m.rest (.slice ub mb uc))) m ∧ Row w7 ub m.body) := ⟨HV6.out.1.below hb7 (Nat.le_refl _), HV6.out.2.1.below hb7 (Nat.le_refl _), HV6.out.2.2.below hb7 (Nat.le_refl _)⟩
                clear hEc hb7 kd HM6 HV6
                have kd : ∀ i, w7.cell? ⟨D, i, none⟩ = (mgA m.typ m.code m.sum m.rest (.slice ub mb uc))[i]? := hM7.cell 4 rfl
                have hEr := rmerror_any HV7.out.2.1
                clear hM7
                cases her : merror m with
                | false =>
                  rw [her] at hEr
                  have HEE : Hid (EE = 21 ∧ (21 : Int) ≠ 0) := ⟨by rw [HEm.out]; unfold mfErr; rw [if_neg (by simp [hec]), if_neg (by simp [her])], by decide⟩
                  clear hec her
                  go_wp2_with fail
                  refine hEr.mono ?_
                  rintro e w8 ⟨rfl, hb8⟩
                  have HM8 : Hid (Mem w w8 [(w.heap.size, .cells ip0 ipT), (w.heap.size + 1, .cells flZ rfT), (Q, .cells (ipB p (.slice ao no co) (.slice bo nb cb)) ipT), (G, .cells (flA p.proto p.src 0 p.dst 0 0 (.slice none 0 0)) rfT), (D, .cells (mgA m.typ m.code m.sum m.rest (.slice ub mb uc)) mgT)]) := HM7.out.after hb8
                  clear hEr hb8 kd HM7 HV7
                  have ka : ∀ i, w8.cell? ⟨w.heap.size, i, none⟩ = ip0[i]? := HM8.out.cell 0 rfl
                  have kaf : ∀ i, w8.frozen? ⟨w.heap.size, i, none⟩ = false := HM8.out.free 0 rfl
                  have kb : ∀ i, w8.cell? ⟨w.heap.size + 1, i, none⟩ = flZ[i]? := HM8.out.cell 1 rfl
                  have kbf : ∀ i, w8.frozen? ⟨w.heap.size + 1, i, none⟩ = false := HM8.out.free 1 rfl
                  go_wp2_with fail
                  (try simp only [Exit.inBlock, Exit.then])
                  exact noughts_end HM8.out rfl rfl rfl rfl (fun W' hb => HF.out W' _ HEE.out hb)
                | true =>
                  rw [her] at hEr
                  go_wp2_with fail
                  refine hEr.mono ?_
                  rintro e w8 ⟨rfl, hb8⟩
                  have hM8 := HM7.out.after hb8
                  have HM8 : Hid (Mem w w8 [(w.heap.size, .cells ip0 ipT), (w.heap.size + 1, .cells flZ rfT), (Q, .cells (ipB p (.slice ao no co) (.slice bo nb cb)) ipT), (G, .cells (flA p.proto p.src 0 p.dst 0 0 (.slice none 0 0)) rfT), (D, .cells (mgA m.typ m.code m.sum m.rest (.slice ub mb uc)) mgT)]) := hM8
                  have HV8 : Hid (IpV w8 (w.heap.size + 2) (.agg (ipB p (.slice ao no co) (.slice bo nb cb))) p ∧ Row w8 ub m.body) := ⟨HV7.out.1.below hb8 (Nat.le_refl _), HV7.out.2.2.below hb8 (Nat.le_refl _)⟩
                  clear hEr hb8 kd HM7 HV7
                  have k4 : w8.cell? ⟨D, 4, none⟩ = some (.slice ub mb uc) := hM8.cell 4 rfl 4
                  clear hM8
                  cases hin : inOk m.body with
                  | false =>
                    have HEE : Hid (EE = 21 ∧ (21 : Int) ≠ 0) := ⟨by rw [HEm.out]; unfold mfErr; rw [if_neg (by simp [hec]), if_neg (by simp [hin])], by decide⟩
                    have hNo := rinner_no (c := uc) HV8.out.2 HMB.out hin
                    clear hec her hin
                    go_wp2_with fail
                    refine hNo.mono ?_
                    rintro e w9 ⟨rfl, hb9⟩
                    have hM9 := HM8.out.after hb9
                    clear hNo hb9 k4 HM8 HV8
                    go_upto_region 26 with fail
                    refine wp_letter (fun W => Mem w W [(w.heap.size, .cells ip0 ipT), (w.heap.size + 1, .cells flZ rfT), (Q, .cells (ipB p (.slice ao no co) (.slice bo nb cb)) ipT), (G, .cells (flA p.proto p.src 0 p.dst 0 0 (.slice none 0 0)) rfT), (D, .cells (mgA m.typ m.code m.sum m.rest (.slice ub mb uc)) mgT)]) ((hM9.after ((Below.refl _ _).alloc (Nat.le_refl _) _)).after ((Below.refl _ _).alloc (Nat.le_refl _) _)) ?_
                    intro w10 hM10
                    have HM10 : Hid (Mem w w10 [(w.heap.size, .cells ip0 ipT), (w.heap.size + 1, .cells flZ rfT), (Q, .cells (ipB p (.slice ao no co) (.slice bo nb cb)) ipT), (G, .cells (flA p.proto p.src 0 p.dst 0 0 (.slice none 0 0)) rfT), (D, .cells (mgA m.typ m.code m.sum m.rest (.slice ub mb uc)) mgT)]) := hM10
                    clear hM9 hM10
                    have ka : ∀ i, w10.cell? ⟨w.heap.size, i, none⟩ = ip0[i]? := HM10.out.cell 0 rfl
                    have kaf : ∀ i, w10.frozen? ⟨w.heap.size, i, none⟩ = false := HM10.out.free 0 rfl
                    have kb : ∀ i, w10.cell? ⟨w.heap.size + 1, i, none⟩ = flZ[i]? := HM10.out.cell 1 rfl
                    have kbf : ∀ i, w10.frozen? ⟨w.heap.size + 1, i, none⟩ = false := HM10.out.free 1 rfl
                    go_wp2_with fail
                    (try simp only [Exit.inBlock, Exit.then])
                    exact noughts_end HM10.out rfl rfl rfl rfl (fun W' hb => HF.out W' _ HEE.out hb)
                  | true =>
                    have HE0 : Hid (EE = 0) := by show EE = 0; rw [HEm.out]; unfold mfErr; rw [if_neg (by simp [hec]), if_pos ⟨her, hin⟩]
                    have HFl : Hid (flFl p = ⟨p.proto, ⟨p.src, 0⟩, ⟨p.dst, 0⟩, 0, [inSrc m.body, inDst m.body]⟩) := by show _ = _; rw [HF1.out]; unfold mfFl fl0; rw [if_neg (by simp [hec]), if_pos ⟨her, hin⟩]
                    have hYes := rinner_yes (c := uc) HV8.out.2 HMB.out hin
                    clear hec her hin
                    generalize inSrc m.body = ps at *
                    generalize inDst m.body = pd at *
                    go_wp2_with fail
                    refine hYes.mono ?_
                    rintro e w9 ⟨rfl, hb9⟩
                    have hM9 := HM8.out.after hb9
                    have HV9 : Hid (IpV w9 (w.heap.size + 2) (.agg (ipB p (.slice ao no co) (.slice bo nb cb))) p) := HV8.out.1.below hb9 (Nat.le_refl _)
                    clear hYes hb9 k4 HM8 HV8
                    go_upto_region 27 with fail
                    refine wp_letter (fun W => Mem w W [(w.heap.size, .cells ip0 ipT), (w.heap.size + 1, .cells flZ rfT), (Q, .cells (ipB p (.slice ao no co) (.slice bo nb cb)) ipT), (G, .cells (flA p.proto p.src 0 p.dst 0 0 (.slice none 0 0)) rfT), (D, .cells (mgA m.typ m.code m.sum m.rest (.slice ub mb uc)) mgT), (w9.heap.size, .cells #[.int .u32 ps.ip, .int .u16 ps.port] ptT), (w9.heap.size + 1, .cells #[.int .u32 pd.ip, .int .u16 pd.port] ptT)] ∧ IpV W (w.heap.size + 2) (.agg (ipB p (.slice ao no co) (.slice bo nb cb))) p) ⟨(hM9.push _ _ rfl).push _ _ (by simp), (HV9.out.below ((Below.refl _ _).alloc (Nat.le_refl _) _) (Nat.le_refl _)).below ((Below.refl _ _).alloc (Nat.le_refl _) _) (Nat.le_refl _)⟩ ?_
                    intro w10 ⟨hM10, hv10⟩
                    generalize w9.heap.size = X at *
                    have HM10 : Hid (Mem w w10 [(w.heap.size, .cells ip0 ipT), (w.heap.size + 1, .cells flZ rfT), (Q, .cells (ipB p (.slice ao no co) (.slice bo nb cb)) ipT), (G, .cells (flA p.proto p.src 0 p.dst 0 0 (.slice none 0 0)) rfT), (D, .cells (mgA m.typ m.code m.sum m.rest (.slice ub mb uc)) mgT), (X, .cells #[.int .u32 ps.ip, .int .u16 ps.port] ptT), (X + 1, .cells #[.int .u32 pd.ip, .int .u16 pd.port] ptT)]) := hM10
                    have HV10 : Hid (IpV w10 (w.heap.size + 2) (.agg (ipB p (.slice ao no co) (.slice bo nb cb))) p) := hv10
                    have x0 : w10.cell? ⟨X, 0, none⟩ = some (.int .u32 ps.ip) := hM10.cell 5 rfl 0
                    have x1 : w10.cell? ⟨X, 1, none⟩ = some (.int .u16 ps.port) := hM10.cell 5 rfl 1
                    have y0 : w10.cell? ⟨X + 1, 0, none⟩ = some (.int .u32 pd.ip) := hM10.cell 6 rfl 0
                    have y1 : w10.cell? ⟨X + 1, 1, none⟩ = some (.int .u16 pd.port) := hM10.cell 6 rfl 1
                    have kgA : ∀ (o : Obj) (i : Nat), (w10.alloc o).cell? ⟨G, i, none⟩ = (flA p.proto p.src 0 p.dst 0 0 (.slice none 0 0))[i]? := fun o => (hM10.push w10.heap.size o rfl).cell 3 rfl
                    have kfA : ∀ (o : Obj) (i : Nat), (w10.alloc o).frozen? ⟨G, i, none⟩ = false := fun o => (hM10.push w10.heap.size o rfl).free 3 rfl
                    have hne : G ≠ w10.heap.size := (hM10.push w10.heap.size (.cells (pt2 ps pd) ptT) rfl).ne 3 7 rfl rfl (by decide)
                    have HLo : Hid (w.heap.size + 2 ≤ w10.heap.size) := by show _ ≤ _; have := hM10.ltAt 1 rfl; omega
                    clear hM9 HV9 hM10 hv10
                    go_wp2_with fail
                    go_meet
                    case rel =>
                      have hN := (HM10.out.push w10.heap.size (.cells (pt2 ps pd) ptT) rfl).set 3 rfl 6 (.slice (some ⟨w10.heap.size, 0, none⟩) 2 2)
                      exact ⟨rfl, 0, true, ⟨p.proto, ⟨p.src, 0⟩, ⟨p.dst, 0⟩, 0, [ps, pd]⟩, some ⟨w10.heap.size, 0, none⟩, 2, rfl, rfl, hN.lead, ipv_beside (HV10.out.below ((Below.refl _ _).alloc (Nat.le_refl _) _) (Nat.le_refl _)) HFa.out.1 HFa.out.2, Or.inr ⟨w10.heap.size, ps, pd, rfl, rfl, hN.get 7 rfl, HLo.out⟩, HE0.out, fun _ _ => HFl.out.symm⟩
          · have h0' : (E1 == 0) = false := beq_eq_false_iff_ne.mpr h0
            have HEq : Hid (EE = (if E1 ≠ 0 then E1 else if R1 = false then 22 else 0) ∧ E1 ≠ 0) := ⟨by rw [HE1.out, if_pos h0, if_pos h0], h0⟩
            clear h0
            go_wp2_with fail
            go_meet
            case rel => exact ⟨rfl, E1, R1, ⟨p.proto, ⟨p.src, 0⟩, ⟨p.dst, 0⟩, 0, []⟩, none, 0, rfl, rfl, HM6.out.four, HV6.out.1, Or.inl ⟨rfl, rfl⟩, HEq.out.1, fun h _ => absurd h HEq.out.2⟩
        · have HEE : Hid (EE = 21 ∧ (21 : Int) ≠ 0) := ⟨by rw [HLk.out]; unfold bdErr; rw [if_neg p17, if_neg p6, if_neg p1]; rfl, by decide⟩
          have b1 : (p.proto == 17) = false := beq_eq_false_iff_ne.mpr p17
          have b2 : (p.proto == 6) = false := beq_eq_false_iff_ne.mpr p6
          have b3 : (p.proto == 1) = false := beq_eq_false_iff_ne.mpr p1
          have ka : ∀ i, w3.cell? ⟨w.heap.size, i, none⟩ = ip0[i]? := HM3.out.cell 0 rfl
          have kaf : ∀ i, w3.frozen? ⟨w.heap.size, i, none⟩ = false := HM3.out.free 0 rfl
          have kb : ∀ i, w3.cell? ⟨w.heap.size + 1, i, none⟩ = flZ[i]? := HM3.out.cell 1 rfl
          have kbf : ∀ i, w3.frozen? ⟨w.heap.size + 1, i, none⟩ = false := HM3.out.free 1 rfl
          go_wp2_with fail
          (try simp only [Exit.inBlock, Exit.then])
          exact noughts_end HM3.out rfl rfl rfl rfl (fun W' hb => HF.out W' _ HEE.out hb)
  case rest =>
    obtain ⟨rfl, E1, R1, f, ia, ic, rfl, rfl, hM5, hv5, hp5, hEE, hf⟩ := hcut
    have HM5 : Hid (Mem w wc [(w.heap.size, .cells ip0 ipT), (w.heap.size + 1, .cells flZ rfT), (Q, .cells (ipB p (.slice ao no co) (.slice bo nb cb)) ipT), (G, .cells (flB f (.slice ia f.inner.length ic)) rfT)]) := hM5
    have HV5 : Hid (IpV wc (w.heap.size + 2) (.agg (ipB p (.slice ao no co) (.slice bo nb cb))) p ∧ PtsV wc (w.heap.size + 2) (.slice ia f.inner.length ic) f.inner) := ⟨hv5, hp5⟩
    have HE5 : Hid (EE = (if E1 ≠ 0 then E1 else if R1 = false then 22 else 0) ∧ (E1 = 0 → R1 = true → f = flFl p)) := ⟨hEE, hf⟩
    clear hM5 hv5 hp5 hEE hf r2 r6 r7 r9 HR3 HM3 HV3 HLk
    by_cases e1 : E1 = 0
    · subst e1
      cases R1 with
      | false =>
        have HEE : Hid (EE = 22 ∧ (22 : Int) ≠ 0) := ⟨by rw [HE5.out.1]; rfl, by decide⟩
        have ka : ∀ i, wc.cell? ⟨w.heap.size, i, none⟩ = ip0[i]? := HM5.out.cell 0 rfl
        have kaf : ∀ i, wc.frozen? ⟨w.heap.size, i, none⟩ = false := HM5.out.free 0 rfl
        have kb : ∀ i, wc.cell? ⟨w.heap.size + 1, i, none⟩ = flZ[i]? := HM5.out.cell 1 rfl
        have kbf : ∀ i, wc.frozen? ⟨w.heap.size + 1, i, none⟩ = false := HM5.out.free 1 rfl
        go_wp2_with fail
        (try simp only [Exit.inBlock, Exit.then])
        exact noughts_end HM5.out rfl rfl rfl rfl (fun W' hb => HF.out W' _ HEE.out hb)
      | true =>
        have HEE : Hid (EE = 0) := by show EE = 0; rw [HE5.out.1]; rfl
        have hff := HE5.out.2 rfl rfl
        subst hff
        clear HE5
        obtain ⟨f, hff⟩ : ∃ f, flFl p = f := ⟨_, rfl⟩
        have HFF : Hid (flFl p = f) := hff
        rw [hff] at HM5 HV5
        clear hff
        generalize hni : f.inner.length = ni at *
        have HNI : Hid (f.inner.length = ni) := hni
        clear hni
        have zQ0 : wc.cell? ⟨Q, 0, none⟩ = some (.int .u8 p.tos) := HM5.out.cell 2 rfl 0
        have zQ1 : wc.cell? ⟨Q, 1, none⟩ = some (.int .u8 p.ttl) := HM5.out.cell 2 rfl 1
        have zQ2 : wc.cell? ⟨Q, 2, none⟩ = some (.int .u8 p.proto) := HM5.out.cell 2 rfl 2
        have zQ3 : wc.cell? ⟨Q, 3, none⟩ = some (.int .u16 p.id) := HM5.out.cell 2 rfl 3
        have zQ4 : wc.cell? ⟨Q, 4, none⟩ = some (.int .u8 p.flags) := HM5.out.cell 2 rfl 4
        have zQ5 : wc.cell? ⟨Q, 5, none⟩ = some (.int .u16 p.off) := HM5.out.cell 2 rfl 5
        have zQ6 : wc.cell? ⟨Q, 6, none⟩ = some (.int .u32 p.src) := HM5.out.cell 2 rfl 6
        have zQ7 : wc.cell? ⟨Q, 7, none⟩ = some (.int .u32 p.dst) := HM5.out.cell 2 rfl 7
        have zQ8 : wc.cell? ⟨Q, 8, none⟩ = some (.slice ao no co) := HM5.out.cell 2 rfl 8
        have zQ9 : wc.cell? ⟨Q, 9, none⟩ = some (.slice bo nb cb) := HM5.out.cell 2 rfl 9
        have zG0 : wc.cell? ⟨G, 0, none⟩ = some (.int .u8 f.proto) := HM5.out.cell 3 rfl 0
        have zG1 : wc.cell? ⟨G, 1, none⟩ = some (.int .u32 f.src.ip) := HM5.out.cell 3 rfl 1
        have zG2 : wc.cell? ⟨G, 2, none⟩ = some (.int .u16 f.src.port) := HM5.out.cell 3 rfl 2
        have zG3 : wc.cell? ⟨G, 3, none⟩ = some (.int .u32 f.dst.ip) := HM5.out.cell 3 rfl 3
        have zG4 : wc.cell? ⟨G, 4, none⟩ = some (.int .u16 f.dst.port) := HM5.out.cell 3 rfl 4
        have zG5 : wc.cell? ⟨G, 5, none⟩ = some (.int .u8 f.flags) := HM5.out.cell 3 rfl 5
        have zG6 : wc.cell? ⟨G, 6, none⟩ = some (.slice ia ni ic) := HM5.out.cell 3 rfl 6
        have ka : ∀ i, wc.cell? ⟨w.heap.size, i, none⟩ = ip0[i]? := HM5.out.cell 0 rfl
        have kaf : ∀ i, wc.frozen? ⟨w.heap.size, i, none⟩ = false := HM5.out.free 0 rfl
        have kb : ∀ i, wc.cell? ⟨w.heap.size + 1, i, none⟩ = flZ[i]? := HM5.out.cell 1 rfl
        have kbf : ∀ i, wc.frozen? ⟨w.heap.size + 1, i, none⟩ = false := HM5.out.free 1 rfl
        have d1 : w.heap.size ≠ Q := HM5.out.ne 0 2 rfl rfl (by decide)
        have d2 : w.heap.size + 1 ≠ Q := HM5.out.ne 1 2 rfl rfl (by decide)
        have d3 : w.heap.size ≠ G := HM5.out.ne 0 3 rfl rfl (by decide)
        have d4 : w.heap.size + 1 ≠ G := HM5.out.ne 1 3 rfl rfl (by decide)
        have d1' : Q ≠ w.heap.size := fun e => d1 e.symm
        have d2' : Q ≠ w.heap.size + 1 := fun e => d2 e.symm
        have d3' : G ≠ w.heap.size := fun e => d3 e.symm
        have d4' : G ≠ w.heap.size + 1 := fun e => d4 e.symm
        go_upto_region 32 with fail
        go_region_held3 (fun w' => w'.cell? ⟨Q, 0, none⟩ = some (.int .u8 p.tos) ∧ w'.cell? ⟨Q, 1, none⟩ = some (.int .u8 p.ttl) ∧ w'.cell? ⟨Q, 2, none⟩ = some (.int .u8 p.proto) ∧ w'.cell? ⟨Q, 3, none⟩ = some (.int .u16 p.id) ∧ w'.cell? ⟨Q, 4, none⟩ = some (.int .u8 p.flags) ∧ w'.cell? ⟨Q, 5, none⟩ = some (.int .u16 p.off) ∧ w'.cell? ⟨Q, 6, none⟩ = some (.int .u32 p.src) ∧ w'.cell? ⟨Q, 7, none⟩ = some (.int .u32 p.dst) ∧ w'.cell? ⟨Q, 8, none⟩ = some (.slice ao no co) ∧ w'.cell? ⟨Q, 9, none⟩ = some (.slice bo nb cb) ∧ w'.cell? ⟨G, 0, none⟩ = some (.int .u8 f.proto) ∧ w'.cell? ⟨G, 1, none⟩ = some (.int .u32 f.src.ip) ∧ w'.cell? ⟨G, 2, none⟩ = some (.int .u16 f.src.port) ∧ w'.cell? ⟨G, 3, none⟩ = some (.int .u32 f.dst.ip) ∧ w'.cell? ⟨G, 4, none⟩ = some (.int .u16 f.dst.port) ∧ w'.cell? ⟨G, 5, none⟩ = some (.int .u8 f.flags) ∧ w'.cell? ⟨G, 6, none⟩ = some (.slice ia ni ic)) (go_keep) (fail)
        all_goals
          go_wp2_with fail
          (try simp only [Exit.inBlock, Exit.then])
          refine post_fillD (HM5.out.get 0 rfl) (HM5.out.get 1 rfl) (by omega) ?_
          intro W1 W2 h1 h2
          have hM6 := ((HM5.out.wrote 0 rfl h1).wrote 1 rfl h2).drew
          have hab : Above (w.heap.size + 2) wc W2.drew := fun k hk => (h2.there k (by omega)).trans (h1.there k (by omega))
          refine post_letter (fun W => Mem w W [(w.heap.size, .cells (ipB p (.slice ao no co) (.slice bo nb cb)) ipT (0, 0)), (w.heap.size + 1, .cells (flB f (.slice ia ni ic)) rfT (0, 0)), (Q, .cells (ipB p (.slice ao no co) (.slice bo nb cb)) ipT (0, 0)), (G, .cells (flB f (.slice ia ni ic)) rfT (0, 0))] ∧ Above (w.heap.size + 2) wc W) ⟨hM6, hab⟩ ?_
          clear h1 h2 hM6 hab
          intro wz ⟨hz, hab⟩
          refine bodyPost_ret (v := .tuple #[.agg (ipB p (.slice ao no co) (.slice bo nb cb)), .agg (flB f (.slice ia ni ic)), .int .i64 0]) ?hres rfl ?hpost
          case hres => exact results_cell2_tmp (p := 2) (q := 3) (r := 4) (ty := ipT) (tz := rfT) rfl _ _ w.heap.size (w.heap.size + 1) (ipB p (.slice ao no co) (.slice bo nb cb)) (flB f (.slice ia ni ic)) rfl rfl (run_loadVar_row _ _ ipT ipT _ (0, 0) _ (hz.get 0 rfl) Tryz.underlying42 rfl (by kernel_rfl)) (run_loadVar_row _ _ rfT rfT _ (0, 0) _ (hz.get 1 rfl) Tryz.underlying49 rfl (by kernel_rfl))
          case hpost =>
            have := HG.out wz ao bo ia co cb ic no nb ni rfl rfl (by rw [HFF.out]; exact HNI.out) HEE.out ((HV5.out.1.above hab).mono (by omega)) HC.out (by rw [HFF.out]; exact (HV5.out.2.above hab).mono (by omega)) hz.below
            rw [HFF.out] at this
            exact this
    · have e1' : (E1 == 0) = false := beq_eq_false_iff_ne.mpr e1
      have e1'' : (E1 != 0) = true := bne_iff_ne.mpr e1
      have HEE : Hid (EE = E1 ∧ E1 ≠ 0) := ⟨by rw [HE5.out.1, if_pos e1], e1⟩
      have ka : ∀ i, wc.cell? ⟨w.heap.size, i, none⟩ = ip0[i]? := HM5.out.cell 0 rfl
      have kaf : ∀ i, wc.frozen? ⟨w.heap.size, i, none⟩ = false := HM5.out.free 0 rfl
      have kb : ∀ i, wc.cell? ⟨w.heap.size + 1, i, none⟩ = flZ[i]? := HM5.out.cell 1 rfl
      have kbf : ∀ i, wc.frozen? ⟨w.heap.size + 1, i, none⟩ = false := HM5.out.free 1 rfl
      go_wp2_with fail
      (try simp only [Exit.inBlock, Exit.then])
      exact noughts_end HM5.out rfl rfl rfl rfl (fun W' hb => HF.out W' _ HEE.out hb)
end Go.Proofs.YtjalpbkfpjfigaaGreat

namespace Go.Proofs.YtjalpbkfpjfigaaGreat
open Go.RowKit
open Sm
set_option linter.unusedVariables false
set_option maxRecDepth 20000

set_option maxHeartbeats 2000000 in
theorem inner_no {w : World} {a : Option Addr} {n c : Nat} {l : List Int} (hr : Row w a l) (hn : l.length = n) (hc : n ≤ c) (s d : Pt) (h0 : lkErr l ≠ 0) :
    Calls Tryz.prog 12 #[.slice a n c, .agg (ptA s), .agg (ptA d)] w fun e w' => e = .returned (.tuple #[.slice none 0 0, .int .i64 (lkErr l)]) ∧ Below w.heap.size w w' := by
  have hM : Mem w ((w.alloc (.cells (ptA s) ptT)).alloc (.cells (ptA d) ptT)) [(w.heap.size, .cells (ptA s) ptT), (w.heap.size + 1, .cells (ptA d) ptT)] := ((Mem.nil w).push1 rfl).push2 (by simp)
  have hL := look_any (hM.row hr) hn hc
  have HZ : Hid (∀ W B v, SeV W B v l → v = .agg sn0) := fun W B v h => by
    rcases h with ⟨-, h⟩ | ⟨h, -⟩
    · exact h
    · exact absurd h h0
  have HM : Hid _ := hM
  clear hM hr hn hc
  generalize lkErr l = E at *
  have h0' : (E == 0) = false := by simp [h0]
  go_enter Tryz.func12, Tryz.ntmps12
  go_wp2_with fail
  refine hL.mono ?_
  rintro e w1 ⟨v, rfl, hv, hb1⟩
  obtain rfl := HZ.out _ _ _ hv
  have hgA := heap_alloc_new w1 (.cells sn0 snT)
  have HB : Hid (Below w.heap.size w ((w1.alloc (.cells sn0 snT)).setRow w1.heap.size sn0)) := below_setRow ((HM.out.below.trans (hb1.mono HM.out.below.size)).alloc (Nat.le_trans HM.out.below.size hb1.size) _) (Nat.le_trans HM.out.below.size hb1.size) _
  clear hL hv hb1 HM
  go_wp2_with (refine wpList_store_row rfl snT _ _ rfl w1.heap.size sn0 rfl rfl snT sn0 hgA (by kernel_rfl) rfl sn0_one ?_)
  go_ret2
  exact ⟨rfl, HB.out⟩


namespace Sm
theorem pk_len {l : List Int} (h : IsBytes l) (h0 : ipErr l = 0) : (ipPk l).body.length ≤ 65535 := by
  have := (pk_fits h h0).1.n
  omega
theorem mg_len (l : List Int) : (mgRes l).body.length ≤ l.length := by
  unfold mgRes
  split
  · simp only [mgMg, List.length_take, List.length_drop]; omega
  · simp [Mg.zero]
end Sm
/-- What look has seen, written out. -/
theorem sev_yes {l : List Int} (h0 : lkErr l = 0) {W : World} {B : Nat} {v : Value} (h : SeV W B v l) : ∃ ao bo ia co cb ic bt bu, v = .agg (snB (ipPk l) (.slice ao (ipPk l).opts.length co) (.slice bo (ipPk l).body.length cb) (.iface bt bu) (flFl (ipPk l)) (.slice ia (flFl (ipPk l)).inner.length ic)) ∧ SnL W B (ipPk l) (flFl (ipPk l)) ao bo ia co cb ic bt bu := by
  rcases h with ⟨h, -⟩ | ⟨-, h⟩
  · exact absurd h0 h
  · exact h
/-- What is carried in an error. -/
theorem bdv_in {w : World} {B : Nat} {bt : TypeId} {bu : Value} {p : Pk} (h : BdV w B (.iface bt bu) p) (h1 : ¬ p.proto = 17) (h2 : ¬ p.proto = 6) (hi : 20 ≤ (mgRes p.body).body.length) :
    ∃ g cap, bt = mgT ∧ bu = .agg (mgA (mgRes p.body).typ (mgRes p.body).code (mgRes p.body).sum (mgRes p.body).rest (.slice (some ⟨g, 0, none⟩) (mgRes p.body).body.length cap)) ∧ OwnB w B g cap (mgRes p.body).body ∧ B ≤ g ∧ (mgRes p.body).body.length ≤ cap := by
  rcases h with ⟨e, -⟩ | ⟨e, -⟩ | ⟨e, u, ev, bo, cb, eu, ho, hb, hl⟩
  · exact absurd e h1
  · exact absurd e h2
  · simp only [Value.iface.injEq] at ev
    obtain ⟨rfl, rfl⟩ := ev
    obtain ⟨g, cap, e2, hg, hc, hob⟩ := own_shape2 ho rfl (by omega)
    simp only [Value.slice.injEq] at e2
    obtain ⟨rfl, -, rfl⟩ := e2
    exact ⟨g, cb, rfl, eu, hob, hg, hc⟩
/-- A packet with another body, its options as they were. -/
theorem ipv_body {w W : World} {B D g : Nat} {p : Pk} {ao bo : Option Addr} {co cb : Nat} (h : IpV w B (.agg (ipB p (.slice ao p.opts.length co) (.slice bo p.body.length cb))) p) (ht : Turn g w W) (hf : Far g ao p.opts) {xa : Option Addr} {xn xc : Nat} {body : List Int}
    (ho : W.ownsRow D 5 1 (.slice xa xn xc) xn (body.map (Value.int .u8))) (hl : body.length = xn) (hy : IsBytes body) (hn : xn ≤ 70000) :
    IpV W 0 (.agg (ipA p.tos p.ttl p.proto p.id p.flags p.off p.src p.dst (.slice ao p.opts.length co) (.slice xa xn xc))) (p.bod body) := by
  obtain ⟨ao', co', bo', cb', e, h1, -, h3, -⟩ := h
  simp only [ipA, Value.agg.injEq, Array.mk.injEq, List.cons.injEq, true_and, and_true, Value.slice.injEq] at e
  obtain ⟨⟨rfl, rfl⟩, rfl, rfl⟩ := e
  obtain ⟨za, zc, e, hr, hnil, -⟩ := own_read ho hl hy (by omega)
  cases e
  subst hl
  exact ⟨ao, co, xa, xc, rfl, ht.row h1 hf, hr, h3, hnil, fun _ _ => Nat.zero_le _, fun _ _ => Nat.zero_le _⟩
theorem Turn.set {g : Nat} {w W : World} (h : Turn g w W) {k j : Nat} {v : Value} (hk : w.heap.size ≤ k) : Turn g w (W.setCell ⟨k, j, none⟩ v) :=
  ⟨fun i hi hg => by rw [Below.heap_setCell _ _ _ _ (by simp only; omega)]; exact h.there i hi hg, Nat.le_trans h.size (by simp [World.setCell]), fun B w0 hB hw hb => below_set (h.below B w0 hB hw hb) (Nat.le_trans hw hk)⟩

set_option maxHeartbeats 8000000 in
theorem inner_yes {w : World} {a : Option Addr} {n c : Nat} {l : List Int} (hr : Row w a l) (hn : l.length = n) (hc : n ≤ c) (s d : Pt) (hs : s.Ok) (hd : d.Ok) (h0 : lkErr l = 0) :
    Calls Tryz.prog 12 #[.slice a n c, .agg (ptA s), .agg (ptA d)] w fun e w' => ∃ u, e = .returned (.tuple #[u, .int .i64 (inErr l s d)]) ∧ w'.ownsRow w.heap.size 5 1 u (inOut l s d).length ((inOut l s d).map (Value.int .u8)) ∧ Below w.heap.size w w' := by
  have hM : Mem w ((w.alloc (.cells (ptA s) ptT)).alloc (.cells (ptA d) ptT)) [(w.heap.size, .cells (ptA s) ptT), (w.heap.size + 1, .cells (ptA d) ptT)] := ((Mem.nil w).push1 rfl).push2 (by simp)
  have hL := look_any (hM.row hr) hn hc
  have hok : (ipPk l).Ok := by have := ipRes_ok hr.bytes; rwa [show ipRes l = ipPk l from if_pos (lk_parts h0).1] at this
  have HO : Hid ((ipPk l).Ok ∧ s.Ok ∧ d.Ok) := ⟨hok, hs, hd⟩
  have HZ : Hid (∀ W B v, SeV W B v l → ∃ ao bo ia co cb ic bt bu, v = .agg (snB (ipPk l) (.slice ao (ipPk l).opts.length co) (.slice bo (ipPk l).body.length cb) (.iface bt bu) (flFl (ipPk l)) (.slice ia (flFl (ipPk l)).inner.length ic)) ∧ SnL W B (ipPk l) (flFl (ipPk l)) ao bo ia co cb ic bt bu) := fun W B v h => sev_yes h0 h
  have HSz : Hid ((ipPk l).body.length ≤ 65535) := by
    have := (pk_len hr.bytes (lk_parts h0).1)
    exact this
  have HM : Hid _ := hM
  have HE : Hid (inErr l s d = if (flFl (ipPk l)).inner.length = 0 then 21 else if inBad (ipPk l) s d = true then 21 else ipbErr (inPk (ipPk l) s d)) := by show _ = _; unfold inErr; rw [if_neg (by omega)]
  have HU : Hid (inOut l s d = if (flFl (ipPk l)).inner.length = 0 then [] else if inBad (ipPk l) s d = true then [] else ipOut (inPk (ipPk l) s d)) := by show _ = _; unfold inOut; rw [if_neg (by omega)]
  have HIn : Hid ((flFl (ipPk l)).inner.length ≠ 0 → ¬ (ipPk l).proto = 17 ∧ ¬ (ipPk l).proto = 6 ∧ inOk (mgRes (ipPk l).body).body = true) := fun h => inner_some h
  rw [h0] at hL
  clear hM hr hn hc h0 hs hd hok
  generalize inErr l s d = E at *
  generalize inOut l s d = U at *
  generalize ipPk l = p at *
  generalize flFl p = f at *
  generalize hno : p.opts.length = no at *
  generalize hnb : p.body.length = nb at *
  generalize hni : f.inner.length = ni at *
  have HNO : Hid (p.opts.length = no ∧ p.body.length = nb ∧ f.inner.length = ni) := ⟨hno, hnb, hni⟩
  clear hno hnb hni
  go_enter Tryz.func12, Tryz.ntmps12
  go_wp2_with fail
  refine hL.mono ?_
  rintro e w1 ⟨v, rfl, hv, hb1⟩
  obtain ⟨ao, bo, ia, co, cb, ic, bt, bu, rfl, hsn⟩ := HZ.out _ _ _ hv
  have hM1 := HM.out.after hb1
  have hgA := heap_alloc_new w1 (.cells sn0 snT)
  go_upto_region 2 with (refine wpList_store_row rfl snT _ _ rfl w1.heap.size (snB p (.slice ao no co) (.slice bo nb cb) (.iface bt bu) f (.slice ia ni ic)) rfl rfl snT sn0 hgA (by kernel_rfl) rfl (sn_one ..) ?_)
  refine wp_letter (fun W => Mem w W [(w.heap.size, .cells (ptA s) ptT), (w.heap.size + 1, .cells (ptA d) ptT), (w1.heap.size, .cells (snB p (.slice ao no co) (.slice bo nb cb) (.iface bt bu) f (.slice ia ni ic)) snT (0, 0))] ∧ Below w1.heap.size w1 W) ⟨(hM1.push3 rfl).wrote 2 rfl (wrote_setRow _ _ sn0 (snB p (.slice ao no co) (.slice bo nb cb) (.iface bt bu) f (.slice ia ni ic)) snT hgA), below_setRow ((Below.refl _ _).alloc (Nat.le_refl _) _) (Nat.le_refl _) _⟩ ?_
  intro w2 ⟨hM2, hsn2⟩
  have HM2 : Hid _ := hM2
  have HS2 : Hid (Below w1.heap.size w1 w2) := hsn2
  have HSN : Hid (SnL w1 (w.heap.size + 2) p f ao bo ia co cb ic bt bu) := by
    show SnL w1 (w.heap.size + 2) p f ao bo ia co cb ic bt bu
    have h2 := hsn
    simp at h2
    exact h2
  have hPF := iserr_any (w := w2) f ia ni ic
  obtain ⟨Q, hQ⟩ : ∃ Q, w1.heap.size = Q := ⟨_, rfl⟩
  rw [hQ] at hM2 HM2 HS2
  have q11 : w2.cell? ⟨Q, 11, none⟩ = some (.int .u8 f.proto) := hM2.cell 2 rfl 11
  have q12 : w2.cell? ⟨Q, 12, none⟩ = some (.int .u32 f.src.ip) := hM2.cell 2 rfl 12
  have q13 : w2.cell? ⟨Q, 13, none⟩ = some (.int .u16 f.src.port) := hM2.cell 2 rfl 13
  have q14 : w2.cell? ⟨Q, 14, none⟩ = some (.int .u32 f.dst.ip) := hM2.cell 2 rfl 14
  have q15 : w2.cell? ⟨Q, 15, none⟩ = some (.int .u16 f.dst.port) := hM2.cell 2 rfl 15
  have q16 : w2.cell? ⟨Q, 16, none⟩ = some (.int .u8 f.flags) := hM2.cell 2 rfl 16
  have q17 : w2.cell? ⟨Q, 17, none⟩ = some (.slice ia ni ic) := hM2.cell 2 rfl 17
  clear hM2 hsn2 hM1 hgA hsn hv hb1 hL HM HZ
  rw [hQ]
  have HQ1 : Hid (w1.heap.size = Q) := hQ
  clear hQ
  go_wp2_with fail
  refine hPF.mono ?_
  rintro e w3 ⟨rfl, hb3⟩
  have hM3 := HM2.out.after hb3
  have HM3 : Hid (Mem w w3 [(w.heap.size, .cells (ptA s) ptT), (w.heap.size + 1, .cells (ptA d) ptT), (Q, .cells (snB p (.slice ao no co) (.slice bo nb cb) (.iface bt bu) f (.slice ia ni ic)) snT (0, 0))]) := hM3
  have HS3 : Hid (Below Q w1 w3) := HS2.out.trans (hb3.mono (Nat.le_of_lt (HM2.out.ltAt 2 rfl)))
  clear hPF hb3 q11 q12 q13 q14 q15 q16 q17 HM2 HS2
  by_cases hi : ni = 0
  · rw [if_pos hi] at HE HU
    subst hi
    have HB : Hid _ := hM3.below
    clear hM3
    go_wp2_with fail
    go_ret2
    exact ⟨_, by rw [HE.out] <;> rfl, by rw [HU.out]; exact World.ownsRow_nil _ _ _ _, HB.out⟩
  · rw [if_neg hi] at HE HU
    obtain ⟨hp1, hp2, hin⟩ := HIn.out hi
    have hfc := inHead_facts (inOk_head hin)
    obtain ⟨C, hC, hbd, hopt⟩ := HSN.out.bd
    obtain ⟨g, cap, rfl, rfl, hob, hg, hcap⟩ := bdv_in hbd hp1 hp2 hfc.1
    have hgQ : g < Q := by rw [← HQ1.out]; exact hob.lt (by omega)
    have hob3 := hob.after HS3.out (by rw [HQ1.out]; exact Nat.le_refl _)
    obtain ⟨m, hm⟩ : ∃ m, mgRes p.body = m := ⟨_, rfl⟩
    have hmk := mgRes_ok HO.out.1.body
    have hml := mg_len p.body
    rw [hm] at hob3 hfc hcap hmk hml
    have HB : Hid (inBad p s d = decide (m.body.getD 9 0 = 1 ∧ s.port ≠ d.port)) := by show _ = _; unfold inBad; rw [hm]
    have HPK : Hid (inPk p s d = p.bod (mgOut (inMg m s d))) := by show _ = _; unfold inPk; rw [hm]
    rw [hm]
    obtain ⟨nm, hnm⟩ : ∃ nm, m.body.length = nm := ⟨_, rfl⟩
    rw [hnm] at hfc hcap hml
    have hi' : (0 : Int) < ni := by omega
    have hi2 : 0 < ni := by omega
    have k10 : w3.cell? ⟨Q, 10, none⟩ = some (.iface mgT (.agg (mgA m.typ m.code m.sum m.rest (.slice (some ⟨g, 0, none⟩) nm cap)))) := by have := hM3.cell 2 rfl 10; rw [hm, hnm] at this; exact this
    have c0 : ∀ i, w3.cell? ⟨w.heap.size, i, none⟩ = (ptA s)[i]? := hM3.cell 0 rfl
    have c1 : ∀ i, w3.cell? ⟨w.heap.size + 1, i, none⟩ = (ptA d)[i]? := hM3.cell 1 rfl
    have HG : Hid (C ≤ g ∧ g < Q ∧ w.heap.size + 2 ≤ C ∧ Far g ao p.opts) := ⟨hg, hgQ, hC, by
      rcases hopt with h | h
      · exact Or.inl h
      · exact Or.inr fun x hx e => by have := h x hx; omega⟩
    have HL : Hid (m.body.length = nm ∧ 20 ≤ nm ∧ hdl m.body + 8 ≤ nm ∧ nm ≤ 65535 ∧ m.Ok) := ⟨hnm, hfc.1, hfc.2.2.2, by have := HSz.out; have := HNO.out; omega, hmk⟩
    rw [hm, hnm] at HM3
    by_cases hbad : m.body.getD 9 0 = 1 ∧ s.port ≠ d.port
    · have hIc := inch_bad hmk hob3 hnm hfc.1 HL.out.2.2.2.1 s d hbad
      rw [if_pos (by rw [HB.out]; exact decide_eq_true hbad)] at HE HU
      clear hM3 hbd hopt hob hob3 hcap hfc hml hmk hin hg hgQ hC hbad hm hnm
      go_wp2_with fail
      refine hIc.mono ?_
      rintro e w4 ⟨rfl, hb4⟩
      have hM4 := HM3.out.after hb4
      have HM4 : Hid (Mem w w4 _) := hM4
      have kf : ∀ i, w4.frozen? ⟨Q, i, none⟩ = false := hM4.free 2 rfl
      have k9 : w4.cell? ⟨Q, 9, none⟩ = some (.slice bo nb cb) := hM4.cell 2 rfl 9
      have HB4 : Hid (∀ v, Below w.heap.size w (w4.setCell ⟨Q, 9, none⟩ v)) := fun v => below_set hM4.below (by have := HG.out; omega)
      clear hIc hb4 hM4 k10 c0 c1 HM3
      go_wp2_with fail
      go_ret2
      exact ⟨_, by rw [HE.out] <;> rfl, by rw [HU.out]; exact World.ownsRow_nil _ _ _ _, HB4.out _⟩
    · have hIc := inch_ok hmk hob3 hnm hfc.1 hfc.2.2.2 HL.out.2.2.2.1 hcap s d HO.out.2.1 HO.out.2.2 hbad
      rw [if_neg (by rw [HB.out]; simp only [hbad, decide_false]; decide)] at HE HU
      rw [HPK.out] at HE HU
      have hmo := mgOut_facts (inMg_ok HL.out.2.2.2.2 (by have := HL.out; omega) (by have := HL.out; omega) HO.out.2.1 HO.out.2.2)
      obtain ⟨X, hX⟩ : ∃ X, mgOut (inMg m s d) = X := ⟨_, rfl⟩
      obtain ⟨xn, hxn⟩ : ∃ xn, X.length = xn := ⟨_, rfl⟩
      rw [hX] at hmo hIc HE HU
      rw [hxn] at hIc
      have HX : Hid (X.length = xn ∧ IsBytes X ∧ X.length ≤ 65515) := ⟨hxn, hmo⟩
      clear hM3 hbd hopt hob hob3 hcap hfc hml hmk hin hg hgQ hC hbad hm hnm hX hxn hmo
      go_wp2_with fail
      refine hIc.mono ?_
      rintro e w4 ⟨x, rfl, ht4, hown⟩
      obtain ⟨xa, xc, rfl⟩ := own_len hown
      have hM4 : Mem w w4 [(w.heap.size, .cells (ptA s) ptT), (w.heap.size + 1, .cells (ptA d) ptT), (Q, .cells (snB p (.slice ao no co) (.slice bo nb cb) (.iface mgT (.agg (mgA m.typ m.code m.sum m.rest (.slice (some ⟨g, 0, none⟩) nm cap)))) f (.slice ia ni ic)) snT (0, 0))] := ht4.mem HM3.out (by have := HG.out; omega) (by
        intro q hq
        have := HG.out
        simp only [List.mem_cons, List.not_mem_nil, or_false] at hq
        rcases hq with rfl | rfl | rfl <;> simp only <;> omega)
      have HM4 : Hid _ := hM4
      have kf : ∀ i, w4.frozen? ⟨Q, i, none⟩ = false := hM4.free 2 rfl
      have k9 : w4.cell? ⟨Q, 9, none⟩ = some (.slice bo nb cb) := hM4.cell 2 rfl 9
      have HQ3 : Hid (Q < w3.heap.size) := HM3.out.ltAt 2 rfl
      have HX4 : Hid (w4.ownsRow w3.heap.size 5 1 (.slice xa xn xc) xn (X.map (Value.int .u8))) := hown
      have HT4 : Hid (Turn g w1 w4) := (turn_of (by rw [HQ1.out]; exact HS3.out)).trans ht4
      clear hIc hown ht4 hM4 k10 c0 c1 HM3
      go_upto_region 7 with fail
      refine wp_letter (fun W => Mem w W [(w.heap.size, .cells (ptA s) ptT), (w.heap.size + 1, .cells (ptA d) ptT), (Q, .cells (snB p (.slice ao no co) (.slice xa xn xc) (.iface mgT (.agg (mgA m.typ m.code m.sum m.rest (.slice (some ⟨g, 0, none⟩) nm cap)))) f (.slice ia ni ic)) snT (0, 0))] ∧ Turn g w1 W ∧ W.ownsRow w3.heap.size 5 1 (.slice xa xn xc) xn (X.map (Value.int .u8))) ⟨HM4.out.set 2 rfl 9 _, HT4.out.set (by rw [HQ1.out]; exact Nat.le_refl _), own_above HX4.out ((Above.refl _ _).set HQ3.out)⟩ ?_
      intro w6 ⟨hM6, ht6, hx6⟩
      have HM6 : Hid _ := hM6
      clear k9 kf HM4 HX4 HT4
      have z0 : w6.cell? ⟨Q, 0, none⟩ = some (.int .u8 p.tos) := hM6.cell 2 rfl 0
      have z1 : w6.cell? ⟨Q, 1, none⟩ = some (.int .u8 p.ttl) := hM6.cell 2 rfl 1
      have z2 : w6.cell? ⟨Q, 2, none⟩ = some (.int .u8 p.proto) := hM6.cell 2 rfl 2
      have z3 : w6.cell? ⟨Q, 3, none⟩ = some (.int .u16 p.id) := hM6.cell 2 rfl 3
      have z4 : w6.cell? ⟨Q, 4, none⟩ = some (.int .u8 p.flags) := hM6.cell 2 rfl 4
      have z5 : w6.cell? ⟨Q, 5, none⟩ = some (.int .u16 p.off) := hM6.cell 2 rfl 5
      have z6 : w6.cell? ⟨Q, 6, none⟩ = some (.int .u32 p.src) := hM6.cell 2 rfl 6
      have z7 : w6.cell? ⟨Q, 7, none⟩ = some (.int .u32 p.dst) := hM6.cell 2 rfl 7
      have z8 : w6.cell? ⟨Q, 8, none⟩ = some (.slice ao no co) := hM6.cell 2 rfl 8
      have z9 : w6.cell? ⟨Q, 9, none⟩ = some (.slice xa xn xc) := hM6.cell 2 rfl 9
      have hv6 := ipv_body HSN.out.ip ht6 HG.out.2.2.2 hx6 HX.out.1 HX.out.2.1 (by have := HX.out; omega)
      rw [HNO.out.1] at hv6
      have hB := bytes_any (pkbod_ok HO.out.1 HX.out.2.1) hv6
      clear hM6 ht6 hx6 hv6
      go_wp2_with fail
      refine hB.mono ?_
      rintro e w7 ⟨u, rfl, hown, hb7⟩
      have HB7 : Hid _ := HM6.out.below.trans (hb7.mono HM6.out.below.size)
      have HU7 : Hid _ := own_base hown HM6.out.below.size
      clear hown hb7 hB z0 z1 z2 z3 z4 z5 z6 z7 z8 z9
      go_wp2_with fail
      go_ret2
      exact ⟨_, by rw [HE.out] <;> rfl, by rw [HU.out]; exact HU7.out, HB7.out⟩

/-- What rewrite.Inner answers, whatever it is handed. -/
theorem inner_any {w : World} {a : Option Addr} {n c : Nat} {l : List Int} (hr : Row w a l) (hn : l.length = n) (hc : n ≤ c) (s d : Pt) (hs : s.Ok) (hd : d.Ok) :
    Calls Tryz.prog 12 #[.slice a n c, .agg (ptA s), .agg (ptA d)] w fun e w' => ∃ u, e = .returned (.tuple #[u, .int .i64 (inErr l s d)]) ∧ w'.ownsRow w.heap.size 5 1 u (inOut l s d).length ((inOut l s d).map (Value.int .u8)) ∧ Below w.heap.size w w' := by
  by_cases h0 : lkErr l = 0
  · exact inner_yes hr hn hc s d hs hd h0
  · refine (inner_no hr hn hc s d h0).mono ?_
    rintro e w' ⟨rfl, hb⟩
    rw [show inErr l s d = lkErr l by unfold inErr; rw [if_pos h0], show inOut l s d = [] by unfold inOut; rw [if_pos h0]]
    exact ⟨_, rfl, World.ownsRow_nil _ _ _ _, hb⟩
end Go.Proofs.YtjalpbkfpjfigaaGreat

