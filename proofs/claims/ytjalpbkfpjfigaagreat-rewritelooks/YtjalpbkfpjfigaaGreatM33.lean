/-
  What rewrite.changed answers, of a message too.
-/
import Derived.Test.YtjalpbkfpjfigaaGreatM32
namespace Go.Proofs.YtjalpbkfpjfigaaGreat
open Go.RowKit
open Sm
set_option linter.unusedVariables false
set_option maxRecDepth 20000

set_option maxHeartbeats 4000000 in
theorem changed_icmp {w : World} {B : Nat} {p : Pk} {o b u : Value} {ia : Option Addr} {ic : Nat} {f : Fl} (hp : p.Ok) (e1 : p.proto = 1) (hu : MgV w B u (mgRes p.body)) (s d : Pt) (hs : s.Ok) (hd : d.Ok) :
    Calls Tryz.prog 29 #[.agg (snB p o b (.iface mgT u) f (.slice ia f.inner.length ic)), .agg (ptA s), .agg (ptA d)] w fun e w' => ∃ x, e = .returned x ∧ w'.ownsRow w.heap.size 5 1 x (mgOut (msl (chMg f (mgRes p.body) s))).length ((mgOut (msl (chMg f (mgRes p.body) s))).map (Value.int .u8)) ∧ Below w.heap.size w w' := by
  have hM := ch_boxes w (snB p o b (.iface mgT u) f (.slice ia f.inner.length ic)) s d
  have HM : Hid _ := hM
  have hok := mgRes_ok hp.body
  generalize mgRes p.body = q at *
  have hu' := hu
  obtain ⟨bo, cb, rfl, -⟩ := hu'
  have hta := assert_icmp (.agg (mgB q bo q.body.length cb))
  have hr := hok.rest
  have hsp := hs.port
  have HTo : Hid (q.Ok ∧ (q.id s.port).Ok) := ⟨hok, hok.typ, hok.code, hok.sum, ⟨by simp only [Mg.id]; omega, by simp only [Mg.id]; omega⟩, hok.body⟩
  have HV : Hid (∀ W, Below w.heap.size w W → MgV W 0 (.agg (mgB q bo q.body.length cb)) q ∧ MgV W 0 (.agg (mgA q.typ q.code q.sum (s.port * 65536 + q.rest % 65536) (.slice bo q.body.length cb))) (q.id s.port)) := fun W hb => ⟨(hu.below hb (Nat.le_refl _)).mono (Nat.zero_le _), ((mgv_to hu (s.port * 65536 + q.rest % 65536)).below hb (Nat.le_refl _)).mono (Nat.zero_le _)⟩
  have HC : Hid (chMg f q s = if 0 < f.inner.length then q else q.id s.port) := rfl
  have hlow := sm_low32 q.rest hr.1 hr.2
  have hor : bits .or .u32 (s.port * 65536) (q.rest % 65536) = s.port * 65536 + q.rest % 65536 := sm_long s.port (q.rest % 65536) hsp.1 hsp.2 (by omega) (by omega)
  have v0 := wrap32_small s.port hsp.1 (by omega)
  have v1 := wrap32_small (s.port * 65536) (by omega) (by omega)
  clear hM hok hu hs hd hp hr hsp
  generalize chMg f q s = r at *
  obtain ⟨tos, ttl, proto, id, flags, off, src, dst, opts, body⟩ := p
  simp only at e1
  subst e1
  generalize q.body.length = n at *
  generalize f.inner.length = ni at *
  go_enter Tryz.func29, Tryz.ntmps29
  go_upto_region 1 with fail
  refine wp_letter (fun W => Mem w W [(w.heap.size, .cells (snB ⟨tos, ttl, 1, id, flags, off, src, dst, opts, body⟩ o b (.iface mgT (.agg (mgA q.typ q.code q.sum q.rest (.slice bo n cb)))) f (.slice ia ni ic)) snT), (w.heap.size + 1, .cells (ptA s) ptT), (w.heap.size + 2, .cells (ptA d) ptT)]) HM.out ?_
  intro w1 hM1
  have HM1 : Hid _ := hM1
  have k2 : w1.cell? ⟨w.heap.size, 2, none⟩ = some (.int .u8 1) := hM1.cell 0 rfl 2
  have k10 : w1.cell? ⟨w.heap.size, 10, none⟩ = some (.iface mgT (.agg (mgA q.typ q.code q.sum q.rest (.slice bo n cb)))) := hM1.cell 0 rfl 10
  clear hM1 HM
  go_upto_region 16 with fail
  refine wp_letter (fun W => Mem w W [(w.heap.size, .cells (snB ⟨tos, ttl, 1, id, flags, off, src, dst, opts, body⟩ o b (.iface mgT (.agg (mgA q.typ q.code q.sum q.rest (.slice bo n cb)))) f (.slice ia ni ic)) snT), (w.heap.size + 1, .cells (ptA s) ptT), (w.heap.size + 2, .cells (ptA d) ptT), (w1.heap.size, .cells (mgA q.typ q.code q.sum q.rest (.slice bo n cb)) mgT)]) (HM1.out.push4 rfl) ?_
  intro w2 hM2
  have HM2 : Hid _ := hM2
  have q11 : w2.cell? ⟨w.heap.size, 11, none⟩ = some (.int .u8 f.proto) := hM2.cell 0 rfl 11
  have q12 : w2.cell? ⟨w.heap.size, 12, none⟩ = some (.int .u32 f.src.ip) := hM2.cell 0 rfl 12
  have q13 : w2.cell? ⟨w.heap.size, 13, none⟩ = some (.int .u16 f.src.port) := hM2.cell 0 rfl 13
  have q14 : w2.cell? ⟨w.heap.size, 14, none⟩ = some (.int .u32 f.dst.ip) := hM2.cell 0 rfl 14
  have q15 : w2.cell? ⟨w.heap.size, 15, none⟩ = some (.int .u16 f.dst.port) := hM2.cell 0 rfl 15
  have q16 : w2.cell? ⟨w.heap.size, 16, none⟩ = some (.int .u8 f.flags) := hM2.cell 0 rfl 16
  have q17 : w2.cell? ⟨w.heap.size, 17, none⟩ = some (.slice ia ni ic) := hM2.cell 0 rfl 17
  have hI := iserr_any (w := w2) f ia ni ic
  clear hM2 HM1 k2 k10
  generalize w1.heap.size = G at *
  go_wp2_with fail
  refine hI.mono ?_
  rintro e w3 ⟨rfl, hb3⟩
  have hM3 := HM2.out.after hb3
  have HM3 : Hid _ := hM3
  clear q11 q12 q13 q14 q15 q16 q17 hI hb3 HM2
  by_cases hn : 0 < ni
  · rw [decide_eq_true hn]
    rw [if_pos hn] at HC
    have kc : ∀ i, w3.cell? ⟨G, i, none⟩ = (mgA q.typ q.code q.sum q.rest (.slice bo n cb))[i]? := hM3.cell 3 rfl
    have hB := seal_any HTo.out.1 (HV.out w3 hM3.below).1
    clear hM3 hn
    go_wp2_with fail
    refine hB.mono ?_
    rintro e w6 ⟨x, rfl, hown, hb6⟩
    have HB4 : Hid _ := HM3.out.below.trans (hb6.mono HM3.out.below.size)
    have HU : Hid _ := own_base hown HM3.out.below.size
    clear hown hb6 hB kc
    go_wp2_with fail
    go_ret
    exact ⟨_, rfl, by rw [HC.out]; exact HU.out, HB4.out⟩
  · rw [decide_eq_false hn]
    rw [if_neg hn] at HC
    have kc : ∀ i, w3.cell? ⟨G, i, none⟩ = (mgA q.typ q.code q.sum q.rest (.slice bo n cb))[i]? := hM3.cell 3 rfl
    have kf : ∀ i, w3.frozen? ⟨G, i, none⟩ = false := hM3.free 3 rfl
    have ks : w3.cell? ⟨w.heap.size + 1, 1, none⟩ = some (.int .u16 s.port) := hM3.cell 1 rfl 1
    clear hM3 hn
    go_upto_region 18 with fail
    refine wp_letter (fun W => Mem w W [(w.heap.size, .cells (snB ⟨tos, ttl, 1, id, flags, off, src, dst, opts, body⟩ o b (.iface mgT (.agg (mgA q.typ q.code q.sum q.rest (.slice bo n cb)))) f (.slice ia ni ic)) snT), (w.heap.size + 1, .cells (ptA s) ptT), (w.heap.size + 2, .cells (ptA d) ptT), (G, .cells (mgA q.typ q.code q.sum (s.port * 65536 + q.rest % 65536) (.slice bo n cb)) mgT (0, 0))]) (HM3.out.set 3 rfl 3 _) ?_
    intro w5 hM5
    have HM5 : Hid _ := hM5
    clear kc kf ks HM3
    have kc : ∀ i, w5.cell? ⟨G, i, none⟩ = (mgA q.typ q.code q.sum (s.port * 65536 + q.rest % 65536) (.slice bo n cb))[i]? := hM5.cell 3 rfl
    have hB := seal_any HTo.out.2 (HV.out w5 hM5.below).2
    rw [← HC.out] at hB
    clear hM5
    go_wp2_with fail
    refine hB.mono ?_
    rintro e w6 ⟨x, rfl, hown, hb6⟩
    have HB4 : Hid _ := HM5.out.below.trans (hb6.mono HM5.out.below.size)
    have HU : Hid _ := own_base hown HM5.out.below.size
    clear hown hb6 hB kc
    go_wp2_with fail
    go_ret
    exact ⟨_, rfl, HU.out, HB4.out⟩

/-- What rewrite.changed answers. -/
theorem changed_any {w : World} {C : Nat} {p : Pk} {o b v : Value} {ia : Option Addr} {ic : Nat} {f : Fl} (hp : p.Ok) (hv : BdV w C v p) (s d : Pt) (hs : s.Ok) (hd : d.Ok) :
    Calls Tryz.prog 29 #[.agg (snB p o b v f (.slice ia f.inner.length ic)), .agg (ptA s), .agg (ptA d)] w fun e w' => ∃ x, e = .returned x ∧ w'.ownsRow w.heap.size 5 1 x (chBody p f s d).length ((chBody p f s d).map (Value.int .u8)) ∧ Below w.heap.size w w' := by
  rcases hv with ⟨e, u, rfl, h⟩ | ⟨e, u, rfl, h⟩ | ⟨e, u, rfl, h⟩
  · rw [show chBody p f s d = udOut (chDg (udRes p.body) s d) by unfold chBody; rw [if_pos e]]
    exact changed_udp hp e h s d hs hd
  · rw [show chBody p f s d = tcOut (chSg (tcRes p.body) s d) by unfold chBody; rw [if_neg (by omega), if_pos e]]
    exact changed_tcp hp e h s d hs hd
  · rw [show chBody p f s d = mgOut (msl (chMg f (mgRes p.body) s)) by unfold chBody; rw [if_neg (by omega), if_neg (by omega), if_pos e]]
    exact changed_icmp hp e h.v s d hs hd
end Go.Proofs.YtjalpbkfpjfigaaGreat

