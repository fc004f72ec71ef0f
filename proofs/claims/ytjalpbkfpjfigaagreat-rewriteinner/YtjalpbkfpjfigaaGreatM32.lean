/-
  What rewrite.changed answers.
  What the document's own lychref8.inner answers, whatever bytes it is handed.
-/
import Derived.Test.YtjalpbkfpjfigaaGreatM30
import Derived.Test.YtjalpbkfpjfigaaGreatM31
namespace Go.Proofs.YtjalpbkfpjfigaaGreat
open Go.RowKit
open Sm
set_option linter.unusedVariables false
set_option maxRecDepth 20000

theorem udv_to {w : World} {B : Nat} {u : Dg} {bo : Option Addr} {cb : Nat} (h : UdV w B (.agg (udA u.src u.dst u.sum (.slice bo u.body.length cb))) u) (x y z : Int) : UdV w B (.agg (udA x y z (.slice bo u.body.length cb))) ⟨x, y, z, u.body⟩ := by
  obtain ⟨bo', cb', e, h⟩ := h
  simp only [udA, Value.agg.injEq, Array.mk.injEq, List.cons.injEq, true_and, and_true, Value.slice.injEq] at e
  obtain ⟨rfl, rfl⟩ := e
  exact ⟨bo, cb, rfl, h⟩
theorem tcv_to {w : World} {B : Nat} {q : Sg} {ao bo : Option Addr} {co cb : Nat} (h : TcV w B (.agg (tcB q ao q.opts.length co bo q.body.length cb)) q) (x y z : Int) : TcV w B (.agg (tcA x y q.seq q.ack q.flags q.win z q.urg (.slice ao q.opts.length co) (.slice bo q.body.length cb))) ⟨x, y, q.seq, q.ack, q.flags, q.win, z, q.urg, q.opts, q.body⟩ := by
  obtain ⟨ao', co', bo', cb', e, h⟩ := h
  simp only [tcB, tcA, Value.agg.injEq, Array.mk.injEq, List.cons.injEq, true_and, and_true, Value.slice.injEq] at e
  obtain ⟨⟨rfl, rfl⟩, rfl, rfl⟩ := e
  exact ⟨ao, co, bo, cb, rfl, h⟩
theorem mgv_to {w : World} {B : Nat} {m : Mg} {bo : Option Addr} {cb : Nat} (h : MgV w B (.agg (mgB m bo m.body.length cb)) m) (r : Int) : MgV w B (.agg (mgA m.typ m.code m.sum r (.slice bo m.body.length cb))) ⟨m.typ, m.code, m.sum, r, m.body⟩ := by
  obtain ⟨bo', cb', e, h⟩ := h
  simp only [mgB, mgA, Value.agg.injEq, Array.mk.injEq, List.cons.injEq, true_and, and_true, Value.slice.injEq] at e
  obtain ⟨rfl, rfl⟩ := e
  exact ⟨bo, cb, rfl, h⟩

/-- What changed has made of itself: what is seen, and two points. -/
theorem ch_boxes (w : World) (a : Array Value) (s d : Pt) : Mem w (((w.alloc (.cells a snT)).alloc (.cells (ptA s) ptT)).alloc (.cells (ptA d) ptT)) [(w.heap.size, .cells a snT), (w.heap.size + 1, .cells (ptA s) ptT), (w.heap.size + 2, .cells (ptA d) ptT)] :=
  (((Mem.nil w).push1 rfl).push2 (by simp)).push3 (by simp)

set_option maxHeartbeats 4000000 in
theorem changed_udp {w : World} {B : Nat} {p : Pk} {o b iv u : Value} {f : Fl} (hp : p.Ok) (e17 : p.proto = 17) (hu : UdV w B u (udRes p.body)) (s d : Pt) (hs : s.Ok) (hd : d.Ok) :
    Calls Tryz.prog 29 #[.agg (snB p o b (.iface udT u) f iv), .agg (ptA s), .agg (ptA d)] w fun e w' => ∃ x, e = .returned x ∧ w'.ownsRow w.heap.size 5 1 x (udOut (chDg (udRes p.body) s d)).length ((udOut (chDg (udRes p.body) s d)).map (Value.int .u8)) ∧ Below w.heap.size w w' := by
  have hM := ch_boxes w (snB p o b (.iface udT u) f iv) s d
  have HM : Hid _ := hM
  have hok := udRes_ok hp.body
  generalize udRes p.body = q at *
  have hu' := hu
  obtain ⟨bo, cb, rfl, -⟩ := hu'
  have hta := assert_udp (.agg (udA q.src q.dst q.sum (.slice bo q.body.length cb)))
  have HTo : Hid (q.to s d).Ok := ⟨hs.port, hd.port, hok.sum, hok.body⟩
  have HV : Hid (∀ W z, Below w.heap.size w W → UdV W 0 (.agg (udA s.port d.port z (.slice bo q.body.length cb))) ((q.to s d).at z)) := fun W z hb => ((udv_to hu s.port d.port z).below hb (Nat.le_refl _)).mono (Nat.zero_le _)
  have HS : Hid (s.Ok ∧ d.Ok) := ⟨hs, hd⟩
  have HR : Hid (0 ≤ usum s.ip d.ip (q.to s d) ∧ usum s.ip d.ip (q.to s d) ≤ 65535) := usum_range _ _ _
  have HC : Hid (chDg q s d = if q.sum = 0 then q.to s d else (q.to s d).at (usum s.ip d.ip (q.to s d))) := rfl
  have HAt : Hid ((q.to s d).at q.sum = q.to s d) := rfl
  clear hM hok hu hs hd hp
  generalize chDg q s d = r at *
  obtain ⟨S, hS⟩ : ∃ S, usum s.ip d.ip (q.to s d) = S := ⟨_, rfl⟩
  have HSu : Hid (usum s.ip d.ip (q.to s d) = S) := hS
  rw [hS] at HR HC
  clear hS
  obtain ⟨tos, ttl, proto, id, flags, off, src, dst, opts, body⟩ := p
  simp only at e17
  subst e17
  generalize q.body.length = n at *
  go_enter Tryz.func29, Tryz.ntmps29
  go_upto_region 1 with fail
  refine wp_letter (fun W => Mem w W [(w.heap.size, .cells (snB ⟨tos, ttl, 17, id, flags, off, src, dst, opts, body⟩ o b (.iface udT (.agg (udA q.src q.dst q.sum (.slice bo n cb)))) f iv) snT), (w.heap.size + 1, .cells (ptA s) ptT), (w.heap.size + 2, .cells (ptA d) ptT)]) HM.out ?_
  intro w1 hM1
  have HM1 : Hid _ := hM1
  have k2 : w1.cell? ⟨w.heap.size, 2, none⟩ = some (.int .u8 17) := hM1.cell 0 rfl 2
  have k10 : w1.cell? ⟨w.heap.size, 10, none⟩ = some (.iface udT (.agg (udA q.src q.dst q.sum (.slice bo n cb)))) := hM1.cell 0 rfl 10
  clear hM1 HM
  go_upto_region 5 with fail
  refine wp_letter (fun W => Mem w W [(w.heap.size, .cells (snB ⟨tos, ttl, 17, id, flags, off, src, dst, opts, body⟩ o b (.iface udT (.agg (udA q.src q.dst q.sum (.slice bo n cb)))) f iv) snT), (w.heap.size + 1, .cells (ptA s) ptT), (w.heap.size + 2, .cells (ptA d) ptT), (w1.heap.size, .cells (udA q.src q.dst q.sum (.slice bo n cb)) udT)]) (HM1.out.push4 rfl) ?_
  intro w2 hM2
  have HM2 : Hid _ := hM2
  have a0 : w2.cell? ⟨w.heap.size + 1, 1, none⟩ = some (.int .u16 s.port) := hM2.cell 1 rfl 1
  have a1 : w2.cell? ⟨w.heap.size + 2, 1, none⟩ = some (.int .u16 d.port) := hM2.cell 2 rfl 1
  have kc : ∀ i, w2.cell? ⟨w1.heap.size, i, none⟩ = (udA q.src q.dst q.sum (.slice bo n cb))[i]? := hM2.cell 3 rfl
  have kf : ∀ i, w2.frozen? ⟨w1.heap.size, i, none⟩ = false := hM2.free 3 rfl
  have n1 : w.heap.size + 1 ≠ w1.heap.size := hM2.ne 1 3 rfl rfl (by decide)
  have n2 : w.heap.size + 2 ≠ w1.heap.size := hM2.ne 2 3 rfl rfl (by decide)
  have n1' : w1.heap.size ≠ w.heap.size + 1 := fun e => n1 e.symm
  have n2' : w1.heap.size ≠ w.heap.size + 2 := fun e => n2 e.symm
  clear hM2 HM1 k2 k10
  generalize w1.heap.size = G at *
  go_region_held3 (fun w' => w'.cell? ⟨w.heap.size + 1, 1, none⟩ = some (.int .u16 s.port) ∧ w'.cell? ⟨w.heap.size + 2, 1, none⟩ = some (.int .u16 d.port)) (go_keep) (fail)
  all_goals
    go_upto_region 6 with fail
    refine wp_letter (fun W => Mem w W [(w.heap.size, .cells (snB ⟨tos, ttl, 17, id, flags, off, src, dst, opts, body⟩ o b (.iface udT (.agg (udA q.src q.dst q.sum (.slice bo n cb)))) f iv) snT), (w.heap.size + 1, .cells (ptA s) ptT), (w.heap.size + 2, .cells (ptA d) ptT), (G, .cells (udA s.port d.port q.sum (.slice bo n cb)) udT (0, 0))]) (by first | exact ((HM2.out.drew.set 3 rfl 0 _).set 3 rfl 1 _) | exact ((HM2.out.drew.set 3 rfl 1 _).set 3 rfl 0 _)) ?_
    intro w3 hM3
    have HM3 : Hid _ := hM3
    clear kc kf HM2 a0 a1
    have kc : ∀ i, w3.cell? ⟨G, i, none⟩ = (udA s.port d.port q.sum (.slice bo n cb))[i]? := hM3.cell 3 rfl
    by_cases hz : q.sum = 0
    · have hB := ubytes_any HTo.out (by have := HV.out w3 q.sum hM3.below; rw [HAt.out] at this; exact this)
      rw [if_pos hz] at HC
      have HO : Hid (q.to s d = r) := HC.out.symm
      rw [HO.out] at hB
      rw [hz] at kc hB
      clear hM3 HC HAt
      go_wp2_with fail
      refine hB.mono ?_
      rintro e w4 ⟨x, rfl, hown, hb4⟩
      have HB4 : Hid _ := HM3.out.below.trans (hb4.mono HM3.out.below.size)
      have HU : Hid _ := own_base hown HM3.out.below.size
      clear hown hb4 hB kc
      go_wp2_with fail
      go_ret
      exact ⟨_, rfl, HU.out, HB4.out⟩
    · have hv3 := HV.out w3 q.sum hM3.below
      rw [HAt.out] at hv3
      have hS := usum_any HTo.out hv3 s.ip d.ip HS.out.1.ip.1 HS.out.1.ip.2 HS.out.2.ip.1 HS.out.2.ip.2
      rw [HSu.out] at hS
      rw [if_neg hz] at HC
      have b0 : w3.cell? ⟨w.heap.size + 1, 0, none⟩ = some (.int .u32 s.ip) := hM3.cell 1 rfl 0
      have b1 : w3.cell? ⟨w.heap.size + 2, 0, none⟩ = some (.int .u32 d.ip) := hM3.cell 2 rfl 0
      clear hM3 hv3
      go_wp2_with fail
      refine hS.mono ?_
      rintro e w4 ⟨rfl, hb4⟩
      have hM4 := HM3.out.after hb4
      have HM4 : Hid _ := hM4
      clear kc b0 b1 hb4 hS HM3
      have kc : ∀ i, w4.cell? ⟨G, i, none⟩ = (udA s.port d.port q.sum (.slice bo n cb))[i]? := hM4.cell 3 rfl
      have kf : ∀ i, w4.frozen? ⟨G, i, none⟩ = false := hM4.free 3 rfl
      clear hM4
      go_upto_region 8 with fail
      refine wp_letter (fun W => Mem w W [(w.heap.size, .cells (snB ⟨tos, ttl, 17, id, flags, off, src, dst, opts, body⟩ o b (.iface udT (.agg (udA q.src q.dst q.sum (.slice bo n cb)))) f iv) snT), (w.heap.size + 1, .cells (ptA s) ptT), (w.heap.size + 2, .cells (ptA d) ptT), (G, .cells (udA s.port d.port S (.slice bo n cb)) udT (0, 0))]) (HM4.out.set 3 rfl 2 _) ?_
      intro w5 hM5
      have HM5 : Hid _ := hM5
      clear kc kf HM4
      have kc : ∀ i, w5.cell? ⟨G, i, none⟩ = (udA s.port d.port S (.slice bo n cb))[i]? := hM5.cell 3 rfl
      have hB := ubytes_any (HTo.out.at HR.out.1 HR.out.2) (HV.out w5 S hM5.below)
      rw [← HC.out] at hB
      clear hM5
      go_wp2_with fail
      refine hB.mono ?_
      rintro e w6 ⟨x, rfl, hown, hb6⟩
      have HB4 : Hid _ := HM5.out.below.trans (hb6.mono HM5.out.below.size)
      have HU : Hid _ := own_base hown HM5.out.below.size
      clear hown hb6 hB kc
      go_wp2_with fail
      go_ret
      exact ⟨_, rfl, HU.out, HB4.out⟩

set_option maxHeartbeats 4000000 in
theorem changed_tcp {w : World} {B : Nat} {p : Pk} {o b iv u : Value} {f : Fl} (hp : p.Ok) (e6 : p.proto = 6) (hu : TcV w B u (tcRes p.body)) (s d : Pt) (hs : s.Ok) (hd : d.Ok) :
    Calls Tryz.prog 29 #[.agg (snB p o b (.iface tcT u) f iv), .agg (ptA s), .agg (ptA d)] w fun e w' => ∃ x, e = .returned x ∧ w'.ownsRow w.heap.size 5 1 x (tcOut (chSg (tcRes p.body) s d)).length ((tcOut (chSg (tcRes p.body) s d)).map (Value.int .u8)) ∧ Below w.heap.size w w' := by
  have hM := ch_boxes w (snB p o b (.iface tcT u) f iv) s d
  have HM : Hid _ := hM
  have hok := tcRes_ok hp.body
  generalize tcRes p.body = q at *
  have hu' := hu
  obtain ⟨ao, co, bo, cb, rfl, -⟩ := hu'
  have hta := assert_tcp (.agg (tcB q ao q.opts.length co bo q.body.length cb))
  have HTo : Hid (q.to s d).Ok := ⟨hs.port, hd.port, hok.seq, hok.ack, hok.flags, hok.win, hok.sum, hok.urg, hok.opts, hok.body⟩
  have HV : Hid (∀ W z, Below w.heap.size w W → TcV W 0 (.agg (tcA s.port d.port q.seq q.ack q.flags q.win z q.urg (.slice ao q.opts.length co) (.slice bo q.body.length cb))) ((q.to s d).at z)) := fun W z hb => ((tcv_to hu s.port d.port z).below hb (Nat.le_refl _)).mono (Nat.zero_le _)
  have HS : Hid (s.Ok ∧ d.Ok) := ⟨hs, hd⟩
  have HR : Hid (0 ≤ tsum s.ip d.ip (q.to s d) ∧ tsum s.ip d.ip (q.to s d) ≤ 65535) := tsum_range _ _ _
  have HC : Hid (chSg q s d = (q.to s d).at (tsum s.ip d.ip (q.to s d))) := rfl
  have HAt : Hid ((q.to s d).at q.sum = q.to s d) := rfl
  clear hM hok hu hs hd hp
  generalize chSg q s d = r at *
  obtain ⟨S, hS⟩ : ∃ S, tsum s.ip d.ip (q.to s d) = S := ⟨_, rfl⟩
  have HSu : Hid (tsum s.ip d.ip (q.to s d) = S) := hS
  rw [hS] at HR HC
  clear hS
  obtain ⟨tos, ttl, proto, id, flags, off, src, dst, opts, body⟩ := p
  simp only at e6
  subst e6
  generalize q.body.length = n at *
  generalize q.opts.length = no at *
  go_enter Tryz.func29, Tryz.ntmps29
  go_upto_region 1 with fail
  refine wp_letter (fun W => Mem w W [(w.heap.size, .cells (snB ⟨tos, ttl, 6, id, flags, off, src, dst, opts, body⟩ o b (.iface tcT (.agg (tcA q.src q.dst q.seq q.ack q.flags q.win q.sum q.urg (.slice ao no co) (.slice bo n cb)))) f iv) snT), (w.heap.size + 1, .cells (ptA s) ptT), (w.heap.size + 2, .cells (ptA d) ptT)]) HM.out ?_
  intro w1 hM1
  have HM1 : Hid _ := hM1
  have k2 : w1.cell? ⟨w.heap.size, 2, none⟩ = some (.int .u8 6) := hM1.cell 0 rfl 2
  have k10 : w1.cell? ⟨w.heap.size, 10, none⟩ = some (.iface tcT (.agg (tcA q.src q.dst q.seq q.ack q.flags q.win q.sum q.urg (.slice ao no co) (.slice bo n cb)))) := hM1.cell 0 rfl 10
  clear hM1 HM
  go_upto_region 11 with fail
  refine wp_letter (fun W => Mem w W [(w.heap.size, .cells (snB ⟨tos, ttl, 6, id, flags, off, src, dst, opts, body⟩ o b (.iface tcT (.agg (tcA q.src q.dst q.seq q.ack q.flags q.win q.sum q.urg (.slice ao no co) (.slice bo n cb)))) f iv) snT), (w.heap.size + 1, .cells (ptA s) ptT), (w.heap.size + 2, .cells (ptA d) ptT), (w1.heap.size, .cells (tcA q.src q.dst q.seq q.ack q.flags q.win q.sum q.urg (.slice ao no co) (.slice bo n cb)) tcT)]) (HM1.out.push4 rfl) ?_
  intro w2 hM2
  have HM2 : Hid _ := hM2
  have a0 : w2.cell? ⟨w.heap.size + 1, 1, none⟩ = some (.int .u16 s.port) := hM2.cell 1 rfl 1
  have a1 : w2.cell? ⟨w.heap.size + 2, 1, none⟩ = some (.int .u16 d.port) := hM2.cell 2 rfl 1
  have kc : ∀ i, w2.cell? ⟨w1.heap.size, i, none⟩ = (tcA q.src q.dst q.seq q.ack q.flags q.win q.sum q.urg (.slice ao no co) (.slice bo n cb))[i]? := hM2.cell 3 rfl
  have kf : ∀ i, w2.frozen? ⟨w1.heap.size, i, none⟩ = false := hM2.free 3 rfl
  have n1 : w.heap.size + 1 ≠ w1.heap.size := hM2.ne 1 3 rfl rfl (by decide)
  have n2 : w.heap.size + 2 ≠ w1.heap.size := hM2.ne 2 3 rfl rfl (by decide)
  have n1' : w1.heap.size ≠ w.heap.size + 1 := fun e => n1 e.symm
  have n2' : w1.heap.size ≠ w.heap.size + 2 := fun e => n2 e.symm
  clear hM2 HM1 k2 k10
  generalize w1.heap.size = G at *
  go_region_held3 (fun w' => w'.cell? ⟨w.heap.size + 1, 1, none⟩ = some (.int .u16 s.port) ∧ w'.cell? ⟨w.heap.size + 2, 1, none⟩ = some (.int .u16 d.port)) (go_keep) (fail)
  all_goals
    go_upto_region 12 with fail
    refine wp_letter (fun W => Mem w W [(w.heap.size, .cells (snB ⟨tos, ttl, 6, id, flags, off, src, dst, opts, body⟩ o b (.iface tcT (.agg (tcA q.src q.dst q.seq q.ack q.flags q.win q.sum q.urg (.slice ao no co) (.slice bo n cb)))) f iv) snT), (w.heap.size + 1, .cells (ptA s) ptT), (w.heap.size + 2, .cells (ptA d) ptT), (G, .cells (tcA s.port d.port q.seq q.ack q.flags q.win q.sum q.urg (.slice ao no co) (.slice bo n cb)) tcT (0, 0))]) (by first | exact ((HM2.out.drew.set 3 rfl 0 _).set 3 rfl 1 _) | exact ((HM2.out.drew.set 3 rfl 1 _).set 3 rfl 0 _)) ?_
    intro w3 hM3
    have HM3 : Hid _ := hM3
    clear kc kf HM2 a0 a1
    have kc : ∀ i, w3.cell? ⟨G, i, none⟩ = (tcA s.port d.port q.seq q.ack q.flags q.win q.sum q.urg (.slice ao no co) (.slice bo n cb))[i]? := hM3.cell 3 rfl
    have hv3 := HV.out w3 q.sum hM3.below
    rw [HAt.out] at hv3
    have hS := tsum_any HTo.out hv3 s.ip d.ip HS.out.1.ip.1 HS.out.1.ip.2 HS.out.2.ip.1 HS.out.2.ip.2
    rw [HSu.out] at hS
    have b0 : w3.cell? ⟨w.heap.size + 1, 0, none⟩ = some (.int .u32 s.ip) := hM3.cell 1 rfl 0
    have b1 : w3.cell? ⟨w.heap.size + 2, 0, none⟩ = some (.int .u32 d.ip) := hM3.cell 2 rfl 0
    clear hM3 hv3
    go_wp2_with fail
    refine hS.mono ?_
    rintro e w4 ⟨rfl, hb4⟩
    have hM4 := HM3.out.after hb4
    have HM4 : Hid _ := hM4
    clear kc b0 b1 hb4 hS HM3
    have kc : ∀ i, w4.cell? ⟨G, i, none⟩ = (tcA s.port d.port q.seq q.ack q.flags q.win q.sum q.urg (.slice ao no co) (.slice bo n cb))[i]? := hM4.cell 3 rfl
    have kf : ∀ i, w4.frozen? ⟨G, i, none⟩ = false := hM4.free 3 rfl
    clear hM4
    go_upto_region 13 with fail
    refine wp_letter (fun W => Mem w W [(w.heap.size, .cells (snB ⟨tos, ttl, 6, id, flags, off, src, dst, opts, body⟩ o b (.iface tcT (.agg (tcA q.src q.dst q.seq q.ack q.flags q.win q.sum q.urg (.slice ao no co) (.slice bo n cb)))) f iv) snT), (w.heap.size + 1, .cells (ptA s) ptT), (w.heap.size + 2, .cells (ptA d) ptT), (G, .cells (tcA s.port d.port q.seq q.ack q.flags q.win S q.urg (.slice ao no co) (.slice bo n cb)) tcT (0, 0))]) (HM4.out.set 3 rfl 6 _) ?_
    intro w5 hM5
    have HM5 : Hid _ := hM5
    clear kc kf HM4
    have kc : ∀ i, w5.cell? ⟨G, i, none⟩ = (tcA s.port d.port q.seq q.ack q.flags q.win S q.urg (.slice ao no co) (.slice bo n cb))[i]? := hM5.cell 3 rfl
    have hB := tbytes_any (HTo.out.at HR.out.1 HR.out.2) (HV.out w5 S hM5.below)
    rw [← HC.out] at hB
    clear hM5
    go_wp2_with fail
    refine hB.mono ?_
    rintro e w6 ⟨x, rfl, hown, hb6⟩
    have HB4 : Hid _ := HM5.out.below.trans (hb6.mono HM5.out.below.size)
    have HU : Hid _ := own_base hown HM5.out.below.size
    clear hown hb6 hB kc
    go_wp2_with fail
    go_ret
    exact ⟨_, rfl, HU.out, HB4.out⟩

end Go.Proofs.YtjalpbkfpjfigaaGreat

namespace Go.Proofs.YtjalpbkfpjfigaaGreat
open Go.RowKit
open Sm
set_option linter.unusedVariables false

theorem rinner_yes {w : World} {a : Option Addr} {n c : Nat} {l : List Int} (hr : Row w a l) (hn : l.length = n) (hi : inOk l = true) :
    Calls Tryz.prog 40 #[.slice a n c] w fun e w' => e = .returned (.tuple #[.agg #[.int .u32 (inSrc l).ip, .int .u16 (inSrc l).port], .agg #[.int .u32 (inDst l).ip, .int .u16 (inDst l).port], .int .u8 (l.getD 9 0), .int .i64 (hdl l : Nat), .bool true]) ∧ Below w.heap.size w w' := by
  obtain ⟨h20, h4, hh, h8⟩ := inHead_facts (inOk_head hi)
  have hk := inOk_kind hi
  rcases hr.cells with e | ⟨b, off, rfl, -⟩
  · rw [e] at h20; simp at h20
  by_cases y1 : l.getD 9 0 = 1
  · have hb : (l.getD (hdl l) 0 = 8 ∨ l.getD (hdl l) 0 = 0) ∧ l.getD (hdl l + 1) 0 = 0 := by
      unfold inKind at hk
      rw [y1] at hk
      simpa using hk
    have e1 : inSrc l = ⟨w32 l 12, w16 l (hdl l + 4)⟩ := by unfold inSrc; rw [if_pos y1]
    have e2 : inDst l = ⟨w32 l 16, w16 l (hdl l + 4)⟩ := by unfold inDst; rw [if_pos y1]
    rw [e1, e2, y1]
    rcases hb with ⟨ht | ht, hc⟩
    · exact rin_ask hr hn (by omega) h4 hh (by omega) y1 ht hc
    · exact rin_say hr hn (by omega) h4 hh (by omega) y1 ht hc
  · have e1 : inSrc l = ⟨w32 l 12, w16 l (hdl l)⟩ := by unfold inSrc; rw [if_neg y1]
    have e2 : inDst l = ⟨w32 l 16, w16 l (hdl l + 2)⟩ := by unfold inDst; rw [if_neg y1]
    rw [e1, e2]
    by_cases y17 : l.getD 9 0 = 17
    · rw [y17]
      exact rin_udp hr hn (by omega) h4 hh (by omega) y17
    · have y6 : l.getD 9 0 = 6 := by
        unfold inKind at hk
        rw [Bool.or_eq_true] at hk
        rcases hk with hk | hk
        · rcases of_decide_eq_true hk with h | h
          · exact absurd h y17
          · exact h
        · rw [Bool.and_eq_true] at hk
          exact absurd (of_decide_eq_true hk.1) y1
      rw [y6]
      exact rin_tcp hr hn (by omega) h4 hh (by omega) y6
theorem rinner_no {w : World} {a : Option Addr} {n c : Nat} {l : List Int} (hr : Row w a l) (hn : l.length = n) (hi : inOk l = false) :
    Calls Tryz.prog 40 #[.slice a n c] w fun e w' => e = .returned (.tuple #[.agg #[.int .u32 0, .int .u16 0], .agg #[.int .u32 0, .int .u16 0], .int .u8 0, .int .i64 0, .bool false]) ∧ Below w.heap.size w w' := by
  by_cases h20 : n < 20
  · exact rin_short a n c h20
  rcases hr.cells with e | ⟨b, off, rfl, -⟩
  · rw [e] at hn; simp at hn; omega
  by_cases h4 : l.getD 0 0 / 16 = 4
  · by_cases hh : hdl l < 20
    · exact rin_low hr hn (by omega) h4 hh
    by_cases h8 : n < hdl l + 8
    · exact rin_cut hr hn (by omega) h4 (by omega) h8
    have hk : inKind l = false := by rw [← inOk_yes ⟨by omega, h4, by omega, by omega⟩]; exact hi
    unfold inKind at hk
    rw [Bool.or_eq_false_iff] at hk
    have q1 := of_decide_eq_false hk.1
    by_cases y1 : l.getD 9 0 = 1
    · have q2 : ¬ ((l.getD (hdl l) 0 = 8 ∨ l.getD (hdl l) 0 = 0) ∧ l.getD (hdl l + 1) 0 = 0) := by
        have := hk.2
        rw [decide_eq_true y1, Bool.true_and] at this
        exact of_decide_eq_false this
      by_cases t8 : l.getD (hdl l) 0 = 8
      · exact rin_code8 hr hn (by omega) h4 (by omega) (by omega) y1 t8 (fun h => q2 ⟨Or.inl t8, h⟩)
      · by_cases t0 : l.getD (hdl l) 0 = 0
        · exact rin_code0 hr hn (by omega) h4 (by omega) (by omega) y1 t0 (fun h => q2 ⟨Or.inr t0, h⟩)
        · exact rin_type hr hn (by omega) h4 (by omega) (by omega) y1 t8 t0
    · exact rin_other hr hn (by omega) h4 (by omega) (by omega) (fun h => q1 (Or.inl h)) (fun h => q1 (Or.inr h)) y1
  · exact rin_version hr hn (by omega) h4
end Go.Proofs.YtjalpbkfpjfigaaGreat

