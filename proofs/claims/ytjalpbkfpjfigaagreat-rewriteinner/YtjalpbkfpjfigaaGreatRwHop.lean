/-
  What rewrite.Hop answers, whatever bytes it is handed.
-/
import Derived.Test.YtjalpbkfpjfigaaGreatRwSeen
import Derived.Test.YtjalpbkfpjfigaaGreatIpBytesNo
namespace Go.Proofs.YtjalpbkfpjfigaaGreat
open Go.RowKit
open Sm
set_option linter.unusedVariables false
set_option maxRecDepth 20000

theorem ipv_hop {w : World} {B : Nat} {p : Pk} {ao bo : Option Addr} {co cb : Nat} (h : IpV w B (.agg (ipB p (.slice ao p.opts.length co) (.slice bo p.body.length cb))) p) (x : Int) :
    IpV w B (.agg (ipA p.tos x p.proto p.id p.flags p.off p.src p.dst (.slice ao p.opts.length co) (.slice bo p.body.length cb))) ⟨p.tos, x, p.proto, p.id, p.flags, p.off, p.src, p.dst, p.opts, p.body⟩ := by
  obtain ⟨ao', co', bo', cb', e, h1⟩ := h
  simp only [ipA, Value.agg.injEq, Array.mk.injEq, List.cons.injEq, true_and, and_true, Value.slice.injEq] at e
  obtain ⟨⟨rfl, rfl⟩, rfl, rfl⟩ := e
  exact ⟨ao, co, bo, cb, rfl, h1⟩

set_option maxHeartbeats 2000000 in
theorem hop_any {w : World} {a : Option Addr} {n c : Nat} {l : List Int} (hr : Row w a l) (hn : l.length = n) (hc : n ≤ c) :
    Calls Tryz.prog 15 #[.slice a n c] w fun r w' => ∃ u, r = .returned (.tuple #[u, .int .i64 (hopErr l)]) ∧ w'.ownsRow w.heap.size 5 1 u (hopOut l).length ((hopOut l).map (Value.int .u8)) ∧ Below w.heap.size w w' := by
  have hP := parse_seen hr hn hc
  have HO : Hid _ := ipRes_ok hr.bytes
  by_cases h0 : ipErr l = 0
  · have ep : ipRes l = ipPk l := if_pos h0
    rw [h0, ep] at hP
    rw [ep] at HO
    by_cases ht : (ipPk l).ttl = 0
    · have e1 : hopErr l = 21 := by unfold hopErr; rw [if_neg (by omega), if_pos ht]
      have e2 : hopOut l = [] := by unfold hopOut; rw [if_neg (by omega), if_pos ht]
      rw [e1, e2]
      clear hr hn hc ep h0 e1 e2 HO
      generalize ipPk l = p at *
      go_enter Tryz.func15, Tryz.ntmps15
      go_wp2_with fail
      refine hP.mono ?_
      rintro e w1 ⟨ao, co, bo, cb, rfl, -, -, hb1⟩
      have HB : Hid (∀ o, Below w.heap.size w (w1.alloc o)) := fun o => hb1.alloc hb1.size o
      clear hP hb1
      go_wp2_with fail
      go_ret2
      exact ⟨_, rfl, World.ownsRow_nil _ _ _ _, HB.out _⟩
    · have e1 : hopErr l = ipbErr (ipPk l).hop := by unfold hopErr; rw [if_neg (by omega), if_neg ht]
      have e2 : hopOut l = ipOut (ipPk l).hop := by unfold hopOut; rw [if_neg (by omega), if_neg ht]
      rw [e1, e2]
      clear hr hn hc ep h0 e1 e2
      generalize ipPk l = p at *
      have hok := HO.out
      have ht1 := hok.ttl
      have hw : IntKind.u8.wrap (p.ttl - 1) = p.ttl - 1 := wrap8_small _ (by omega) (by omega)
      have HH : Hid p.hop.Ok := ⟨hok.tos, ⟨by simp only [Pk.hop]; omega, by simp only [Pk.hop]; omega⟩, hok.proto, hok.id, hok.flags, hok.off, hok.src, hok.dst, hok.opts, hok.body⟩
      clear hok ht1 HO
      generalize hE : ipbErr p.hop = E at *
      generalize hU : ipOut p.hop = U at *
      have HE : Hid (ipbErr p.hop = E ∧ ipOut p.hop = U) := ⟨hE, hU⟩
      clear hE hU
      go_enter Tryz.func15, Tryz.ntmps15
      go_wp2_with fail
      refine hP.mono ?_
      rintro e w1 ⟨ao, co, bo, cb, rfl, hv1, -, hb1⟩
      have hM1 := (Mem.nil w).after hb1
      go_upto_region 7 with fail
      refine wp_letter (fun W => Mem w W [(w1.heap.size, .cells (ipA p.tos (p.ttl - 1) p.proto p.id p.flags p.off p.src p.dst (.slice ao p.opts.length co) (.slice bo p.body.length cb)) ipT (0, 0))] ∧ IpV W 0 (.agg (ipA p.tos (p.ttl - 1) p.proto p.id p.flags p.off p.src p.dst (.slice ao p.opts.length co) (.slice bo p.body.length cb))) p.hop) ⟨hM1.push1 rfl, ((ipv_hop hv1 (p.ttl - 1)).below ((Below.refl _ _).alloc (Nat.le_refl _) _) (Nat.le_refl _)).mono (Nat.zero_le _)⟩ ?_
      intro w2 ⟨hM2, hv2⟩
      have HM2 : Hid _ := hM2
      have kc : ∀ i, w2.cell? ⟨w1.heap.size, i, none⟩ = (ipA p.tos (p.ttl - 1) p.proto p.id p.flags p.off p.src p.dst (.slice ao p.opts.length co) (.slice bo p.body.length cb))[i]? := hM2.cell 0 rfl
      have hB := bytes_any HH.out hv2
      rw [HE.out.1, HE.out.2] at hB
      clear hM1 hv1 hb1 hM2 hv2 hP
      generalize w1.heap.size = P at *
      go_wp2_with fail
      refine hB.mono ?_
      rintro e w3 ⟨u, rfl, hown, hb3⟩
      have HB3 : Hid _ := HM2.out.below.trans (hb3.mono HM2.out.below.size)
      have HU : Hid _ := own_base hown HM2.out.below.size
      clear hown hb3 hB kc
      go_wp2_with fail
      go_ret2
      exact ⟨_, rfl, HU.out, HB3.out⟩
  · have e1 : hopErr l = ipErr l := by unfold hopErr; rw [if_pos h0]
    have e2 : hopOut l = [] := by unfold hopOut; rw [if_pos h0]
    rw [e1, e2]
    clear hr hn hc HO e1 e2
    generalize ipErr l = E at *
    have h0' : (E == 0) = false := by simp [h0]
    go_enter Tryz.func15, Tryz.ntmps15
    go_wp2_with fail
    refine hP.mono ?_
    rintro e w1 ⟨ao, co, bo, cb, rfl, -, -, hb1⟩
    have HB : Hid (∀ o, Below w.heap.size w (w1.alloc o)) := fun o => hb1.alloc hb1.size o
    clear hP hb1
    go_wp2_with fail
    go_ret2
    exact ⟨_, rfl, World.ownsRow_nil _ _ _ _, HB.out _⟩
end Go.Proofs.YtjalpbkfpjfigaaGreat
