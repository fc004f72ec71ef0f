/-
  What rewrite.Inner answers, whatever bytes and points it is handed.
  The packets of few numbers carry what the document asks.
-/
import Derived.Test.YtjalpbkfpjfigabM36
import Derived.Test.YtjalpbkfpjfigabM31
import Derived.Test.YtjalpbkfpjfigabM33
namespace Go.Proofs.Ytjalpbkfpjfigab
open Go.RowKit
open Sm
set_option linter.unusedVariables false
set_option maxRecDepth 20000

set_option maxHeartbeats 2000000 in
theorem inner_no {w : World} {a : Option Addr} {n c : Nat} {l : List Int} (hr : Row w a l) (hn : l.length = n) (hc : n ≤ c) (s d : Pt) (h0 : lkErr l ≠ 0) :
    Calls Try.prog 8 #[.slice a n c, .agg (ptA s), .agg (ptA d)] w fun e w' => e = .returned (.tuple #[.slice none 0 0, .int .i64 (lkErr l)]) ∧ Below w.heap.size w w' := by
  have hM : Mem w ((w.alloc (.cells (ptA s) ptT)).alloc (.cells (ptA d) ptT)) [(w.heap.size, .cells (ptA s) ptT), (w.heap.size + 1, .cells (ptA d) ptT)] := ((Mem.nil w).push1 rfl).push2 (by simp)
  have hL := look_any (hM.row hr) hn hc
  have HZ : Hid (∀ W B v, SeV W B v l → v = .agg sn0) := fun W B v h => by
    rcases h with ⟨-, h⟩ | ⟨h, -⟩
    · exact h
    · exact absurd h h0
  have HM : Hid _ := hM
  clear hM hr hn hc
  generalize lkErr l = E at *
  have h0' : (E == 0) = false := by simp [h0]
  go_enter Try.func8, Try.ntmps8
  go_wp2_with fail
  refine hL.mono ?_
  rintro e w1 ⟨v, rfl, hv, hb1⟩
  obtain rfl := HZ.out _ _ _ hv
  have hgA := heap_alloc_new w1 (.cells sn0 snT)
  have HB : Hid (Below w.heap.size w ((w1.alloc (.cells sn0 snT)).setRow w1.heap.size sn0)) := below_setRow ((HM.out.below.trans (hb1.mono HM.out.below.size)).alloc (Nat.le_trans HM.out.below.size hb1.size) _) (Nat.le_trans HM.out.below.size hb1.size) _
  clear hL hv hb1 HM
  go_wp2_with (refine wpList_store_row rfl snT _ _ rfl w1.heap.size sn0 rfl rfl snT sn0 hgA (by kernel_rfl) rfl sn0_one ?_)
  go_ret2
  exact ⟨rfl, HB.out⟩


namespace Sm
theorem pk_len {l : List Int} (h : IsBytes l) (h0 : ipErr l = 0) : (ipPk l).body.length ≤ 65535 := by
  have := (pk_fits h h0).1.n
  omega
theorem mg_len (l : List Int) : (mgRes l).body.length ≤ l.length := by
  unfold mgRes
  split
  · simp only [mgMg, List.length_take, List.length_drop]; omega
  · simp [Mg.zero]
end Sm
/-- What look has seen, written out. -/
theorem sev_yes {l : List Int} (h0 : lkErr l = 0) {W : World} {B : Nat} {v : Value} (h : SeV W B v l) : ∃ ao bo ia co cb ic bt bu, v = .agg (snB (ipPk l) (.slice ao (ipPk l).opts.length co) (.slice bo (ipPk l).body.length cb) (.iface bt bu) (flFl (ipPk l)) (.slice ia (flFl (ipPk l)).inner.length ic)) ∧ SnL W B (ipPk l) (flFl (ipPk l)) ao bo ia co cb ic bt bu := by
  rcases h with ⟨h, -⟩ | ⟨-, h⟩
  · exact absurd h0 h
  · exact h
/-- What is carried in an error. -/
theorem bdv_in {w : World} {B : Nat} {bt : TypeId} {bu : Value} {p : Pk} (h : BdV w B (.iface bt bu) p) (h1 : ¬ p.proto = 17) (h2 : ¬ p.proto = 6) (hi : 20 ≤ (mgRes p.body).body.length) :
    ∃ g cap, bt = mgT ∧ bu = .agg (mgA (mgRes p.body).typ (mgRes p.body).code (mgRes p.body).sum (mgRes p.body).rest (.slice (some ⟨g, 0, none⟩) (mgRes p.body).body.length cap)) ∧ OwnB w B g cap (mgRes p.body).body ∧ B ≤ g ∧ (mgRes p.body).body.length ≤ cap := by
  rcases h with ⟨e, -⟩ | ⟨e, -⟩ | ⟨e, u, ev, bo, cb, eu, ho, hb, hl⟩
  · exact absurd e h1
  · exact absurd e h2
  · simp only [Value.iface.injEq] at ev
    obtain ⟨rfl, rfl⟩ := ev
    obtain ⟨g, cap, e2, hg, hc, hob⟩ := own_shape2 ho rfl (by omega)
    simp only [Value.slice.injEq] at e2
    obtain ⟨rfl, -, rfl⟩ := e2
    exact ⟨g, cb, rfl, eu, hob, hg, hc⟩
/-- A packet with another body, its options as they were. -/
theorem ipv_body {w W : World} {B D g : Nat} {p : Pk} {ao bo : Option Addr} {co cb : Nat} (h : IpV w B (.agg (ipB p (.slice ao p.opts.length co) (.slice bo p.body.length cb))) p) (ht : Turn g w W) (hf : Far g ao p.opts) {xa : Option Addr} {xn xc : Nat} {body : List Int}
    (ho : W.ownsRow D 5 1 (.slice xa xn xc) xn (body.map (Value.int .u8))) (hl : body.length = xn) (hy : IsBytes body) (hn : xn ≤ 70000) :
    IpV W 0 (.agg (ipA p.tos p.ttl p.proto p.id p.flags p.off p.src p.dst (.slice ao p.opts.length co) (.slice xa xn xc))) (p.bod body) := by
  obtain ⟨ao', co', bo', cb', e, h1, -, h3, -⟩ := h
  simp only [ipA, Value.agg.injEq, Array.mk.injEq, List.cons.injEq, true_and, and_true, Value.slice.injEq] at e
  obtain ⟨⟨rfl, rfl⟩, rfl, rfl⟩ := e
  obtain ⟨za, zc, e, hr, hnil, -⟩ := own_read ho hl hy (by omega)
  cases e
  subst hl
  exact ⟨ao, co, xa, xc, rfl, ht.row h1 hf, hr, h3, hnil, fun _ _ => Nat.zero_le _, fun _ _ => Nat.zero_le _⟩
theorem Turn.set {g : Nat} {w W : World} (h : Turn g w W) {k j : Nat} {v : Value} (hk : w.heap.size ≤ k) : Turn g w (W.setCell ⟨k, j, none⟩ v) :=
  ⟨fun i hi hg => by rw [Below.heap_setCell _ _ _ _ (by simp only; omega)]; exact h.there i hi hg, Nat.le_trans h.size (by simp [World.setCell]), fun B w0 hB hw hb => below_set (h.below B w0 hB hw hb) (Nat.le_trans hw hk)⟩

set_option maxHeartbeats 8000000 in
theorem inner_yes {w : World} {a : Option Addr} {n c : Nat} {l : List Int} (hr : Row w a l) (hn : l.length = n) (hc : n ≤ c) (s d : Pt) (hs : s.Ok) (hd : d.Ok) (h0 : lkErr l = 0) :
    Calls Try.prog 8 #[.slice a n c, .agg (ptA s), .agg (ptA d)] w fun e w' => ∃ u, e = .returned (.tuple #[u, .int .i64 (inErr l s d)]) ∧ w'.ownsRow w.heap.size 5 1 u (inOut l s d).length ((inOut l s d).map (Value.int .u8)) ∧ Below w.heap.size w w' := by
  have hM : Mem w ((w.alloc (.cells (ptA s) ptT)).alloc (.cells (ptA d) ptT)) [(w.heap.size, .cells (ptA s) ptT), (w.heap.size + 1, .cells (ptA d) ptT)] := ((Mem.nil w).push1 rfl).push2 (by simp)
  have hL := look_any (hM.row hr) hn hc
  have hok : (ipPk l).Ok := by have := ipRes_ok hr.bytes; rwa [show ipRes l = ipPk l from if_pos (lk_parts h0).1] at this
  have HO : Hid ((ipPk l).Ok ∧ s.Ok ∧ d.Ok) := ⟨hok, hs, hd⟩
  have HZ : Hid (∀ W B v, SeV W B v l → ∃ ao bo ia co cb ic bt bu, v = .agg (snB (ipPk l) (.slice ao (ipPk l).opts.length co) (.slice bo (ipPk l).body.length cb) (.iface bt bu) (flFl (ipPk l)) (.slice ia (flFl (ipPk l)).inner.length ic)) ∧ SnL W B (ipPk l) (flFl (ipPk l)) ao bo ia co cb ic bt bu) := fun W B v h => sev_yes h0 h
  have HSz : Hid ((ipPk l).body.length ≤ 65535) := by
    have := (pk_len hr.bytes (lk_parts h0).1)
    exact this
  have HM : Hid _ := hM
  have HE : Hid (inErr l s d = if (flFl (ipPk l)).inner.length = 0 then 21 else if inBad (ipPk l) s d = true then 21 else ipbErr (inPk (ipPk l) s d)) := by show _ = _; unfold inErr; rw [if_neg (by omega)]
  have HU : Hid (inOut l s d = if (flFl (ipPk l)).inner.length = 0 then [] else if inBad (ipPk l) s d = true then [] else ipOut (inPk (ipPk l) s d)) := by show _ = _; unfold inOut; rw [if_neg (by omega)]
  have HIn : Hid ((flFl (ipPk l)).inner.length ≠ 0 → ¬ (ipPk l).proto = 17 ∧ ¬ (ipPk l).proto = 6 ∧ inOk (mgRes (ipPk l).body).body = true) := fun h => inner_some h
  rw [h0] at hL
  clear hM hr hn hc h0 hs hd hok
  generalize inErr l s d = E at *
  generalize inOut l s d = U at *
  generalize ipPk l = p at *
  generalize flFl p = f at *
  generalize hno : p.opts.length = no at *
  generalize hnb : p.body.length = nb at *
  generalize hni : f.inner.length = ni at *
  have HNO : Hid (p.opts.length = no ∧ p.body.length = nb ∧ f.inner.length = ni) := ⟨hno, hnb, hni⟩
  clear hno hnb hni
  go_enter Try.func8, Try.ntmps8
  go_wp2_with fail
  refine hL.mono ?_
  rintro e w1 ⟨v, rfl, hv, hb1⟩
  obtain ⟨ao, bo, ia, co, cb, ic, bt, bu, rfl, hsn⟩ := HZ.out _ _ _ hv
  have hM1 := HM.out.after hb1
  have hgA := heap_alloc_new w1 (.cells sn0 snT)
  go_upto_region 2 with (refine wpList_store_row rfl snT _ _ rfl w1.heap.size (snB p (.slice ao no co) (.slice bo nb cb) (.iface bt bu) f (.slice ia ni ic)) rfl rfl snT sn0 hgA (by kernel_rfl) rfl (sn_one ..) ?_)
  refine wp_letter (fun W => Mem w W [(w.heap.size, .cells (ptA s) ptT), (w.heap.size + 1, .cells (ptA d) ptT), (w1.heap.size, .cells (snB p (.slice ao no co) (.slice bo nb cb) (.iface bt bu) f (.slice ia ni ic)) snT (0, 0))] ∧ Below w1.heap.size w1 W) ⟨(hM1.push3 rfl).wrote 2 rfl (wrote_setRow _ _ sn0 (snB p (.slice ao no co) (.slice bo nb cb) (.iface bt bu) f (.slice ia ni ic)) snT hgA), below_setRow ((Below.refl _ _).alloc (Nat.le_refl _) _) (Nat.le_refl _) _⟩ ?_
  intro w2 ⟨hM2, hsn2⟩
  have HM2 : Hid _ := hM2
  have HS2 : Hid (Below w1.heap.size w1 w2) := hsn2
  have HSN : Hid (SnL w1 (w.heap.size + 2) p f ao bo ia co cb ic bt bu) := by
    show SnL w1 (w.heap.size + 2) p f ao bo ia co cb ic bt bu
    have h2 := hsn
    simp at h2
    exact h2
  have hPF := iserr_any (w := w2) f ia ni ic
  obtain ⟨Q, hQ⟩ : ∃ Q, w1.heap.size = Q := ⟨_, rfl⟩
  rw [hQ] at hM2 HM2 HS2
  have q11 : w2.cell? ⟨Q, 11, none⟩ = some (.int .u8 f.proto) := hM2.cell 2 rfl 11
  have q12 : w2.cell? ⟨Q, 12, none⟩ = some (.int .u32 f.src.ip) := hM2.cell 2 rfl 12
  have q13 : w2.cell? ⟨Q, 13, none⟩ = some (.int .u16 f.src.port) := hM2.cell 2 rfl 13
  have q14 : w2.cell? ⟨Q, 14, none⟩ = some (.int .u32 f.dst.ip) := hM2.cell 2 rfl 14
  have q15 : w2.cell? ⟨Q, 15, none⟩ = some (.int .u16 f.dst.port) := hM2.cell 2 rfl 15
  have q16 : w2.cell? ⟨Q, 16, none⟩ = some (.int .u8 f.flags) := hM2.cell 2 rfl 16
  have q17 : w2.cell? ⟨Q, 17, none⟩ = some (.slice ia ni ic) := hM2.cell 2 rfl 17
  clear hM2 hsn2 hM1 hgA hsn hv hb1 hL HM HZ
  rw [hQ]
  have HQ1 : Hid (w1.heap.size = Q) := hQ
  clear hQ
  go_wp2_with fail
  refine hPF.mono ?_
  rintro e w3 ⟨rfl, hb3⟩
  have hM3 := HM2.out.after hb3
  have HM3 : Hid (Mem w w3 [(w.heap.size, .cells (ptA s) ptT), (w.heap.size + 1, .cells (ptA d) ptT), (Q, .cells (snB p (.slice ao no co) (.slice bo nb cb) (.iface bt bu) f (.slice ia ni ic)) snT (0, 0))]) := hM3
  have HS3 : Hid (Below Q w1 w3) := HS2.out.trans (hb3.mono (Nat.le_of_lt (HM2.out.ltAt 2 rfl)))
  clear hPF hb3 q11 q12 q13 q14 q15 q16 q17 HM2 HS2
  by_cases hi : ni = 0
  · rw [if_pos hi] at HE HU
    subst hi
    have HB : Hid _ := hM3.below
    clear hM3
    go_wp2_with fail
    go_ret2
    exact ⟨_, by rw [HE.out] <;> rfl, by rw [HU.out]; exact World.ownsRow_nil _ _ _ _, HB.out⟩
  · rw [if_neg hi] at HE HU
    obtain ⟨hp1, hp2, hin⟩ := HIn.out hi
    have hfc := inHead_facts (inOk_head hin)
    obtain ⟨C, hC, hbd, hopt⟩ := HSN.out.bd
    obtain ⟨g, cap, rfl, rfl, hob, hg, hcap⟩ := bdv_in hbd hp1 hp2 hfc.1
    have hgQ : g < Q := by rw [← HQ1.out]; exact hob.lt (by omega)
    have hob3 := hob.after HS3.out (by rw [HQ1.out]; exact Nat.le_refl _)
    obtain ⟨m, hm⟩ : ∃ m, mgRes p.body = m := ⟨_, rfl⟩
    have hmk := mgRes_ok HO.out.1.body
    have hml := mg_len p.body
    rw [hm] at hob3 hfc hcap hmk hml
    have HB : Hid (inBad p s d = decide (m.body.getD 9 0 = 1 ∧ s.port ≠ d.port)) := by show _ = _; unfold inBad; rw [hm]
    have HPK : Hid (inPk p s d = p.bod (mgOut (inMg m s d))) := by show _ = _; unfold inPk; rw [hm]
    rw [hm]
    obtain ⟨nm, hnm⟩ : ∃ nm, m.body.length = nm := ⟨_, rfl⟩
    rw [hnm] at hfc hcap hml
    have hi' : (0 : Int) < ni := by omega
    have hi2 : 0 < ni := by omega
    have k10 : w3.cell? ⟨Q, 10, none⟩ = some (.iface mgT (.agg (mgA m.typ m.code m.sum m.rest (.slice (some ⟨g, 0, none⟩) nm cap)))) := by have := hM3.cell 2 rfl 10; rw [hm, hnm] at this; exact this
    have c0 : ∀ i, w3.cell? ⟨w.heap.size, i, none⟩ = (ptA s)[i]? := hM3.cell 0 rfl
    have c1 : ∀ i, w3.cell? ⟨w.heap.size + 1, i, none⟩ = (ptA d)[i]? := hM3.cell 1 rfl
    have HG : Hid (C ≤ g ∧ g < Q ∧ w.heap.size + 2 ≤ C ∧ Far g ao p.opts) := ⟨hg, hgQ, hC, by
      rcases hopt with h | h
      · exact Or.inl h
      · exact Or.inr fun x hx e => by have := h x hx; omega⟩
    have HL : Hid (m.body.length = nm ∧ 20 ≤ nm ∧ hdl m.body + 8 ≤ nm ∧ nm ≤ 65535 ∧ m.Ok) := ⟨hnm, hfc.1, hfc.2.2.2, by have := HSz.out; have := HNO.out; omega, hmk⟩
    rw [hm, hnm] at HM3
    by_cases hbad : m.body.getD 9 0 = 1 ∧ s.port ≠ d.port
    · have hIc := inch_bad hmk hob3 hnm hfc.1 HL.out.2.2.2.1 s d hbad
      rw [if_pos (by rw [HB.out]; exact decide_eq_true hbad)] at HE HU
      clear hM3 hbd hopt hob hob3 hcap hfc hml hmk hin hg hgQ hC hbad hm hnm
      go_wp2_with fail
      refine hIc.mono ?_
      rintro e w4 ⟨rfl, hb4⟩
      have hM4 := HM3.out.after hb4
      have HM4 : Hid (Mem w w4 _) := hM4
      have kf : ∀ i, w4.frozen? ⟨Q, i, none⟩ = false := hM4.free 2 rfl
      have k9 : w4.cell? ⟨Q, 9, none⟩ = some (.slice bo nb cb) := hM4.cell 2 rfl 9
      have HB4 : Hid (∀ v, Below w.heap.size w (w4.setCell ⟨Q, 9, none⟩ v)) := fun v => below_set hM4.below (by have := HG.out; omega)
      clear hIc hb4 hM4 k10 c0 c1 HM3
      go_wp2_with fail
      go_ret2
      exact ⟨_, by rw [HE.out] <;> rfl, by rw [HU.out]; exact World.ownsRow_nil _ _ _ _, HB4.out _⟩
    · have hIc := inch_ok hmk hob3 hnm hfc.1 hfc.2.2.2 HL.out.2.2.2.1 hcap s d HO.out.2.1 HO.out.2.2 hbad
      rw [if_neg (by rw [HB.out]; simp only [hbad, decide_false]; decide)] at HE HU
      rw [HPK.out] at HE HU
      have hmo := mgOut_facts (inMg_ok HL.out.2.2.2.2 (by have := HL.out; omega) (by have := HL.out; omega) HO.out.2.1 HO.out.2.2)
      obtain ⟨X, hX⟩ : ∃ X, mgOut (inMg m s d) = X := ⟨_, rfl⟩
      obtain ⟨xn, hxn⟩ : ∃ xn, X.length = xn := ⟨_, rfl⟩
      rw [hX] at hmo hIc HE HU
      rw [hxn] at hIc
      have HX : Hid (X.length = xn ∧ IsBytes X ∧ X.length ≤ 65515) := ⟨hxn, hmo⟩
      clear hM3 hbd hopt hob hob3 hcap hfc hml hmk hin hg hgQ hC hbad hm hnm hX hxn hmo
      go_wp2_with fail
      refine hIc.mono ?_
      rintro e w4 ⟨x, rfl, ht4, hown⟩
      obtain ⟨xa, xc, rfl⟩ := own_len hown
      have hM4 : Mem w w4 [(w.heap.size, .cells (ptA s) ptT), (w.heap.size + 1, .cells (ptA d) ptT), (Q, .cells (snB p (.slice ao no co) (.slice bo nb cb) (.iface mgT (.agg (mgA m.typ m.code m.sum m.rest (.slice (some ⟨g, 0, none⟩) nm cap)))) f (.slice ia ni ic)) snT (0, 0))] := ht4.mem HM3.out (by have := HG.out; omega) (by
        intro q hq
        have := HG.out
        simp only [List.mem_cons, List.not_mem_nil, or_false] at hq
        rcases hq with rfl | rfl | rfl <;> simp only <;> omega)
      have HM4 : Hid _ := hM4
      have kf : ∀ i, w4.frozen? ⟨Q, i, none⟩ = false := hM4.free 2 rfl
      have k9 : w4.cell? ⟨Q, 9, none⟩ = some (.slice bo nb cb) := hM4.cell 2 rfl 9
      have HQ3 : Hid (Q < w3.heap.size) := HM3.out.ltAt 2 rfl
      have HX4 : Hid (w4.ownsRow w3.heap.size 5 1 (.slice xa xn xc) xn (X.map (Value.int .u8))) := hown
      have HT4 : Hid (Turn g w1 w4) := (turn_of (by rw [HQ1.out]; exact HS3.out)).trans ht4
      clear hIc hown ht4 hM4 k10 c0 c1 HM3
      go_upto_region 7 with fail
      refine wp_letter (fun W => Mem w W [(w.heap.size, .cells (ptA s) ptT), (w.heap.size + 1, .cells (ptA d) ptT), (Q, .cells (snB p (.slice ao no co) (.slice xa xn xc) (.iface mgT (.agg (mgA m.typ m.code m.sum m.rest (.slice (some ⟨g, 0, none⟩) nm cap)))) f (.slice ia ni ic)) snT (0, 0))] ∧ Turn g w1 W ∧ W.ownsRow w3.heap.size 5 1 (.slice xa xn xc) xn (X.map (Value.int .u8))) ⟨HM4.out.set 2 rfl 9 _, HT4.out.set (by rw [HQ1.out]; exact Nat.le_refl _), own_above HX4.out ((Above.refl _ _).set HQ3.out)⟩ ?_
      intro w6 ⟨hM6, ht6, hx6⟩
      have HM6 : Hid _ := hM6
      clear k9 kf HM4 HX4 HT4
      have z0 : w6.cell? ⟨Q, 0, none⟩ = some (.int .u8 p.tos) := hM6.cell 2 rfl 0
      have z1 : w6.cell? ⟨Q, 1, none⟩ = some (.int .u8 p.ttl) := hM6.cell 2 rfl 1
      have z2 : w6.cell? ⟨Q, 2, none⟩ = some (.int .u8 p.proto) := hM6.cell 2 rfl 2
      have z3 : w6.cell? ⟨Q, 3, none⟩ = some (.int .u16 p.id) := hM6.cell 2 rfl 3
      have z4 : w6.cell? ⟨Q, 4, none⟩ = some (.int .u8 p.flags) := hM6.cell 2 rfl 4
      have z5 : w6.cell? ⟨Q, 5, none⟩ = some (.int .u16 p.off) := hM6.cell 2 rfl 5
      have z6 : w6.cell? ⟨Q, 6, none⟩ = some (.int .u32 p.src) := hM6.cell 2 rfl 6
      have z7 : w6.cell? ⟨Q, 7, none⟩ = some (.int .u32 p.dst) := hM6.cell 2 rfl 7
      have z8 : w6.cell? ⟨Q, 8, none⟩ = some (.slice ao no co) := hM6.cell 2 rfl 8
      have z9 : w6.cell? ⟨Q, 9, none⟩ = some (.slice xa xn xc) := hM6.cell 2 rfl 9
      have hv6 := ipv_body HSN.out.ip ht6 HG.out.2.2.2 hx6 HX.out.1 HX.out.2.1 (by have := HX.out; omega)
      rw [HNO.out.1] at hv6
      have hB := bytes_any (pkbod_ok HO.out.1 HX.out.2.1) hv6
      clear hM6 ht6 hx6 hv6
      go_wp2_with fail
      refine hB.mono ?_
      rintro e w7 ⟨u, rfl, hown, hb7⟩
      have HB7 : Hid _ := HM6.out.below.trans (hb7.mono HM6.out.below.size)
      have HU7 : Hid _ := own_base hown HM6.out.below.size
      clear hown hb7 hB z0 z1 z2 z3 z4 z5 z6 z7 z8 z9
      go_wp2_with fail
      go_ret2
      exact ⟨_, by rw [HE.out] <;> rfl, by rw [HU.out]; exact HU7.out, HB7.out⟩

/-- What rewrite.Inner answers, whatever it is handed. -/
theorem inner_any {w : World} {a : Option Addr} {n c : Nat} {l : List Int} (hr : Row w a l) (hn : l.length = n) (hc : n ≤ c) (s d : Pt) (hs : s.Ok) (hd : d.Ok) :
    Calls Try.prog 8 #[.slice a n c, .agg (ptA s), .agg (ptA d)] w fun e w' => ∃ u, e = .returned (.tuple #[u, .int .i64 (inErr l s d)]) ∧ w'.ownsRow w.heap.size 5 1 u (inOut l s d).length ((inOut l s d).map (Value.int .u8)) ∧ Below w.heap.size w w' := by
  by_cases h0 : lkErr l = 0
  · exact inner_yes hr hn hc s d hs hd h0
  · refine (inner_no hr hn hc s d h0).mono ?_
    rintro e w' ⟨rfl, hb⟩
    rw [show inErr l s d = lkErr l by unfold inErr; rw [if_pos h0], show inOut l s d = [] by unfold inOut; rw [if_pos h0]]
    exact ⟨_, rfl, World.ownsRow_nil _ _ _ _, hb⟩
end Go.Proofs.Ytjalpbkfpjfigab

namespace Go.Proofs.Ytjalpbkfpjfigab
open Go.RowKit
open Sm
set_option linter.unusedVariables false
namespace Sm
theorem dat_le (n : Int) (h : 0 ≤ n) : (dat n).length ≤ 15 := by rw [dat_len n h]; omega
theorem bodyb_kd {K : Pk} {fr tp fl n : Int} (hp : K.proto = 17 ∨ K.proto = 6 ∨ K.proto = 1) (hb : K.body = bodyb K.proto K.src K.dst fr tp fl n) (hf : 0 ≤ fr ∧ fr ≤ 65535) (ht : 0 ≤ tp ∧ tp ≤ 65535) (hfl : 0 ≤ fl ∧ fl ≤ 255) (hn : 0 ≤ n ∧ n ≤ 255) :
    Kd K ∧ 8 ≤ K.body.length ∧ K.body.length ≤ 60 := by
  have hd := dat_le n hn.1
  have h23 := and23_range hfl.1 hfl.2
  rcases hp with hp | hp | hp
  · have eb : K.body = udOut (bdDg K.src K.dst fr tp fl n) := by rw [hb, hp]; rfl
    have hbd : (bdDg K.src K.dst fr tp fl n).body = dat n := by unfold bdDg; split <;> rfl
    have hlen : (bdDg K.src K.dst fr tp fl n).body.length ≤ 65527 := by rw [hbd]; omega
    have hok : (bdDg K.src K.dst fr tp fl n).Ok := by
      unfold bdDg
      have r := usum_range K.src K.dst ⟨fr, tp, 0, dat n⟩
      split
      · exact ⟨hf, ht, r, dat_bytes n⟩
      · exact ⟨hf, ht, ⟨by simp only; omega, by simp only; omega⟩, dat_bytes n⟩
    rw [udOut_fits hlen] at eb
    refine ⟨Or.inl ⟨hp, _, eb, hok, hlen, ?_⟩, by rw [eb, udb_len]; omega, by rw [eb, udb_len, hbd]; omega⟩
    unfold bdDg
    split
    · exact Or.inr rfl
    · exact Or.inl rfl
  · have eb : K.body = tcOut (bdSg K.src K.dst fr tp fl n) := by rw [hb, hp]; rfl
    have ho : (bdSg0 fr tp fl n).opts.length = 0 ∨ (bdSg0 fr tp fl n).opts.length = 4 := by
      simp only [bdSg0]; split
      · exact Or.inr rfl
      · exact Or.inl rfl
    have hF : TFits (bdSg K.src K.dst fr tp fl n) := ⟨by show (bdSg0 fr tp fl n).opts.length % 4 = 0; omega, by show (bdSg0 fr tp fl n).opts.length ≤ 40; omega, by show 20 + (bdSg0 fr tp fl n).opts.length + (dat n).length ≤ 65515; omega⟩
    have hok : (bdSg K.src K.dst fr tp fl n).Ok := ⟨hf, ht, ⟨hn.1, by simp only [bdSg, Sg.at, bdSg0]; omega⟩, ⟨by simp [bdSg, Sg.at, bdSg0], by simp [bdSg, Sg.at, bdSg0]⟩, h23, ⟨by simp [bdSg, Sg.at, bdSg0], by simp [bdSg, Sg.at, bdSg0]⟩, tsum_range _ _ _, ⟨by simp [bdSg, Sg.at, bdSg0], by simp [bdSg, Sg.at, bdSg0]⟩, by
        simp only [bdSg, Sg.at, bdSg0]
        split
        · repeat (first | exact bytes_nil | refine bytes_cons ⟨by decide, by decide⟩ ?_)
        · exact bytes_nil, dat_bytes n⟩
    rw [tcOut_fits hF] at eb
    have hl : (tcb (bdSg K.src K.dst fr tp fl n)).length = 20 + (bdSg0 fr tp fl n).opts.length + (dat n).length := by rw [tcb_len]; rfl
    exact ⟨Or.inr (Or.inl ⟨hp, _, eb, hok, hF, rfl⟩), by rw [eb, hl]; omega, by rw [eb, hl]; omega⟩
  · have eb : K.body = mgOut (bdMg fr fl n) := by rw [hb, hp]; rfl
    have hlen : (bdMg fr fl n).body.length ≤ 65507 := by show (dat n).length ≤ 65507; omega
    have hok : (bdMg fr fl n).Ok := msl_ok ⟨by simp only; split <;> omega, by simp only; omega, by simp only; omega, by simp only; omega, dat_bytes n⟩
    rw [mgOut_fits hlen] at eb
    have hl : (mgb (bdMg fr fl n)).length = 8 + (dat n).length := by rw [mgb_len]; rfl
    refine ⟨Or.inr (Or.inr ⟨hp, _, eb, hok, hlen, rfl, Or.inl ?_⟩), by rw [eb, hl]; omega, by rw [eb, hl]; omega⟩
    show mecho (msl ⟨if and8 fl 1 ≠ 0 then 0 else 8, 0, 0, fr * 65536 + n, dat n⟩) = true
    unfold mecho msl Mg.at
    simp only
    split <;> rfl
theorem kd_ok {P : Pa} (h : P.Ok) (side k : Int) (hk : 0 ≤ k ∧ k ≤ 255) :
    (Kd (pk0 P side k) ∧ 8 ≤ (pk0 P side k).body.length ∧ (pk0 P side k).body.length ≤ 60) ∧ (Kd (pin P side k) ∧ 8 ≤ (pin P side k).body.length ∧ (pin P side k).body.length ≤ 60) :=
  ⟨bodyb_kd (K := pk0 P side k) (prt_kind _) rfl (ports_range h.fr.1 h.fr.2) (ports_range h.tp.1 h.tp.2) h.fl h.n, bodyb_kd (K := pin P side k) (prt_kind _) rfl (ports_range h.tp.1 h.tp.2) (ports_range h.fr.1 h.fr.2) h.fl h.n⟩
theorem pin_fits {P : Pa} (h : P.Ok) (side k : Int) (hk : 0 ≤ k ∧ k ≤ 255) : Fits (pin P side k) := by
  have := (kd_ok h side k hk).2.2
  exact ⟨by simp [pin], by simp [pin], by simp [pin], by simp [pin], by show 20 + 0 + (pin P side k).body.length ≤ 65535; omega⟩
/-- What is carried stands behind the header. -/
theorem ipb_body {K : Pk} (f : Fits K) (i : Nat) : (ipb K).getD (20 + K.opts.length + i) 0 = K.body.getD i 0 := by
  unfold ipb
  rw [getD_append, hdw_len, if_neg (by omega)]
  congr 1
  omega
theorem mgb_head (m : Mg) : (mgb m).getD 0 0 = m.typ ∧ (mgb m).getD 1 0 = m.code := ⟨rfl, rfl⟩
/-- A packet that stands in an error. -/
theorem kd_in {K : Pk} (hK : K.Ok) (f : Fits K) (k : Kd K) (h8 : 8 ≤ K.body.length) (he : ∀ m, K.proto = 1 → K.body = mgb m → m.Ok → mecho m = true) : inOk (ipb K) = true := by
  have hl := ipb_len K
  have hh := ipb_hdl f []
  rw [List.append_nil] at hh
  have h9 : (ipb K).getD 9 0 = K.proto := by have := ipb_get K [] 9 (by omega); rw [List.append_nil] at this; rw [this]; rfl
  have h0 : (ipb K).getD 0 0 / 16 = 4 := by
    have := ipb_get K [] 0 (by omega); rw [List.append_nil] at this; rw [this]
    have := f.o40
    show (64 + ((20 + K.opts.length : Nat) : Int) / 4) / 16 = 4
    omega
  have e1 : inHead (ipb K) = true := by
    unfold inHead
    rw [hh, hl, h0]
    simp
    omega
  have e2 : inKind (ipb K) = true := by
    unfold inKind
    rw [h9, hh]
    rcases k with ⟨hp, -⟩ | ⟨hp, -⟩ | ⟨hp, m, hb, hm, hn, -⟩
    · simp [hp]
    · simp [hp]
    · have e0 := ipb_body f 0
      have e1 := ipb_body f 1
      rw [Nat.add_zero] at e0
      rw [hb] at e0 e1
      rw [e0, e1, (mgb_head m).1, (mgb_head m).2]
      have := he m hp hb hm
      unfold mecho at this
      simp at this
      simp [hp, this]
  unfold inOk
  rw [e1, e2]; rfl
theorem pin_in {P : Pa} (h : P.Ok) (side k : Int) (hk : 0 ≤ k ∧ k ≤ 255) : inOk (ipb (pin P side k)) = true := by
  have hkd := (kd_ok h side k hk).2
  refine kd_in (pin_ok h hk) (pin_fits h side k hk) hkd.1 hkd.2.1 ?_
  intro m hp hb hm
  have hp' : prt P.pr = 1 := hp
  have eb : (pin P side k).body = mgOut (bdMg (ports P.tp) P.fl P.n) := by show bodyb (prt P.pr) _ _ _ _ _ _ = _; rw [hp']; rfl
  have hl : (bdMg (ports P.tp) P.fl P.n).body.length ≤ 65507 := by show (dat P.n).length ≤ 65507; have := dat_le P.n h.n.1; omega
  rw [mgOut_fits hl, hb] at eb
  have q0 := congrArg (fun l => l.getD 0 0) eb
  have q1 := congrArg (fun l => l.getD 1 0) eb
  simp only [(mgb_head _).1, (mgb_head _).2] at q0 q1
  unfold mecho
  rw [q0, q1]
  show (decide ((if and8 P.fl 1 ≠ 0 then (0 : Int) else 8) = 8 ∨ (if and8 P.fl 1 ≠ 0 then (0 : Int) else 8) = 0) && decide ((0 : Int) = 0)) = true
  split <;> rfl
theorem etyp_kind (n : Int) : etyp n = 3 ∨ etyp n = 11 ∨ etyp n = 12 := by
  unfold etyp
  split
  · left; rfl
  · split
    · right; left; rfl
    · right; right; rfl
theorem pk1_kd {P : Pa} (h : P.Ok) (side k : Int) (hk : 0 ≤ k ∧ k ≤ 255) : Kd (pk1 P side k) ∧ (pk1 P side k).body.length ≤ 300 ∧ Fits (pk1 P side k) := by
  have hkd := kd_ok h side k hk
  unfold pk1
  by_cases e : P.er % 5 = 4
  · rw [if_pos e]
    have fp := pin_fits h side k hk
    have hl : (ipOut (pin P side k)).length ≤ 80 := by rw [ipOut_fits fp, ipb_len]; have := hkd.2.2; show 20 + 0 + (pin P side k).body.length ≤ 80; omega
    have hlen : (perr P side k).body.length ≤ 65507 := by show (ipOut (pin P side k)).length ≤ 65507; omega
    have hm : (mgOut (perr P side k)).length ≤ 88 := by rw [mgOut_fits hlen, mgb_len]; show 8 + (ipOut (pin P side k)).length ≤ 88; omega
    refine ⟨Or.inr (Or.inr ⟨rfl, perr P side k, mgOut_fits hlen, perr_ok h hk, hlen, rfl, Or.inr ?_⟩), by simp only; omega, ⟨by simp, by simp, by simp, by simp, by simp only [List.length_nil]; omega⟩⟩
    have ht := etyp_kind P.n
    refine ⟨?_, ?_, ?_⟩
    · show (decide (etyp P.n = 8 ∨ etyp P.n = 0) && decide ((0 : Int) = 0)) = false
      rcases ht with h | h | h <;> rw [h] <;> rfl
    · show decide (etyp P.n = 3 ∨ etyp P.n = 11 ∨ etyp P.n = 12) = true
      exact decide_eq_true ht
    · show inOk (ipOut (pin P side k)) = true
      rw [ipOut_fits fp]
      exact pin_in h side k hk
  · rw [if_neg e]
    exact ⟨hkd.1.1, by omega, ⟨by simp [pk0], by simp [pk0], by simp [pk0], by simp [pk0], by show 20 + 0 + (pk0 P side k).body.length ≤ 65535; omega⟩⟩
/-- Ttl 9, none spoilt. -/
theorem pktb_nine {P : Pa} (h : P.Ok) (side k : Int) (hk : 0 ≤ k ∧ k ≤ 255) (ht : 5 ≤ P.ttl % 16) (hs : P.sp % 8 ≠ 7) : pktb P side k = ipb (pk1 P side k) := by
  have f := (pk1_kd h side k hk).2.2
  unfold pktb spoil pk2 pkt
  rw [if_neg (by omega), if_neg (by omega), if_neg (by omega), if_neg (by omega), if_neg (by omega), if_neg (by omega), ipOut_fits f]
end Sm
end Go.Proofs.Ytjalpbkfpjfigab

