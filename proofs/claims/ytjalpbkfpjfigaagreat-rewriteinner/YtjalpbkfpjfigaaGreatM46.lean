/-
  What the document's own lychref8.Inner answers, whatever bytes and points it is handed.
-/
import Derived.Test.YtjalpbkfpjfigaaGreatM43
import Derived.Test.YtjalpbkfpjfigaaGreatM40
import Derived.Test.YtjalpbkfpjfigaaGreatM13
import Derived.Test.YtjalpbkfpjfigaaGreatM45
import Derived.Deep.CutBlock
namespace Go.Proofs.YtjalpbkfpjfigaaGreat
open Go.RowKit
open Sm
set_option linter.unusedVariables false
set_option maxRecDepth 20000

namespace Sm
structure PutM (l : List Int) (s d : Int) (l1 l2 l3 l4 : List Int) (X1 X2 X3 X4 S0 S1 S2 S3 S4 : Int) : Prop where
  e : putw l 12 (s / 65536) = l1 ∧ putw l1 14 (s % 65536) = l2 ∧ putw l2 16 (d / 65536) = l3 ∧ putw l3 18 (d % 65536) = l4
  n : l1.length = l.length ∧ l2.length = l.length ∧ l3.length = l.length ∧ l4.length = l.length
  y : IsBytes l1 ∧ IsBytes l2 ∧ IsBytes l3 ∧ IsBytes l4
  x : w16 l 12 = X1 ∧ w16 l1 14 = X2 ∧ w16 l2 16 = X3 ∧ w16 l3 18 = X4
  r : (0 ≤ X1 ∧ X1 ≤ 65535) ∧ (0 ≤ X2 ∧ X2 ≤ 65535) ∧ (0 ≤ X3 ∧ X3 ≤ 65535) ∧ (0 ≤ X4 ∧ X4 ≤ 65535)
  t : (0 ≤ S0 ∧ S0 ≤ 65535) ∧ (0 ≤ S1 ∧ S1 ≤ 65535) ∧ (0 ≤ S2 ∧ S2 ≤ 65535) ∧ (0 ≤ S3 ∧ S3 ≤ 65535) ∧ (0 ≤ S4 ∧ S4 ≤ 65535)
  u : updv S0 X1 (s / 65536) = S1 ∧ updv S1 X2 (s % 65536) = S2 ∧ updv S2 X3 (d / 65536) = S3 ∧ updv S3 X4 (d % 65536) = S4
  f : putw l4 10 S4 = putA l s d
theorem put_math {l : List Int} (hb : IsBytes l) (h : 20 ≤ l.length) {s d : Int} (hs : 0 ≤ s ∧ s ≤ 4294967295) (hd : 0 ≤ d ∧ d ≤ 4294967295) {S0 : Int} (h0 : w16 l 10 = S0) : ∃ l1 l2 l3 l4 X1 X2 X3 X4 S1 S2 S3 S4, PutM l s d l1 l2 l3 l4 X1 X2 X3 X4 S0 S1 S2 S3 S4 := by
  have n1 : (putw l 12 (s / 65536)).length = l.length := putw_len _ _ _
  have n2 : (putw (putw l 12 (s / 65536)) 14 (s % 65536)).length = l.length := by rw [putw_len, n1]
  have n3 : (putw (putw (putw l 12 (s / 65536)) 14 (s % 65536)) 16 (d / 65536)).length = l.length := by rw [putw_len, n2]
  have n4 : (putw (putw (putw (putw l 12 (s / 65536)) 14 (s % 65536)) 16 (d / 65536)) 18 (d % 65536)).length = l.length := by rw [putw_len, n3]
  have y1 := putw_bytes hb 12 (s / 65536) (by omega) (by omega) (by omega)
  have y2 := putw_bytes y1 14 (s % 65536) (by omega) (by omega) (by omega)
  have y3 := putw_bytes y2 16 (d / 65536) (by omega) (by omega) (by omega)
  have y4 := putw_bytes y3 18 (d % 65536) (by omega) (by omega) (by omega)
  have x2 : w16 (putw l 12 (s / 65536)) 14 = w16 l 14 := w16_putw (by omega) (by omega)
  have x3 : w16 (putw (putw l 12 (s / 65536)) 14 (s % 65536)) 16 = w16 l 16 := by rw [w16_putw (by omega) (by omega), w16_putw (by omega) (by omega)]
  have x4 : w16 (putw (putw (putw l 12 (s / 65536)) 14 (s % 65536)) 16 (d / 65536)) 18 = w16 l 18 := by rw [w16_putw (by omega) (by omega), w16_putw (by omega) (by omega), w16_putw (by omega) (by omega)]
  refine ⟨_, _, _, _, w16 l 12, w16 l 14, w16 l 16, w16 l 18, _, _, _, _, ⟨rfl, rfl, rfl, rfl⟩, ⟨n1, n2, n3, n4⟩, ⟨y1, y2, y3, y4⟩, ⟨rfl, x2, x3, x4⟩, ⟨w16_range hb _, w16_range hb _, w16_range hb _, w16_range hb _⟩, ⟨by rw [← h0]; exact w16_range hb _, updv_range _ _ _, updv_range _ _ _, updv_range _ _ _, updv_range _ _ _⟩, ⟨rfl, rfl, rfl, rfl⟩, ?_⟩
  unfold putA inSum
  rw [h0]
end Sm
set_option maxHeartbeats 2000000 in
theorem rinn_no {w : World} {a : Option Addr} {n c : Nat} {l : List Int} (hr : Row w a l) (hn : l.length = n) (hc : n ≤ c) (s d : Pt) (h0 : lkErr l ≠ 0) :
    Calls Tryz.prog 13 #[.slice a n c, .agg (ptA s), .agg (ptA d)] w fun e w' => e = .returned (.tuple #[.slice none 0 0, .int .i64 (lkErr l)]) ∧ Below w.heap.size w w' := by
  have hM : Mem w ((w.alloc (.cells (ptA s) ptT)).alloc (.cells (ptA d) ptT)) [(w.heap.size, .cells (ptA s) ptT), (w.heap.size + 1, .cells (ptA d) ptT)] := ((Mem.nil w).push1 rfl).push2 (by simp)
  have hL : Calls Tryz.prog 16 #[.slice a n c] _ fun e w' => e = .returned (.tuple #[.agg ip0, .agg flZ, .int .i64 (lkErr l)]) ∧ Below _ _ w' := (rLook_any (hM.row hr) hn hc).mono (by
    rintro e w' (⟨-, h, hb⟩ | ⟨h, -⟩)
    · exact ⟨h, hb⟩
    · exact absurd h h0)
  have HM : Hid _ := hM
  clear hM hr hn hc
  generalize lkErr l = E at *
  have h0' : (E == 0) = false := by simp [h0]
  have h0'' : (E != 0) = true := bne_iff_ne.mpr h0
  go_enter Tryz.func13, Tryz.ntmps13
  go_wp2_with fail
  refine hL.mono ?_
  rintro e w1 ⟨rfl, hb1⟩
  have HB : Hid (Below w.heap.size w w1) := HM.out.below.trans (hb1.mono HM.out.below.size)
  clear hL hb1 HM
  go_upto_region 2 with fail
  refine wp_letter (fun W => Below w.heap.size w W) ((HB.out.alloc HB.out.size _).alloc (by have := HB.out.size; simp; omega) _) ?_
  intro w2 hb2
  have HB2 : Hid (Below w.heap.size w w2) := hb2
  clear hb2 HB
  go_wp2_with fail
  go_ret2
  exact ⟨rfl, HB2.out⟩

set_option maxHeartbeats 8000000 in
theorem rinn_yes {w : World} {a : Option Addr} {n c : Nat} {l : List Int} (hr : Row w a l) (hn : l.length = n) (hc : n ≤ c) (s d : Pt) (hs : s.Ok) (hd : d.Ok) (h0 : lkErr l = 0) :
    Calls Tryz.prog 13 #[.slice a n c, .agg (ptA s), .agg (ptA d)] w fun e w' => ∃ u, e = .returned (.tuple #[u, .int .i64 (inErr l s d)]) ∧ w'.ownsRow w.heap.size 5 1 u (inOut l s d).length ((inOut l s d).map (Value.int .u8)) ∧ Below w.heap.size w w' := by
  have hM : Mem w ((w.alloc (.cells (ptA s) ptT)).alloc (.cells (ptA d) ptT)) [(w.heap.size, .cells (ptA s) ptT), (w.heap.size + 1, .cells (ptA d) ptT)] := ((Mem.nil w).push1 rfl).push2 (by simp)
  have hL := rLook_any (hM.row hr) hn hc
  have hok : (ipPk l).Ok := by have := ipRes_ok hr.bytes; rwa [show ipRes l = ipPk l from if_pos (lk_parts h0).1] at this
  have HO : Hid ((ipPk l).Ok ∧ s.Ok ∧ d.Ok ∧ (ipPk l).body.length ≤ 65535) := ⟨hok, hs, hd, by have := (pk_fits hr.bytes (lk_parts h0).1).1.n; omega⟩
  have HZ : Hid (∀ W W' e, RlV W W' l e → ∃ ao bo ia co cb ic, e = .returned (.tuple #[.agg (ipB (ipPk l) (.slice ao (ipPk l).opts.length co) (.slice bo (ipPk l).body.length cb)), .agg (flB (flFl (ipPk l)) (.slice ia (flFl (ipPk l)).inner.length ic)), .int .i64 0]) ∧
    IpV W' W.heap.size (.agg (ipB (ipPk l) (.slice ao (ipPk l).opts.length co) (.slice bo (ipPk l).body.length cb))) (ipPk l) ∧ (ipPk l).body.length ≤ cb ∧ Below W.heap.size W W') := fun W W' e h => by
    rcases h with ⟨h, -⟩ | ⟨-, ao, bo, ia, co, cb, ic, h1, h2, h3, -, h4⟩
    · exact absurd h0 h
    · exact ⟨ao, bo, ia, co, cb, ic, h1, h2, h3, h4⟩
  have HE : Hid (inErr l s d = if (flFl (ipPk l)).inner.length = 0 then 21 else if inBad (ipPk l) s d = true then 21 else 0) := by
    show _ = _
    unfold inErr
    rw [if_neg (by omega)]
    by_cases hi : (flFl (ipPk l)).inner.length = 0
    · rw [if_pos hi, if_pos hi]
    · rw [if_neg hi, if_neg hi, in_err hr.bytes h0 hi]
  have HU : Hid (inOut l s d = if (flFl (ipPk l)).inner.length = 0 then [] else if inBad (ipPk l) s d = true then [] else ipOut (inPk (ipPk l) s d)) := by show _ = _; unfold inOut; rw [if_neg (by omega)]
  have HIn : Hid ((flFl (ipPk l)).inner.length ≠ 0 → inOk (mgRes (ipPk l).body).body = true) := fun h => (inner_some h).2.2
  have HM : Hid _ := hM
  clear hM hr hn hc h0 hok hs hd
  generalize inErr l s d = EE at *
  generalize inOut l s d = UU at *
  generalize ipPk l = p at *
  generalize flFl p = f at *
  generalize hno : p.opts.length = no at *
  generalize hnb : p.body.length = nb at *
  generalize hni : f.inner.length = ni at *
  have HNO : Hid (p.opts.length = no ∧ p.body.length = nb ∧ f.inner.length = ni) := ⟨hno, hnb, hni⟩
  clear hno hnb hni
  go_enter Tryz.func13, Tryz.ntmps13
  go_wp2_with fail
  refine hL.mono ?_
  rintro e w1 hrl
  obtain ⟨ao, bo, ia, co, cb, ic, rfl, hv1, hcap, hb1⟩ := HZ.out _ _ _ hrl
  have hM1 := HM.out.after hb1
  have HV1 : Hid (IpV w1 0 (.agg (ipB p (.slice ao no co) (.slice bo nb cb))) p) := hv1.mono (Nat.zero_le _)
  have HC : Hid (nb ≤ cb) := hcap
  clear hL hb1 hv1 hcap hrl HZ HM
  go_upto_region 2 with fail
  obtain ⟨Q, hQ⟩ : ∃ Q, w1.heap.size = Q := ⟨_, rfl⟩
  rw [hQ]
  have HQw : Hid (w.heap.size + 1 < Q) := by show _ < _; rw [← hQ]; exact hM1.ltAt 1 rfl
  have HFl : Hid (p.opts = [] ∨ ∀ x, ao = some x → x.block < Q) := by
    rcases (ipv_rows HV1.out).1.cells with e | ⟨b, off, rfl, hc⟩
    · exact Or.inl e
    · by_cases hz : p.opts = []
      · exact Or.inl hz
      · refine Or.inr (fun x hx => ?_)
        cases hx
        rw [← hQ]
        exact cell_lt (hc 0 (List.length_pos_iff.mpr hz))
  have HFa : Hid (Far Q ao p.opts) := far_low (ipv_rows HV1.out).1 (by omega)
  have HNl : Hid (ao = none → co = 0) := by
    have := HV1.out
    obtain ⟨ao', co', bo', cb', e, -, -, h3, -⟩ := this
    simp only [ipA, Value.agg.injEq, Array.mk.injEq, List.cons.injEq, true_and, and_true, Value.slice.injEq] at e
    obtain ⟨⟨rfl, -, rfl⟩, -⟩ := e
    exact h3
  refine wp_letter (fun W => Mem w W [(w.heap.size, .cells (ptA s) ptT), (w.heap.size + 1, .cells (ptA d) ptT), (Q, .cells (ipB p (.slice ao no co) (.slice bo nb cb)) ipT), (Q + 1, .cells (flB f (.slice ia ni ic)) rfT)] ∧ IpV W 0 (.agg (ipB p (.slice ao no co) (.slice bo nb cb))) p) ⟨by rw [← hQ]; exact (hM1.push3 rfl).push4 (by simp), (HV1.out.below ((Below.refl _ _).alloc (Nat.le_refl _) _) (Nat.le_refl _)).below ((Below.refl _ _).alloc (Nat.le_refl _) _) (Nat.le_refl _)⟩ ?_
  intro w2 ⟨hM2, hv2⟩
  have HM2 : Hid (Mem w w2 [(w.heap.size, .cells (ptA s) ptT), (w.heap.size + 1, .cells (ptA d) ptT), (Q, .cells (ipB p (.slice ao no co) (.slice bo nb cb)) ipT), (Q + 1, .cells (flB f (.slice ia ni ic)) rfT)]) := hM2
  have HR2 : Hid (Row w2 ao p.opts ∧ Row w2 bo p.body) := ipv_rows hv2
  have g6 : w2.cell? ⟨Q + 1, 6, none⟩ = some (.slice ia ni ic) := hM2.cell 3 rfl 6
  have r9 : w2.cell? ⟨Q, 9, none⟩ = some (.slice bo nb cb) := hM2.cell 2 rfl 9
  have HB2 : Hid (Below w.heap.size w w2) := hM2.below
  clear hM1 HV1 hM2 hv2 hQ
  by_cases hi : ni = 0
  · rw [if_pos hi] at HE HU
    subst hi
    go_wp2_with fail
    go_ret2
    exact ⟨_, by rw [HE.out] <;> rfl, by rw [HU.out]; exact World.ownsRow_nil _ _ _ _, HB2.out⟩
  · rw [if_neg hi] at HE HU
    have hin := HIn.out hi
    have hi1 : ((ni : Int) == 0) = false := beq_eq_false_iff_ne.mpr (by omega)
    have hi2 : ¬ (ni : Int) = 0 := by omega
    obtain ⟨h20, -, hh, h8⟩ := inHead_facts (inOk_head hin)
    have hU := rmsg_own HR2.out.2 HNO.out.2.1 HC.out (by have := HO.out.2.2.2; omega)
    have HUo : Hid ((mgRes p.body).Ok) := mgRes_ok HO.out.1.body
    have hml := mg_len p.body
    have HBd : Hid (inBad p s d = decide ((mgRes p.body).body.getD 9 0 = 1 ∧ s.port ≠ d.port)) := rfl
    have HPk : Hid (inPk p s d = p.bod (mgOut (inMg (mgRes p.body) s d))) := rfl
    generalize mgRes p.body = m at *
    generalize mgErr p.body = E1 at *
    go_wp2_with fail
    refine hU.mono ?_
    rintro e w4 ⟨v, rfl, hv4, hb4⟩
    obtain ⟨ub, uc, rfl, hown, hbb, -⟩ := hv4
    obtain ⟨g, cap', e2, hg, hcp, hob⟩ := own_shape2 hown rfl (by omega)
    simp only [Value.slice.injEq] at e2
    obtain ⟨rfl, -, rfl⟩ := e2
    obtain ⟨un, hlen⟩ : ∃ un, m.body.length = un := ⟨_, rfl⟩
    have hM4 := HM2.out.after hb4
    have hgl := hob.lt (by omega)
    have HLn : Hid (m.body.length = un ∧ 20 ≤ un ∧ 20 ≤ hdl m.body ∧ hdl m.body + 8 ≤ un ∧ un ≤ 65535 ∧ un ≤ uc ∧ Q + 1 < g ∧ inOk m.body = true ∧ w.heap.size + 1 < Q) := ⟨hlen, by omega, hh, by omega, by have := HO.out.2.2.2; have := HNO.out.2.1; omega, by omega, by have := HM2.out.ltAt 3 rfl; omega, hin, HQw.out⟩
    have HR4 : Hid (OwnB w4 w2.heap.size g uc m.body ∧ Row w4 ao p.opts ∧ g < w4.heap.size) := ⟨hob, HR2.out.1.below hb4 (Nat.le_refl _), hgl⟩
    rw [hlen]
    clear hU hb4 hown hbb hob hg hcp hgl r9 g6 hlen hi hi1 hi2 hml h20 hh h8 hin
    go_upto_region 7 with fail
    obtain ⟨D, hD⟩ : ∃ D, w4.heap.size = D := ⟨_, rfl⟩
    rw [hD]
    have HFg : Hid (Far g ao p.opts) := by
      rcases HFl.out with h | h
      · exact Or.inl h
      · exact Or.inr fun x hx e => by have := h x hx; have := HLn.out; omega
    have HDg : Hid (g < D ∧ Q + 1 < D) := ⟨by rw [← hD]; exact HR4.out.2.2, by rw [← hD]; exact hM4.ltAt 3 rfl⟩
    refine wp_letter (fun W => Mem w W [(w.heap.size, .cells (ptA s) ptT), (w.heap.size + 1, .cells (ptA d) ptT), (Q, .cells (ipB p (.slice ao no co) (.slice bo nb cb)) ipT), (Q + 1, .cells (flB f (.slice ia ni ic)) rfT), (D, .cells (mgA m.typ m.code m.sum m.rest (.slice (some ⟨g, 0, none⟩) un uc)) mgT)] ∧ OwnB W w2.heap.size g uc m.body ∧ Row W ao p.opts) ⟨by rw [← hD]; exact hM4.push _ _ rfl, HR4.out.1.after ((Below.refl _ _).alloc (Nat.le_refl _) _) (Nat.le_refl _), row_alloc HR4.out.2.1⟩ ?_
    intro w5 ⟨hM5, hr5⟩
    have HM5 : Hid (Mem w w5 [(w.heap.size, .cells (ptA s) ptT), (w.heap.size + 1, .cells (ptA d) ptT), (Q, .cells (ipB p (.slice ao no co) (.slice bo nb cb)) ipT), (Q + 1, .cells (flB f (.slice ia ni ic)) rfT), (D, .cells (mgA m.typ m.code m.sum m.rest (.slice (some ⟨g, 0, none⟩) un uc)) mgT)]) := hM5
    have HR5 : Hid (OwnB w5 w2.heap.size g uc m.body ∧ Row w5 ao p.opts) := hr5
    clear hM4 HR4 hD HM2 HR2 HB2
    have k4 : w5.cell? ⟨D, 4, none⟩ = some (.slice (some ⟨g, 0, none⟩) un uc) := hM5.cell 4 rfl 4
    have hYes := rinner_yes (c := uc) (hr5.1.row HUo.out.body (by have := HLn.out; omega)) HLn.out.1 HLn.out.2.2.2.2.2.2.2.1
    clear hM5 hr5
    generalize inSrc m.body = ps at *
    generalize inDst m.body = pd at *
    obtain ⟨H, hH⟩ : ∃ H, hdl m.body = H := ⟨_, rfl⟩
    obtain ⟨y, hy⟩ : ∃ y, m.body.getD 9 0 = y := ⟨_, rfl⟩
    have HHy : Hid (hdl m.body = H ∧ m.body.getD 9 0 = y) := ⟨hH, hy⟩
    rw [hH, hy] at hYes
    rw [hy] at HBd
    clear hH hy
    go_wp2_with fail
    refine hYes.mono ?_
    rintro e w6 ⟨rfl, hb6⟩
    have hM6 := HM5.out.after hb6
    have HR6 : Hid (OwnB w6 w2.heap.size g uc m.body ∧ Row w6 ao p.opts) := ⟨HR5.out.1.after hb6 (Nat.le_refl _), HR5.out.2.below hb6 (Nat.le_refl _)⟩
    clear hYes hb6 k4 HM5 HR5
    go_upto_region 9 with fail
    refine wp_letter (fun W => Mem w W [(w.heap.size, .cells (ptA s) ptT), (w.heap.size + 1, .cells (ptA d) ptT), (Q, .cells (ipB p (.slice ao no co) (.slice bo nb cb)) ipT), (Q + 1, .cells (flB f (.slice ia ni ic)) rfT), (D, .cells (mgA m.typ m.code m.sum m.rest (.slice (some ⟨g, 0, none⟩) un uc)) mgT)] ∧ OwnB W w2.heap.size g uc m.body ∧ Row W ao p.opts) ⟨(hM6.after ((Below.refl _ _).alloc (Nat.le_refl _) _)).after ((Below.refl _ _).alloc (Nat.le_refl _) _), (HR6.out.1.after ((Below.refl _ _).alloc (Nat.le_refl _) _) (Nat.le_refl _)).after ((Below.refl _ _).alloc (Nat.le_refl _) _) (Nat.le_refl _), row_alloc (row_alloc HR6.out.2)⟩ ?_
    intro w7 ⟨hM7, hr7⟩
    have HM7 : Hid (Mem w w7 [(w.heap.size, .cells (ptA s) ptT), (w.heap.size + 1, .cells (ptA d) ptT), (Q, .cells (ipB p (.slice ao no co) (.slice bo nb cb)) ipT), (Q + 1, .cells (flB f (.slice ia ni ic)) rfT), (D, .cells (mgA m.typ m.code m.sum m.rest (.slice (some ⟨g, 0, none⟩) un uc)) mgT)]) := hM7
    have HR7 : Hid (OwnB w7 w2.heap.size g uc m.body ∧ Row w7 ao p.opts) := hr7
    have HB7 : Hid (Below w.heap.size w w7) := hM7.below
    have c1 : w7.cell? ⟨w.heap.size, 1, none⟩ = some (.int .u16 s.port) := hM7.cell 0 rfl 1
    have c2 : w7.cell? ⟨w.heap.size + 1, 1, none⟩ = some (.int .u16 d.port) := hM7.cell 1 rfl 1
    clear hM6 HR6 hM7 hr7
    by_cases hbad : y = 1 ∧ s.port ≠ d.port
    · rw [if_pos (by rw [HBd.out]; exact decide_eq_true hbad)] at HE HU
      have z1 : (y == 1) = true := beq_iff_eq.mpr hbad.1
      have z2 : (s.port != d.port) = true := bne_iff_ne.mpr hbad.2
      clear hbad
      go_wp2_with fail
      go_ret2
      exact ⟨_, by rw [HE.out] <;> rfl, by rw [HU.out]; exact World.ownsRow_nil _ _ _ _, HB7.out⟩
    · rw [if_neg (by rw [HBd.out]; simp only [hbad, decide_false]; decide), HPk.out] at HU
      rw [if_neg (by rw [HBd.out]; simp only [hbad, decide_false]; decide)] at HE
      have zs : ((y == 1) = false ∧ True) ∨ ((y == 1) = true ∧ (s.port != d.port) = false) := by
        by_cases e1 : y = 1
        · right
          refine ⟨beq_iff_eq.mpr e1, ?_⟩
          by_cases e2 : s.port = d.port
          · simp [e2]
          · exact absurd ⟨e1, e2⟩ hbad
        · exact Or.inl ⟨beq_eq_false_iff_ne.mpr e1, trivial⟩
      have q1 := HO.out.2.1.ip
      have q2 := HO.out.2.2.1.ip
      have v1 : IntKind.u16.wrap (s.ip / 65536) = s.ip / 65536 := wrap16_small _ (by omega) (by omega)
      have v2 : IntKind.u16.wrap s.ip = s.ip % 65536 := by simp [IntKind.wrap, IntKind.bits, IntKind.signed]
      have v3 : IntKind.u16.wrap (d.ip / 65536) = d.ip / 65536 := wrap16_small _ (by omega) (by omega)
      have v4 : IntKind.u16.wrap d.ip = d.ip % 65536 := by simp [IntKind.wrap, IntKind.bits, IntKind.signed]
      have a1 : w7.cell? ⟨w.heap.size, 0, none⟩ = some (.int .u32 s.ip) := HM7.out.cell 0 rfl 0
      have a2 : w7.cell? ⟨w.heap.size + 1, 0, none⟩ = some (.int .u32 d.ip) := HM7.out.cell 1 rfl 0
      have HNg : Hid (∀ q ∈ ([(w.heap.size, .cells (ptA s) ptT), (w.heap.size + 1, .cells (ptA d) ptT), (Q, .cells (ipB p (.slice ao no co) (.slice bo nb cb)) ipT), (Q + 1, .cells (flB f (.slice ia ni ic)) rfT), (D, .cells (mgA m.typ m.code m.sum m.rest (.slice (some ⟨g, 0, none⟩) un uc)) mgT)] : List (Nat × Obj)), q.1 ≠ g) := by
        intro q hq
        have := HLn.out
        have := HDg.out
        simp only [List.mem_cons, List.not_mem_nil, or_false] at hq
        rcases hq with rfl | rfl | rfl | rfl | rfl <;> simp only <;> omega
      have C10 : Calls Tryz.prog 41 #[.slice (some ⟨g, 0, none⟩) un uc, .int .i64 10] w7 fun e w' => e = .returned (.int .u16 (w16 m.body 10)) ∧ Mem w w' [(w.heap.size, .cells (ptA s) ptT), (w.heap.size + 1, .cells (ptA d) ptT), (Q, .cells (ipB p (.slice ao no co) (.slice bo nb cb)) ipT), (Q + 1, .cells (flB f (.slice ia ni ic)) rfT), (D, .cells (mgA m.typ m.code m.sum m.rest (.slice (some ⟨g, 0, none⟩) un uc)) mgT)] ∧ OwnB w' w2.heap.size g uc m.body ∧ Row w' ao p.opts := (get16_own HR7.out.1 HUo.out.body (by have := HLn.out; omega) 10 un uc HLn.out.1 (by have := HLn.out; omega)).mono (by
        rintro e w' ⟨rfl, ho, hon⟩
        exact ⟨rfl, hon.mem HM7.out (by have := HLn.out; omega) HNg.out, ho, hon.turn.row HR7.out.2 HFg.out⟩)
      clear hbad q1 q2
      generalize hS0 : w16 m.body 10 = S0 at *
      have HS0 : Hid (w16 m.body 10 = S0) := hS0
      clear hS0
      refine wp_cut (fun a' w' => a'.defers = [] ∧ a'.tmps.size = 185 ∧ a'.tmps.getD 4 undef = .pointer (some ⟨w.heap.size, 0, none⟩) ∧ a'.tmps.getD 5 undef = .pointer (some ⟨w.heap.size + 1, 0, none⟩) ∧ a'.tmps.getD 8 undef = .pointer (some ⟨Q, 0, none⟩) ∧ a'.tmps.getD 9 undef = .pointer (some ⟨Q + 1, 0, none⟩) ∧ a'.tmps.getD 11 undef = .pointer (some ⟨D, 0, none⟩) ∧ a'.tmps.getD 13 undef = .slice (some ⟨g, 0, none⟩) un uc ∧ a'.tmps.getD 16 undef = .int .u8 y ∧ a'.tmps.getD 17 undef = .int .i64 H ∧ a'.tmps.getD 61 undef = .bool false ∧ w' = w7) ?rest ?first
      case first =>
        intro J K2 hJ hK2
        rcases zs with ⟨z1, -⟩ | ⟨z1, z2⟩
        all_goals
          go_wp2_with fail
          exact Met.intro (hJ _ _ ⟨by first | trivial | rfl, rfl, rfl, rfl, rfl, rfl, rfl, rfl, rfl, rfl, rfl, rfl⟩)
      case rest =>
        clear zs
        rintro a' w' ⟨hdf, hsz, y4, y5, y8, y9, y11, y13, y16, y17, y61, rfl⟩
        obtain ⟨fr, hf, ha⟩ := frame185 a' hdf hsz
        rw [hf] at y4 y5 y8 y9 y11 y13 y16 y17 y61
        simp only [y4, y5, y8, y9, y11, y13, y16, y17, y61] at ha
        clear hf y4 y5 y8 y9 y11 y13 y16 y17 y61 hsz hdf
        subst ha
        go_wp2_with fail
        refine C10.mono ?_
        rintro e w8 ⟨rfl, hM8, hr8⟩
        have HM8 : Hid (Mem w w8 [(w.heap.size, .cells (ptA s) ptT), (w.heap.size + 1, .cells (ptA d) ptT), (Q, .cells (ipB p (.slice ao no co) (.slice bo nb cb)) ipT), (Q + 1, .cells (flB f (.slice ia ni ic)) rfT), (D, .cells (mgA m.typ m.code m.sum m.rest (.slice (some ⟨g, 0, none⟩) un uc)) mgT)]) := hM8
        have HR8 : Hid (OwnB w8 w2.heap.size g uc m.body ∧ Row w8 ao p.opts) := hr8
        clear C10 c1 c2 a1 a2 HM7 HR7 HB7
        have a1 : w8.cell? ⟨w.heap.size, 0, none⟩ = some (.int .u32 s.ip) := hM8.cell 0 rfl 0
        have a2 : w8.cell? ⟨w.heap.size + 1, 0, none⟩ = some (.int .u32 d.ip) := hM8.cell 1 rfl 0
        clear hM8 hr8
        go_upto_region 13 with fail
        obtain ⟨N, hN⟩ : ∃ N, w8.heap.size = N := ⟨_, rfl⟩
        rw [hN]
        refine wp_letter (fun W => Mem w W [(w.heap.size, .cells (ptA s) ptT), (w.heap.size + 1, .cells (ptA d) ptT), (Q, .cells (ipB p (.slice ao no co) (.slice bo nb cb)) ipT), (Q + 1, .cells (flB f (.slice ia ni ic)) rfT), (D, .cells (mgA m.typ m.code m.sum m.rest (.slice (some ⟨g, 0, none⟩) un uc)) mgT), (N, .cells #[.int .u16 (s.ip / 65536), .int .u16 (s.ip % 65536), .int .u16 (d.ip / 65536), .int .u16 (d.ip % 65536)] 30)] ∧ OwnB W w2.heap.size g uc m.body ∧ Row W ao p.opts) ⟨by rw [← hN]; exact HM8.out.push _ _ rfl, HR8.out.1.after ((Below.refl _ _).alloc (Nat.le_refl _) _) (Nat.le_refl _), row_alloc HR8.out.2⟩ ?_
        intro w9 ⟨hM9, hr9⟩
        have HI9 : Hid (InW w w9 [(w.heap.size, .cells (ptA s) ptT), (w.heap.size + 1, .cells (ptA d) ptT), (Q, .cells (ipB p (.slice ao no co) (.slice bo nb cb)) ipT), (Q + 1, .cells (flB f (.slice ia ni ic)) rfT), (D, .cells (mgA m.typ m.code m.sum m.rest (.slice (some ⟨g, 0, none⟩) un uc)) mgT), (N, .cells #[.int .u16 (s.ip / 65536), .int .u16 (s.ip % 65536), .int .u16 (d.ip / 65536), .int .u16 (d.ip % 65536)] 30)] w2.heap.size g uc m.body ao p.opts) := ⟨hM9, hr9.1, hr9.2⟩
        have HNn : Hid (g < N) := by show g < N; rw [← hN]; exact HR8.out.1.lt (by have := HLn.out; omega)
        clear a1 a2 HM8 HR8 hM9 hr9 hN
        obtain ⟨l1, l2, l3, l4, X1, X2, X3, X4, S1, S2, S3, S4, hPm⟩ := put_math HUo.out.body (by have := HLn.out; omega) HO.out.2.1.ip HO.out.2.2.1.ip HS0.out
        have HPm : Hid (PutM m.body s.ip d.ip l1 l2 l3 l4 X1 X2 X3 X4 S0 S1 S2 S3 S4) := hPm
        clear hPm
        have HNg2 : Hid (∀ q ∈ ([(w.heap.size, .cells (ptA s) ptT), (w.heap.size + 1, .cells (ptA d) ptT), (Q, .cells (ipB p (.slice ao no co) (.slice bo nb cb)) ipT), (Q + 1, .cells (flB f (.slice ia ni ic)) rfT), (D, .cells (mgA m.typ m.code m.sum m.rest (.slice (some ⟨g, 0, none⟩) un uc)) mgT), (N, .cells #[.int .u16 (s.ip / 65536), .int .u16 (s.ip % 65536), .int .u16 (d.ip / 65536), .int .u16 (d.ip % 65536)] 30)] : List (Nat × Obj)), q.1 ≠ g) := by
          intro q hq
          have := HLn.out
          have := HDg.out
          have := HNn.out
          simp only [List.mem_cons, List.not_mem_nil, or_false] at hq
          rcases hq with rfl | rfl | rfl | rfl | rfl | rfl <;> simp only <;> omega
        go_upto_block 0 with fail
        refine wp_cut (fun a' w' => a'.defers = [] ∧ a'.tmps.size = 185 ∧ a'.tmps.getD 4 undef = .pointer (some ⟨w.heap.size, 0, none⟩) ∧ a'.tmps.getD 5 undef = .pointer (some ⟨w.heap.size + 1, 0, none⟩) ∧ a'.tmps.getD 8 undef = .pointer (some ⟨Q, 0, none⟩) ∧ a'.tmps.getD 9 undef = .pointer (some ⟨Q + 1, 0, none⟩) ∧ a'.tmps.getD 11 undef = .pointer (some ⟨D, 0, none⟩) ∧ a'.tmps.getD 13 undef = .slice (some ⟨g, 0, none⟩) un uc ∧ a'.tmps.getD 16 undef = .int .u8 y ∧ a'.tmps.getD 17 undef = .int .i64 H ∧ a'.tmps.getD 19 undef = .int .u16 S4 ∧ InW w w' [(w.heap.size, .cells (ptA s) ptT), (w.heap.size + 1, .cells (ptA d) ptT), (Q, .cells (ipB p (.slice ao no co) (.slice bo nb cb)) ipT), (Q + 1, .cells (flB f (.slice ia ni ic)) rfT), (D, .cells (mgA m.typ m.code m.sum m.rest (.slice (some ⟨g, 0, none⟩) un uc)) mgT), (N, .cells #[.int .u16 (s.ip / 65536), .int .u16 (s.ip % 65536), .int .u16 (d.ip / 65536), .int .u16 (d.ip % 65536)] 30)] w2.heap.size g uc l4 ao p.opts) ?rest ?first
        case first =>
          intro J K2 hJ hK2
          have hl4 : lkk (fun k => [s.ip / 65536, s.ip % 65536, d.ip / 65536, d.ip % 65536].getD k 0) m.body 4 = l4 := by
            show putw (putw (putw (putw m.body 12 (s.ip / 65536)) 14 (s.ip % 65536)) 16 (d.ip / 65536)) 18 (d.ip % 65536) = l4
            rw [HPm.out.e.1, HPm.out.e.2.1, HPm.out.e.2.2.1, HPm.out.e.2.2.2]
          have hs4 : skk (fun k => [s.ip / 65536, s.ip % 65536, d.ip / 65536, d.ip % 65536].getD k 0) m.body S0 4 = S4 := by
            show updv (updv (updv (updv S0 (w16 m.body 12) (s.ip / 65536)) (w16 (putw m.body 12 (s.ip / 65536)) 14) (s.ip % 65536)) (w16 (putw (putw m.body 12 (s.ip / 65536)) 14 (s.ip % 65536)) 16) (d.ip / 65536)) (w16 (putw (putw (putw m.body 12 (s.ip / 65536)) 14 (s.ip % 65536)) 16 (d.ip / 65536)) 18) (d.ip % 65536) = S4
            rw [HPm.out.e.1, HPm.out.e.2.1, HPm.out.e.2.2.1, HPm.out.x.1, HPm.out.x.2.1, HPm.out.x.2.2.1, HPm.out.x.2.2.2, HPm.out.u.1, HPm.out.u.2.1, HPm.out.u.2.2.1, HPm.out.u.2.2.2]
          refine inn_loop (w := w) (L := [(w.heap.size, .cells (ptA s) ptT), (w.heap.size + 1, .cells (ptA d) ptT), (Q, .cells (ipB p (.slice ao no co) (.slice bo nb cb)) ipT), (Q + 1, .cells (flB f (.slice ia ni ic)) rfT), (D, .cells (mgA m.typ m.code m.sum m.rest (.slice (some ⟨g, 0, none⟩) un uc)) mgT), (N, .cells #[.int .u16 (s.ip / 65536), .int .u16 (s.ip % 65536), .int .u16 (d.ip / 65536), .int .u16 (d.ip % 65536)] 30)]) (B := w2.heap.size) (g := g) (uc := uc) (un := un) (N := N) (l := m.body) (ao := ao) (opts := p.opts) (V := fun k => [s.ip / 65536, s.ip % 65536, d.ip / 65536, d.ip % 65536].getD k 0) (S := S0) rfl rfl rfl rfl rfl rfl rfl rfl rfl rfl rfl rfl rfl HI9.out (by simp) HNg2.out (by have := HLn.out; omega) HFg.out
            HLn.out.1 (by have := HLn.out; omega) (by have := HLn.out; omega) HUo.out.body (fun k => ?_) HPm.out.t.1 _ ?_ K2 _ (fun a' W' r1 r2 r4 r5 r8 r9 r11 r13 r16 r17 r19 rI => hK2 _ _ (Met.intro (hJ _ _ ⟨r1, r2, r4, r5, r8, r9, r11, r13, r16, r17, by rw [r19, hs4], by rw [← hl4]; exact rI⟩)))
          · have q1 := HO.out.2.1.ip
            have q2 := HO.out.2.2.1.ip
            match k with
            | 0 => exact ⟨by show 0 ≤ s.ip / 65536; omega, by show s.ip / 65536 ≤ _; omega⟩
            | 1 => exact ⟨by show 0 ≤ s.ip % 65536; omega, by show s.ip % 65536 ≤ _; omega⟩
            | 2 => exact ⟨by show 0 ≤ d.ip / 65536; omega, by show d.ip / 65536 ≤ _; omega⟩
            | 3 => exact ⟨by show 0 ≤ d.ip % 65536; omega, by show d.ip % 65536 ≤ _; omega⟩
            | k + 4 => exact ⟨Int.le_refl 0, (by decide : (0 : Int) ≤ 65535)⟩
          · with_unfolding_all rfl
        case rest =>
          clear HI9
          rintro a' wa ⟨hdf, hsz, y4, y5, y8, y9, y11, y13, y16, y17, y19, hIa⟩
          obtain ⟨fr, hf, ha⟩ := frame185 a' hdf hsz
          rw [hf] at y4 y5 y8 y9 y11 y13 y16 y17 y19
          simp only [y4, y5, y8, y9, y11, y13, y16, y17, y19] at ha
          clear hf y4 y5 y8 y9 y11 y13 y16 y17 y19 hsz hdf
          subst ha
          have HIa : Hid (InW w wa [(w.heap.size, .cells (ptA s) ptT), (w.heap.size + 1, .cells (ptA d) ptT), (Q, .cells (ipB p (.slice ao no co) (.slice bo nb cb)) ipT), (Q + 1, .cells (flB f (.slice ia ni ic)) rfT), (D, .cells (mgA m.typ m.code m.sum m.rest (.slice (some ⟨g, 0, none⟩) un uc)) mgT), (N, .cells #[.int .u16 (s.ip / 65536), .int .u16 (s.ip % 65536), .int .u16 (d.ip / 65536), .int .u16 (d.ip % 65536)] 30)] w2.heap.size g uc l4 ao p.opts) := hIa
          have cg : wa.cell? ⟨g, 10, none⟩ = some (.int .u8 (l4.getD 10 0)) := hIa.own.cell 10 (by have := HPm.out.n; have := HLn.out; omega)
          have ch : wa.cell? ⟨g, 11, none⟩ = some (.int .u8 (l4.getD 11 0)) := hIa.own.cell 11 (by have := HPm.out.n; have := HLn.out; omega)
          have fg1 := hIa.own.free 10
          have fg2 := hIa.own.free 11
          have q10 : (10 : Int) < (un : Int) := by have := HLn.out; omega
          have q11 : (11 : Int) < (un : Int) := by have := HLn.out; omega
          have p10 : 10 < un := by have := HLn.out; omega
          have p11 : 11 < un := by have := HLn.out; omega
          have t1 : IntKind.u8.wrap (S4 / 256) = S4 / 256 := wrap8_small _ (by have := HPm.out.t; omega) (by have := HPm.out.t; omega)
          have t2 : IntKind.u8.wrap S4 = S4 % 256 := by simp [IntKind.wrap, IntKind.bits, IntKind.signed]
          generalize l4.getD 10 0 = z1 at cg
          generalize l4.getD 11 0 = z2 at ch
          clear hIa
          go_upto_region 19 with fail
          refine wp_letter (fun W => InW w W [(w.heap.size, .cells (ptA s) ptT), (w.heap.size + 1, .cells (ptA d) ptT), (Q, .cells (ipB p (.slice ao no co) (.slice bo nb cb)) ipT), (Q + 1, .cells (flB f (.slice ia ni ic)) rfT), (D, .cells (mgA m.typ m.code m.sum m.rest (.slice (some ⟨g, 0, none⟩) un uc)) mgT), (N, .cells #[.int .u16 (s.ip / 65536), .int .u16 (s.ip % 65536), .int .u16 (d.ip / 65536), .int .u16 (d.ip % 65536)] 30)] w2.heap.size g uc (putA m.body s.ip d.ip) ao p.opts) ⟨((((Only.refl g wa).set 10 _).set 11 _).mem HIa.out.mem (by have := HLn.out; omega) HNg2.out), by rw [← HPm.out.f]; exact (HIa.out.own.store 10 _).store 11 _, (HIa.out.row.beside HFg.out).beside HFg.out⟩ ?_
          intro wb hIb
          clear cg ch fg1 fg2 t1 t2 HIa HPm
          have HIb : Hid (InW w wb [(w.heap.size, .cells (ptA s) ptT), (w.heap.size + 1, .cells (ptA d) ptT), (Q, .cells (ipB p (.slice ao no co) (.slice bo nb cb)) ipT), (Q + 1, .cells (flB f (.slice ia ni ic)) rfT), (D, .cells (mgA m.typ m.code m.sum m.rest (.slice (some ⟨g, 0, none⟩) un uc)) mgT), (N, .cells #[.int .u16 (s.ip / 65536), .int .u16 (s.ip % 65536), .int .u16 (d.ip / 65536), .int .u16 (d.ip % 65536)] 30)] w2.heap.size g uc (putA m.body s.ip d.ip) ao p.opts) := hIb
          have HA9 : Hid ((putA m.body s.ip d.ip).getD 9 0 = y ∧ hdl (putA m.body s.ip d.ip) = H ∧ (putA m.body s.ip d.ip).length = un) := by
            refine ⟨?_, ?_, ?_⟩
            · rw [putA_get (by have := HLn.out; omega) _ _ 9 (by omega)]; exact HHy.out.2
            · rw [hdl_putA (by have := HLn.out; omega)]; exact HHy.out.1
            · rw [putA_len]; exact HLn.out.1
          have HIP : Hid (inPut m.body s d = if y = 1 then putw (putA m.body s.ip d.ip) (H + 4) s.port else putw (putw (putA m.body s.ip d.ip) H s.port) (H + 2) d.port) := by
            show _ = _
            unfold inPut putP
            rw [HA9.out.1, HA9.out.2.1]
          have H8 : H + 8 ≤ un := by have := HLn.out; have := HHy.out.1; omega
          have hun : un ≤ 65535 := by have := HLn.out; omega
          go_upto_if 125 with fail
          refine wp_cut (fun a' w' => a'.defers = [] ∧ a'.tmps.size = 185 ∧ a'.tmps.getD 8 undef = .pointer (some ⟨Q, 0, none⟩) ∧ a'.tmps.getD 11 undef = .pointer (some ⟨D, 0, none⟩) ∧ InW w w' [(w.heap.size, .cells (ptA s) ptT), (w.heap.size + 1, .cells (ptA d) ptT), (Q, .cells (ipB p (.slice ao no co) (.slice bo nb cb)) ipT), (Q + 1, .cells (flB f (.slice ia ni ic)) rfT), (D, .cells (mgA m.typ m.code m.sum m.rest (.slice (some ⟨g, 0, none⟩) un uc)) mgT), (N, .cells #[.int .u16 (s.ip / 65536), .int .u16 (s.ip % 65536), .int .u16 (d.ip / 65536), .int .u16 (d.ip % 65536)] 30)] w2.heap.size g uc (inPut m.body s d) ao p.opts) ?rest ?first
          case first =>
            intro J K2 hJ hK2
            refine inn_ports (w := w) (L := [(w.heap.size, .cells (ptA s) ptT), (w.heap.size + 1, .cells (ptA d) ptT), (Q, .cells (ipB p (.slice ao no co) (.slice bo nb cb)) ipT), (Q + 1, .cells (flB f (.slice ia ni ic)) rfT), (D, .cells (mgA m.typ m.code m.sum m.rest (.slice (some ⟨g, 0, none⟩) un uc)) mgT), (N, .cells #[.int .u16 (s.ip / 65536), .int .u16 (s.ip % 65536), .int .u16 (d.ip / 65536), .int .u16 (d.ip % 65536)] 30)]) (B := w2.heap.size) (g := g) (uc := uc) (un := un) (H := H) (p4 := w.heap.size) (p5 := w.heap.size + 1) (l := putA m.body s.ip d.ip) (ao := ao) (opts := p.opts) (y := y) (sp := s.port) (dp := d.port) rfl rfl rfl rfl rfl rfl rfl rfl rfl HIb.out (fun W' hm => hm.cell 0 rfl 1) (fun W' hm => hm.cell 1 rfl 1) (by have := HLn.out; omega) (by have := HLn.out; omega) HNg2.out (by have := HLn.out; omega) HFg.out
              HA9.out.2.2 H8 (by omega) HO.out.2.1.port HO.out.2.2.1.port _ ?_ K2 _ (fun a' W' r1 r2 r8 r11 rI => hK2 _ _ (Met.intro (hJ _ _ ⟨r1, r2, r8, r11, by rw [HIP.out]; exact rI⟩)))
            with_unfolding_all rfl
          case rest =>
            clear HIb HIP HA9 hIb
            rintro a' wc ⟨hdf, hsz, y8, y11, hIc⟩
            obtain ⟨fr, hf, ha⟩ := frame185 a' hdf hsz
            rw [hf] at y8 y11
            simp only [y8, y11] at ha
            clear hf y8 y11 hsz hdf
            subst ha
            have hlP : (inPut m.body s d).length = un := by rw [inPut_len]; exact HLn.out.1
            have hPb : IsBytes (inPut m.body s d) := inPut_bytes HUo.out.body (by have := HLn.out; omega) (by have := HLn.out; omega) HO.out.2.1 HO.out.2.2.1
            have HQo : Hid ((m.bod (inPut m.body s d)).Ok) := bod_ok HUo.out hPb
            have HXb : Hid (IsBytes (mgOut (inMg m s d)) ∧ (mgOut (inMg m s d)).length ≤ 65515) := mgOut_facts (inMg_ok HUo.out (by have := HLn.out; omega) (by have := HLn.out; omega) HO.out.2.1 HO.out.2.2.1)
            have HCu : Hid (inMg m s d = (m.bod (inPut m.body s d)).at (msum (m.bod (inPut m.body s d)))) := rfl
            have HMb : Hid (m.bod (inPut m.body s d) = ⟨m.typ, m.code, m.sum, m.rest, inPut m.body s d⟩) := rfl
            generalize inPut m.body s d = PB at *
            have HFd : Hid (Far D (some ⟨g, 0, none⟩) PB ∧ Far D ao p.opts) := by
              refine ⟨Or.inr fun x hx e => ?_, ?_⟩
              · cases hx; simp only at e; have := HDg.out; omega
              · rcases HFl.out with h | h
                · exact Or.inl h
                · exact Or.inr fun x hx e => by have := h x hx; have := HDg.out; omega
            have hv6 : MgV wc 0 (.agg (mgA m.typ m.code m.sum m.rest (.slice (some ⟨g, 0, none⟩) un uc))) (m.bod PB) := ⟨some ⟨g, 0, none⟩, uc, by rw [← hlP]; rfl, hIc.own.row hPb (by omega), (fun h => by cases h), fun _ _ => Nat.zero_le _⟩
            have kd : ∀ i, wc.cell? ⟨D, i, none⟩ = (mgA m.typ m.code m.sum m.rest (.slice (some ⟨g, 0, none⟩) un uc))[i]? := hIc.mem.cell 4 rfl
            have hS := rmsum_any HQo.out hv6
            obtain ⟨S, hSS⟩ : ∃ S, msum (m.bod PB) = S := ⟨_, rfl⟩
            have hSr := msum_range (m.bod PB)
            rw [hSS] at hS HCu hSr
            have HSr : Hid (0 ≤ S ∧ S ≤ 65535) := hSr
            have HMc : Hid (Mem w wc [(w.heap.size, .cells (ptA s) ptT), (w.heap.size + 1, .cells (ptA d) ptT), (Q, .cells (ipB p (.slice ao no co) (.slice bo nb cb)) ipT), (Q + 1, .cells (flB f (.slice ia ni ic)) rfT), (D, .cells (mgA m.typ m.code m.sum m.rest (.slice (some ⟨g, 0, none⟩) un uc)) mgT), (N, .cells #[.int .u16 (s.ip / 65536), .int .u16 (s.ip % 65536), .int .u16 (d.ip / 65536), .int .u16 (d.ip % 65536)] 30)] ∧ Row wc (some ⟨g, 0, none⟩) PB ∧ Row wc ao p.opts) := ⟨hIc.mem, hIc.own.row hPb (by omega), hIc.row⟩
            have HlP : Hid (PB.length = un) := hlP
            clear hv6 hSS hSr hIc hPb hlP
            go_wp2_with fail
            refine hS.mono ?_
            rintro e w10 ⟨rfl, hb10⟩
            have hM10 := HMc.out.1.after hb10
            have HM10 : Hid (Mem w w10 [(w.heap.size, .cells (ptA s) ptT), (w.heap.size + 1, .cells (ptA d) ptT), (Q, .cells (ipB p (.slice ao no co) (.slice bo nb cb)) ipT), (Q + 1, .cells (flB f (.slice ia ni ic)) rfT), (D, .cells (mgA m.typ m.code m.sum m.rest (.slice (some ⟨g, 0, none⟩) un uc)) mgT), (N, .cells #[.int .u16 (s.ip / 65536), .int .u16 (s.ip % 65536), .int .u16 (d.ip / 65536), .int .u16 (d.ip % 65536)] 30)] ∧ Row w10 (some ⟨g, 0, none⟩) PB ∧ Row w10 ao p.opts) := ⟨hM10, HMc.out.2.1.below hb10 (Nat.le_refl _), HMc.out.2.2.below hb10 (Nat.le_refl _)⟩
            clear hS hb10 kd HMc
            have kd : ∀ i, w10.cell? ⟨D, i, none⟩ = (mgA m.typ m.code m.sum m.rest (.slice (some ⟨g, 0, none⟩) un uc))[i]? := hM10.cell 4 rfl
            have kfd : ∀ i, w10.frozen? ⟨D, i, none⟩ = false := hM10.free 4 rfl
            clear hM10
            go_upto_region 24 with fail
            refine wp_letter (fun W => Mem w W [(w.heap.size, .cells (ptA s) ptT), (w.heap.size + 1, .cells (ptA d) ptT), (Q, .cells (ipB p (.slice ao no co) (.slice bo nb cb)) ipT), (Q + 1, .cells (flB f (.slice ia ni ic)) rfT), (D, .cells (mgA m.typ m.code S m.rest (.slice (some ⟨g, 0, none⟩) un uc)) mgT), (N, .cells #[.int .u16 (s.ip / 65536), .int .u16 (s.ip % 65536), .int .u16 (d.ip / 65536), .int .u16 (d.ip % 65536)] 30)] ∧ Row W (some ⟨g, 0, none⟩) PB ∧ Row W ao p.opts) ⟨HM10.out.1.set 4 rfl 2 _, HM10.out.2.1.beside HFd.out.1, HM10.out.2.2.beside HFd.out.2⟩ ?_
            intro w11 ⟨hM11, hr11⟩
            have HM11 : Hid (Mem w w11 [(w.heap.size, .cells (ptA s) ptT), (w.heap.size + 1, .cells (ptA d) ptT), (Q, .cells (ipB p (.slice ao no co) (.slice bo nb cb)) ipT), (Q + 1, .cells (flB f (.slice ia ni ic)) rfT), (D, .cells (mgA m.typ m.code S m.rest (.slice (some ⟨g, 0, none⟩) un uc)) mgT), (N, .cells #[.int .u16 (s.ip / 65536), .int .u16 (s.ip % 65536), .int .u16 (d.ip / 65536), .int .u16 (d.ip % 65536)] 30)]) := hM11
            have HRo : Hid (Row w11 ao p.opts) := hr11.2
            clear kd kfd HM10
            have kd : ∀ i, w11.cell? ⟨D, i, none⟩ = (mgA m.typ m.code S m.rest (.slice (some ⟨g, 0, none⟩) un uc))[i]? := hM11.cell 4 rfl
            have hv8 : MgV w11 0 (.agg (mgA m.typ m.code S m.rest (.slice (some ⟨g, 0, none⟩) un uc))) ((m.bod PB).at S) := ⟨some ⟨g, 0, none⟩, uc, by rw [← HlP.out]; rfl, hr11.1, (fun h => by cases h), fun _ _ => Nat.zero_le _⟩
            have hB := rmbytes_any (q := (m.bod PB).at S) (HQo.out.at HSr.out.1 HSr.out.2) hv8
            rw [← HCu.out] at hB
            generalize mgbErr (inMg m s d) = E9 at *
            generalize mgOut (inMg m s d) = X at *
            clear hv8 hr11 hM11
            go_wp2_with fail
            refine hB.mono ?_
            rintro e w12 ⟨x, rfl, hown, hb12⟩
            obtain ⟨xa, xc, rfl⟩ := own_len hown
            have hM12 := HM11.out.after hb12
            have HM12 : Hid (Mem w w12 [(w.heap.size, .cells (ptA s) ptT), (w.heap.size + 1, .cells (ptA d) ptT), (Q, .cells (ipB p (.slice ao no co) (.slice bo nb cb)) ipT), (Q + 1, .cells (flB f (.slice ia ni ic)) rfT), (D, .cells (mgA m.typ m.code S m.rest (.slice (some ⟨g, 0, none⟩) un uc)) mgT), (N, .cells #[.int .u16 (s.ip / 65536), .int .u16 (s.ip % 65536), .int .u16 (d.ip / 65536), .int .u16 (d.ip % 65536)] 30)]) := hM12
            have HO12 : Hid (Row w12 ao p.opts ∧ w11.heap.size ≤ w12.heap.size ∧ Q < w11.heap.size) := ⟨HRo.out.below hb12 (Nat.le_refl _), hb12.size, HM11.out.ltAt 2 rfl⟩
            have HX12 : Hid (w12.ownsRow w11.heap.size 5 1 (.slice xa X.length xc) X.length (X.map (Value.int .u8))) := hown
            have k9 : w12.cell? ⟨Q, 9, none⟩ = some (.slice bo nb cb) := hM12.cell 2 rfl 9
            have kf9 : ∀ i, w12.frozen? ⟨Q, i, none⟩ = false := hM12.free 2 rfl
            clear hB hown hb12 hM12 kd
            go_upto_region 25 with fail
            refine wp_letter (fun W => Mem w W [(w.heap.size, .cells (ptA s) ptT), (w.heap.size + 1, .cells (ptA d) ptT), (Q, .cells (ipB p (.slice ao no co) (.slice xa X.length xc)) ipT), (Q + 1, .cells (flB f (.slice ia ni ic)) rfT), (D, .cells (mgA m.typ m.code S m.rest (.slice (some ⟨g, 0, none⟩) un uc)) mgT), (N, .cells #[.int .u16 (s.ip / 65536), .int .u16 (s.ip % 65536), .int .u16 (d.ip / 65536), .int .u16 (d.ip % 65536)] 30)] ∧ Row W ao p.opts ∧ Row W xa X ∧ (xa = none → xc = 0)) (by
              obtain ⟨za, zc, e, hr, hnil, hfar, -⟩ := own_read HX12.out rfl HXb.out.1 (by have := HXb.out.2; omega)
              cases e
              exact ⟨HM12.out.set 2 rfl 9 _, HO12.out.1.beside HFa.out, hr.beside (Or.inr fun y hy e => by have := hfar y hy; have := HO12.out; omega), hnil⟩) ?_
            intro w13 ⟨hM13, hro, hrx, hnx⟩
            have HM13 : Hid (Below w.heap.size w w13) := hM13.below
            have hv5 : IpV w13 0 (.agg (ipB p (.slice ao no co) (.slice xa X.length xc))) (p.bod X) := ⟨ao, co, xa, xc, by simp only [Pk.bod, HNO.out.1], hro, hrx, HNl.out, hnx, fun _ _ => Nat.zero_le _, fun _ _ => Nat.zero_le _⟩
            have hB := rbytes_any (pkbod_ok HO.out.1 HXb.out.1) hv5
            have kc : ∀ i, w13.cell? ⟨Q, i, none⟩ = (ipB p (.slice ao no co) (.slice xa X.length xc))[i]? := hM13.cell 2 rfl
            clear hM13 hro hrx hnx hv5 k9 kf9 HM12 HO12 HX12
            go_wp2_with fail
            refine hB.mono ?_
            rintro e w14 ⟨u, rfl, hown, hb14⟩
            have HB14 : Hid (Below w.heap.size w w14) := HM13.out.trans (hb14.mono HM13.out.size)
            have HU14 : Hid _ := own_base hown HM13.out.size
            clear hown hb14 hB kc
            go_wp2_with fail
            go_ret2
            exact ⟨_, by rw [HE.out] <;> rfl, by rw [HU.out]; exact HU14.out, HB14.out⟩
end Go.Proofs.YtjalpbkfpjfigaaGreat

