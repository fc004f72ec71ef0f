/-
  What rewrite.look and rewrite.Look answer, whatever bytes they are handed.
  What the document's own lychref8.inner answers, whatever bytes it is handed.
  What rewrite.Hop answers, whatever bytes it is handed.
-/
import Derived.Test.YtjalpbkfpjfigaaGreatM28
import Derived.OwnWalk
import Derived.Test.YtjalpbkfpjfigaaGreatM22
import Derived.Test.YtjalpbkfpjfigaaGreatM08
import Derived.Test.YtjalpbkfpjfigaaGreatM23
namespace Go.Proofs.YtjalpbkfpjfigaaGreat
open Go.RowKit
open Sm
set_option linter.unusedVariables false
set_option maxRecDepth 20000

/-- What rewrite.look tells of the bytes l. -/
def SeV (w : World) (B : Nat) (v : Value) (l : List Int) : Prop :=
  (lkErr l ≠ 0 ∧ v = .agg sn0) ∨ (lkErr l = 0 ∧ ∃ ao bo ia co cb ic bt bu, v = .agg (snB (ipPk l) (.slice ao (ipPk l).opts.length co) (.slice bo (ipPk l).body.length cb) (.iface bt bu) (flFl (ipPk l)) (.slice ia (flFl (ipPk l)).inner.length ic)) ∧
    SnL w B (ipPk l) (flFl (ipPk l)) ao bo ia co cb ic bt bu)

theorem sn0_one : sn0.all (fun x => x.oneCell') = true := by first | kernel_rfl | simp [Value.oneCell']
theorem sn_one (p : Pk) (ao bo ia : Option Addr) (no co nb cb ni ic : Nat) (bt : TypeId) (bu : Value) (f : Fl) : (snB p (.slice ao no co) (.slice bo nb cb) (.iface bt bu) f (.slice ia ni ic)).all (fun x => x.oneCell') = true := by first | kernel_rfl | simp [Value.oneCell']

set_option maxHeartbeats 4000000 in
theorem look_no0 {w : World} {a : Option Addr} {n c : Nat} {l : List Int} (hr : Row w a l) (hn : l.length = n) (hc : n ≤ c) (h0 : ipErr l ≠ 0) :
    Calls Tryz.prog 27 #[.slice a n c] w fun e w' => ∃ v, e = .returned (.tuple #[v, .int .i64 (ipErr l)]) ∧ v = .agg sn0 ∧ Below w.heap.size w w' := by
  have hM : Mem w (w.alloc (.cells sn0 snT)) [(w.heap.size, .cells sn0 snT)] := (Mem.nil w).push1 rfl
  have hP := parse_seen (hM.row hr) hn hc
  have HO : Hid _ := ipRes_ok hr.bytes
  have HM0 : Hid _ := hM
  clear hM hr hn hc
  generalize ipErr l = E at *
  generalize ipRes l = p at *
  go_enter Tryz.func27, Tryz.ntmps27
  go_wp2_with fail
  refine hP.mono ?_
  rintro e w1 ⟨ao, co, bo, cb, rfl, hv1, hcap, hb1⟩
  clear hP
  have hM1 := HM0.out.after hb1
  have hlt : (w.alloc (.cells sn0 snT)).heap.size = w.heap.size + 1 := by simp
  rw [hlt] at hv1
  have HC : Hid (p.body.length ≤ cb) := hcap
  have HLow : Hid _ := ipv_low hv1
  go_upto_region 2 with fail
  refine wp_letter (fun W => Mem w W [(w.heap.size, .cells sn0 snT), (w1.heap.size, .cells (ipB p (.slice ao p.opts.length co) (.slice bo p.body.length cb)) ipT)] ∧ IpV W (w.heap.size + 1) (.agg (ipB p (.slice ao p.opts.length co) (.slice bo p.body.length cb))) p ∧ w1.heap.size < W.heap.size) ⟨hM1.push2 rfl, hv1.below ((Below.refl _ _).alloc (Nat.le_refl _) _) (Nat.le_refl _), by simp⟩ ?_
  intro w2 ⟨hM2, hv2, hsz2⟩
  have HM2 : Hid _ := hM2
  have HI2 : Hid (IpV w2 (w.heap.size + 1) (.agg (ipB p (.slice ao p.opts.length co) (.slice bo p.body.length cb))) p) := hv2
  have HSZ : Hid (w1.heap.size < w2.heap.size) := hsz2
  clear hM1 hv1 hb1 hcap hlt HM0 hM2 hv2 hsz2
  generalize w1.heap.size = Q at *
  have hX := HM2.out
  have h0' : (E == 0) = false := by simp [h0]
  clear HI2 HM2 HO HC HLow
  have HX : Hid (Mem w w2 _) := hX.first
  clear hX
  have hgR := HX.out.get 0 rfl
  go_wp2_with (refine wpList_store_row rfl snT _ _ rfl w.heap.size sn0 rfl rfl snT sn0 hgR (by kernel_rfl) rfl sn0_one ?_)
  have hz := HX.out.wrote 0 rfl (wrote_setRow _ _ sn0 sn0 snT hgR)
  (try simp only [Exit.inBlock, Exit.then])
  refine bodyPost_ret (v := .tuple #[.agg sn0, .int .i64 E]) ?hres rfl ?hpost
  case hres => exact results_cell_tmp (p := 2) (q := 3) (ty := snT) rfl _ _ w.heap.size sn0 rfl (run_loadVar_row _ _ snT snT _ (0, 0) _ (hz.get 0 rfl) Tryz.underlying66 rfl (by kernel_rfl))
  case hpost => exact ⟨_, rfl, rfl, hz.below⟩

set_option maxHeartbeats 4000000 in
theorem look_no1 {w : World} {a : Option Addr} {n c : Nat} {l : List Int} (hr : Row w a l) (hn : l.length = n) (hc : n ≤ c) (h0 : ipErr l = 0) (h1 : bdErr (ipRes l) ≠ 0) :
    Calls Tryz.prog 27 #[.slice a n c] w fun e w' => ∃ v, e = .returned (.tuple #[v, .int .i64 (bdErr (ipRes l))]) ∧ v = .agg sn0 ∧ Below w.heap.size w w' := by
  have hM : Mem w (w.alloc (.cells sn0 snT)) [(w.heap.size, .cells sn0 snT)] := (Mem.nil w).push1 rfl
  have hP := parse_seen (hM.row hr) hn hc
  have HO : Hid _ := ipRes_ok hr.bytes
  have HM0 : Hid _ := hM
  clear hM hr hn hc
  rw [h0] at hP
  clear h0
  generalize ipRes l = p at *
  generalize hE : bdErr p = E at *
  go_enter Tryz.func27, Tryz.ntmps27
  go_wp2_with fail
  refine hP.mono ?_
  rintro e w1 ⟨ao, co, bo, cb, rfl, hv1, hcap, hb1⟩
  clear hP
  have hM1 := HM0.out.after hb1
  have hlt : (w.alloc (.cells sn0 snT)).heap.size = w.heap.size + 1 := by simp
  rw [hlt] at hv1
  have HC : Hid (p.body.length ≤ cb) := hcap
  have HLow : Hid _ := ipv_low hv1
  go_upto_region 2 with fail
  refine wp_letter (fun W => Mem w W [(w.heap.size, .cells sn0 snT), (w1.heap.size, .cells (ipB p (.slice ao p.opts.length co) (.slice bo p.body.length cb)) ipT)] ∧ IpV W (w.heap.size + 1) (.agg (ipB p (.slice ao p.opts.length co) (.slice bo p.body.length cb))) p ∧ w1.heap.size < W.heap.size) ⟨hM1.push2 rfl, hv1.below ((Below.refl _ _).alloc (Nat.le_refl _) _) (Nat.le_refl _), by simp⟩ ?_
  intro w2 ⟨hM2, hv2, hsz2⟩
  have HM2 : Hid _ := hM2
  have HI2 : Hid (IpV w2 (w.heap.size + 1) (.agg (ipB p (.slice ao p.opts.length co) (.slice bo p.body.length cb))) p) := hv2
  have HSZ : Hid (w1.heap.size < w2.heap.size) := hsz2
  clear hM1 hv1 hb1 hcap hlt HM0 hM2 hv2 hsz2
  generalize w1.heap.size = Q at *
  have hM2 := HM2.out
  have kc : ∀ i, w2.cell? ⟨Q, i, none⟩ = (ipB p (.slice ao p.opts.length co) (.slice bo p.body.length cb))[i]? := hM2.cell 1 rfl
  have hR := bread_any (p := p) (ao := ao) (no := p.opts.length) (co := co) (ipv_row HI2.out) HC.out
  have hsz := hM2.lt (p := (w.heap.size, _)) (List.mem_cons_self ..)
  have HB2 : Hid (w.heap.size + 1 ≤ w2.heap.size) := hsz
  clear hM2 hsz
  rw [hE] at hR
  go_wp2_with fail
  refine hR.mono ?_
  rintro e w3 ⟨u, rfl, hbd, hb3⟩
  have hM3 := HM2.out.after hb3
  have HM3 : Hid (Mem w w3 [(w.heap.size, .cells sn0 snT), (Q, .cells (ipB p (.slice ao p.opts.length co) (.slice bo p.body.length cb)) ipT)]) := hM3
  have HI3 : Hid (IpV w3 (w.heap.size + 1) (.agg (ipB p (.slice ao p.opts.length co) (.slice bo p.body.length cb))) p) := HI2.out.below hb3 (Nat.le_refl _)
  have hX := HM3.out
  clear hbd hM3 hR kc HM2 HI2 HI3 HM3
  have h0' : (E == 0) = false := by simp [h1]
  have HX : Hid (Mem w w3 _) := hX.first
  clear hX
  have hgR := HX.out.get 0 rfl
  go_wp2_with (refine wpList_store_row rfl snT _ _ rfl w.heap.size sn0 rfl rfl snT sn0 hgR (by kernel_rfl) rfl sn0_one ?_)
  have hz := HX.out.wrote 0 rfl (wrote_setRow _ _ sn0 sn0 snT hgR)
  (try simp only [Exit.inBlock, Exit.then])
  refine bodyPost_ret (v := .tuple #[.agg sn0, .int .i64 E]) ?hres rfl ?hpost
  case hres => exact results_cell_tmp (p := 2) (q := 3) (ty := snT) rfl _ _ w.heap.size sn0 rfl (run_loadVar_row _ _ snT snT _ (0, 0) _ (hz.get 0 rfl) Tryz.underlying66 rfl (by kernel_rfl))
  case hpost => exact ⟨_, rfl, rfl, hz.below⟩

set_option maxHeartbeats 4000000 in
theorem look_no2 {w : World} {a : Option Addr} {n c : Nat} {l : List Int} (hr : Row w a l) (hn : l.length = n) (hc : n ≤ c) (h0 : ipErr l = 0) (h1 : bdErr (ipRes l) = 0) (h2 : bdRight (ipRes l) = false) :
    Calls Tryz.prog 27 #[.slice a n c] w fun e w' => ∃ v, e = .returned (.tuple #[v, .int .i64 22]) ∧ v = .agg sn0 ∧ Below w.heap.size w w' := by
  have hM : Mem w (w.alloc (.cells sn0 snT)) [(w.heap.size, .cells sn0 snT)] := (Mem.nil w).push1 rfl
  have hP := parse_seen (hM.row hr) hn hc
  have HO : Hid _ := ipRes_ok hr.bytes
  have HM0 : Hid _ := hM
  clear hM hr hn hc
  rw [h0] at hP
  clear h0
  generalize ipRes l = p at *
  go_enter Tryz.func27, Tryz.ntmps27
  go_wp2_with fail
  refine hP.mono ?_
  rintro e w1 ⟨ao, co, bo, cb, rfl, hv1, hcap, hb1⟩
  clear hP
  have hM1 := HM0.out.after hb1
  have hlt : (w.alloc (.cells sn0 snT)).heap.size = w.heap.size + 1 := by simp
  rw [hlt] at hv1
  have HC : Hid (p.body.length ≤ cb) := hcap
  have HLow : Hid _ := ipv_low hv1
  go_upto_region 2 with fail
  refine wp_letter (fun W => Mem w W [(w.heap.size, .cells sn0 snT), (w1.heap.size, .cells (ipB p (.slice ao p.opts.length co) (.slice bo p.body.length cb)) ipT)] ∧ IpV W (w.heap.size + 1) (.agg (ipB p (.slice ao p.opts.length co) (.slice bo p.body.length cb))) p ∧ w1.heap.size < W.heap.size) ⟨hM1.push2 rfl, hv1.below ((Below.refl _ _).alloc (Nat.le_refl _) _) (Nat.le_refl _), by simp⟩ ?_
  intro w2 ⟨hM2, hv2, hsz2⟩
  have HM2 : Hid _ := hM2
  have HI2 : Hid (IpV w2 (w.heap.size + 1) (.agg (ipB p (.slice ao p.opts.length co) (.slice bo p.body.length cb))) p) := hv2
  have HSZ : Hid (w1.heap.size < w2.heap.size) := hsz2
  clear hM1 hv1 hb1 hcap hlt HM0 hM2 hv2 hsz2
  generalize w1.heap.size = Q at *
  have hM2 := HM2.out
  have kc : ∀ i, w2.cell? ⟨Q, i, none⟩ = (ipB p (.slice ao p.opts.length co) (.slice bo p.body.length cb))[i]? := hM2.cell 1 rfl
  have hR := bread_any (p := p) (ao := ao) (no := p.opts.length) (co := co) (ipv_row HI2.out) HC.out
  have hsz := hM2.lt (p := (w.heap.size, _)) (List.mem_cons_self ..)
  have HB2 : Hid (w.heap.size + 1 ≤ w2.heap.size) := hsz
  clear hM2 hsz
  rw [h1] at hR
  go_wp2_with fail
  refine hR.mono ?_
  rintro e w3 ⟨u, rfl, hbd, hb3⟩
  have hM3 := HM2.out.after hb3
  have HM3 : Hid (Mem w w3 [(w.heap.size, .cells sn0 snT), (Q, .cells (ipB p (.slice ao p.opts.length co) (.slice bo p.body.length cb)) ipT)]) := hM3
  have HI3 : Hid (IpV w3 (w.heap.size + 1) (.agg (ipB p (.slice ao p.opts.length co) (.slice bo p.body.length cb))) p) := HI2.out.below hb3 (Nat.le_refl _)
  have hbd := hbd trivial
  have hR := bright_any (o := .slice ao p.opts.length co) (b := .slice bo p.body.length cb) HO.out hbd
  rw [h2] at hR
  obtain ⟨bt, bu, rfl⟩ := bdv_iface hbd
  have HB3 : Hid (BdV w3 w2.heap.size (.iface bt bu) p) := hbd
  clear hbd hb3 kc HI2 HM2
  have kc : ∀ i, w3.cell? ⟨Q, i, none⟩ = (ipB p (.slice ao p.opts.length co) (.slice bo p.body.length cb))[i]? := hM3.cell 1 rfl
  clear hM3
  go_wp2_with fail
  refine hR.mono ?_
  rintro e w4 ⟨rfl, hb4⟩
  have hM4 := HM3.out.after hb4
  have HM4 : Hid (Mem w w4 [(w.heap.size, .cells sn0 snT), (Q, .cells (ipB p (.slice ao p.opts.length co) (.slice bo p.body.length cb)) ipT)]) := hM4
  have HI4 : Hid (IpV w4 (w.heap.size + 1) (.agg (ipB p (.slice ao p.opts.length co) (.slice bo p.body.length cb))) p) := HI3.out.below hb4 (Nat.le_refl _)
  have hbd4 := HB3.out.below hb4 (Nat.le_refl _)
  have HB4 : Hid (BdV w4 w2.heap.size (.iface bt bu) p) := hbd4
  clear hR hb4 kc HI3 HM3 HB3
  have hX := HM4.out
  clear hbd4 hM4 HI4 HM4 HB4
  have HX : Hid (Mem w w4 _) := hX.first
  clear hX
  have hgR := HX.out.get 0 rfl
  go_wp2_with (refine wpList_store_row rfl snT _ _ rfl w.heap.size sn0 rfl rfl snT sn0 hgR (by kernel_rfl) rfl sn0_one ?_)
  have hz := HX.out.wrote 0 rfl (wrote_setRow _ _ sn0 sn0 snT hgR)
  (try simp only [Exit.inBlock, Exit.then])
  refine bodyPost_ret (v := .tuple #[.agg sn0, .int .i64 22]) ?hres rfl ?hpost
  case hres => exact results_cell_tmp (p := 2) (q := 3) (ty := snT) rfl _ _ w.heap.size sn0 rfl (run_loadVar_row _ _ snT snT _ (0, 0) _ (hz.get 0 rfl) Tryz.underlying66 rfl (by kernel_rfl))
  case hpost => exact ⟨_, rfl, rfl, hz.below⟩

set_option maxHeartbeats 4000000 in
theorem look_no3 {w : World} {a : Option Addr} {n c : Nat} {l : List Int} (hr : Row w a l) (hn : l.length = n) (hc : n ≤ c) (h0 : ipErr l = 0) (h1 : bdErr (ipRes l) = 0) (h2 : bdRight (ipRes l) = true) (h3 : flErr (ipRes l) ≠ 0) :
    Calls Tryz.prog 27 #[.slice a n c] w fun e w' => ∃ v, e = .returned (.tuple #[v, .int .i64 (flErr (ipRes l))]) ∧ v = .agg sn0 ∧ Below w.heap.size w w' := by
  have hM : Mem w (w.alloc (.cells sn0 snT)) [(w.heap.size, .cells sn0 snT)] := (Mem.nil w).push1 rfl
  have hP := parse_seen (hM.row hr) hn hc
  have HO : Hid _ := ipRes_ok hr.bytes
  have HM0 : Hid _ := hM
  clear hM hr hn hc
  rw [h0] at hP
  clear h0
  generalize ipRes l = p at *
  generalize hF : flFl p = F at *
  generalize hE : flErr p = E at *
  go_enter Tryz.func27, Tryz.ntmps27
  go_wp2_with fail
  refine hP.mono ?_
  rintro e w1 ⟨ao, co, bo, cb, rfl, hv1, hcap, hb1⟩
  clear hP
  have hM1 := HM0.out.after hb1
  have hlt : (w.alloc (.cells sn0 snT)).heap.size = w.heap.size + 1 := by simp
  rw [hlt] at hv1
  have HC : Hid (p.body.length ≤ cb) := hcap
  have HLow : Hid _ := ipv_low hv1
  go_upto_region 2 with fail
  refine wp_letter (fun W => Mem w W [(w.heap.size, .cells sn0 snT), (w1.heap.size, .cells (ipB p (.slice ao p.opts.length co) (.slice bo p.body.length cb)) ipT)] ∧ IpV W (w.heap.size + 1) (.agg (ipB p (.slice ao p.opts.length co) (.slice bo p.body.length cb))) p ∧ w1.heap.size < W.heap.size) ⟨hM1.push2 rfl, hv1.below ((Below.refl _ _).alloc (Nat.le_refl _) _) (Nat.le_refl _), by simp⟩ ?_
  intro w2 ⟨hM2, hv2, hsz2⟩
  have HM2 : Hid _ := hM2
  have HI2 : Hid (IpV w2 (w.heap.size + 1) (.agg (ipB p (.slice ao p.opts.length co) (.slice bo p.body.length cb))) p) := hv2
  have HSZ : Hid (w1.heap.size < w2.heap.size) := hsz2
  clear hM1 hv1 hb1 hcap hlt HM0 hM2 hv2 hsz2
  generalize w1.heap.size = Q at *
  have hM2 := HM2.out
  have kc : ∀ i, w2.cell? ⟨Q, i, none⟩ = (ipB p (.slice ao p.opts.length co) (.slice bo p.body.length cb))[i]? := hM2.cell 1 rfl
  have hR := bread_any (p := p) (ao := ao) (no := p.opts.length) (co := co) (ipv_row HI2.out) HC.out
  have hsz := hM2.lt (p := (w.heap.size, _)) (List.mem_cons_self ..)
  have HB2 : Hid (w.heap.size + 1 ≤ w2.heap.size) := hsz
  clear hM2 hsz
  rw [h1] at hR
  go_wp2_with fail
  refine hR.mono ?_
  rintro e w3 ⟨u, rfl, hbd, hb3⟩
  have hM3 := HM2.out.after hb3
  have HM3 : Hid (Mem w w3 [(w.heap.size, .cells sn0 snT), (Q, .cells (ipB p (.slice ao p.opts.length co) (.slice bo p.body.length cb)) ipT)]) := hM3
  have HI3 : Hid (IpV w3 (w.heap.size + 1) (.agg (ipB p (.slice ao p.opts.length co) (.slice bo p.body.length cb))) p) := HI2.out.below hb3 (Nat.le_refl _)
  have hbd := hbd trivial
  have hR := bright_any (o := .slice ao p.opts.length co) (b := .slice bo p.body.length cb) HO.out hbd
  rw [h2] at hR
  obtain ⟨bt, bu, rfl⟩ := bdv_iface hbd
  have HB3 : Hid (BdV w3 w2.heap.size (.iface bt bu) p) := hbd
  clear hbd hb3 kc HI2 HM2
  have kc : ∀ i, w3.cell? ⟨Q, i, none⟩ = (ipB p (.slice ao p.opts.length co) (.slice bo p.body.length cb))[i]? := hM3.cell 1 rfl
  clear hM3
  go_wp2_with fail
  refine hR.mono ?_
  rintro e w4 ⟨rfl, hb4⟩
  have hM4 := HM3.out.after hb4
  have HM4 : Hid (Mem w w4 [(w.heap.size, .cells sn0 snT), (Q, .cells (ipB p (.slice ao p.opts.length co) (.slice bo p.body.length cb)) ipT)]) := hM4
  have HI4 : Hid (IpV w4 (w.heap.size + 1) (.agg (ipB p (.slice ao p.opts.length co) (.slice bo p.body.length cb))) p) := HI3.out.below hb4 (Nat.le_refl _)
  have hbd4 := HB3.out.below hb4 (Nat.le_refl _)
  have HB4 : Hid (BdV w4 w2.heap.size (.iface bt bu) p) := hbd4
  clear hR hb4 kc HI3 HM3 HB3
  have hR := flow_any (o := .slice ao p.opts.length co) (b := .slice bo p.body.length cb) HO.out hbd4
  rw [hF] at hR
  rw [hE] at hR
  have kc : ∀ i, w4.cell? ⟨Q, i, none⟩ = (ipB p (.slice ao p.opts.length co) (.slice bo p.body.length cb))[i]? := hM4.cell 1 rfl
  clear hM4 hbd4
  go_wp2_with fail
  refine hR.mono ?_
  rintro e w5 ⟨u, rfl, hfl, hb5⟩
  obtain ⟨ia, ic, rfl, hpt⟩ := hfl.open
  have hM5 := HM4.out.after hb5
  have HI5 : Hid (IpV w5 (w.heap.size + 1) (.agg (ipB p (.slice ao p.opts.length co) (.slice bo p.body.length cb))) p) := HI4.out.below hb5 (Nat.le_refl _)
  have HB5 : Hid (BdV w5 w2.heap.size (.iface bt bu) p) := HB4.out.below hb5 (Nat.le_refl _)
  have HS5 : Hid (w.heap.size + 1 ≤ w4.heap.size) := HM4.out.lt (p := (w.heap.size, _)) (List.mem_cons_self ..)
  have HP5 : Hid (PtsV w5 (w.heap.size + 1) (.slice ia F.inner.length ic) F.inner) := hpt.mono HS5.out
  clear hR hb5 kc HI4 HM4 HB4 hfl hpt
  go_upto_region 10 with fail
  refine wp_letter (fun W => Mem w W [(w.heap.size, .cells sn0 snT), (Q, .cells (ipB p (.slice ao p.opts.length co) (.slice bo p.body.length cb)) ipT), (w5.heap.size, .cells (flB F (.slice ia F.inner.length ic)) flT)] ∧ SnL W (w.heap.size + 1) p F ao bo ia co cb ic bt bu) ⟨hM5.push3 rfl, SnL.below ⟨HI5.out, HC.out, ⟨w2.heap.size, HB2.out, HB5.out, HLow.out.imp id (fun h x hx => Nat.lt_trans (h x hx) HSZ.out)⟩, HP5.out⟩ ((Below.refl _ _).alloc (Nat.le_refl _) _) (Nat.le_refl _)⟩ ?_
  intro w6 ⟨hX, hs6⟩
  have HM6 : Hid _ := hX
  have HS6 : Hid (SnL w6 (w.heap.size + 1) p F ao bo ia co cb ic bt bu) := hs6
  clear hM5 HI5 HB5 HS5 HP5 hs6
  generalize w5.heap.size = G at *
  clear HS6 HM6
  have h0' : (E == 0) = false := by simp [h3]
  have HX : Hid (Mem w w6 _) := hX.first
  clear hX
  have hgR := HX.out.get 0 rfl
  go_wp2_with (refine wpList_store_row rfl snT _ _ rfl w.heap.size sn0 rfl rfl snT sn0 hgR (by kernel_rfl) rfl sn0_one ?_)
  have hz := HX.out.wrote 0 rfl (wrote_setRow _ _ sn0 sn0 snT hgR)
  (try simp only [Exit.inBlock, Exit.then])
  refine bodyPost_ret (v := .tuple #[.agg sn0, .int .i64 E]) ?hres rfl ?hpost
  case hres => exact results_cell_tmp (p := 2) (q := 3) (ty := snT) rfl _ _ w.heap.size sn0 rfl (run_loadVar_row _ _ snT snT _ (0, 0) _ (hz.get 0 rfl) Tryz.underlying66 rfl (by kernel_rfl))
  case hpost => exact ⟨_, rfl, rfl, hz.below⟩

set_option maxHeartbeats 4000000 in
theorem look_yes {w : World} {a : Option Addr} {n c : Nat} {l : List Int} (hr : Row w a l) (hn : l.length = n) (hc : n ≤ c) (h0 : ipErr l = 0) (h1 : bdErr (ipRes l) = 0) (h2 : bdRight (ipRes l) = true) (h3 : flErr (ipRes l) = 0) :
    Calls Tryz.prog 27 #[.slice a n c] w fun e w' => ∃ v, e = .returned (.tuple #[v, .int .i64 0]) ∧ (∃ ao bo ia co cb ic bt bu, v = .agg (snB (ipRes l) (.slice ao (ipRes l).opts.length co) (.slice bo (ipRes l).body.length cb) (.iface bt bu) (flFl (ipRes l)) (.slice ia (flFl (ipRes l)).inner.length ic)) ∧ SnL w' w.heap.size (ipRes l) (flFl (ipRes l)) ao bo ia co cb ic bt bu) ∧ Below w.heap.size w w' := by
  have hM : Mem w (w.alloc (.cells sn0 snT)) [(w.heap.size, .cells sn0 snT)] := (Mem.nil w).push1 rfl
  have hP := parse_seen (hM.row hr) hn hc
  have HO : Hid _ := ipRes_ok hr.bytes
  have HM0 : Hid _ := hM
  clear hM hr hn hc
  rw [h0] at hP
  clear h0
  generalize ipRes l = p at *
  generalize hF : flFl p = F at *
  go_enter Tryz.func27, Tryz.ntmps27
  go_wp2_with fail
  refine hP.mono ?_
  rintro e w1 ⟨ao, co, bo, cb, rfl, hv1, hcap, hb1⟩
  clear hP
  have hM1 := HM0.out.after hb1
  have hlt : (w.alloc (.cells sn0 snT)).heap.size = w.heap.size + 1 := by simp
  rw [hlt] at hv1
  have HC : Hid (p.body.length ≤ cb) := hcap
  have HLow : Hid _ := ipv_low hv1
  go_upto_region 2 with fail
  refine wp_letter (fun W => Mem w W [(w.heap.size, .cells sn0 snT), (w1.heap.size, .cells (ipB p (.slice ao p.opts.length co) (.slice bo p.body.length cb)) ipT)] ∧ IpV W (w.heap.size + 1) (.agg (ipB p (.slice ao p.opts.length co) (.slice bo p.body.length cb))) p ∧ w1.heap.size < W.heap.size) ⟨hM1.push2 rfl, hv1.below ((Below.refl _ _).alloc (Nat.le_refl _) _) (Nat.le_refl _), by simp⟩ ?_
  intro w2 ⟨hM2, hv2, hsz2⟩
  have HM2 : Hid _ := hM2
  have HI2 : Hid (IpV w2 (w.heap.size + 1) (.agg (ipB p (.slice ao p.opts.length co) (.slice bo p.body.length cb))) p) := hv2
  have HSZ : Hid (w1.heap.size < w2.heap.size) := hsz2
  clear hM1 hv1 hb1 hcap hlt HM0 hM2 hv2 hsz2
  generalize w1.heap.size = Q at *
  have hM2 := HM2.out
  have kc : ∀ i, w2.cell? ⟨Q, i, none⟩ = (ipB p (.slice ao p.opts.length co) (.slice bo p.body.length cb))[i]? := hM2.cell 1 rfl
  have hR := bread_any (p := p) (ao := ao) (no := p.opts.length) (co := co) (ipv_row HI2.out) HC.out
  have hsz := hM2.lt (p := (w.heap.size, _)) (List.mem_cons_self ..)
  have HB2 : Hid (w.heap.size + 1 ≤ w2.heap.size) := hsz
  clear hM2 hsz
  rw [h1] at hR
  go_wp2_with fail
  refine hR.mono ?_
  rintro e w3 ⟨u, rfl, hbd, hb3⟩
  have hM3 := HM2.out.after hb3
  have HM3 : Hid (Mem w w3 [(w.heap.size, .cells sn0 snT), (Q, .cells (ipB p (.slice ao p.opts.length co) (.slice bo p.body.length cb)) ipT)]) := hM3
  have HI3 : Hid (IpV w3 (w.heap.size + 1) (.agg (ipB p (.slice ao p.opts.length co) (.slice bo p.body.length cb))) p) := HI2.out.below hb3 (Nat.le_refl _)
  have hbd := hbd trivial
  have hR := bright_any (o := .slice ao p.opts.length co) (b := .slice bo p.body.length cb) HO.out hbd
  rw [h2] at hR
  obtain ⟨bt, bu, rfl⟩ := bdv_iface hbd
  have HB3 : Hid (BdV w3 w2.heap.size (.iface bt bu) p) := hbd
  clear hbd hb3 kc HI2 HM2
  have kc : ∀ i, w3.cell? ⟨Q, i, none⟩ = (ipB p (.slice ao p.opts.length co) (.slice bo p.body.length cb))[i]? := hM3.cell 1 rfl
  clear hM3
  go_wp2_with fail
  refine hR.mono ?_
  rintro e w4 ⟨rfl, hb4⟩
  have hM4 := HM3.out.after hb4
  have HM4 : Hid (Mem w w4 [(w.heap.size, .cells sn0 snT), (Q, .cells (ipB p (.slice ao p.opts.length co) (.slice bo p.body.length cb)) ipT)]) := hM4
  have HI4 : Hid (IpV w4 (w.heap.size + 1) (.agg (ipB p (.slice ao p.opts.length co) (.slice bo p.body.length cb))) p) := HI3.out.below hb4 (Nat.le_refl _)
  have hbd4 := HB3.out.below hb4 (Nat.le_refl _)
  have HB4 : Hid (BdV w4 w2.heap.size (.iface bt bu) p) := hbd4
  clear hR hb4 kc HI3 HM3 HB3
  have hR := flow_any (o := .slice ao p.opts.length co) (b := .slice bo p.body.length cb) HO.out hbd4
  rw [hF] at hR
  rw [h3] at hR
  have kc : ∀ i, w4.cell? ⟨Q, i, none⟩ = (ipB p (.slice ao p.opts.length co) (.slice bo p.body.length cb))[i]? := hM4.cell 1 rfl
  clear hM4 hbd4
  go_wp2_with fail
  refine hR.mono ?_
  rintro e w5 ⟨u, rfl, hfl, hb5⟩
  obtain ⟨ia, ic, rfl, hpt⟩ := hfl.open
  have hM5 := HM4.out.after hb5
  have HI5 : Hid (IpV w5 (w.heap.size + 1) (.agg (ipB p (.slice ao p.opts.length co) (.slice bo p.body.length cb))) p) := HI4.out.below hb5 (Nat.le_refl _)
  have HB5 : Hid (BdV w5 w2.heap.size (.iface bt bu) p) := HB4.out.below hb5 (Nat.le_refl _)
  have HS5 : Hid (w.heap.size + 1 ≤ w4.heap.size) := HM4.out.lt (p := (w.heap.size, _)) (List.mem_cons_self ..)
  have HP5 : Hid (PtsV w5 (w.heap.size + 1) (.slice ia F.inner.length ic) F.inner) := hpt.mono HS5.out
  clear hR hb5 kc HI4 HM4 HB4 hfl hpt
  go_upto_region 10 with fail
  refine wp_letter (fun W => Mem w W [(w.heap.size, .cells sn0 snT), (Q, .cells (ipB p (.slice ao p.opts.length co) (.slice bo p.body.length cb)) ipT), (w5.heap.size, .cells (flB F (.slice ia F.inner.length ic)) flT)] ∧ SnL W (w.heap.size + 1) p F ao bo ia co cb ic bt bu) ⟨hM5.push3 rfl, SnL.below ⟨HI5.out, HC.out, ⟨w2.heap.size, HB2.out, HB5.out, HLow.out.imp id (fun h x hx => Nat.lt_trans (h x hx) HSZ.out)⟩, HP5.out⟩ ((Below.refl _ _).alloc (Nat.le_refl _) _) (Nat.le_refl _)⟩ ?_
  intro w6 ⟨hX, hs6⟩
  have HM6 : Hid _ := hX
  have HS6 : Hid (SnL w6 (w.heap.size + 1) p F ao bo ia co cb ic bt bu) := hs6
  clear hM5 HI5 HB5 HS5 HP5 hs6
  generalize w5.heap.size = G at *
  have kp : ∀ i, w6.cell? ⟨Q, i, none⟩ = (ipB p (.slice ao p.opts.length co) (.slice bo p.body.length cb))[i]? := hX.cell 1 rfl
  have kq : ∀ i, w6.cell? ⟨G, i, none⟩ = (flB F (.slice ia F.inner.length ic))[i]? := hX.cell 2 rfl
  have HX : Hid (Mem w w6 _) := hX.first
  clear hX
  have hgR := HX.out.get 0 rfl
  go_wp2_with (refine wpList_store_row rfl snT _ _ rfl w.heap.size (snB p (.slice ao p.opts.length co) (.slice bo p.body.length cb) (.iface bt bu) F (.slice ia F.inner.length ic)) rfl rfl snT sn0 hgR (by kernel_rfl) rfl (sn_one ..) ?_)
  have hwr := wrote_setRow w6 w.heap.size sn0 (snB p (.slice ao p.opts.length co) (.slice bo p.body.length cb) (.iface bt bu) F (.slice ia F.inner.length ic)) snT hgR
  have hz := HX.out.wrote 0 rfl hwr
  (try simp only [Exit.inBlock, Exit.then])
  refine bodyPost_ret (v := .tuple #[.agg (snB p (.slice ao p.opts.length co) (.slice bo p.body.length cb) (.iface bt bu) F (.slice ia F.inner.length ic)), .int .i64 0]) ?hres rfl ?hpost
  case hres => exact results_cell_tmp (p := 2) (q := 3) (ty := snT) rfl _ _ w.heap.size (snB p (.slice ao p.opts.length co) (.slice bo p.body.length cb) (.iface bt bu) F (.slice ia F.inner.length ic)) rfl (run_loadVar_row _ _ snT snT _ (0, 0) _ (hz.get 0 rfl) Tryz.underlying66 rfl (by kernel_rfl))
  case hpost => exact ⟨_, rfl, ⟨ao, bo, ia, co, cb, ic, bt, bu, rfl, SnL.mono (B := w.heap.size + 1) (SnL.above HS6.out (fun k hk => hwr.there k (by omega))) (by omega)⟩, hz.below⟩

/-- What rewrite.look answers, whatever it is handed. -/
theorem look_any {w : World} {a : Option Addr} {n c : Nat} {l : List Int} (hr : Row w a l) (hn : l.length = n) (hc : n ≤ c) :
    Calls Tryz.prog 27 #[.slice a n c] w fun e w' => ∃ v, e = .returned (.tuple #[v, .int .i64 (lkErr l)]) ∧ SeV w' w.heap.size v l ∧ Below w.heap.size w w' := by
  by_cases h0 : ipErr l = 0
  · have ep : ipRes l = ipPk l := if_pos h0
    by_cases h1 : bdErr (ipRes l) = 0
    · by_cases h2 : bdRight (ipRes l) = true
      · by_cases h3 : flErr (ipRes l) = 0
        · refine (look_yes hr hn hc h0 h1 h2 h3).mono ?_
          rintro e w' ⟨v, rfl, hv, hb⟩
          rw [ep] at h1 h2 h3 hv
          have e : lkErr l = 0 := by unfold lkErr; rw [if_neg (by omega), if_neg (by omega), if_neg (by simp [h2])]; exact h3
          exact ⟨v, by rw [e], Or.inr ⟨e, hv⟩, hb⟩
        · refine (look_no3 hr hn hc h0 h1 h2 h3).mono ?_
          rintro e w' ⟨v, rfl, hv, hb⟩
          rw [ep] at h1 h2 h3 ⊢
          have e : lkErr l = flErr (ipPk l) := by unfold lkErr; rw [if_neg (by omega), if_neg (by omega), if_neg (by simp [h2])]
          exact ⟨v, by rw [e], Or.inl ⟨by rw [e]; exact h3, hv⟩, hb⟩
      · have h2 : bdRight (ipRes l) = false := by simpa using h2
        refine (look_no2 hr hn hc h0 h1 h2).mono ?_
        rintro e w' ⟨v, rfl, hv, hb⟩
        rw [ep] at h1 h2
        have e : lkErr l = 22 := by unfold lkErr; rw [if_neg (by omega), if_neg (by omega), if_pos h2]
        exact ⟨v, by rw [e], Or.inl ⟨by rw [e]; decide, hv⟩, hb⟩
    · refine (look_no1 hr hn hc h0 h1).mono ?_
      rintro e w' ⟨v, rfl, hv, hb⟩
      rw [ep] at h1 ⊢
      have e : lkErr l = bdErr (ipPk l) := by unfold lkErr; rw [if_neg (by omega), if_pos h1]
      exact ⟨v, by rw [e], Or.inl ⟨by rw [e]; exact h1, hv⟩, hb⟩
  · refine (look_no0 hr hn hc h0).mono ?_
    rintro e w' ⟨v, rfl, hv, hb⟩
    have e : lkErr l = ipErr l := by unfold lkErr; rw [if_pos h0]
    exact ⟨v, by rw [e], Or.inl ⟨by rw [e]; exact h0, hv⟩, hb⟩
end Go.Proofs.YtjalpbkfpjfigaaGreat

namespace Go.Proofs.YtjalpbkfpjfigaaGreat
open Go.RowKit
open Sm
set_option linter.unusedVariables false
set_option maxRecDepth 20000

theorem results_in {fn : Func} {p q r s t : Tmp} {ty : TypeId} (h : fn.results = #[.cell p ty, .cell q ty, .tmp r, .tmp s, .tmp t]) (tmps : Array Value) (w : World) (g k : Nat) (cs ds : Array Value)
    (hp : tmps.getD p undef = .pointer (some ⟨g, 0, none⟩)) (hq : tmps.getD q undef = .pointer (some ⟨k, 0, none⟩)) (hl : (loadVar ty ⟨g, 0, none⟩).run Tryz.prog w = .ok (.agg cs) w) (hm : (loadVar ty ⟨k, 0, none⟩).run Tryz.prog w = .ok (.agg ds) w) :
    (results fn tmps).run Tryz.prog w = .ok (.tuple #[.agg cs, .agg ds, tmps.getD r undef, tmps.getD s undef, tmps.getD t undef]) w := by
  have hp' : tmps[p]?.getD undef = .pointer (some ⟨g, 0, none⟩) := by simpa using hp
  have hq' : tmps[q]?.getD undef = .pointer (some ⟨k, 0, none⟩) := by simpa using hq
  simp [results, h, hp', hq', asAddr, hl, hm]

set_option maxHeartbeats 2000000 in
theorem rin_short {w : World} (a : Option Addr) (n c : Nat) (h : n < 20) :
    Calls Tryz.prog 40 #[.slice a n c] w fun e w' => e = .returned (.tuple #[.agg #[.int .u32 0, .int .u16 0], .agg #[.int .u32 0, .int .u16 0], .int .u8 0, .int .i64 0, .bool false]) ∧ Below w.heap.size w w' := by
  have HM : Hid (Mem w (((w.alloc (.cells #[.int .u32 0, .int .u16 0] ptT)).alloc (.cells #[.int .u32 0, .int .u16 0] ptT)).alloc (.cells #[.int .u32 0, .int .u16 0] ptT)) [(w.heap.size, .cells #[.int .u32 0, .int .u16 0] ptT), (w.heap.size + 1, .cells #[.int .u32 0, .int .u16 0] ptT), (w.heap.size + 2, .cells #[.int .u32 0, .int .u16 0] ptT)]) := (((Mem.nil w).push1 rfl).push2 (by simp)).push3 (by simp)
  have h1 : (n : Int) < 20 := by omega
  clear h
  go_enter Tryz.func40, Tryz.ntmps40
  go_upto_region 3 with fail
  refine wp_letter (fun W => Mem w W [(w.heap.size, .cells #[.int .u32 0, .int .u16 0] ptT), (w.heap.size + 1, .cells #[.int .u32 0, .int .u16 0] ptT), (w.heap.size + 2, .cells #[.int .u32 0, .int .u16 0] ptT)]) HM.out ?_
  intro w1 hM1
  have HM1 : Hid (Mem w w1 _) := hM1
  clear hM1 HM
  have c0 : w1.cell? ⟨w.heap.size + 2, 0, none⟩ = some (.int .u32 0) := HM1.out.cell 2 rfl 0
  have c1 : w1.cell? ⟨w.heap.size + 2, 1, none⟩ = some (.int .u16 0) := HM1.out.cell 2 rfl 1
  have fa : ∀ i, w1.frozen? ⟨w.heap.size, i, none⟩ = false := HM1.out.free 0 rfl
  have fb : ∀ i, w1.frozen? ⟨w.heap.size + 1, i, none⟩ = false := HM1.out.free 1 rfl
  have ca : ∀ i, w1.cell? ⟨w.heap.size, i, none⟩ = (#[.int .u32 0, .int .u16 0] : Array Value)[i]? := HM1.out.cell 0 rfl
  have cb : ∀ i, w1.cell? ⟨w.heap.size + 1, i, none⟩ = (#[.int .u32 0, .int .u16 0] : Array Value)[i]? := HM1.out.cell 1 rfl
  go_region_held3 (fun w' => w'.cell? ⟨w.heap.size + 2, 0, none⟩ = some (.int .u32 0) ∧ w'.cell? ⟨w.heap.size + 2, 1, none⟩ = some (.int .u16 0)) (go_keep) (fail)
  all_goals
    go_wp2_with fail
    (try simp only [Exit.inBlock, Exit.then])
    refine post_letter (fun W => Mem w W [(w.heap.size, .cells #[.int .u32 0, .int .u16 0] ptT), (w.heap.size + 1, .cells #[.int .u32 0, .int .u16 0] ptT), (w.heap.size + 2, .cells #[.int .u32 0, .int .u16 0] ptT)]) (by first | exact ((((HM1.out.drew.set 0 rfl 0 _).set 0 rfl 1 _).set 1 rfl 0 _).set 1 rfl 1 _) | exact ((((HM1.out.drew.set 1 rfl 0 _).set 1 rfl 1 _).set 0 rfl 0 _).set 0 rfl 1 _)) ?_
    intro wz hz
    refine bodyPost_ret (v := .tuple #[.agg #[.int .u32 0, .int .u16 0], .agg #[.int .u32 0, .int .u16 0], .int .u8 0, .int .i64 0, .bool false]) ?hres rfl ?hpost
    case hres => exact results_in (p := 2) (q := 3) (r := 4) (s := 5) (t := 6) (ty := ptT) rfl _ _ w.heap.size (w.heap.size + 1) _ _ rfl rfl (run_loadVar_row _ _ ptT ptT _ (0, 0) _ (hz.get 0 rfl) Tryz.underlying32 rfl (by kernel_rfl)) (run_loadVar_row _ _ ptT ptT _ (0, 0) _ (hz.get 1 rfl) Tryz.underlying32 rfl (by kernel_rfl))
    case hpost => exact ⟨rfl, hz.below⟩

set_option maxHeartbeats 2000000 in
theorem rin_version {w : World} {b off n c : Nat} {l : List Int} (hr : Row w (some ⟨b, off, none⟩) l) (hn : l.length = n) (h20 : 20 ≤ n) (hv : ¬ l.getD 0 0 / 16 = 4) :
    Calls Tryz.prog 40 #[.slice (some ⟨b, off, none⟩) n c] w fun e w' => e = .returned (.tuple #[.agg #[.int .u32 0, .int .u16 0], .agg #[.int .u32 0, .int .u16 0], .int .u8 0, .int .i64 0, .bool false]) ∧ Below w.heap.size w w' := by
  have HM : Hid (Mem w (((w.alloc (.cells #[.int .u32 0, .int .u16 0] ptT)).alloc (.cells #[.int .u32 0, .int .u16 0] ptT)).alloc (.cells #[.int .u32 0, .int .u16 0] ptT)) [(w.heap.size, .cells #[.int .u32 0, .int .u16 0] ptT), (w.heap.size + 1, .cells #[.int .u32 0, .int .u16 0] ptT), (w.heap.size + 2, .cells #[.int .u32 0, .int .u16 0] ptT)]) := (((Mem.nil w).push1 rfl).push2 (by simp)).push3 (by simp)
  have hx := hr.bytes 0
  have hlen := hr.len
  have hand := sm_low4 (l.getD 0 0) hx.1 hx.2
  obtain ⟨H, hH⟩ : ∃ H, hdl l = H := ⟨_, rfl⟩
  have hE : l.getD 0 0 % 16 * 4 = (H : Int) := by rw [← hH]; unfold hdl; omega
  have v3 := wrap64_small (l.getD 0 0 % 16) (by omega) (by omega)
  have v4 := wrap64_small (H : Int) (by omega) (by omega)
  have v5 := wrap64_small ((H : Int) + 8) (by omega) (by omega)
  have HRw : Hid (Row w (some ⟨b, off, none⟩) l ∧ l.length = n) := ⟨hr, hn⟩
  have i0 : (0 : Int) < n := by omega
  have i20 : (20 : Int) ≤ n := by omega
  have i9 : (9 : Int) < n := by omega
  have hv2 : (l.getD 0 0 / 16 == 4) = false := beq_eq_false_iff_ne.mpr hv
  have hv3 : decide (l.getD 0 0 / 16 = 4) = false := decide_eq_false hv
  have hv4 : (l.getD 0 0 / 16 != 4) = true := bne_iff_ne.mpr hv
  clear hr hn h20 hH
  go_enter Tryz.func40, Tryz.ntmps40
  go_upto_region 2 with fail
  refine wp_letter (fun W => Mem w W [(w.heap.size, .cells #[.int .u32 0, .int .u16 0] ptT), (w.heap.size + 1, .cells #[.int .u32 0, .int .u16 0] ptT), (w.heap.size + 2, .cells #[.int .u32 0, .int .u16 0] ptT)]) HM.out ?_
  intro w1 hM1
  have HM1 : Hid (Mem w w1 [(w.heap.size, .cells #[.int .u32 0, .int .u16 0] ptT), (w.heap.size + 1, .cells #[.int .u32 0, .int .u16 0] ptT), (w.heap.size + 2, .cells #[.int .u32 0, .int .u16 0] ptT)]) := hM1
  have c0 : w1.cell? ⟨b, off, none⟩ = some (.int .u8 (l.getD 0 0)) := (hM1.row HRw.out.1).cellAt 0 (by have := HRw.out.2; omega)
  clear hM1 HM
  generalize l.getD 0 0 = x at *
  go_upto_region 3 with fail
  clear c0
  have HM2 : Hid (Mem w w1 [(w.heap.size, .cells #[.int .u32 0, .int .u16 0] ptT), (w.heap.size + 1, .cells #[.int .u32 0, .int .u16 0] ptT), (w.heap.size + 2, .cells #[.int .u32 0, .int .u16 0] ptT)]) := HM1.out
  have c0 : w1.cell? ⟨w.heap.size + 2, 0, none⟩ = some (.int .u32 0) := HM2.out.cell 2 rfl 0
  have c1 : w1.cell? ⟨w.heap.size + 2, 1, none⟩ = some (.int .u16 0) := HM2.out.cell 2 rfl 1
  have fa : ∀ i, w1.frozen? ⟨w.heap.size, i, none⟩ = false := HM2.out.free 0 rfl
  have fb : ∀ i, w1.frozen? ⟨w.heap.size + 1, i, none⟩ = false := HM2.out.free 1 rfl
  have ca : ∀ i, w1.cell? ⟨w.heap.size, i, none⟩ = (#[.int .u32 0, .int .u16 0] : Array Value)[i]? := HM2.out.cell 0 rfl
  have cb : ∀ i, w1.cell? ⟨w.heap.size + 1, i, none⟩ = (#[.int .u32 0, .int .u16 0] : Array Value)[i]? := HM2.out.cell 1 rfl
  go_region_held3 (fun w' => w'.cell? ⟨w.heap.size + 2, 0, none⟩ = some (.int .u32 0) ∧ w'.cell? ⟨w.heap.size + 2, 1, none⟩ = some (.int .u16 0)) (go_keep) (fail)
  all_goals
    go_wp2_with fail
    (try simp only [Exit.inBlock, Exit.then])
    refine post_letter (fun W => Mem w W [(w.heap.size, .cells #[.int .u32 0, .int .u16 0] ptT), (w.heap.size + 1, .cells #[.int .u32 0, .int .u16 0] ptT), (w.heap.size + 2, .cells #[.int .u32 0, .int .u16 0] ptT)]) (by first | exact ((((HM2.out.drew.set 0 rfl 0 _).set 0 rfl 1 _).set 1 rfl 0 _).set 1 rfl 1 _) | exact ((((HM2.out.drew.set 1 rfl 0 _).set 1 rfl 1 _).set 0 rfl 0 _).set 0 rfl 1 _)) ?_
    intro wz hz
    refine bodyPost_ret (v := .tuple #[.agg #[.int .u32 0, .int .u16 0], .agg #[.int .u32 0, .int .u16 0], .int .u8 0, .int .i64 0, .bool false]) ?hres rfl ?hpost
    case hres => exact results_in (p := 2) (q := 3) (r := 4) (s := 5) (t := 6) (ty := ptT) rfl _ _ w.heap.size (w.heap.size + 1) _ _ rfl rfl (run_loadVar_row _ _ ptT ptT _ (0, 0) _ (hz.get 0 rfl) Tryz.underlying32 rfl (by kernel_rfl)) (run_loadVar_row _ _ ptT ptT _ (0, 0) _ (hz.get 1 rfl) Tryz.underlying32 rfl (by kernel_rfl))
    case hpost => exact ⟨rfl, hz.below⟩

set_option maxHeartbeats 2000000 in
theorem rin_low {w : World} {b off n c : Nat} {l : List Int} (hr : Row w (some ⟨b, off, none⟩) l) (hn : l.length = n) (h20 : 20 ≤ n) (hv : l.getD 0 0 / 16 = 4) (hh : hdl l < 20) :
    Calls Tryz.prog 40 #[.slice (some ⟨b, off, none⟩) n c] w fun e w' => e = .returned (.tuple #[.agg #[.int .u32 0, .int .u16 0], .agg #[.int .u32 0, .int .u16 0], .int .u8 0, .int .i64 0, .bool false]) ∧ Below w.heap.size w w' := by
  have HM : Hid (Mem w (((w.alloc (.cells #[.int .u32 0, .int .u16 0] ptT)).alloc (.cells #[.int .u32 0, .int .u16 0] ptT)).alloc (.cells #[.int .u32 0, .int .u16 0] ptT)) [(w.heap.size, .cells #[.int .u32 0, .int .u16 0] ptT), (w.heap.size + 1, .cells #[.int .u32 0, .int .u16 0] ptT), (w.heap.size + 2, .cells #[.int .u32 0, .int .u16 0] ptT)]) := (((Mem.nil w).push1 rfl).push2 (by simp)).push3 (by simp)
  have hx := hr.bytes 0
  have hlen := hr.len
  have hand := sm_low4 (l.getD 0 0) hx.1 hx.2
  obtain ⟨H, hH⟩ : ∃ H, hdl l = H := ⟨_, rfl⟩
  have hE : l.getD 0 0 % 16 * 4 = (H : Int) := by rw [← hH]; unfold hdl; omega
  have v3 := wrap64_small (l.getD 0 0 % 16) (by omega) (by omega)
  have v4 := wrap64_small (H : Int) (by omega) (by omega)
  have v5 := wrap64_small ((H : Int) + 8) (by omega) (by omega)
  have HRw : Hid (Row w (some ⟨b, off, none⟩) l ∧ l.length = n) := ⟨hr, hn⟩
  have i0 : (0 : Int) < n := by omega
  have i20 : (20 : Int) ≤ n := by omega
  have i9 : (9 : Int) < n := by omega
  have hh2 : (H : Int) < 20 := by omega
  clear hh
  clear hr hn h20 hH
  go_enter Tryz.func40, Tryz.ntmps40
  go_upto_region 2 with fail
  refine wp_letter (fun W => Mem w W [(w.heap.size, .cells #[.int .u32 0, .int .u16 0] ptT), (w.heap.size + 1, .cells #[.int .u32 0, .int .u16 0] ptT), (w.heap.size + 2, .cells #[.int .u32 0, .int .u16 0] ptT)]) HM.out ?_
  intro w1 hM1
  have HM1 : Hid (Mem w w1 [(w.heap.size, .cells #[.int .u32 0, .int .u16 0] ptT), (w.heap.size + 1, .cells #[.int .u32 0, .int .u16 0] ptT), (w.heap.size + 2, .cells #[.int .u32 0, .int .u16 0] ptT)]) := hM1
  have c0 : w1.cell? ⟨b, off, none⟩ = some (.int .u8 (l.getD 0 0)) := (hM1.row HRw.out.1).cellAt 0 (by have := HRw.out.2; omega)
  clear hM1 HM
  generalize l.getD 0 0 = x at *
  go_upto_region 6 with fail
  clear c0
  have HM2 : Hid (Mem w w1 [(w.heap.size, .cells #[.int .u32 0, .int .u16 0] ptT), (w.heap.size + 1, .cells #[.int .u32 0, .int .u16 0] ptT), (w.heap.size + 2, .cells #[.int .u32 0, .int .u16 0] ptT)]) := HM1.out
  have c0 : w1.cell? ⟨w.heap.size + 2, 0, none⟩ = some (.int .u32 0) := HM2.out.cell 2 rfl 0
  have c1 : w1.cell? ⟨w.heap.size + 2, 1, none⟩ = some (.int .u16 0) := HM2.out.cell 2 rfl 1
  have fa : ∀ i, w1.frozen? ⟨w.heap.size, i, none⟩ = false := HM2.out.free 0 rfl
  have fb : ∀ i, w1.frozen? ⟨w.heap.size + 1, i, none⟩ = false := HM2.out.free 1 rfl
  have ca : ∀ i, w1.cell? ⟨w.heap.size, i, none⟩ = (#[.int .u32 0, .int .u16 0] : Array Value)[i]? := HM2.out.cell 0 rfl
  have cb : ∀ i, w1.cell? ⟨w.heap.size + 1, i, none⟩ = (#[.int .u32 0, .int .u16 0] : Array Value)[i]? := HM2.out.cell 1 rfl
  go_region_held3 (fun w' => w'.cell? ⟨w.heap.size + 2, 0, none⟩ = some (.int .u32 0) ∧ w'.cell? ⟨w.heap.size + 2, 1, none⟩ = some (.int .u16 0)) (go_keep) (fail)
  all_goals
    go_wp2_with fail
    (try simp only [Exit.inBlock, Exit.then])
    refine post_letter (fun W => Mem w W [(w.heap.size, .cells #[.int .u32 0, .int .u16 0] ptT), (w.heap.size + 1, .cells #[.int .u32 0, .int .u16 0] ptT), (w.heap.size + 2, .cells #[.int .u32 0, .int .u16 0] ptT)]) (by first | exact ((((HM2.out.drew.set 0 rfl 0 _).set 0 rfl 1 _).set 1 rfl 0 _).set 1 rfl 1 _) | exact ((((HM2.out.drew.set 1 rfl 0 _).set 1 rfl 1 _).set 0 rfl 0 _).set 0 rfl 1 _)) ?_
    intro wz hz
    refine bodyPost_ret (v := .tuple #[.agg #[.int .u32 0, .int .u16 0], .agg #[.int .u32 0, .int .u16 0], .int .u8 0, .int .i64 0, .bool false]) ?hres rfl ?hpost
    case hres => exact results_in (p := 2) (q := 3) (r := 4) (s := 5) (t := 6) (ty := ptT) rfl _ _ w.heap.size (w.heap.size + 1) _ _ rfl rfl (run_loadVar_row _ _ ptT ptT _ (0, 0) _ (hz.get 0 rfl) Tryz.underlying32 rfl (by kernel_rfl)) (run_loadVar_row _ _ ptT ptT _ (0, 0) _ (hz.get 1 rfl) Tryz.underlying32 rfl (by kernel_rfl))
    case hpost => exact ⟨rfl, hz.below⟩

set_option maxHeartbeats 2000000 in
theorem rin_cut {w : World} {b off n c : Nat} {l : List Int} (hr : Row w (some ⟨b, off, none⟩) l) (hn : l.length = n) (h20 : 20 ≤ n) (hv : l.getD 0 0 / 16 = 4) (hh : 20 ≤ hdl l) (h8 : n < hdl l + 8) :
    Calls Tryz.prog 40 #[.slice (some ⟨b, off, none⟩) n c] w fun e w' => e = .returned (.tuple #[.agg #[.int .u32 0, .int .u16 0], .agg #[.int .u32 0, .int .u16 0], .int .u8 0, .int .i64 0, .bool false]) ∧ Below w.heap.size w w' := by
  have HM : Hid (Mem w (((w.alloc (.cells #[.int .u32 0, .int .u16 0] ptT)).alloc (.cells #[.int .u32 0, .int .u16 0] ptT)).alloc (.cells #[.int .u32 0, .int .u16 0] ptT)) [(w.heap.size, .cells #[.int .u32 0, .int .u16 0] ptT), (w.heap.size + 1, .cells #[.int .u32 0, .int .u16 0] ptT), (w.heap.size + 2, .cells #[.int .u32 0, .int .u16 0] ptT)]) := (((Mem.nil w).push1 rfl).push2 (by simp)).push3 (by simp)
  have hx := hr.bytes 0
  have hlen := hr.len
  have hand := sm_low4 (l.getD 0 0) hx.1 hx.2
  obtain ⟨H, hH⟩ : ∃ H, hdl l = H := ⟨_, rfl⟩
  have hE : l.getD 0 0 % 16 * 4 = (H : Int) := by rw [← hH]; unfold hdl; omega
  have v3 := wrap64_small (l.getD 0 0 % 16) (by omega) (by omega)
  have v4 := wrap64_small (H : Int) (by omega) (by omega)
  have v5 := wrap64_small ((H : Int) + 8) (by omega) (by omega)
  have HRw : Hid (Row w (some ⟨b, off, none⟩) l ∧ l.length = n) := ⟨hr, hn⟩
  have i0 : (0 : Int) < n := by omega
  have i20 : (20 : Int) ≤ n := by omega
  have i9 : (9 : Int) < n := by omega
  have hh2 : (20 : Int) ≤ (H : Int) := by omega
  have hh3 : (n : Int) < (H : Int) + 8 := by omega
  clear hh h8
  clear hr hn h20 hH
  go_enter Tryz.func40, Tryz.ntmps40
  go_upto_region 2 with fail
  refine wp_letter (fun W => Mem w W [(w.heap.size, .cells #[.int .u32 0, .int .u16 0] ptT), (w.heap.size + 1, .cells #[.int .u32 0, .int .u16 0] ptT), (w.heap.size + 2, .cells #[.int .u32 0, .int .u16 0] ptT)]) HM.out ?_
  intro w1 hM1
  have HM1 : Hid (Mem w w1 [(w.heap.size, .cells #[.int .u32 0, .int .u16 0] ptT), (w.heap.size + 1, .cells #[.int .u32 0, .int .u16 0] ptT), (w.heap.size + 2, .cells #[.int .u32 0, .int .u16 0] ptT)]) := hM1
  have c0 : w1.cell? ⟨b, off, none⟩ = some (.int .u8 (l.getD 0 0)) := (hM1.row HRw.out.1).cellAt 0 (by have := HRw.out.2; omega)
  clear hM1 HM
  generalize l.getD 0 0 = x at *
  go_upto_region 6 with fail
  clear c0
  have HM2 : Hid (Mem w w1 [(w.heap.size, .cells #[.int .u32 0, .int .u16 0] ptT), (w.heap.size + 1, .cells #[.int .u32 0, .int .u16 0] ptT), (w.heap.size + 2, .cells #[.int .u32 0, .int .u16 0] ptT)]) := HM1.out
  have c0 : w1.cell? ⟨w.heap.size + 2, 0, none⟩ = some (.int .u32 0) := HM2.out.cell 2 rfl 0
  have c1 : w1.cell? ⟨w.heap.size + 2, 1, none⟩ = some (.int .u16 0) := HM2.out.cell 2 rfl 1
  have fa : ∀ i, w1.frozen? ⟨w.heap.size, i, none⟩ = false := HM2.out.free 0 rfl
  have fb : ∀ i, w1.frozen? ⟨w.heap.size + 1, i, none⟩ = false := HM2.out.free 1 rfl
  have ca : ∀ i, w1.cell? ⟨w.heap.size, i, none⟩ = (#[.int .u32 0, .int .u16 0] : Array Value)[i]? := HM2.out.cell 0 rfl
  have cb : ∀ i, w1.cell? ⟨w.heap.size + 1, i, none⟩ = (#[.int .u32 0, .int .u16 0] : Array Value)[i]? := HM2.out.cell 1 rfl
  go_region_held3 (fun w' => w'.cell? ⟨w.heap.size + 2, 0, none⟩ = some (.int .u32 0) ∧ w'.cell? ⟨w.heap.size + 2, 1, none⟩ = some (.int .u16 0)) (go_keep) (fail)
  all_goals
    go_wp2_with fail
    (try simp only [Exit.inBlock, Exit.then])
    refine post_letter (fun W => Mem w W [(w.heap.size, .cells #[.int .u32 0, .int .u16 0] ptT), (w.heap.size + 1, .cells #[.int .u32 0, .int .u16 0] ptT), (w.heap.size + 2, .cells #[.int .u32 0, .int .u16 0] ptT)]) (by first | exact ((((HM2.out.drew.set 0 rfl 0 _).set 0 rfl 1 _).set 1 rfl 0 _).set 1 rfl 1 _) | exact ((((HM2.out.drew.set 1 rfl 0 _).set 1 rfl 1 _).set 0 rfl 0 _).set 0 rfl 1 _)) ?_
    intro wz hz
    refine bodyPost_ret (v := .tuple #[.agg #[.int .u32 0, .int .u16 0], .agg #[.int .u32 0, .int .u16 0], .int .u8 0, .int .i64 0, .bool false]) ?hres rfl ?hpost
    case hres => exact results_in (p := 2) (q := 3) (r := 4) (s := 5) (t := 6) (ty := ptT) rfl _ _ w.heap.size (w.heap.size + 1) _ _ rfl rfl (run_loadVar_row _ _ ptT ptT _ (0, 0) _ (hz.get 0 rfl) Tryz.underlying32 rfl (by kernel_rfl)) (run_loadVar_row _ _ ptT ptT _ (0, 0) _ (hz.get 1 rfl) Tryz.underlying32 rfl (by kernel_rfl))
    case hpost => exact ⟨rfl, hz.below⟩

end Go.Proofs.YtjalpbkfpjfigaaGreat

namespace Go.Proofs.YtjalpbkfpjfigaaGreat
open Go.RowKit
open Sm
set_option linter.unusedVariables false
set_option maxRecDepth 20000

theorem ipv_hop {w : World} {B : Nat} {p : Pk} {ao bo : Option Addr} {co cb : Nat} (h : IpV w B (.agg (ipB p (.slice ao p.opts.length co) (.slice bo p.body.length cb))) p) (x : Int) :
    IpV w B (.agg (ipA p.tos x p.proto p.id p.flags p.off p.src p.dst (.slice ao p.opts.length co) (.slice bo p.body.length cb))) ⟨p.tos, x, p.proto, p.id, p.flags, p.off, p.src, p.dst, p.opts, p.body⟩ := by
  obtain ⟨ao', co', bo', cb', e, h1⟩ := h
  simp only [ipA, Value.agg.injEq, Array.mk.injEq, List.cons.injEq, true_and, and_true, Value.slice.injEq] at e
  obtain ⟨⟨rfl, rfl⟩, rfl, rfl⟩ := e
  exact ⟨ao, co, bo, cb, rfl, h1⟩

set_option maxHeartbeats 2000000 in
theorem hop_any {w : World} {a : Option Addr} {n c : Nat} {l : List Int} (hr : Row w a l) (hn : l.length = n) (hc : n ≤ c) :
    Calls Tryz.prog 15 #[.slice a n c] w fun r w' => ∃ u, r = .returned (.tuple #[u, .int .i64 (hopErr l)]) ∧ w'.ownsRow w.heap.size 5 1 u (hopOut l).length ((hopOut l).map (Value.int .u8)) ∧ Below w.heap.size w w' := by
  have hP := parse_seen hr hn hc
  have HO : Hid _ := ipRes_ok hr.bytes
  by_cases h0 : ipErr l = 0
  · have ep : ipRes l = ipPk l := if_pos h0
    rw [h0, ep] at hP
    rw [ep] at HO
    by_cases ht : (ipPk l).ttl = 0
    · have e1 : hopErr l = 21 := by unfold hopErr; rw [if_neg (by omega), if_pos ht]
      have e2 : hopOut l = [] := by unfold hopOut; rw [if_neg (by omega), if_pos ht]
      rw [e1, e2]
      clear hr hn hc ep h0 e1 e2 HO
      generalize ipPk l = p at *
      go_enter Tryz.func15, Tryz.ntmps15
      go_wp2_with fail
      refine hP.mono ?_
      rintro e w1 ⟨ao, co, bo, cb, rfl, -, -, hb1⟩
      have HB : Hid (∀ o, Below w.heap.size w (w1.alloc o)) := fun o => hb1.alloc hb1.size o
      clear hP hb1
      go_wp2_with fail
      go_ret2
      exact ⟨_, rfl, World.ownsRow_nil _ _ _ _, HB.out _⟩
    · have e1 : hopErr l = ipbErr (ipPk l).hop := by unfold hopErr; rw [if_neg (by omega), if_neg ht]
      have e2 : hopOut l = ipOut (ipPk l).hop := by unfold hopOut; rw [if_neg (by omega), if_neg ht]
      rw [e1, e2]
      clear hr hn hc ep h0 e1 e2
      generalize ipPk l = p at *
      have hok := HO.out
      have ht1 := hok.ttl
      have hw : IntKind.u8.wrap (p.ttl - 1) = p.ttl - 1 := wrap8_small _ (by omega) (by omega)
      have HH : Hid p.hop.Ok := ⟨hok.tos, ⟨by simp only [Pk.hop]; omega, by simp only [Pk.hop]; omega⟩, hok.proto, hok.id, hok.flags, hok.off, hok.src, hok.dst, hok.opts, hok.body⟩
      clear hok ht1 HO
      generalize hE : ipbErr p.hop = E at *
      generalize hU : ipOut p.hop = U at *
      have HE : Hid (ipbErr p.hop = E ∧ ipOut p.hop = U) := ⟨hE, hU⟩
      clear hE hU
      go_enter Tryz.func15, Tryz.ntmps15
      go_wp2_with fail
      refine hP.mono ?_
      rintro e w1 ⟨ao, co, bo, cb, rfl, hv1, -, hb1⟩
      have hM1 := (Mem.nil w).after hb1
      go_upto_region 7 with fail
      refine wp_letter (fun W => Mem w W [(w1.heap.size, .cells (ipA p.tos (p.ttl - 1) p.proto p.id p.flags p.off p.src p.dst (.slice ao p.opts.length co) (.slice bo p.body.length cb)) ipT (0, 0))] ∧ IpV W 0 (.agg (ipA p.tos (p.ttl - 1) p.proto p.id p.flags p.off p.src p.dst (.slice ao p.opts.length co) (.slice bo p.body.length cb))) p.hop) ⟨hM1.push1 rfl, ((ipv_hop hv1 (p.ttl - 1)).below ((Below.refl _ _).alloc (Nat.le_refl _) _) (Nat.le_refl _)).mono (Nat.zero_le _)⟩ ?_
      intro w2 ⟨hM2, hv2⟩
      have HM2 : Hid _ := hM2
      have kc : ∀ i, w2.cell? ⟨w1.heap.size, i, none⟩ = (ipA p.tos (p.ttl - 1) p.proto p.id p.flags p.off p.src p.dst (.slice ao p.opts.length co) (.slice bo p.body.length cb))[i]? := hM2.cell 0 rfl
      have hB := bytes_any HH.out hv2
      rw [HE.out.1, HE.out.2] at hB
      clear hM1 hv1 hb1 hM2 hv2 hP
      generalize w1.heap.size = P at *
      go_wp2_with fail
      refine hB.mono ?_
      rintro e w3 ⟨u, rfl, hown, hb3⟩
      have HB3 : Hid _ := HM2.out.below.trans (hb3.mono HM2.out.below.size)
      have HU : Hid _ := own_base hown HM2.out.below.size
      clear hown hb3 hB kc
      go_wp2_with fail
      go_ret2
      exact ⟨_, rfl, HU.out, HB3.out⟩
  · have e1 : hopErr l = ipErr l := by unfold hopErr; rw [if_pos h0]
    have e2 : hopOut l = [] := by unfold hopOut; rw [if_pos h0]
    rw [e1, e2]
    clear hr hn hc HO e1 e2
    generalize ipErr l = E at *
    have h0' : (E == 0) = false := by simp [h0]
    go_enter Tryz.func15, Tryz.ntmps15
    go_wp2_with fail
    refine hP.mono ?_
    rintro e w1 ⟨ao, co, bo, cb, rfl, -, -, hb1⟩
    have HB : Hid (∀ o, Below w.heap.size w (w1.alloc o)) := fun o => hb1.alloc hb1.size o
    clear hP hb1
    go_wp2_with fail
    go_ret2
    exact ⟨_, rfl, World.ownsRow_nil _ _ _ _, HB.out _⟩
end Go.Proofs.YtjalpbkfpjfigaaGreat

