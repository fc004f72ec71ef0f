/-
  What rewrite.Look answers, whatever bytes it is handed.
  What rewrite.isError, rewrite.portsFit, rewrite.sealed and rewrite.changed answer.
-/
import Derived.Test.YtjalpbkfpjfigaaM28
import Derived.Test.YtjalpbkfpjfigaaM14
import Derived.Test.YtjalpbkfpjfigaaM19
import Derived.Test.YtjalpbkfpjfigaaM22
namespace Go.Proofs.Ytjalpbkfpjfigaa
open Go.RowKit
open Sm
set_option linter.unusedVariables false
set_option maxRecDepth 20000

/-- rewrite.look's answer, a packet and a flow, nought where it fails. -/
theorem look_out {w : World} {a : Option Addr} {n c : Nat} {l : List Int} (hr : Row w a l) (hn : l.length = n) (hc : n ≤ c) :
    Calls Try.prog 27 #[.slice a n c] w fun e w' => ∃ ao bo ia co cb ic bv, e = .returned (.tuple #[.agg (snB (lkPk l) (.slice ao (lkPk l).opts.length co) (.slice bo (lkPk l).body.length cb) bv (lkFl l) (.slice ia (lkFl l).inner.length ic)), .int .i64 (lkErr l)]) ∧
      (IpV w' w.heap.size (.agg (ipB (lkPk l) (.slice ao (lkPk l).opts.length co) (.slice bo (lkPk l).body.length cb))) (lkPk l) ∧ PtsV w' w.heap.size (.slice ia (lkFl l).inner.length ic) (lkFl l).inner ∧ (bv = .nilIface ∨ ∃ bt bu, bv = .iface bt bu)) ∧ Below w.heap.size w w' := by
  refine (look_any hr hn hc).mono ?_
  rintro e w' ⟨v, rfl, hv, hb⟩
  rcases hv with ⟨h0, rfl⟩ | ⟨h0, ao, bo, ia, co, cb, ic, bt, bu, rfl, hs⟩
  · have e1 : lkPk l = Pk.zero := if_neg h0
    have e2 : lkFl l = Fl.zero := if_neg h0
    rw [e1, e2]
    exact ⟨none, none, none, 0, 0, 0, .nilIface, rfl, ⟨ipv_zero _ _, pts_nil _ _, Or.inl rfl⟩, hb⟩
  · have e1 : lkPk l = ipPk l := if_pos h0
    have e2 : lkFl l = flFl (ipPk l) := if_pos h0
    rw [e1, e2]
    exact ⟨ao, bo, ia, co, cb, ic, .iface bt bu, rfl, ⟨hs.ip, hs.pts, Or.inr ⟨bt, bu, rfl⟩⟩, hb⟩

/-- Cells written one behind the other. -/
def putAll (g : Nat) : List Value → Nat → World → World
  | [], _, w => w
  | v :: vs, i, w => putAll g vs (i + 1) (w.setCell ⟨g, i, none⟩ v)
def setAll : List Value → Nat → Array Value → Array Value
  | [], _, c => c
  | v :: vs, i, c => setAll vs (i + 1) (c.setIfInBounds i v)
theorem wrote_all (g : Nat) (t : TypeId) : ∀ (vs : List Value) (i : Nat) (c : Array Value) (w : World), w.heap[g]? = some (.cells c t (0, 0)) → Wrote w (putAll g vs i w) g (setAll vs i c) t
  | [], _, c, w, h => wrote_same w g c t h
  | v :: vs, i, c, w, h => by
    have e := setCell_eq_setRow w g i c t (0, 0) v h
    have h1 := wrote_setRow w g c (c.setIfInBounds i v) t h
    have h2 := wrote_all g t vs (i + 1) (c.setIfInBounds i v) (w.setCell ⟨g, i, none⟩ v) (by rw [e]; exact h1.here)
    rw [e] at h2
    show Wrote w (putAll g vs (i + 1) (w.setCell ⟨g, i, none⟩ v)) g (setAll vs (i + 1) (c.setIfInBounds i v)) t
    rw [e]
    exact h1.trans h2

theorem wrote_ip (g : Nat) (p : Pk) (o b : Value) (w : World) (h : w.heap[g]? = some (.cells ip0 ipT (0, 0))) : Wrote w ((((((((((w.setCell ⟨g, 0, none⟩ (.int .u8 p.tos)).setCell ⟨g, 1, none⟩ (.int .u8 p.ttl)).setCell ⟨g, 2, none⟩ (.int .u8 p.proto)).setCell ⟨g, 3, none⟩ (.int .u16 p.id)).setCell ⟨g, 4, none⟩ (.int .u8 p.flags)).setCell ⟨g, 5, none⟩ (.int .u16 p.off)).setCell ⟨g, 6, none⟩ (.int .u32 p.src)).setCell ⟨g, 7, none⟩ (.int .u32 p.dst)).setCell ⟨g, 8, none⟩ (o)).setCell ⟨g, 9, none⟩ (b)) g (ipB p o b) ipT := by
  have h1 := wrote_all g ipT [.int .u8 p.tos, .int .u8 p.ttl, .int .u8 p.proto, .int .u16 p.id, .int .u8 p.flags, .int .u16 p.off, .int .u32 p.src, .int .u32 p.dst, o, b] 0 ip0 w h
  have e : setAll [.int .u8 p.tos, .int .u8 p.ttl, .int .u8 p.proto, .int .u16 p.id, .int .u8 p.flags, .int .u16 p.off, .int .u32 p.src, .int .u32 p.dst, o, b] 0 ip0 = ipB p o b := by kernel_rfl
  rw [e] at h1
  simp only [putAll] at h1
  exact h1
theorem wrote_fl (g : Nat) (f : Fl) (iv : Value) (w : World) (h : w.heap[g]? = some (.cells flZ flT (0, 0))) : Wrote w (((((((w.setCell ⟨g, 0, none⟩ (.int .u8 f.proto)).setCell ⟨g, 1, none⟩ (.int .u32 f.src.ip)).setCell ⟨g, 2, none⟩ (.int .u16 f.src.port)).setCell ⟨g, 3, none⟩ (.int .u32 f.dst.ip)).setCell ⟨g, 4, none⟩ (.int .u16 f.dst.port)).setCell ⟨g, 5, none⟩ (.int .u8 f.flags)).setCell ⟨g, 6, none⟩ (iv)) g (flB f iv) flT := by
  have h1 := wrote_all g flT [.int .u8 f.proto, .int .u32 f.src.ip, .int .u16 f.src.port, .int .u32 f.dst.ip, .int .u16 f.dst.port, .int .u8 f.flags, iv] 0 flZ w h
  have e : setAll [.int .u8 f.proto, .int .u32 f.src.ip, .int .u16 f.src.port, .int .u32 f.dst.ip, .int .u16 f.dst.port, .int .u8 f.flags, iv] 0 flZ = flB f iv := by kernel_rfl
  rw [e] at h1
  simp only [putAll] at h1
  exact h1

theorem post_fill {P : Program} {fn : Func} {R : Ending → World → Prop} {e : Exit} {a : Act} {w : World} {g k : Nat} {p : Pk} {o b : Value} {f : Fl} {iv : Value} (hg : w.heap[g]? = some (.cells ip0 ipT (0, 0))) (hk : w.heap[k]? = some (.cells flZ flT (0, 0))) (hne : k ≠ g)
    (K : ∀ W1 W2, Wrote w W1 g (ipB p o b) ipT → Wrote W1 W2 k (flB f iv) flT → bodyPost P fn R e a W2.drew) :
    bodyPost P fn R e a (((((((((((((((((w.setCell ⟨g, 0, none⟩ (.int .u8 p.tos)).setCell ⟨g, 1, none⟩ (.int .u8 p.ttl)).setCell ⟨g, 2, none⟩ (.int .u8 p.proto)).setCell ⟨g, 3, none⟩ (.int .u16 p.id)).setCell ⟨g, 4, none⟩ (.int .u8 p.flags)).setCell ⟨g, 5, none⟩ (.int .u16 p.off)).setCell ⟨g, 6, none⟩ (.int .u32 p.src)).setCell ⟨g, 7, none⟩ (.int .u32 p.dst)).setCell ⟨g, 8, none⟩ (o)).setCell ⟨g, 9, none⟩ (b)).setCell ⟨k, 0, none⟩ (.int .u8 f.proto)).setCell ⟨k, 1, none⟩ (.int .u32 f.src.ip)).setCell ⟨k, 2, none⟩ (.int .u16 f.src.port)).setCell ⟨k, 3, none⟩ (.int .u32 f.dst.ip)).setCell ⟨k, 4, none⟩ (.int .u16 f.dst.port)).setCell ⟨k, 5, none⟩ (.int .u8 f.flags)).setCell ⟨k, 6, none⟩ (iv)).drew := by
  have h1 := wrote_ip g p o b w hg
  have h2 := wrote_fl k f iv _ ((h1.there k hne).trans hk)
  exact K _ _ h1 h2

theorem results_cell2_tmp {fn : Func} {p q r : Tmp} {ty tz : TypeId} (h : fn.results = #[.cell p ty, .cell q tz, .tmp r]) (tmps : Array Value) (w : World) (g k : Nat) (cs ds : Array Value)
    (hp : tmps.getD p undef = .pointer (some ⟨g, 0, none⟩)) (hq : tmps.getD q undef = .pointer (some ⟨k, 0, none⟩)) (hl : (loadVar ty ⟨g, 0, none⟩).run Try.prog w = .ok (.agg cs) w) (hm : (loadVar tz ⟨k, 0, none⟩).run Try.prog w = .ok (.agg ds) w) :
    (results fn tmps).run Try.prog w = .ok (.tuple #[.agg cs, .agg ds, tmps.getD r undef]) w := by
  have hp' : tmps[p]?.getD undef = .pointer (some ⟨g, 0, none⟩) := by simpa using hp
  have hq' : tmps[q]?.getD undef = .pointer (some ⟨k, 0, none⟩) := by simpa using hq
  simp [results, h, hp', hq', asAddr, hl, hm]

theorem sn_one' (p : Pk) (ao bo ia : Option Addr) (no co nb cb ni ic : Nat) (bv : Value) (h : bv = .nilIface ∨ ∃ bt bu, bv = .iface bt bu) (f : Fl) : (snB p (.slice ao no co) (.slice bo nb cb) bv f (.slice ia ni ic)).all (fun x => x.oneCell') = true := by
  rcases h with rfl | ⟨bt, bu, rfl⟩
  · kernel_rfl
  · kernel_rfl

set_option maxHeartbeats 8000000 in
theorem Look_any {w : World} {a : Option Addr} {n c : Nat} {l : List Int} (hr : Row w a l) (hn : l.length = n) (hc : n ≤ c) :
    Calls Try.prog 11 #[.slice a n c] w fun e w' => ∃ ao bo ia co cb ic, e = .returned (.tuple #[.agg (ipB (lkPk l) (.slice ao (lkPk l).opts.length co) (.slice bo (lkPk l).body.length cb)), .agg (flB (lkFl l) (.slice ia (lkFl l).inner.length ic)), .int .i64 (lkErr l)]) ∧
      IpV w' w.heap.size (.agg (ipB (lkPk l) (.slice ao (lkPk l).opts.length co) (.slice bo (lkPk l).body.length cb))) (lkPk l) ∧ PtsV w' w.heap.size (.slice ia (lkFl l).inner.length ic) (lkFl l).inner ∧ Below w.heap.size w w' := by
  have hM : Mem w ((w.alloc (.cells ip0 ipT)).alloc (.cells flZ flT)) [(w.heap.size, .cells ip0 ipT), (w.heap.size + 1, .cells flZ flT)] := ((Mem.nil w).push1 rfl).push2 (by simp)
  have hL := look_out (hM.row hr) hn hc
  have HM : Hid _ := hM
  clear hM hr hn hc
  generalize lkErr l = E at *
  generalize lkPk l = p at *
  generalize lkFl l = f at *
  generalize p.opts.length = no at *
  generalize p.body.length = nb at *
  generalize f.inner.length = ni at *
  go_enter Try.func11, Try.ntmps11
  go_wp2_with fail
  refine hL.mono ?_
  rintro e w1 ⟨ao, bo, ia, co, cb, ic, bv, rfl, ⟨hi1, hp1, ho1⟩, hb1⟩
  have hM1 := HM.out.after hb1
  have hsz : ((w.alloc (.cells ip0 ipT)).alloc (.cells flZ flT)).heap.size = w.heap.size + 2 := by simp
  rw [hsz] at hi1 hp1
  clear hL hb1 hsz HM
  have hgA := heap_alloc_new w1 (.cells sn0 snT)
  have hone : (snB p (.slice ao no co) (.slice bo nb cb) bv f (.slice ia ni ic)).all (fun x => x.oneCell') = true := sn_one' p ao bo ia no co nb cb ni ic bv ho1 f
  go_upto_region 2 with (refine wpList_store_row rfl snT _ _ rfl w1.heap.size (snB p (.slice ao no co) (.slice bo nb cb) bv f (.slice ia ni ic)) rfl rfl snT sn0 hgA (by kernel_rfl) rfl hone ?_)
  refine wp_letter (fun W => Mem w W [(w.heap.size, .cells ip0 ipT), (w.heap.size + 1, .cells flZ flT), (w1.heap.size, .cells (snB p (.slice ao no co) (.slice bo nb cb) bv f (.slice ia ni ic)) snT (0, 0))] ∧ IpV W (w.heap.size + 2) (.agg (ipB p (.slice ao no co) (.slice bo nb cb))) p ∧ PtsV W (w.heap.size + 2) (.slice ia ni ic) f.inner) ⟨(hM1.push3 rfl).wrote 2 rfl (wrote_setRow _ _ sn0 (snB p (.slice ao no co) (.slice bo nb cb) bv f (.slice ia ni ic)) snT hgA), hi1.below (below_setRow ((Below.refl _ _).alloc (Nat.le_refl _) _) (Nat.le_refl _) _) (Nat.le_refl _), hp1.below (below_setRow ((Below.refl _ _).alloc (Nat.le_refl _) _) (Nat.le_refl _) _) (Nat.le_refl _)⟩ ?_
  intro w2 ⟨hM2, hi2, hp2⟩
  have HM2 : Hid _ := hM2
  have HV2 : Hid (IpV w2 (w.heap.size + 2) (.agg (ipB p (.slice ao no co) (.slice bo nb cb))) p ∧ PtsV w2 (w.heap.size + 2) (.slice ia ni ic) f.inner) := ⟨hi2, hp2⟩
  have r0 : w2.cell? ⟨w1.heap.size, 0, none⟩ = some (.int .u8 p.tos) := hM2.cell 2 rfl 0
  have r1 : w2.cell? ⟨w1.heap.size, 1, none⟩ = some (.int .u8 p.ttl) := hM2.cell 2 rfl 1
  have r2 : w2.cell? ⟨w1.heap.size, 2, none⟩ = some (.int .u8 p.proto) := hM2.cell 2 rfl 2
  have r3 : w2.cell? ⟨w1.heap.size, 3, none⟩ = some (.int .u16 p.id) := hM2.cell 2 rfl 3
  have r4 : w2.cell? ⟨w1.heap.size, 4, none⟩ = some (.int .u8 p.flags) := hM2.cell 2 rfl 4
  have r5 : w2.cell? ⟨w1.heap.size, 5, none⟩ = some (.int .u16 p.off) := hM2.cell 2 rfl 5
  have r6 : w2.cell? ⟨w1.heap.size, 6, none⟩ = some (.int .u32 p.src) := hM2.cell 2 rfl 6
  have r7 : w2.cell? ⟨w1.heap.size, 7, none⟩ = some (.int .u32 p.dst) := hM2.cell 2 rfl 7
  have r8 : w2.cell? ⟨w1.heap.size, 8, none⟩ = some (.slice ao no co) := hM2.cell 2 rfl 8
  have r9 : w2.cell? ⟨w1.heap.size, 9, none⟩ = some (.slice bo nb cb) := hM2.cell 2 rfl 9
  have r11 : w2.cell? ⟨w1.heap.size, 11, none⟩ = some (.int .u8 f.proto) := hM2.cell 2 rfl 11
  have r12 : w2.cell? ⟨w1.heap.size, 12, none⟩ = some (.int .u32 f.src.ip) := hM2.cell 2 rfl 12
  have r13 : w2.cell? ⟨w1.heap.size, 13, none⟩ = some (.int .u16 f.src.port) := hM2.cell 2 rfl 13
  have r14 : w2.cell? ⟨w1.heap.size, 14, none⟩ = some (.int .u32 f.dst.ip) := hM2.cell 2 rfl 14
  have r15 : w2.cell? ⟨w1.heap.size, 15, none⟩ = some (.int .u16 f.dst.port) := hM2.cell 2 rfl 15
  have r16 : w2.cell? ⟨w1.heap.size, 16, none⟩ = some (.int .u8 f.flags) := hM2.cell 2 rfl 16
  have r17 : w2.cell? ⟨w1.heap.size, 17, none⟩ = some (.slice ia ni ic) := hM2.cell 2 rfl 17
  have n1 : w.heap.size ≠ w1.heap.size := hM2.ne 0 2 rfl rfl (by decide)
  have n2 : w.heap.size + 1 ≠ w1.heap.size := hM2.ne 1 2 rfl rfl (by decide)
  have ka : ∀ i, w2.cell? ⟨w.heap.size, i, none⟩ = ip0[i]? := hM2.cell 0 rfl
  have kaf : ∀ i, w2.frozen? ⟨w.heap.size, i, none⟩ = false := hM2.free 0 rfl
  have kb : ∀ i, w2.cell? ⟨w.heap.size + 1, i, none⟩ = flZ[i]? := hM2.cell 1 rfl
  have kbf : ∀ i, w2.frozen? ⟨w.heap.size + 1, i, none⟩ = false := hM2.free 1 rfl
  clear hM1 hi1 hp1 hgA hone hM2 hi2 hp2 ho1
  generalize w1.heap.size = Q at *
  go_region_held3 (fun w' => w'.cell? ⟨Q, 0, none⟩ = some (.int .u8 p.tos) ∧ w'.cell? ⟨Q, 1, none⟩ = some (.int .u8 p.ttl) ∧ w'.cell? ⟨Q, 2, none⟩ = some (.int .u8 p.proto) ∧ w'.cell? ⟨Q, 3, none⟩ = some (.int .u16 p.id) ∧ w'.cell? ⟨Q, 4, none⟩ = some (.int .u8 p.flags) ∧ w'.cell? ⟨Q, 5, none⟩ = some (.int .u16 p.off) ∧ w'.cell? ⟨Q, 6, none⟩ = some (.int .u32 p.src) ∧ w'.cell? ⟨Q, 7, none⟩ = some (.int .u32 p.dst) ∧ w'.cell? ⟨Q, 8, none⟩ = some (.slice ao no co) ∧ w'.cell? ⟨Q, 9, none⟩ = some (.slice bo nb cb) ∧ w'.cell? ⟨Q, 11, none⟩ = some (.int .u8 f.proto) ∧ w'.cell? ⟨Q, 12, none⟩ = some (.int .u32 f.src.ip) ∧ w'.cell? ⟨Q, 13, none⟩ = some (.int .u16 f.src.port) ∧ w'.cell? ⟨Q, 14, none⟩ = some (.int .u32 f.dst.ip) ∧ w'.cell? ⟨Q, 15, none⟩ = some (.int .u16 f.dst.port) ∧ w'.cell? ⟨Q, 16, none⟩ = some (.int .u8 f.flags) ∧ w'.cell? ⟨Q, 17, none⟩ = some (.slice ia ni ic)) (go_keep) (fail)
  all_goals
    go_wp2_with fail
    refine post_fill (HM2.out.get 0 rfl) (HM2.out.get 1 rfl) (by omega) ?_
    intro W1 W2 h1 h2
    have hM4 := ((HM2.out.wrote 0 rfl h1).wrote 1 rfl h2).drew
    have hab : Above (w.heap.size + 2) w2 W2.drew := fun k hk => (h2.there k (by omega)).trans (h1.there k (by omega))
    refine post_letter (fun W => Mem w W [(w.heap.size, .cells (ipB p (.slice ao no co) (.slice bo nb cb)) ipT (0, 0)), (w.heap.size + 1, .cells (flB f (.slice ia ni ic)) flT (0, 0)), (Q, .cells (snB p (.slice ao no co) (.slice bo nb cb) bv f (.slice ia ni ic)) snT (0, 0))] ∧ Above (w.heap.size + 2) w2 W) ⟨hM4, hab⟩ ?_
    clear h1 h2 hM4 hab
    intro wz ⟨hz, hab⟩
    refine bodyPost_ret (v := .tuple #[.agg (ipB p (.slice ao no co) (.slice bo nb cb)), .agg (flB f (.slice ia ni ic)), .int .i64 E]) ?hres rfl ?hpost
    case hres => exact results_cell2_tmp (p := 2) (q := 3) (r := 4) (ty := ipT) (tz := flT) rfl _ _ w.heap.size (w.heap.size + 1) (ipB p (.slice ao no co) (.slice bo nb cb)) (flB f (.slice ia ni ic)) rfl rfl (run_loadVar_row _ _ ipT ipT _ (0, 0) _ (hz.get 0 rfl) Try.underlying39 rfl (by kernel_rfl)) (run_loadVar_row _ _ flT flT _ (0, 0) _ (hz.get 1 rfl) Try.underlying42 rfl (by kernel_rfl))
    case hpost => exact ⟨ao, bo, ia, co, cb, ic, rfl, (HV2.out.1.above hab).mono (by omega), (HV2.out.2.above hab).mono (by omega), hz.below⟩
end Go.Proofs.Ytjalpbkfpjfigaa

namespace Go.Proofs.Ytjalpbkfpjfigaa
open Go.RowKit
open Sm
set_option linter.unusedVariables false
set_option maxRecDepth 20000

abbrev ptA (s : Pt) : Array Value := #[.int .u32 s.ip, .int .u16 s.port]

set_option maxHeartbeats 400000 in
theorem iserr_any {w : World} (f : Fl) (ia : Option Addr) (n ic : Nat) :
    Calls Try.prog 52 #[.agg (flB f (.slice ia n ic))] w fun e w' => e = .returned (.bool (decide (0 < n))) ∧ Below w.heap.size w w' := by
  have HB : Hid (∀ o, Below w.heap.size w (w.alloc o)) := fun o => (Below.refl _ _).alloc (Nat.le_refl _) o
  go_enter Try.func52, Try.ntmps52
  go_wp2
  go_ret
  exact ⟨by simp, HB.out _⟩

set_option maxHeartbeats 1000000 in
theorem pfit_any {w : World} (f : Fl) (ia : Option Addr) (ic : Nat) (s d : Pt) :
    Calls Try.prog 28 #[.agg (flB f (.slice ia f.inner.length ic)), .agg (ptA s), .agg (ptA d)] w fun e w' => e = .returned (.bool (pfit f s d)) ∧ Below w.heap.size w w' := by
  have hM : Mem w (((w.alloc (.cells (flB f (.slice ia f.inner.length ic)) flT)).alloc (.cells (ptA s) ptT)).alloc (.cells (ptA d) ptT)) [(w.heap.size, .cells (flB f (.slice ia f.inner.length ic)) flT), (w.heap.size + 1, .cells (ptA s) ptT), (w.heap.size + 2, .cells (ptA d) ptT)] := (((Mem.nil w).push1 rfl).push2 (by simp)).push3 (by simp)
  have HF : Hid (pfit f s d = if 0 < f.inner.length then decide (s.port = 0 ∧ d.port = 0) else decide (f.proto ≠ 1 ∨ s.port = d.port)) := rfl
  have HM : Hid _ := hM
  clear hM
  generalize pfit f s d = R at *
  generalize f.inner.length = n at *
  go_enter Try.func28, Try.ntmps28
  go_upto_region 1 with fail
  refine wp_letter (fun W => Mem w W [(w.heap.size, .cells (flB f (.slice ia n ic)) flT), (w.heap.size + 1, .cells (ptA s) ptT), (w.heap.size + 2, .cells (ptA d) ptT)]) HM.out ?_
  intro w1 hM1
  have HM1 : Hid _ := hM1
  have kc : ∀ i, w1.cell? ⟨w.heap.size, i, none⟩ = (flB f (.slice ia n ic))[i]? := hM1.cell 0 rfl
  have hC := iserr_any (w := w1) f ia n ic
  clear hM1 HM
  go_wp2_with fail
  refine hC.mono ?_
  rintro e w2 ⟨rfl, hb2⟩
  have hM2 := HM1.out.after hb2
  have HB : Hid _ := hM2.below
  have k0 : w2.cell? ⟨w.heap.size, 0, none⟩ = some (.int .u8 f.proto) := hM2.cell 0 rfl 0
  have k1 : w2.cell? ⟨w.heap.size + 1, 1, none⟩ = some (.int .u16 s.port) := hM2.cell 1 rfl 1
  have k2 : w2.cell? ⟨w.heap.size + 2, 1, none⟩ = some (.int .u16 d.port) := hM2.cell 2 rfl 1
  clear hC kc hb2 hM2 HM1
  by_cases hn : 0 < n
  · rw [decide_eq_true hn]
    rw [if_pos hn] at HF
    clear hn
    by_cases hs : s.port = 0
    · rw [hs] at k1
      rw [hs] at HF
      go_wp2_with fail
      go_ret
      exact ⟨by rw [HF.out]; simp <;> rfl, HB.out⟩
    · go_wp2_with fail
      go_ret
      exact ⟨by rw [HF.out]; simp [hs] <;> rfl, HB.out⟩
  · rw [decide_eq_false hn]
    rw [if_neg hn] at HF
    clear hn
    by_cases hp : f.proto = 1
    · rw [hp] at k0
      rw [hp] at HF
      go_wp2_with fail
      go_ret
      exact ⟨by rw [HF.out]; simp <;> rfl, HB.out⟩
    · go_wp2_with fail
      go_ret
      exact ⟨by rw [HF.out]; simp [hp] <;> rfl, HB.out⟩

set_option maxHeartbeats 1000000 in
/-- What rewrite.sealed answers, whatever message it is handed. -/
theorem seal_any {w : World} {B : Nat} {v : Value} {m : Mg} (hm : m.Ok) (hv : MgV w B v m) :
    Calls Try.prog 57 #[v] w fun e w' => ∃ u, e = .returned u ∧ w'.ownsRow w.heap.size 5 1 u (mgOut (msl m)).length ((mgOut (msl m)).map (Value.int .u8)) ∧ Below w.heap.size w w' := by
  have hv' := hv
  obtain ⟨bo, cb, rfl, -⟩ := hv'
  have hM : Mem w (w.alloc (.cells (mgB m bo m.body.length cb) mgT)) [(w.heap.size, .cells (mgB m bo m.body.length cb) mgT)] := (Mem.nil w).push1 rfl
  have hS := msum_any hm (mgv_box hv (.cells (mgB m bo m.body.length cb) mgT))
  have hr := msum_range m
  have HK : Hid (msl m).Ok := hm.at hr.1 hr.2
  have HV : Hid (∀ W, Below w.heap.size w W → MgV W 0 (.agg (mgA m.typ m.code (msum m) m.rest (.slice bo m.body.length cb))) (msl m)) := fun W hb => ((mgv_at hv (msum m)).below hb (Nat.le_refl _)).mono (Nat.zero_le _)
  have HM : Hid _ := hM
  clear hM hr hm hv
  generalize msum m = S at *
  generalize m.body.length = n at *
  generalize msl m = q at *
  go_enter Try.func57, Try.ntmps57
  go_wp2_with fail
  refine hS.mono ?_
  rintro e w1 ⟨rfl, hb1⟩
  have hM1 := HM.out.after hb1
  have kc : ∀ i, w1.cell? ⟨w.heap.size, i, none⟩ = (mgB m bo n cb)[i]? := hM1.cell 0 rfl
  have kf : ∀ i, w1.frozen? ⟨w.heap.size, i, none⟩ = false := hM1.free 0 rfl
  have HM1 : Hid _ := hM1
  clear hM1 hb1 hS HM
  go_upto_region 2 with fail
  refine wp_letter (fun W => Mem w W [(w.heap.size, .cells (mgA m.typ m.code S m.rest (.slice bo n cb)) mgT (0, 0))]) (HM1.out.set 0 rfl 2 _) ?_
  intro w2 hM2
  have HM2 : Hid _ := hM2
  clear kc kf HM1
  have kc : ∀ i, w2.cell? ⟨w.heap.size, i, none⟩ = (mgA m.typ m.code S m.rest (.slice bo n cb))[i]? := hM2.cell 0 rfl
  have hB := mbytes_any HK.out (HV.out w2 hM2.below)
  clear hM2
  go_wp2_with fail
  refine hB.mono ?_
  rintro e w3 ⟨u, rfl, hown, hb3⟩
  have HB3 : Hid _ := HM2.out.below.trans (hb3.mono HM2.out.below.size)
  have HU : Hid _ := own_base hown HM2.out.below.size
  clear hown hb3 hB kc
  go_wp2_with fail
  go_ret
  exact ⟨_, rfl, HU.out, HB3.out⟩
end Go.Proofs.Ytjalpbkfpjfigaa

