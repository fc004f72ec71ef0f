/-
  What the document's own lychref8.inner answers, whatever bytes it is handed.
-/
import Derived.Test.YtjalpbkfpjfigaaGreatRwPoints
import Derived.Test.YtjalpbkfpjfigaaGreatRwSeen
import Derived.Test.YtjalpbkfpjfigaaGreatLong
namespace Go.Proofs.YtjalpbkfpjfigaaGreat
open Go.RowKit
open Sm
set_option linter.unusedVariables false
set_option maxRecDepth 20000

theorem results_in {fn : Func} {p q r s t : Tmp} {ty : TypeId} (h : fn.results = #[.cell p ty, .cell q ty, .tmp r, .tmp s, .tmp t]) (tmps : Array Value) (w : World) (g k : Nat) (cs ds : Array Value)
    (hp : tmps.getD p undef = .pointer (some ⟨g, 0, none⟩)) (hq : tmps.getD q undef = .pointer (some ⟨k, 0, none⟩)) (hl : (loadVar ty ⟨g, 0, none⟩).run Tryz.prog w = .ok (.agg cs) w) (hm : (loadVar ty ⟨k, 0, none⟩).run Tryz.prog w = .ok (.agg ds) w) :
    (results fn tmps).run Tryz.prog w = .ok (.tuple #[.agg cs, .agg ds, tmps.getD r undef, tmps.getD s undef, tmps.getD t undef]) w := by
  have hp' : tmps[p]?.getD undef = .pointer (some ⟨g, 0, none⟩) := by simpa using hp
  have hq' : tmps[q]?.getD undef = .pointer (some ⟨k, 0, none⟩) := by simpa using hq
  simp [results, h, hp', hq', asAddr, hl, hm]

set_option maxHeartbeats 2000000 in
theorem rin_short {w : World} (a : Option Addr) (n c : Nat) (h : n < 20) :
    Calls Tryz.prog 40 #[.slice a n c] w fun e w' => e = .returned (.tuple #[.agg #[.int .u32 0, .int .u16 0], .agg #[.int .u32 0, .int .u16 0], .int .u8 0, .int .i64 0, .bool false]) ∧ Below w.heap.size w w' := by
  have HM : Hid (Mem w (((w.alloc (.cells #[.int .u32 0, .int .u16 0] ptT)).alloc (.cells #[.int .u32 0, .int .u16 0] ptT)).alloc (.cells #[.int .u32 0, .int .u16 0] ptT)) [(w.heap.size, .cells #[.int .u32 0, .int .u16 0] ptT), (w.heap.size + 1, .cells #[.int .u32 0, .int .u16 0] ptT), (w.heap.size + 2, .cells #[.int .u32 0, .int .u16 0] ptT)]) := (((Mem.nil w).push1 rfl).push2 (by simp)).push3 (by simp)
  have h1 : (n : Int) < 20 := by omega
  clear h
  go_enter Tryz.func40, Tryz.ntmps40
  go_upto_region 3 with fail
  refine wp_letter (fun W => Mem w W [(w.heap.size, .cells #[.int .u32 0, .int .u16 0] ptT), (w.heap.size + 1, .cells #[.int .u32 0, .int .u16 0] ptT), (w.heap.size + 2, .cells #[.int .u32 0, .int .u16 0] ptT)]) HM.out ?_
  intro w1 hM1
  have HM1 : Hid (Mem w w1 _) := hM1
  clear hM1 HM
  have c0 : w1.cell? ⟨w.heap.size + 2, 0, none⟩ = some (.int .u32 0) := HM1.out.cell 2 rfl 0
  have c1 : w1.cell? ⟨w.heap.size + 2, 1, none⟩ = some (.int .u16 0) := HM1.out.cell 2 rfl 1
  have fa : ∀ i, w1.frozen? ⟨w.heap.size, i, none⟩ = false := HM1.out.free 0 rfl
  have fb : ∀ i, w1.frozen? ⟨w.heap.size + 1, i, none⟩ = false := HM1.out.free 1 rfl
  have ca : ∀ i, w1.cell? ⟨w.heap.size, i, none⟩ = (#[.int .u32 0, .int .u16 0] : Array Value)[i]? := HM1.out.cell 0 rfl
  have cb : ∀ i, w1.cell? ⟨w.heap.size + 1, i, none⟩ = (#[.int .u32 0, .int .u16 0] : Array Value)[i]? := HM1.out.cell 1 rfl
  go_region_held3 (fun w' => w'.cell? ⟨w.heap.size + 2, 0, none⟩ = some (.int .u32 0) ∧ w'.cell? ⟨w.heap.size + 2, 1, none⟩ = some (.int .u16 0)) (go_keep) (fail)
  all_goals
    go_wp2_with fail
    (try simp only [Exit.inBlock, Exit.then])
    refine post_letter (fun W => Mem w W [(w.heap.size, .cells #[.int .u32 0, .int .u16 0] ptT), (w.heap.size + 1, .cells #[.int .u32 0, .int .u16 0] ptT), (w.heap.size + 2, .cells #[.int .u32 0, .int .u16 0] ptT)]) (by first | exact ((((HM1.out.drew.set 0 rfl 0 _).set 0 rfl 1 _).set 1 rfl 0 _).set 1 rfl 1 _) | exact ((((HM1.out.drew.set 1 rfl 0 _).set 1 rfl 1 _).set 0 rfl 0 _).set 0 rfl 1 _)) ?_
    intro wz hz
    refine bodyPost_ret (v := .tuple #[.agg #[.int .u32 0, .int .u16 0], .agg #[.int .u32 0, .int .u16 0], .int .u8 0, .int .i64 0, .bool false]) ?hres rfl ?hpost
    case hres => exact results_in (p := 2) (q := 3) (r := 4) (s := 5) (t := 6) (ty := ptT) rfl _ _ w.heap.size (w.heap.size + 1) _ _ rfl rfl (run_loadVar_row _ _ ptT ptT _ (0, 0) _ (hz.get 0 rfl) Tryz.underlying32 rfl (by kernel_rfl)) (run_loadVar_row _ _ ptT ptT _ (0, 0) _ (hz.get 1 rfl) Tryz.underlying32 rfl (by kernel_rfl))
    case hpost => exact ⟨rfl, hz.below⟩

set_option maxHeartbeats 2000000 in
theorem rin_version {w : World} {b off n c : Nat} {l : List Int} (hr : Row w (some ⟨b, off, none⟩) l) (hn : l.length = n) (h20 : 20 ≤ n) (hv : ¬ l.getD 0 0 / 16 = 4) :
    Calls Tryz.prog 40 #[.slice (some ⟨b, off, none⟩) n c] w fun e w' => e = .returned (.tuple #[.agg #[.int .u32 0, .int .u16 0], .agg #[.int .u32 0, .int .u16 0], .int .u8 0, .int .i64 0, .bool false]) ∧ Below w.heap.size w w' := by
  have HM : Hid (Mem w (((w.alloc (.cells #[.int .u32 0, .int .u16 0] ptT)).alloc (.cells #[.int .u32 0, .int .u16 0] ptT)).alloc (.cells #[.int .u32 0, .int .u16 0] ptT)) [(w.heap.size, .cells #[.int .u32 0, .int .u16 0] ptT), (w.heap.size + 1, .cells #[.int .u32 0, .int .u16 0] ptT), (w.heap.size + 2, .cells #[.int .u32 0, .int .u16 0] ptT)]) := (((Mem.nil w).push1 rfl).push2 (by simp)).push3 (by simp)
  have hx := hr.bytes 0
  have hlen := hr.len
  have hand := sm_low4 (l.getD 0 0) hx.1 hx.2
  obtain ⟨H, hH⟩ : ∃ H, hdl l = H := ⟨_, rfl⟩
  have hE : l.getD 0 0 % 16 * 4 = (H : Int) := by rw [← hH]; unfold hdl; omega
  have v3 := wrap64_small (l.getD 0 0 % 16) (by omega) (by omega)
  have v4 := wrap64_small (H : Int) (by omega) (by omega)
  have v5 := wrap64_small ((H : Int) + 8) (by omega) (by omega)
  have HRw : Hid (Row w (some ⟨b, off, none⟩) l ∧ l.length = n) := ⟨hr, hn⟩
  have i0 : (0 : Int) < n := by omega
  have i20 : (20 : Int) ≤ n := by omega
  have i9 : (9 : Int) < n := by omega
  have hv2 : (l.getD 0 0 / 16 == 4) = false := beq_eq_false_iff_ne.mpr hv
  have hv3 : decide (l.getD 0 0 / 16 = 4) = false := decide_eq_false hv
  have hv4 : (l.getD 0 0 / 16 != 4) = true := bne_iff_ne.mpr hv
  clear hr hn h20 hH
  go_enter Tryz.func40, Tryz.ntmps40
  go_upto_region 2 with fail
  refine wp_letter (fun W => Mem w W [(w.heap.size, .cells #[.int .u32 0, .int .u16 0] ptT), (w.heap.size + 1, .cells #[.int .u32 0, .int .u16 0] ptT), (w.heap.size + 2, .cells #[.int .u32 0, .int .u16 0] ptT)]) HM.out ?_
  intro w1 hM1
  have HM1 : Hid (Mem w w1 [(w.heap.size, .cells #[.int .u32 0, .int .u16 0] ptT), (w.heap.size + 1, .cells #[.int .u32 0, .int .u16 0] ptT), (w.heap.size + 2, .cells #[.int .u32 0, .int .u16 0] ptT)]) := hM1
  have c0 : w1.cell? ⟨b, off, none⟩ = some (.int .u8 (l.getD 0 0)) := (hM1.row HRw.out.1).cellAt 0 (by have := HRw.out.2; omega)
  clear hM1 HM
  generalize l.getD 0 0 = x at *
  go_upto_region 3 with fail
  clear c0
  have HM2 : Hid (Mem w w1 [(w.heap.size, .cells #[.int .u32 0, .int .u16 0] ptT), (w.heap.size + 1, .cells #[.int .u32 0, .int .u16 0] ptT), (w.heap.size + 2, .cells #[.int .u32 0, .int .u16 0] ptT)]) := HM1.out
  have c0 : w1.cell? ⟨w.heap.size + 2, 0, none⟩ = some (.int .u32 0) := HM2.out.cell 2 rfl 0
  have c1 : w1.cell? ⟨w.heap.size + 2, 1, none⟩ = some (.int .u16 0) := HM2.out.cell 2 rfl 1
  have fa : ∀ i, w1.frozen? ⟨w.heap.size, i, none⟩ = false := HM2.out.free 0 rfl
  have fb : ∀ i, w1.frozen? ⟨w.heap.size + 1, i, none⟩ = false := HM2.out.free 1 rfl
  have ca : ∀ i, w1.cell? ⟨w.heap.size, i, none⟩ = (#[.int .u32 0, .int .u16 0] : Array Value)[i]? := HM2.out.cell 0 rfl
  have cb : ∀ i, w1.cell? ⟨w.heap.size + 1, i, none⟩ = (#[.int .u32 0, .int .u16 0] : Array Value)[i]? := HM2.out.cell 1 rfl
  go_region_held3 (fun w' => w'.cell? ⟨w.heap.size + 2, 0, none⟩ = some (.int .u32 0) ∧ w'.cell? ⟨w.heap.size + 2, 1, none⟩ = some (.int .u16 0)) (go_keep) (fail)
  all_goals
    go_wp2_with fail
    (try simp only [Exit.inBlock, Exit.then])
    refine post_letter (fun W => Mem w W [(w.heap.size, .cells #[.int .u32 0, .int .u16 0] ptT), (w.heap.size + 1, .cells #[.int .u32 0, .int .u16 0] ptT), (w.heap.size + 2, .cells #[.int .u32 0, .int .u16 0] ptT)]) (by first | exact ((((HM2.out.drew.set 0 rfl 0 _).set 0 rfl 1 _).set 1 rfl 0 _).set 1 rfl 1 _) | exact ((((HM2.out.drew.set 1 rfl 0 _).set 1 rfl 1 _).set 0 rfl 0 _).set 0 rfl 1 _)) ?_
    intro wz hz
    refine bodyPost_ret (v := .tuple #[.agg #[.int .u32 0, .int .u16 0], .agg #[.int .u32 0, .int .u16 0], .int .u8 0, .int .i64 0, .bool false]) ?hres rfl ?hpost
    case hres => exact results_in (p := 2) (q := 3) (r := 4) (s := 5) (t := 6) (ty := ptT) rfl _ _ w.heap.size (w.heap.size + 1) _ _ rfl rfl (run_loadVar_row _ _ ptT ptT _ (0, 0) _ (hz.get 0 rfl) Tryz.underlying32 rfl (by kernel_rfl)) (run_loadVar_row _ _ ptT ptT _ (0, 0) _ (hz.get 1 rfl) Tryz.underlying32 rfl (by kernel_rfl))
    case hpost => exact ⟨rfl, hz.below⟩

set_option maxHeartbeats 2000000 in
theorem rin_low {w : World} {b off n c : Nat} {l : List Int} (hr : Row w (some ⟨b, off, none⟩) l) (hn : l.length = n) (h20 : 20 ≤ n) (hv : l.getD 0 0 / 16 = 4) (hh : hdl l < 20) :
    Calls Tryz.prog 40 #[.slice (some ⟨b, off, none⟩) n c] w fun e w' => e = .returned (.tuple #[.agg #[.int .u32 0, .int .u16 0], .agg #[.int .u32 0, .int .u16 0], .int .u8 0, .int .i64 0, .bool false]) ∧ Below w.heap.size w w' := by
  have HM : Hid (Mem w (((w.alloc (.cells #[.int .u32 0, .int .u16 0] ptT)).alloc (.cells #[.int .u32 0, .int .u16 0] ptT)).alloc (.cells #[.int .u32 0, .int .u16 0] ptT)) [(w.heap.size, .cells #[.int .u32 0, .int .u16 0] ptT), (w.heap.size + 1, .cells #[.int .u32 0, .int .u16 0] ptT), (w.heap.size + 2, .cells #[.int .u32 0, .int .u16 0] ptT)]) := (((Mem.nil w).push1 rfl).push2 (by simp)).push3 (by simp)
  have hx := hr.bytes 0
  have hlen := hr.len
  have hand := sm_low4 (l.getD 0 0) hx.1 hx.2
  obtain ⟨H, hH⟩ : ∃ H, hdl l = H := ⟨_, rfl⟩
  have hE : l.getD 0 0 % 16 * 4 = (H : Int) := by rw [← hH]; unfold hdl; omega
  have v3 := wrap64_small (l.getD 0 0 % 16) (by omega) (by omega)
  have v4 := wrap64_small (H : Int) (by omega) (by omega)
  have v5 := wrap64_small ((H : Int) + 8) (by omega) (by omega)
  have HRw : Hid (Row w (some ⟨b, off, none⟩) l ∧ l.length = n) := ⟨hr, hn⟩
  have i0 : (0 : Int) < n := by omega
  have i20 : (20 : Int) ≤ n := by omega
  have i9 : (9 : Int) < n := by omega
  have hh2 : (H : Int) < 20 := by omega
  clear hh
  clear hr hn h20 hH
  go_enter Tryz.func40, Tryz.ntmps40
  go_upto_region 2 with fail
  refine wp_letter (fun W => Mem w W [(w.heap.size, .cells #[.int .u32 0, .int .u16 0] ptT), (w.heap.size + 1, .cells #[.int .u32 0, .int .u16 0] ptT), (w.heap.size + 2, .cells #[.int .u32 0, .int .u16 0] ptT)]) HM.out ?_
  intro w1 hM1
  have HM1 : Hid (Mem w w1 [(w.heap.size, .cells #[.int .u32 0, .int .u16 0] ptT), (w.heap.size + 1, .cells #[.int .u32 0, .int .u16 0] ptT), (w.heap.size + 2, .cells #[.int .u32 0, .int .u16 0] ptT)]) := hM1
  have c0 : w1.cell? ⟨b, off, none⟩ = some (.int .u8 (l.getD 0 0)) := (hM1.row HRw.out.1).cellAt 0 (by have := HRw.out.2; omega)
  clear hM1 HM
  generalize l.getD 0 0 = x at *
  go_upto_region 6 with fail
  clear c0
  have HM2 : Hid (Mem w w1 [(w.heap.size, .cells #[.int .u32 0, .int .u16 0] ptT), (w.heap.size + 1, .cells #[.int .u32 0, .int .u16 0] ptT), (w.heap.size + 2, .cells #[.int .u32 0, .int .u16 0] ptT)]) := HM1.out
  have c0 : w1.cell? ⟨w.heap.size + 2, 0, none⟩ = some (.int .u32 0) := HM2.out.cell 2 rfl 0
  have c1 : w1.cell? ⟨w.heap.size + 2, 1, none⟩ = some (.int .u16 0) := HM2.out.cell 2 rfl 1
  have fa : ∀ i, w1.frozen? ⟨w.heap.size, i, none⟩ = false := HM2.out.free 0 rfl
  have fb : ∀ i, w1.frozen? ⟨w.heap.size + 1, i, none⟩ = false := HM2.out.free 1 rfl
  have ca : ∀ i, w1.cell? ⟨w.heap.size, i, none⟩ = (#[.int .u32 0, .int .u16 0] : Array Value)[i]? := HM2.out.cell 0 rfl
  have cb : ∀ i, w1.cell? ⟨w.heap.size + 1, i, none⟩ = (#[.int .u32 0, .int .u16 0] : Array Value)[i]? := HM2.out.cell 1 rfl
  go_region_held3 (fun w' => w'.cell? ⟨w.heap.size + 2, 0, none⟩ = some (.int .u32 0) ∧ w'.cell? ⟨w.heap.size + 2, 1, none⟩ = some (.int .u16 0)) (go_keep) (fail)
  all_goals
    go_wp2_with fail
    (try simp only [Exit.inBlock, Exit.then])
    refine post_letter (fun W => Mem w W [(w.heap.size, .cells #[.int .u32 0, .int .u16 0] ptT), (w.heap.size + 1, .cells #[.int .u32 0, .int .u16 0] ptT), (w.heap.size + 2, .cells #[.int .u32 0, .int .u16 0] ptT)]) (by first | exact ((((HM2.out.drew.set 0 rfl 0 _).set 0 rfl 1 _).set 1 rfl 0 _).set 1 rfl 1 _) | exact ((((HM2.out.drew.set 1 rfl 0 _).set 1 rfl 1 _).set 0 rfl 0 _).set 0 rfl 1 _)) ?_
    intro wz hz
    refine bodyPost_ret (v := .tuple #[.agg #[.int .u32 0, .int .u16 0], .agg #[.int .u32 0, .int .u16 0], .int .u8 0, .int .i64 0, .bool false]) ?hres rfl ?hpost
    case hres => exact results_in (p := 2) (q := 3) (r := 4) (s := 5) (t := 6) (ty := ptT) rfl _ _ w.heap.size (w.heap.size + 1) _ _ rfl rfl (run_loadVar_row _ _ ptT ptT _ (0, 0) _ (hz.get 0 rfl) Tryz.underlying32 rfl (by kernel_rfl)) (run_loadVar_row _ _ ptT ptT _ (0, 0) _ (hz.get 1 rfl) Tryz.underlying32 rfl (by kernel_rfl))
    case hpost => exact ⟨rfl, hz.below⟩

set_option maxHeartbeats 2000000 in
theorem rin_cut {w : World} {b off n c : Nat} {l : List Int} (hr : Row w (some ⟨b, off, none⟩) l) (hn : l.length = n) (h20 : 20 ≤ n) (hv : l.getD 0 0 / 16 = 4) (hh : 20 ≤ hdl l) (h8 : n < hdl l + 8) :
    Calls Tryz.prog 40 #[.slice (some ⟨b, off, none⟩) n c] w fun e w' => e = .returned (.tuple #[.agg #[.int .u32 0, .int .u16 0], .agg #[.int .u32 0, .int .u16 0], .int .u8 0, .int .i64 0, .bool false]) ∧ Below w.heap.size w w' := by
  have HM : Hid (Mem w (((w.alloc (.cells #[.int .u32 0, .int .u16 0] ptT)).alloc (.cells #[.int .u32 0, .int .u16 0] ptT)).alloc (.cells #[.int .u32 0, .int .u16 0] ptT)) [(w.heap.size, .cells #[.int .u32 0, .int .u16 0] ptT), (w.heap.size + 1, .cells #[.int .u32 0, .int .u16 0] ptT), (w.heap.size + 2, .cells #[.int .u32 0, .int .u16 0] ptT)]) := (((Mem.nil w).push1 rfl).push2 (by simp)).push3 (by simp)
  have hx := hr.bytes 0
  have hlen := hr.len
  have hand := sm_low4 (l.getD 0 0) hx.1 hx.2
  obtain ⟨H, hH⟩ : ∃ H, hdl l = H := ⟨_, rfl⟩
  have hE : l.getD 0 0 % 16 * 4 = (H : Int) := by rw [← hH]; unfold hdl; omega
  have v3 := wrap64_small (l.getD 0 0 % 16) (by omega) (by omega)
  have v4 := wrap64_small (H : Int) (by omega) (by omega)
  have v5 := wrap64_small ((H : Int) + 8) (by omega) (by omega)
  have HRw : Hid (Row w (some ⟨b, off, none⟩) l ∧ l.length = n) := ⟨hr, hn⟩
  have i0 : (0 : Int) < n := by omega
  have i20 : (20 : Int) ≤ n := by omega
  have i9 : (9 : Int) < n := by omega
  have hh2 : (20 : Int) ≤ (H : Int) := by omega
  have hh3 : (n : Int) < (H : Int) + 8 := by omega
  clear hh h8
  clear hr hn h20 hH
  go_enter Tryz.func40, Tryz.ntmps40
  go_upto_region 2 with fail
  refine wp_letter (fun W => Mem w W [(w.heap.size, .cells #[.int .u32 0, .int .u16 0] ptT), (w.heap.size + 1, .cells #[.int .u32 0, .int .u16 0] ptT), (w.heap.size + 2, .cells #[.int .u32 0, .int .u16 0] ptT)]) HM.out ?_
  intro w1 hM1
  have HM1 : Hid (Mem w w1 [(w.heap.size, .cells #[.int .u32 0, .int .u16 0] ptT), (w.heap.size + 1, .cells #[.int .u32 0, .int .u16 0] ptT), (w.heap.size + 2, .cells #[.int .u32 0, .int .u16 0] ptT)]) := hM1
  have c0 : w1.cell? ⟨b, off, none⟩ = some (.int .u8 (l.getD 0 0)) := (hM1.row HRw.out.1).cellAt 0 (by have := HRw.out.2; omega)
  clear hM1 HM
  generalize l.getD 0 0 = x at *
  go_upto_region 6 with fail
  clear c0
  have HM2 : Hid (Mem w w1 [(w.heap.size, .cells #[.int .u32 0, .int .u16 0] ptT), (w.heap.size + 1, .cells #[.int .u32 0, .int .u16 0] ptT), (w.heap.size + 2, .cells #[.int .u32 0, .int .u16 0] ptT)]) := HM1.out
  have c0 : w1.cell? ⟨w.heap.size + 2, 0, none⟩ = some (.int .u32 0) := HM2.out.cell 2 rfl 0
  have c1 : w1.cell? ⟨w.heap.size + 2, 1, none⟩ = some (.int .u16 0) := HM2.out.cell 2 rfl 1
  have fa : ∀ i, w1.frozen? ⟨w.heap.size, i, none⟩ = false := HM2.out.free 0 rfl
  have fb : ∀ i, w1.frozen? ⟨w.heap.size + 1, i, none⟩ = false := HM2.out.free 1 rfl
  have ca : ∀ i, w1.cell? ⟨w.heap.size, i, none⟩ = (#[.int .u32 0, .int .u16 0] : Array Value)[i]? := HM2.out.cell 0 rfl
  have cb : ∀ i, w1.cell? ⟨w.heap.size + 1, i, none⟩ = (#[.int .u32 0, .int .u16 0] : Array Value)[i]? := HM2.out.cell 1 rfl
  go_region_held3 (fun w' => w'.cell? ⟨w.heap.size + 2, 0, none⟩ = some (.int .u32 0) ∧ w'.cell? ⟨w.heap.size + 2, 1, none⟩ = some (.int .u16 0)) (go_keep) (fail)
  all_goals
    go_wp2_with fail
    (try simp only [Exit.inBlock, Exit.then])
    refine post_letter (fun W => Mem w W [(w.heap.size, .cells #[.int .u32 0, .int .u16 0] ptT), (w.heap.size + 1, .cells #[.int .u32 0, .int .u16 0] ptT), (w.heap.size + 2, .cells #[.int .u32 0, .int .u16 0] ptT)]) (by first | exact ((((HM2.out.drew.set 0 rfl 0 _).set 0 rfl 1 _).set 1 rfl 0 _).set 1 rfl 1 _) | exact ((((HM2.out.drew.set 1 rfl 0 _).set 1 rfl 1 _).set 0 rfl 0 _).set 0 rfl 1 _)) ?_
    intro wz hz
    refine bodyPost_ret (v := .tuple #[.agg #[.int .u32 0, .int .u16 0], .agg #[.int .u32 0, .int .u16 0], .int .u8 0, .int .i64 0, .bool false]) ?hres rfl ?hpost
    case hres => exact results_in (p := 2) (q := 3) (r := 4) (s := 5) (t := 6) (ty := ptT) rfl _ _ w.heap.size (w.heap.size + 1) _ _ rfl rfl (run_loadVar_row _ _ ptT ptT _ (0, 0) _ (hz.get 0 rfl) Tryz.underlying32 rfl (by kernel_rfl)) (run_loadVar_row _ _ ptT ptT _ (0, 0) _ (hz.get 1 rfl) Tryz.underlying32 rfl (by kernel_rfl))
    case hpost => exact ⟨rfl, hz.below⟩

end Go.Proofs.YtjalpbkfpjfigaaGreat
