/-
  What the document's own lychref8.inner answers of what no points can be told.
  What rewrite.Look answers, whatever bytes it is handed.
  What rewrite.isError, rewrite.portsFit, rewrite.sealed and rewrite.changed answer.
-/
import Derived.Test.YtjalpbkfpjfigaaGreatM29
import Derived.Test.YtjalpbkfpjfigaaGreatM14
import Derived.Test.YtjalpbkfpjfigaaGreatM20
import Derived.Test.YtjalpbkfpjfigaaGreatM23
namespace Go.Proofs.YtjalpbkfpjfigaaGreat
open Go.RowKit
open Sm
set_option linter.unusedVariables false
set_option maxRecDepth 20000

set_option maxHeartbeats 4000000 in
theorem rin_type {w : World} {b off n c : Nat} {l : List Int} (hr : Row w (some ⟨b, off, none⟩) l) (hn : l.length = n) (h20 : 20 ≤ n) (hv : l.getD 0 0 / 16 = 4) (hh : 20 ≤ hdl l) (h8 : hdl l + 8 ≤ n) (hy : l.getD 9 0 = 1) (h1 : ¬ l.getD (hdl l) 0 = 8) (h2 : ¬ l.getD (hdl l) 0 = 0) :
    Calls Tryz.prog 40 #[.slice (some ⟨b, off, none⟩) n c] w fun e w' => e = .returned (.tuple #[.agg #[.int .u32 0, .int .u16 0], .agg #[.int .u32 0, .int .u16 0], .int .u8 0, .int .i64 0, .bool false]) ∧ Below w.heap.size w w' := by
  have HM : Hid (Mem w (((w.alloc (.cells #[.int .u32 0, .int .u16 0] ptT)).alloc (.cells #[.int .u32 0, .int .u16 0] ptT)).alloc (.cells #[.int .u32 0, .int .u16 0] ptT)) [(w.heap.size, .cells #[.int .u32 0, .int .u16 0] ptT), (w.heap.size + 1, .cells #[.int .u32 0, .int .u16 0] ptT), (w.heap.size + 2, .cells #[.int .u32 0, .int .u16 0] ptT)]) := (((Mem.nil w).push1 rfl).push2 (by simp)).push3 (by simp)
  have hx := hr.bytes 0
  have hlen := hr.len
  have hand := sm_low4 (l.getD 0 0) hx.1 hx.2
  obtain ⟨H, hH⟩ : ∃ H, hdl l = H := ⟨_, rfl⟩
  have hE : l.getD 0 0 % 16 * 4 = (H : Int) := by rw [← hH]; unfold hdl; omega
  have v3 := wrap64_small (l.getD 0 0 % 16) (by omega) (by omega)
  have v4 := wrap64_small (H : Int) (by omega) (by omega)
  have v5 := wrap64_small ((H : Int) + 8) (by omega) (by omega)
  have HRw : Hid (Row w (some ⟨b, off, none⟩) l ∧ l.length = n) := ⟨hr, hn⟩
  have i0 : (0 : Int) < n := by omega
  have i20 : (20 : Int) ≤ n := by omega
  have i9 : (9 : Int) < n := by omega
  have hh2 : (20 : Int) ≤ (H : Int) := by omega
  have hh3 : (H : Int) + 8 ≤ (n : Int) := by omega
  have hh4 : (H : Int) < (n : Int) := by omega
  have hh5 : (H : Int) + 1 < (n : Int) := by omega
  have hT0 : ((H : Nat) : Int).toNat = H := by omega
  have hT1 : ((H : Int) + 1).toNat = H + 1 := by omega
  have v6 := wrap64_small ((H : Int) + 1) (by omega) (by omega)
  have v7 := wrap64_small ((H : Int) + 2) (by omega) (by omega)
  have v8 := wrap64_small ((H : Int) + 4) (by omega) (by omega)
  have HL : Hid (H + 8 ≤ n ∧ 20 ≤ n ∧ hdl l = H) := ⟨by omega, h20, hH⟩
  rw [hH] at h1 h2
  clear hr hn h20 hH hh h8
  go_enter Tryz.func40, Tryz.ntmps40
  go_upto_region 2 with fail
  refine wp_letter (fun W => Mem w W [(w.heap.size, .cells #[.int .u32 0, .int .u16 0] ptT), (w.heap.size + 1, .cells #[.int .u32 0, .int .u16 0] ptT), (w.heap.size + 2, .cells #[.int .u32 0, .int .u16 0] ptT)]) HM.out ?_
  intro w1 hM1
  have HM1 : Hid (Mem w w1 [(w.heap.size, .cells #[.int .u32 0, .int .u16 0] ptT), (w.heap.size + 1, .cells #[.int .u32 0, .int .u16 0] ptT), (w.heap.size + 2, .cells #[.int .u32 0, .int .u16 0] ptT)]) := hM1
  have c0 : w1.cell? ⟨b, off, none⟩ = some (.int .u8 (l.getD 0 0)) := (hM1.row HRw.out.1).cellAt 0 (by have := HRw.out.2; omega)
  clear hM1 HM
  generalize l.getD 0 0 = x at *
  have C12 : Calls Tryz.prog 70 #[.slice (some ⟨b, off, none⟩) n c, .int .i64 12] w1 fun e w' => e = .returned (.int .u32 (w32 l 12)) ∧ Mem w w' [(w.heap.size, .cells #[.int .u32 0, .int .u16 0] ptT), (w.heap.size + 1, .cells #[.int .u32 0, .int .u16 0] ptT), (w.heap.size + 2, .cells #[.int .u32 0, .int .u16 0] ptT)] := get32_mem HM1.out HRw.out.1 12 n c HRw.out.2 (by have := HL.out; omega)
  go_wp2_with fail
  refine C12.mono ?_
  rintro e w2 ⟨rfl, hM2⟩
  have HM2 : Hid (Mem w w2 [(w.heap.size, .cells #[.int .u32 0, .int .u16 0] ptT), (w.heap.size + 1, .cells #[.int .u32 0, .int .u16 0] ptT), (w.heap.size + 2, .cells #[.int .u32 0, .int .u16 0] ptT)]) := hM2
  have C16 : Calls Tryz.prog 70 #[.slice (some ⟨b, off, none⟩) n c, .int .i64 16] w2 fun e w' => e = .returned (.int .u32 (w32 l 16)) ∧ Mem w w' [(w.heap.size, .cells #[.int .u32 0, .int .u16 0] ptT), (w.heap.size + 1, .cells #[.int .u32 0, .int .u16 0] ptT), (w.heap.size + 2, .cells #[.int .u32 0, .int .u16 0] ptT)] := get32_mem hM2 HRw.out.1 16 n c HRw.out.2 (by have := HL.out; omega)
  clear C12 hM2 HM1 c0
  go_wp2_with fail
  refine C16.mono ?_
  rintro e w3 ⟨rfl, hM3⟩
  have HM3 : Hid (Mem w w3 [(w.heap.size, .cells #[.int .u32 0, .int .u16 0] ptT), (w.heap.size + 1, .cells #[.int .u32 0, .int .u16 0] ptT), (w.heap.size + 2, .cells #[.int .u32 0, .int .u16 0] ptT)]) := hM3
  clear C16 hM3 HM2
  generalize hS1 : w32 l 12 = S1 at *
  generalize hS2 : w32 l 16 = S2 at *
  have HSS : Hid (w32 l 12 = S1 ∧ w32 l 16 = S2) := ⟨hS1, hS2⟩
  clear hS1 hS2
  go_upto_region 8 with fail
  obtain ⟨G, hG⟩ : ∃ G, w3.heap.size = G := ⟨_, rfl⟩
  rw [hG]
  refine wp_letter (fun W => Mem w W [(w.heap.size, .cells #[.int .u32 0, .int .u16 0] ptT), (w.heap.size + 1, .cells #[.int .u32 0, .int .u16 0] ptT), (w.heap.size + 2, .cells #[.int .u32 0, .int .u16 0] ptT), (G, .cells #[.int .u32 S1, .int .u16 0] ptT), (G + 1, .cells #[.int .u32 S2, .int .u16 0] ptT)]) (by rw [← hG]; exact (HM3.out.push4 rfl).push _ _ (by simp)) ?_
  intro w4 hM4
  have HM4 : Hid (Mem w w4 [(w.heap.size, .cells #[.int .u32 0, .int .u16 0] ptT), (w.heap.size + 1, .cells #[.int .u32 0, .int .u16 0] ptT), (w.heap.size + 2, .cells #[.int .u32 0, .int .u16 0] ptT), (G, .cells #[.int .u32 S1, .int .u16 0] ptT), (G + 1, .cells #[.int .u32 S2, .int .u16 0] ptT)]) := hM4
  have c9 : w4.cell? ⟨b, off + 9, none⟩ = some (.int .u8 (l.getD 9 0)) := (hM4.row HRw.out.1).cellAt 9 (by have := HRw.out.2; have := HL.out; omega)
  have cH : w4.cell? ⟨b, off + H, none⟩ = some (.int .u8 (l.getD H 0)) := (hM4.row HRw.out.1).cellAt H (by have := HRw.out.2; have := HL.out; omega)
  have cH1 : w4.cell? ⟨b, off + (H + 1), none⟩ = some (.int .u8 (l.getD (H + 1) 0)) := (hM4.row HRw.out.1).cellAt (H + 1) (by have := HRw.out.2; have := HL.out; omega)
  clear hM4 HM3 hG
  rw [hy] at c9
  generalize l.getD H 0 = t at *
  have b1 : (t != 8) = true := bne_iff_ne.mpr h1
  have b2 : (t != 0) = true := bne_iff_ne.mpr h2
  clear hy
  go_upto_region 16 with fail
  clear c9 cH cH1
  have c0 : w4.cell? ⟨w.heap.size + 2, 0, none⟩ = some (.int .u32 0) := HM4.out.cell 2 rfl 0
  have c1 : w4.cell? ⟨w.heap.size + 2, 1, none⟩ = some (.int .u16 0) := HM4.out.cell 2 rfl 1
  have fa : ∀ i, w4.frozen? ⟨w.heap.size, i, none⟩ = false := HM4.out.free 0 rfl
  have fb : ∀ i, w4.frozen? ⟨w.heap.size + 1, i, none⟩ = false := HM4.out.free 1 rfl
  have ca : ∀ i, w4.cell? ⟨w.heap.size, i, none⟩ = (#[.int .u32 0, .int .u16 0] : Array Value)[i]? := HM4.out.cell 0 rfl
  have cb : ∀ i, w4.cell? ⟨w.heap.size + 1, i, none⟩ = (#[.int .u32 0, .int .u16 0] : Array Value)[i]? := HM4.out.cell 1 rfl
  go_region_held3 (fun w' => w'.cell? ⟨w.heap.size + 2, 0, none⟩ = some (.int .u32 0) ∧ w'.cell? ⟨w.heap.size + 2, 1, none⟩ = some (.int .u16 0)) (go_keep) (fail)
  all_goals
    go_wp2_with fail
    (try simp only [Exit.inBlock, Exit.then])
    refine post_letter (fun W => Mem w W [(w.heap.size, .cells #[.int .u32 0, .int .u16 0] ptT), (w.heap.size + 1, .cells #[.int .u32 0, .int .u16 0] ptT), (w.heap.size + 2, .cells #[.int .u32 0, .int .u16 0] ptT), (G, .cells #[.int .u32 S1, .int .u16 0] ptT), (G + 1, .cells #[.int .u32 S2, .int .u16 0] ptT)]) (by first | exact ((((HM4.out.drew.set 0 rfl 0 _).set 0 rfl 1 _).set 1 rfl 0 _).set 1 rfl 1 _) | exact ((((HM4.out.drew.set 1 rfl 0 _).set 1 rfl 1 _).set 0 rfl 0 _).set 0 rfl 1 _)) ?_
    intro wz hz
    refine bodyPost_ret (v := .tuple #[.agg #[.int .u32 0, .int .u16 0], .agg #[.int .u32 0, .int .u16 0], .int .u8 0, .int .i64 0, .bool false]) ?hres rfl ?hpost
    case hres => exact results_in (p := 2) (q := 3) (r := 4) (s := 5) (t := 6) (ty := ptT) rfl _ _ w.heap.size (w.heap.size + 1) _ _ rfl rfl (run_loadVar_row _ _ ptT ptT _ (0, 0) _ (hz.get 0 rfl) Tryz.underlying32 rfl (by kernel_rfl)) (run_loadVar_row _ _ ptT ptT _ (0, 0) _ (hz.get 1 rfl) Tryz.underlying32 rfl (by kernel_rfl))
    case hpost => exact ⟨rfl, hz.below⟩

set_option maxHeartbeats 4000000 in
theorem rin_code8 {w : World} {b off n c : Nat} {l : List Int} (hr : Row w (some ⟨b, off, none⟩) l) (hn : l.length = n) (h20 : 20 ≤ n) (hv : l.getD 0 0 / 16 = 4) (hh : 20 ≤ hdl l) (h8 : hdl l + 8 ≤ n) (hy : l.getD 9 0 = 1) (h1 : l.getD (hdl l) 0 = 8) (h2 : ¬ l.getD (hdl l + 1) 0 = 0) :
    Calls Tryz.prog 40 #[.slice (some ⟨b, off, none⟩) n c] w fun e w' => e = .returned (.tuple #[.agg #[.int .u32 0, .int .u16 0], .agg #[.int .u32 0, .int .u16 0], .int .u8 0, .int .i64 0, .bool false]) ∧ Below w.heap.size w w' := by
  have HM : Hid (Mem w (((w.alloc (.cells #[.int .u32 0, .int .u16 0] ptT)).alloc (.cells #[.int .u32 0, .int .u16 0] ptT)).alloc (.cells #[.int .u32 0, .int .u16 0] ptT)) [(w.heap.size, .cells #[.int .u32 0, .int .u16 0] ptT), (w.heap.size + 1, .cells #[.int .u32 0, .int .u16 0] ptT), (w.heap.size + 2, .cells #[.int .u32 0, .int .u16 0] ptT)]) := (((Mem.nil w).push1 rfl).push2 (by simp)).push3 (by simp)
  have hx := hr.bytes 0
  have hlen := hr.len
  have hand := sm_low4 (l.getD 0 0) hx.1 hx.2
  obtain ⟨H, hH⟩ : ∃ H, hdl l = H := ⟨_, rfl⟩
  have hE : l.getD 0 0 % 16 * 4 = (H : Int) := by rw [← hH]; unfold hdl; omega
  have v3 := wrap64_small (l.getD 0 0 % 16) (by omega) (by omega)
  have v4 := wrap64_small (H : Int) (by omega) (by omega)
  have v5 := wrap64_small ((H : Int) + 8) (by omega) (by omega)
  have HRw : Hid (Row w (some ⟨b, off, none⟩) l ∧ l.length = n) := ⟨hr, hn⟩
  have i0 : (0 : Int) < n := by omega
  have i20 : (20 : Int) ≤ n := by omega
  have i9 : (9 : Int) < n := by omega
  have hh2 : (20 : Int) ≤ (H : Int) := by omega
  have hh3 : (H : Int) + 8 ≤ (n : Int) := by omega
  have hh4 : (H : Int) < (n : Int) := by omega
  have hh5 : (H : Int) + 1 < (n : Int) := by omega
  have hT0 : ((H : Nat) : Int).toNat = H := by omega
  have hT1 : ((H : Int) + 1).toNat = H + 1 := by omega
  have v6 := wrap64_small ((H : Int) + 1) (by omega) (by omega)
  have v7 := wrap64_small ((H : Int) + 2) (by omega) (by omega)
  have v8 := wrap64_small ((H : Int) + 4) (by omega) (by omega)
  have HL : Hid (H + 8 ≤ n ∧ 20 ≤ n ∧ hdl l = H) := ⟨by omega, h20, hH⟩
  rw [hH] at h1 h2
  clear hr hn h20 hH hh h8
  go_enter Tryz.func40, Tryz.ntmps40
  go_upto_region 2 with fail
  refine wp_letter (fun W => Mem w W [(w.heap.size, .cells #[.int .u32 0, .int .u16 0] ptT), (w.heap.size + 1, .cells #[.int .u32 0, .int .u16 0] ptT), (w.heap.size + 2, .cells #[.int .u32 0, .int .u16 0] ptT)]) HM.out ?_
  intro w1 hM1
  have HM1 : Hid (Mem w w1 [(w.heap.size, .cells #[.int .u32 0, .int .u16 0] ptT), (w.heap.size + 1, .cells #[.int .u32 0, .int .u16 0] ptT), (w.heap.size + 2, .cells #[.int .u32 0, .int .u16 0] ptT)]) := hM1
  have c0 : w1.cell? ⟨b, off, none⟩ = some (.int .u8 (l.getD 0 0)) := (hM1.row HRw.out.1).cellAt 0 (by have := HRw.out.2; omega)
  clear hM1 HM
  generalize l.getD 0 0 = x at *
  have C12 : Calls Tryz.prog 70 #[.slice (some ⟨b, off, none⟩) n c, .int .i64 12] w1 fun e w' => e = .returned (.int .u32 (w32 l 12)) ∧ Mem w w' [(w.heap.size, .cells #[.int .u32 0, .int .u16 0] ptT), (w.heap.size + 1, .cells #[.int .u32 0, .int .u16 0] ptT), (w.heap.size + 2, .cells #[.int .u32 0, .int .u16 0] ptT)] := get32_mem HM1.out HRw.out.1 12 n c HRw.out.2 (by have := HL.out; omega)
  go_wp2_with fail
  refine C12.mono ?_
  rintro e w2 ⟨rfl, hM2⟩
  have HM2 : Hid (Mem w w2 [(w.heap.size, .cells #[.int .u32 0, .int .u16 0] ptT), (w.heap.size + 1, .cells #[.int .u32 0, .int .u16 0] ptT), (w.heap.size + 2, .cells #[.int .u32 0, .int .u16 0] ptT)]) := hM2
  have C16 : Calls Tryz.prog 70 #[.slice (some ⟨b, off, none⟩) n c, .int .i64 16] w2 fun e w' => e = .returned (.int .u32 (w32 l 16)) ∧ Mem w w' [(w.heap.size, .cells #[.int .u32 0, .int .u16 0] ptT), (w.heap.size + 1, .cells #[.int .u32 0, .int .u16 0] ptT), (w.heap.size + 2, .cells #[.int .u32 0, .int .u16 0] ptT)] := get32_mem hM2 HRw.out.1 16 n c HRw.out.2 (by have := HL.out; omega)
  clear C12 hM2 HM1 c0
  go_wp2_with fail
  refine C16.mono ?_
  rintro e w3 ⟨rfl, hM3⟩
  have HM3 : Hid (Mem w w3 [(w.heap.size, .cells #[.int .u32 0, .int .u16 0] ptT), (w.heap.size + 1, .cells #[.int .u32 0, .int .u16 0] ptT), (w.heap.size + 2, .cells #[.int .u32 0, .int .u16 0] ptT)]) := hM3
  clear C16 hM3 HM2
  generalize hS1 : w32 l 12 = S1 at *
  generalize hS2 : w32 l 16 = S2 at *
  have HSS : Hid (w32 l 12 = S1 ∧ w32 l 16 = S2) := ⟨hS1, hS2⟩
  clear hS1 hS2
  go_upto_region 8 with fail
  obtain ⟨G, hG⟩ : ∃ G, w3.heap.size = G := ⟨_, rfl⟩
  rw [hG]
  refine wp_letter (fun W => Mem w W [(w.heap.size, .cells #[.int .u32 0, .int .u16 0] ptT), (w.heap.size + 1, .cells #[.int .u32 0, .int .u16 0] ptT), (w.heap.size + 2, .cells #[.int .u32 0, .int .u16 0] ptT), (G, .cells #[.int .u32 S1, .int .u16 0] ptT), (G + 1, .cells #[.int .u32 S2, .int .u16 0] ptT)]) (by rw [← hG]; exact (HM3.out.push4 rfl).push _ _ (by simp)) ?_
  intro w4 hM4
  have HM4 : Hid (Mem w w4 [(w.heap.size, .cells #[.int .u32 0, .int .u16 0] ptT), (w.heap.size + 1, .cells #[.int .u32 0, .int .u16 0] ptT), (w.heap.size + 2, .cells #[.int .u32 0, .int .u16 0] ptT), (G, .cells #[.int .u32 S1, .int .u16 0] ptT), (G + 1, .cells #[.int .u32 S2, .int .u16 0] ptT)]) := hM4
  have c9 : w4.cell? ⟨b, off + 9, none⟩ = some (.int .u8 (l.getD 9 0)) := (hM4.row HRw.out.1).cellAt 9 (by have := HRw.out.2; have := HL.out; omega)
  have cH : w4.cell? ⟨b, off + H, none⟩ = some (.int .u8 (l.getD H 0)) := (hM4.row HRw.out.1).cellAt H (by have := HRw.out.2; have := HL.out; omega)
  have cH1 : w4.cell? ⟨b, off + (H + 1), none⟩ = some (.int .u8 (l.getD (H + 1) 0)) := (hM4.row HRw.out.1).cellAt (H + 1) (by have := HRw.out.2; have := HL.out; omega)
  clear hM4 HM3 hG
  rw [hy] at c9
  rw [h1] at cH
  generalize l.getD (H + 1) 0 = t at *
  have b2 : (t != 0) = true := bne_iff_ne.mpr h2
  clear hy h1
  go_upto_region 16 with fail
  clear c9 cH cH1
  have c0 : w4.cell? ⟨w.heap.size + 2, 0, none⟩ = some (.int .u32 0) := HM4.out.cell 2 rfl 0
  have c1 : w4.cell? ⟨w.heap.size + 2, 1, none⟩ = some (.int .u16 0) := HM4.out.cell 2 rfl 1
  have fa : ∀ i, w4.frozen? ⟨w.heap.size, i, none⟩ = false := HM4.out.free 0 rfl
  have fb : ∀ i, w4.frozen? ⟨w.heap.size + 1, i, none⟩ = false := HM4.out.free 1 rfl
  have ca : ∀ i, w4.cell? ⟨w.heap.size, i, none⟩ = (#[.int .u32 0, .int .u16 0] : Array Value)[i]? := HM4.out.cell 0 rfl
  have cb : ∀ i, w4.cell? ⟨w.heap.size + 1, i, none⟩ = (#[.int .u32 0, .int .u16 0] : Array Value)[i]? := HM4.out.cell 1 rfl
  go_region_held3 (fun w' => w'.cell? ⟨w.heap.size + 2, 0, none⟩ = some (.int .u32 0) ∧ w'.cell? ⟨w.heap.size + 2, 1, none⟩ = some (.int .u16 0)) (go_keep) (fail)
  all_goals
    go_wp2_with fail
    (try simp only [Exit.inBlock, Exit.then])
    refine post_letter (fun W => Mem w W [(w.heap.size, .cells #[.int .u32 0, .int .u16 0] ptT), (w.heap.size + 1, .cells #[.int .u32 0, .int .u16 0] ptT), (w.heap.size + 2, .cells #[.int .u32 0, .int .u16 0] ptT), (G, .cells #[.int .u32 S1, .int .u16 0] ptT), (G + 1, .cells #[.int .u32 S2, .int .u16 0] ptT)]) (by first | exact ((((HM4.out.drew.set 0 rfl 0 _).set 0 rfl 1 _).set 1 rfl 0 _).set 1 rfl 1 _) | exact ((((HM4.out.drew.set 1 rfl 0 _).set 1 rfl 1 _).set 0 rfl 0 _).set 0 rfl 1 _)) ?_
    intro wz hz
    refine bodyPost_ret (v := .tuple #[.agg #[.int .u32 0, .int .u16 0], .agg #[.int .u32 0, .int .u16 0], .int .u8 0, .int .i64 0, .bool false]) ?hres rfl ?hpost
    case hres => exact results_in (p := 2) (q := 3) (r := 4) (s := 5) (t := 6) (ty := ptT) rfl _ _ w.heap.size (w.heap.size + 1) _ _ rfl rfl (run_loadVar_row _ _ ptT ptT _ (0, 0) _ (hz.get 0 rfl) Tryz.underlying32 rfl (by kernel_rfl)) (run_loadVar_row _ _ ptT ptT _ (0, 0) _ (hz.get 1 rfl) Tryz.underlying32 rfl (by kernel_rfl))
    case hpost => exact ⟨rfl, hz.below⟩

set_option maxHeartbeats 4000000 in
theorem rin_code0 {w : World} {b off n c : Nat} {l : List Int} (hr : Row w (some ⟨b, off, none⟩) l) (hn : l.length = n) (h20 : 20 ≤ n) (hv : l.getD 0 0 / 16 = 4) (hh : 20 ≤ hdl l) (h8 : hdl l + 8 ≤ n) (hy : l.getD 9 0 = 1) (h1 : l.getD (hdl l) 0 = 0) (h2 : ¬ l.getD (hdl l + 1) 0 = 0) :
    Calls Tryz.prog 40 #[.slice (some ⟨b, off, none⟩) n c] w fun e w' => e = .returned (.tuple #[.agg #[.int .u32 0, .int .u16 0], .agg #[.int .u32 0, .int .u16 0], .int .u8 0, .int .i64 0, .bool false]) ∧ Below w.heap.size w w' := by
  have HM : Hid (Mem w (((w.alloc (.cells #[.int .u32 0, .int .u16 0] ptT)).alloc (.cells #[.int .u32 0, .int .u16 0] ptT)).alloc (.cells #[.int .u32 0, .int .u16 0] ptT)) [(w.heap.size, .cells #[.int .u32 0, .int .u16 0] ptT), (w.heap.size + 1, .cells #[.int .u32 0, .int .u16 0] ptT), (w.heap.size + 2, .cells #[.int .u32 0, .int .u16 0] ptT)]) := (((Mem.nil w).push1 rfl).push2 (by simp)).push3 (by simp)
  have hx := hr.bytes 0
  have hlen := hr.len
  have hand := sm_low4 (l.getD 0 0) hx.1 hx.2
  obtain ⟨H, hH⟩ : ∃ H, hdl l = H := ⟨_, rfl⟩
  have hE : l.getD 0 0 % 16 * 4 = (H : Int) := by rw [← hH]; unfold hdl; omega
  have v3 := wrap64_small (l.getD 0 0 % 16) (by omega) (by omega)
  have v4 := wrap64_small (H : Int) (by omega) (by omega)
  have v5 := wrap64_small ((H : Int) + 8) (by omega) (by omega)
  have HRw : Hid (Row w (some ⟨b, off, none⟩) l ∧ l.length = n) := ⟨hr, hn⟩
  have i0 : (0 : Int) < n := by omega
  have i20 : (20 : Int) ≤ n := by omega
  have i9 : (9 : Int) < n := by omega
  have hh2 : (20 : Int) ≤ (H : Int) := by omega
  have hh3 : (H : Int) + 8 ≤ (n : Int) := by omega
  have hh4 : (H : Int) < (n : Int) := by omega
  have hh5 : (H : Int) + 1 < (n : Int) := by omega
  have hT0 : ((H : Nat) : Int).toNat = H := by omega
  have hT1 : ((H : Int) + 1).toNat = H + 1 := by omega
  have v6 := wrap64_small ((H : Int) + 1) (by omega) (by omega)
  have v7 := wrap64_small ((H : Int) + 2) (by omega) (by omega)
  have v8 := wrap64_small ((H : Int) + 4) (by omega) (by omega)
  have HL : Hid (H + 8 ≤ n ∧ 20 ≤ n ∧ hdl l = H) := ⟨by omega, h20, hH⟩
  rw [hH] at h1 h2
  clear hr hn h20 hH hh h8
  go_enter Tryz.func40, Tryz.ntmps40
  go_upto_region 2 with fail
  refine wp_letter (fun W => Mem w W [(w.heap.size, .cells #[.int .u32 0, .int .u16 0] ptT), (w.heap.size + 1, .cells #[.int .u32 0, .int .u16 0] ptT), (w.heap.size + 2, .cells #[.int .u32 0, .int .u16 0] ptT)]) HM.out ?_
  intro w1 hM1
  have HM1 : Hid (Mem w w1 [(w.heap.size, .cells #[.int .u32 0, .int .u16 0] ptT), (w.heap.size + 1, .cells #[.int .u32 0, .int .u16 0] ptT), (w.heap.size + 2, .cells #[.int .u32 0, .int .u16 0] ptT)]) := hM1
  have c0 : w1.cell? ⟨b, off, none⟩ = some (.int .u8 (l.getD 0 0)) := (hM1.row HRw.out.1).cellAt 0 (by have := HRw.out.2; omega)
  clear hM1 HM
  generalize l.getD 0 0 = x at *
  have C12 : Calls Tryz.prog 70 #[.slice (some ⟨b, off, none⟩) n c, .int .i64 12] w1 fun e w' => e = .returned (.int .u32 (w32 l 12)) ∧ Mem w w' [(w.heap.size, .cells #[.int .u32 0, .int .u16 0] ptT), (w.heap.size + 1, .cells #[.int .u32 0, .int .u16 0] ptT), (w.heap.size + 2, .cells #[.int .u32 0, .int .u16 0] ptT)] := get32_mem HM1.out HRw.out.1 12 n c HRw.out.2 (by have := HL.out; omega)
  go_wp2_with fail
  refine C12.mono ?_
  rintro e w2 ⟨rfl, hM2⟩
  have HM2 : Hid (Mem w w2 [(w.heap.size, .cells #[.int .u32 0, .int .u16 0] ptT), (w.heap.size + 1, .cells #[.int .u32 0, .int .u16 0] ptT), (w.heap.size + 2, .cells #[.int .u32 0, .int .u16 0] ptT)]) := hM2
  have C16 : Calls Tryz.prog 70 #[.slice (some ⟨b, off, none⟩) n c, .int .i64 16] w2 fun e w' => e = .returned (.int .u32 (w32 l 16)) ∧ Mem w w' [(w.heap.size, .cells #[.int .u32 0, .int .u16 0] ptT), (w.heap.size + 1, .cells #[.int .u32 0, .int .u16 0] ptT), (w.heap.size + 2, .cells #[.int .u32 0, .int .u16 0] ptT)] := get32_mem hM2 HRw.out.1 16 n c HRw.out.2 (by have := HL.out; omega)
  clear C12 hM2 HM1 c0
  go_wp2_with fail
  refine C16.mono ?_
  rintro e w3 ⟨rfl, hM3⟩
  have HM3 : Hid (Mem w w3 [(w.heap.size, .cells #[.int .u32 0, .int .u16 0] ptT), (w.heap.size + 1, .cells #[.int .u32 0, .int .u16 0] ptT), (w.heap.size + 2, .cells #[.int .u32 0, .int .u16 0] ptT)]) := hM3
  clear C16 hM3 HM2
  generalize hS1 : w32 l 12 = S1 at *
  generalize hS2 : w32 l 16 = S2 at *
  have HSS : Hid (w32 l 12 = S1 ∧ w32 l 16 = S2) := ⟨hS1, hS2⟩
  clear hS1 hS2
  go_upto_region 8 with fail
  obtain ⟨G, hG⟩ : ∃ G, w3.heap.size = G := ⟨_, rfl⟩
  rw [hG]
  refine wp_letter (fun W => Mem w W [(w.heap.size, .cells #[.int .u32 0, .int .u16 0] ptT), (w.heap.size + 1, .cells #[.int .u32 0, .int .u16 0] ptT), (w.heap.size + 2, .cells #[.int .u32 0, .int .u16 0] ptT), (G, .cells #[.int .u32 S1, .int .u16 0] ptT), (G + 1, .cells #[.int .u32 S2, .int .u16 0] ptT)]) (by rw [← hG]; exact (HM3.out.push4 rfl).push _ _ (by simp)) ?_
  intro w4 hM4
  have HM4 : Hid (Mem w w4 [(w.heap.size, .cells #[.int .u32 0, .int .u16 0] ptT), (w.heap.size + 1, .cells #[.int .u32 0, .int .u16 0] ptT), (w.heap.size + 2, .cells #[.int .u32 0, .int .u16 0] ptT), (G, .cells #[.int .u32 S1, .int .u16 0] ptT), (G + 1, .cells #[.int .u32 S2, .int .u16 0] ptT)]) := hM4
  have c9 : w4.cell? ⟨b, off + 9, none⟩ = some (.int .u8 (l.getD 9 0)) := (hM4.row HRw.out.1).cellAt 9 (by have := HRw.out.2; have := HL.out; omega)
  have cH : w4.cell? ⟨b, off + H, none⟩ = some (.int .u8 (l.getD H 0)) := (hM4.row HRw.out.1).cellAt H (by have := HRw.out.2; have := HL.out; omega)
  have cH1 : w4.cell? ⟨b, off + (H + 1), none⟩ = some (.int .u8 (l.getD (H + 1) 0)) := (hM4.row HRw.out.1).cellAt (H + 1) (by have := HRw.out.2; have := HL.out; omega)
  clear hM4 HM3 hG
  rw [hy] at c9
  rw [h1] at cH
  generalize l.getD (H + 1) 0 = t at *
  have b2 : (t != 0) = true := bne_iff_ne.mpr h2
  clear hy h1
  go_upto_region 16 with fail
  clear c9 cH cH1
  have c0 : w4.cell? ⟨w.heap.size + 2, 0, none⟩ = some (.int .u32 0) := HM4.out.cell 2 rfl 0
  have c1 : w4.cell? ⟨w.heap.size + 2, 1, none⟩ = some (.int .u16 0) := HM4.out.cell 2 rfl 1
  have fa : ∀ i, w4.frozen? ⟨w.heap.size, i, none⟩ = false := HM4.out.free 0 rfl
  have fb : ∀ i, w4.frozen? ⟨w.heap.size + 1, i, none⟩ = false := HM4.out.free 1 rfl
  have ca : ∀ i, w4.cell? ⟨w.heap.size, i, none⟩ = (#[.int .u32 0, .int .u16 0] : Array Value)[i]? := HM4.out.cell 0 rfl
  have cb : ∀ i, w4.cell? ⟨w.heap.size + 1, i, none⟩ = (#[.int .u32 0, .int .u16 0] : Array Value)[i]? := HM4.out.cell 1 rfl
  go_region_held3 (fun w' => w'.cell? ⟨w.heap.size + 2, 0, none⟩ = some (.int .u32 0) ∧ w'.cell? ⟨w.heap.size + 2, 1, none⟩ = some (.int .u16 0)) (go_keep) (fail)
  all_goals
    go_wp2_with fail
    (try simp only [Exit.inBlock, Exit.then])
    refine post_letter (fun W => Mem w W [(w.heap.size, .cells #[.int .u32 0, .int .u16 0] ptT), (w.heap.size + 1, .cells #[.int .u32 0, .int .u16 0] ptT), (w.heap.size + 2, .cells #[.int .u32 0, .int .u16 0] ptT), (G, .cells #[.int .u32 S1, .int .u16 0] ptT), (G + 1, .cells #[.int .u32 S2, .int .u16 0] ptT)]) (by first | exact ((((HM4.out.drew.set 0 rfl 0 _).set 0 rfl 1 _).set 1 rfl 0 _).set 1 rfl 1 _) | exact ((((HM4.out.drew.set 1 rfl 0 _).set 1 rfl 1 _).set 0 rfl 0 _).set 0 rfl 1 _)) ?_
    intro wz hz
    refine bodyPost_ret (v := .tuple #[.agg #[.int .u32 0, .int .u16 0], .agg #[.int .u32 0, .int .u16 0], .int .u8 0, .int .i64 0, .bool false]) ?hres rfl ?hpost
    case hres => exact results_in (p := 2) (q := 3) (r := 4) (s := 5) (t := 6) (ty := ptT) rfl _ _ w.heap.size (w.heap.size + 1) _ _ rfl rfl (run_loadVar_row _ _ ptT ptT _ (0, 0) _ (hz.get 0 rfl) Tryz.underlying32 rfl (by kernel_rfl)) (run_loadVar_row _ _ ptT ptT _ (0, 0) _ (hz.get 1 rfl) Tryz.underlying32 rfl (by kernel_rfl))
    case hpost => exact ⟨rfl, hz.below⟩

set_option maxHeartbeats 4000000 in
theorem rin_other {w : World} {b off n c : Nat} {l : List Int} (hr : Row w (some ⟨b, off, none⟩) l) (hn : l.length = n) (h20 : 20 ≤ n) (hv : l.getD 0 0 / 16 = 4) (hh : 20 ≤ hdl l) (h8 : hdl l + 8 ≤ n) (h1 : ¬ l.getD 9 0 = 17) (h2 : ¬ l.getD 9 0 = 6) (h3 : ¬ l.getD 9 0 = 1) :
    Calls Tryz.prog 40 #[.slice (some ⟨b, off, none⟩) n c] w fun e w' => e = .returned (.tuple #[.agg #[.int .u32 0, .int .u16 0], .agg #[.int .u32 0, .int .u16 0], .int .u8 0, .int .i64 0, .bool false]) ∧ Below w.heap.size w w' := by
  have HM : Hid (Mem w (((w.alloc (.cells #[.int .u32 0, .int .u16 0] ptT)).alloc (.cells #[.int .u32 0, .int .u16 0] ptT)).alloc (.cells #[.int .u32 0, .int .u16 0] ptT)) [(w.heap.size, .cells #[.int .u32 0, .int .u16 0] ptT), (w.heap.size + 1, .cells #[.int .u32 0, .int .u16 0] ptT), (w.heap.size + 2, .cells #[.int .u32 0, .int .u16 0] ptT)]) := (((Mem.nil w).push1 rfl).push2 (by simp)).push3 (by simp)
  have hx := hr.bytes 0
  have hlen := hr.len
  have hand := sm_low4 (l.getD 0 0) hx.1 hx.2
  obtain ⟨H, hH⟩ : ∃ H, hdl l = H := ⟨_, rfl⟩
  have hE : l.getD 0 0 % 16 * 4 = (H : Int) := by rw [← hH]; unfold hdl; omega
  have v3 := wrap64_small (l.getD 0 0 % 16) (by omega) (by omega)
  have v4 := wrap64_small (H : Int) (by omega) (by omega)
  have v5 := wrap64_small ((H : Int) + 8) (by omega) (by omega)
  have HRw : Hid (Row w (some ⟨b, off, none⟩) l ∧ l.length = n) := ⟨hr, hn⟩
  have i0 : (0 : Int) < n := by omega
  have i20 : (20 : Int) ≤ n := by omega
  have i9 : (9 : Int) < n := by omega
  have hh2 : (20 : Int) ≤ (H : Int) := by omega
  have hh3 : (H : Int) + 8 ≤ (n : Int) := by omega
  have hh4 : (H : Int) < (n : Int) := by omega
  have hh5 : (H : Int) + 1 < (n : Int) := by omega
  have hT0 : ((H : Nat) : Int).toNat = H := by omega
  have hT1 : ((H : Int) + 1).toNat = H + 1 := by omega
  have v6 := wrap64_small ((H : Int) + 1) (by omega) (by omega)
  have v7 := wrap64_small ((H : Int) + 2) (by omega) (by omega)
  have v8 := wrap64_small ((H : Int) + 4) (by omega) (by omega)
  have HL : Hid (H + 8 ≤ n ∧ 20 ≤ n ∧ hdl l = H) := ⟨by omega, h20, hH⟩
  clear hr hn h20 hH hh h8
  go_enter Tryz.func40, Tryz.ntmps40
  go_upto_region 2 with fail
  refine wp_letter (fun W => Mem w W [(w.heap.size, .cells #[.int .u32 0, .int .u16 0] ptT), (w.heap.size + 1, .cells #[.int .u32 0, .int .u16 0] ptT), (w.heap.size + 2, .cells #[.int .u32 0, .int .u16 0] ptT)]) HM.out ?_
  intro w1 hM1
  have HM1 : Hid (Mem w w1 [(w.heap.size, .cells #[.int .u32 0, .int .u16 0] ptT), (w.heap.size + 1, .cells #[.int .u32 0, .int .u16 0] ptT), (w.heap.size + 2, .cells #[.int .u32 0, .int .u16 0] ptT)]) := hM1
  have c0 : w1.cell? ⟨b, off, none⟩ = some (.int .u8 (l.getD 0 0)) := (hM1.row HRw.out.1).cellAt 0 (by have := HRw.out.2; omega)
  clear hM1 HM
  generalize l.getD 0 0 = x at *
  have C12 : Calls Tryz.prog 70 #[.slice (some ⟨b, off, none⟩) n c, .int .i64 12] w1 fun e w' => e = .returned (.int .u32 (w32 l 12)) ∧ Mem w w' [(w.heap.size, .cells #[.int .u32 0, .int .u16 0] ptT), (w.heap.size + 1, .cells #[.int .u32 0, .int .u16 0] ptT), (w.heap.size + 2, .cells #[.int .u32 0, .int .u16 0] ptT)] := get32_mem HM1.out HRw.out.1 12 n c HRw.out.2 (by have := HL.out; omega)
  go_wp2_with fail
  refine C12.mono ?_
  rintro e w2 ⟨rfl, hM2⟩
  have HM2 : Hid (Mem w w2 [(w.heap.size, .cells #[.int .u32 0, .int .u16 0] ptT), (w.heap.size + 1, .cells #[.int .u32 0, .int .u16 0] ptT), (w.heap.size + 2, .cells #[.int .u32 0, .int .u16 0] ptT)]) := hM2
  have C16 : Calls Tryz.prog 70 #[.slice (some ⟨b, off, none⟩) n c, .int .i64 16] w2 fun e w' => e = .returned (.int .u32 (w32 l 16)) ∧ Mem w w' [(w.heap.size, .cells #[.int .u32 0, .int .u16 0] ptT), (w.heap.size + 1, .cells #[.int .u32 0, .int .u16 0] ptT), (w.heap.size + 2, .cells #[.int .u32 0, .int .u16 0] ptT)] := get32_mem hM2 HRw.out.1 16 n c HRw.out.2 (by have := HL.out; omega)
  clear C12 hM2 HM1 c0
  go_wp2_with fail
  refine C16.mono ?_
  rintro e w3 ⟨rfl, hM3⟩
  have HM3 : Hid (Mem w w3 [(w.heap.size, .cells #[.int .u32 0, .int .u16 0] ptT), (w.heap.size + 1, .cells #[.int .u32 0, .int .u16 0] ptT), (w.heap.size + 2, .cells #[.int .u32 0, .int .u16 0] ptT)]) := hM3
  clear C16 hM3 HM2
  generalize hS1 : w32 l 12 = S1 at *
  generalize hS2 : w32 l 16 = S2 at *
  have HSS : Hid (w32 l 12 = S1 ∧ w32 l 16 = S2) := ⟨hS1, hS2⟩
  clear hS1 hS2
  go_upto_region 8 with fail
  obtain ⟨G, hG⟩ : ∃ G, w3.heap.size = G := ⟨_, rfl⟩
  rw [hG]
  refine wp_letter (fun W => Mem w W [(w.heap.size, .cells #[.int .u32 0, .int .u16 0] ptT), (w.heap.size + 1, .cells #[.int .u32 0, .int .u16 0] ptT), (w.heap.size + 2, .cells #[.int .u32 0, .int .u16 0] ptT), (G, .cells #[.int .u32 S1, .int .u16 0] ptT), (G + 1, .cells #[.int .u32 S2, .int .u16 0] ptT)]) (by rw [← hG]; exact (HM3.out.push4 rfl).push _ _ (by simp)) ?_
  intro w4 hM4
  have HM4 : Hid (Mem w w4 [(w.heap.size, .cells #[.int .u32 0, .int .u16 0] ptT), (w.heap.size + 1, .cells #[.int .u32 0, .int .u16 0] ptT), (w.heap.size + 2, .cells #[.int .u32 0, .int .u16 0] ptT), (G, .cells #[.int .u32 S1, .int .u16 0] ptT), (G + 1, .cells #[.int .u32 S2, .int .u16 0] ptT)]) := hM4
  have c9 : w4.cell? ⟨b, off + 9, none⟩ = some (.int .u8 (l.getD 9 0)) := (hM4.row HRw.out.1).cellAt 9 (by have := HRw.out.2; have := HL.out; omega)
  have cH : w4.cell? ⟨b, off + H, none⟩ = some (.int .u8 (l.getD H 0)) := (hM4.row HRw.out.1).cellAt H (by have := HRw.out.2; have := HL.out; omega)
  have cH1 : w4.cell? ⟨b, off + (H + 1), none⟩ = some (.int .u8 (l.getD (H + 1) 0)) := (hM4.row HRw.out.1).cellAt (H + 1) (by have := HRw.out.2; have := HL.out; omega)
  clear hM4 HM3 hG
  generalize l.getD 9 0 = t at *
  have b1 : (t == 17) = false := beq_eq_false_iff_ne.mpr h1
  have b2 : (t == 6) = false := beq_eq_false_iff_ne.mpr h2
  have b3 : (t == 1) = false := beq_eq_false_iff_ne.mpr h3
  go_upto_region 10 with fail
  clear c9 cH cH1
  have c0 : w4.cell? ⟨w.heap.size + 2, 0, none⟩ = some (.int .u32 0) := HM4.out.cell 2 rfl 0
  have c1 : w4.cell? ⟨w.heap.size + 2, 1, none⟩ = some (.int .u16 0) := HM4.out.cell 2 rfl 1
  have fa : ∀ i, w4.frozen? ⟨w.heap.size, i, none⟩ = false := HM4.out.free 0 rfl
  have fb : ∀ i, w4.frozen? ⟨w.heap.size + 1, i, none⟩ = false := HM4.out.free 1 rfl
  have ca : ∀ i, w4.cell? ⟨w.heap.size, i, none⟩ = (#[.int .u32 0, .int .u16 0] : Array Value)[i]? := HM4.out.cell 0 rfl
  have cb : ∀ i, w4.cell? ⟨w.heap.size + 1, i, none⟩ = (#[.int .u32 0, .int .u16 0] : Array Value)[i]? := HM4.out.cell 1 rfl
  go_region_held3 (fun w' => w'.cell? ⟨w.heap.size + 2, 0, none⟩ = some (.int .u32 0) ∧ w'.cell? ⟨w.heap.size + 2, 1, none⟩ = some (.int .u16 0)) (go_keep) (fail)
  all_goals
    go_wp2_with fail
    (try simp only [Exit.inBlock, Exit.then])
    refine post_letter (fun W => Mem w W [(w.heap.size, .cells #[.int .u32 0, .int .u16 0] ptT), (w.heap.size + 1, .cells #[.int .u32 0, .int .u16 0] ptT), (w.heap.size + 2, .cells #[.int .u32 0, .int .u16 0] ptT), (G, .cells #[.int .u32 S1, .int .u16 0] ptT), (G + 1, .cells #[.int .u32 S2, .int .u16 0] ptT)]) (by first | exact ((((HM4.out.drew.set 0 rfl 0 _).set 0 rfl 1 _).set 1 rfl 0 _).set 1 rfl 1 _) | exact ((((HM4.out.drew.set 1 rfl 0 _).set 1 rfl 1 _).set 0 rfl 0 _).set 0 rfl 1 _)) ?_
    intro wz hz
    refine bodyPost_ret (v := .tuple #[.agg #[.int .u32 0, .int .u16 0], .agg #[.int .u32 0, .int .u16 0], .int .u8 0, .int .i64 0, .bool false]) ?hres rfl ?hpost
    case hres => exact results_in (p := 2) (q := 3) (r := 4) (s := 5) (t := 6) (ty := ptT) rfl _ _ w.heap.size (w.heap.size + 1) _ _ rfl rfl (run_loadVar_row _ _ ptT ptT _ (0, 0) _ (hz.get 0 rfl) Tryz.underlying32 rfl (by kernel_rfl)) (run_loadVar_row _ _ ptT ptT _ (0, 0) _ (hz.get 1 rfl) Tryz.underlying32 rfl (by kernel_rfl))
    case hpost => exact ⟨rfl, hz.below⟩

end Go.Proofs.YtjalpbkfpjfigaaGreat

namespace Go.Proofs.YtjalpbkfpjfigaaGreat
open Go.RowKit
open Sm
set_option linter.unusedVariables false
set_option maxRecDepth 20000

/-- rewrite.look's answer, a packet and a flow, nought where it fails. -/
theorem look_out {w : World} {a : Option Addr} {n c : Nat} {l : List Int} (hr : Row w a l) (hn : l.length = n) (hc : n ≤ c) :
    Calls Tryz.prog 27 #[.slice a n c] w fun e w' => ∃ ao bo ia co cb ic bv, e = .returned (.tuple #[.agg (snB (lkPk l) (.slice ao (lkPk l).opts.length co) (.slice bo (lkPk l).body.length cb) bv (lkFl l) (.slice ia (lkFl l).inner.length ic)), .int .i64 (lkErr l)]) ∧
      (IpV w' w.heap.size (.agg (ipB (lkPk l) (.slice ao (lkPk l).opts.length co) (.slice bo (lkPk l).body.length cb))) (lkPk l) ∧ PtsV w' w.heap.size (.slice ia (lkFl l).inner.length ic) (lkFl l).inner ∧ (bv = .nilIface ∨ ∃ bt bu, bv = .iface bt bu)) ∧ Below w.heap.size w w' := by
  refine (look_any hr hn hc).mono ?_
  rintro e w' ⟨v, rfl, hv, hb⟩
  rcases hv with ⟨h0, rfl⟩ | ⟨h0, ao, bo, ia, co, cb, ic, bt, bu, rfl, hs⟩
  · have e1 : lkPk l = Pk.zero := if_neg h0
    have e2 : lkFl l = Fl.zero := if_neg h0
    rw [e1, e2]
    exact ⟨none, none, none, 0, 0, 0, .nilIface, rfl, ⟨ipv_zero _ _, pts_nil _ _, Or.inl rfl⟩, hb⟩
  · have e1 : lkPk l = ipPk l := if_pos h0
    have e2 : lkFl l = flFl (ipPk l) := if_pos h0
    rw [e1, e2]
    exact ⟨ao, bo, ia, co, cb, ic, .iface bt bu, rfl, ⟨hs.ip, hs.pts, Or.inr ⟨bt, bu, rfl⟩⟩, hb⟩

/-- Cells written one behind the other. -/
def putAll (g : Nat) : List Value → Nat → World → World
  | [], _, w => w
  | v :: vs, i, w => putAll g vs (i + 1) (w.setCell ⟨g, i, none⟩ v)
def setAll : List Value → Nat → Array Value → Array Value
  | [], _, c => c
  | v :: vs, i, c => setAll vs (i + 1) (c.setIfInBounds i v)
theorem wrote_all (g : Nat) (t : TypeId) : ∀ (vs : List Value) (i : Nat) (c : Array Value) (w : World), w.heap[g]? = some (.cells c t (0, 0)) → Wrote w (putAll g vs i w) g (setAll vs i c) t
  | [], _, c, w, h => wrote_same w g c t h
  | v :: vs, i, c, w, h => by
    have e := setCell_eq_setRow w g i c t (0, 0) v h
    have h1 := wrote_setRow w g c (c.setIfInBounds i v) t h
    have h2 := wrote_all g t vs (i + 1) (c.setIfInBounds i v) (w.setCell ⟨g, i, none⟩ v) (by rw [e]; exact h1.here)
    rw [e] at h2
    show Wrote w (putAll g vs (i + 1) (w.setCell ⟨g, i, none⟩ v)) g (setAll vs (i + 1) (c.setIfInBounds i v)) t
    rw [e]
    exact h1.trans h2

theorem wrote_ip (g : Nat) (p : Pk) (o b : Value) (w : World) (h : w.heap[g]? = some (.cells ip0 ipT (0, 0))) : Wrote w ((((((((((w.setCell ⟨g, 0, none⟩ (.int .u8 p.tos)).setCell ⟨g, 1, none⟩ (.int .u8 p.ttl)).setCell ⟨g, 2, none⟩ (.int .u8 p.proto)).setCell ⟨g, 3, none⟩ (.int .u16 p.id)).setCell ⟨g, 4, none⟩ (.int .u8 p.flags)).setCell ⟨g, 5, none⟩ (.int .u16 p.off)).setCell ⟨g, 6, none⟩ (.int .u32 p.src)).setCell ⟨g, 7, none⟩ (.int .u32 p.dst)).setCell ⟨g, 8, none⟩ (o)).setCell ⟨g, 9, none⟩ (b)) g (ipB p o b) ipT := by
  have h1 := wrote_all g ipT [.int .u8 p.tos, .int .u8 p.ttl, .int .u8 p.proto, .int .u16 p.id, .int .u8 p.flags, .int .u16 p.off, .int .u32 p.src, .int .u32 p.dst, o, b] 0 ip0 w h
  have e : setAll [.int .u8 p.tos, .int .u8 p.ttl, .int .u8 p.proto, .int .u16 p.id, .int .u8 p.flags, .int .u16 p.off, .int .u32 p.src, .int .u32 p.dst, o, b] 0 ip0 = ipB p o b := by kernel_rfl
  rw [e] at h1
  simp only [putAll] at h1
  exact h1
theorem wrote_fl (g : Nat) (f : Fl) (iv : Value) (w : World) (h : w.heap[g]? = some (.cells flZ flT (0, 0))) : Wrote w (((((((w.setCell ⟨g, 0, none⟩ (.int .u8 f.proto)).setCell ⟨g, 1, none⟩ (.int .u32 f.src.ip)).setCell ⟨g, 2, none⟩ (.int .u16 f.src.port)).setCell ⟨g, 3, none⟩ (.int .u32 f.dst.ip)).setCell ⟨g, 4, none⟩ (.int .u16 f.dst.port)).setCell ⟨g, 5, none⟩ (.int .u8 f.flags)).setCell ⟨g, 6, none⟩ (iv)) g (flB f iv) flT := by
  have h1 := wrote_all g flT [.int .u8 f.proto, .int .u32 f.src.ip, .int .u16 f.src.port, .int .u32 f.dst.ip, .int .u16 f.dst.port, .int .u8 f.flags, iv] 0 flZ w h
  have e : setAll [.int .u8 f.proto, .int .u32 f.src.ip, .int .u16 f.src.port, .int .u32 f.dst.ip, .int .u16 f.dst.port, .int .u8 f.flags, iv] 0 flZ = flB f iv := by kernel_rfl
  rw [e] at h1
  simp only [putAll] at h1
  exact h1

theorem post_fill {P : Program} {fn : Func} {R : Ending → World → Prop} {e : Exit} {a : Act} {w : World} {g k : Nat} {p : Pk} {o b : Value} {f : Fl} {iv : Value} (hg : w.heap[g]? = some (.cells ip0 ipT (0, 0))) (hk : w.heap[k]? = some (.cells flZ flT (0, 0))) (hne : k ≠ g)
    (K : ∀ W1 W2, Wrote w W1 g (ipB p o b) ipT → Wrote W1 W2 k (flB f iv) flT → bodyPost P fn R e a W2.drew) :
    bodyPost P fn R e a (((((((((((((((((w.setCell ⟨g, 0, none⟩ (.int .u8 p.tos)).setCell ⟨g, 1, none⟩ (.int .u8 p.ttl)).setCell ⟨g, 2, none⟩ (.int .u8 p.proto)).setCell ⟨g, 3, none⟩ (.int .u16 p.id)).setCell ⟨g, 4, none⟩ (.int .u8 p.flags)).setCell ⟨g, 5, none⟩ (.int .u16 p.off)).setCell ⟨g, 6, none⟩ (.int .u32 p.src)).setCell ⟨g, 7, none⟩ (.int .u32 p.dst)).setCell ⟨g, 8, none⟩ (o)).setCell ⟨g, 9, none⟩ (b)).setCell ⟨k, 0, none⟩ (.int .u8 f.proto)).setCell ⟨k, 1, none⟩ (.int .u32 f.src.ip)).setCell ⟨k, 2, none⟩ (.int .u16 f.src.port)).setCell ⟨k, 3, none⟩ (.int .u32 f.dst.ip)).setCell ⟨k, 4, none⟩ (.int .u16 f.dst.port)).setCell ⟨k, 5, none⟩ (.int .u8 f.flags)).setCell ⟨k, 6, none⟩ (iv)).drew := by
  have h1 := wrote_ip g p o b w hg
  have h2 := wrote_fl k f iv _ ((h1.there k hne).trans hk)
  exact K _ _ h1 h2

theorem results_cell2_tmp {fn : Func} {p q r : Tmp} {ty tz : TypeId} (h : fn.results = #[.cell p ty, .cell q tz, .tmp r]) (tmps : Array Value) (w : World) (g k : Nat) (cs ds : Array Value)
    (hp : tmps.getD p undef = .pointer (some ⟨g, 0, none⟩)) (hq : tmps.getD q undef = .pointer (some ⟨k, 0, none⟩)) (hl : (loadVar ty ⟨g, 0, none⟩).run Tryz.prog w = .ok (.agg cs) w) (hm : (loadVar tz ⟨k, 0, none⟩).run Tryz.prog w = .ok (.agg ds) w) :
    (results fn tmps).run Tryz.prog w = .ok (.tuple #[.agg cs, .agg ds, tmps.getD r undef]) w := by
  have hp' : tmps[p]?.getD undef = .pointer (some ⟨g, 0, none⟩) := by simpa using hp
  have hq' : tmps[q]?.getD undef = .pointer (some ⟨k, 0, none⟩) := by simpa using hq
  simp [results, h, hp', hq', asAddr, hl, hm]

theorem sn_one' (p : Pk) (ao bo ia : Option Addr) (no co nb cb ni ic : Nat) (bv : Value) (h : bv = .nilIface ∨ ∃ bt bu, bv = .iface bt bu) (f : Fl) : (snB p (.slice ao no co) (.slice bo nb cb) bv f (.slice ia ni ic)).all (fun x => x.oneCell') = true := by
  rcases h with rfl | ⟨bt, bu, rfl⟩
  · kernel_rfl
  · kernel_rfl

set_option maxHeartbeats 8000000 in
theorem Look_any {w : World} {a : Option Addr} {n c : Nat} {l : List Int} (hr : Row w a l) (hn : l.length = n) (hc : n ≤ c) :
    Calls Tryz.prog 14 #[.slice a n c] w fun e w' => ∃ ao bo ia co cb ic, e = .returned (.tuple #[.agg (ipB (lkPk l) (.slice ao (lkPk l).opts.length co) (.slice bo (lkPk l).body.length cb)), .agg (flB (lkFl l) (.slice ia (lkFl l).inner.length ic)), .int .i64 (lkErr l)]) ∧
      IpV w' w.heap.size (.agg (ipB (lkPk l) (.slice ao (lkPk l).opts.length co) (.slice bo (lkPk l).body.length cb))) (lkPk l) ∧ PtsV w' w.heap.size (.slice ia (lkFl l).inner.length ic) (lkFl l).inner ∧ Below w.heap.size w w' := by
  have hM : Mem w ((w.alloc (.cells ip0 ipT)).alloc (.cells flZ flT)) [(w.heap.size, .cells ip0 ipT), (w.heap.size + 1, .cells flZ flT)] := ((Mem.nil w).push1 rfl).push2 (by simp)
  have hL := look_out (hM.row hr) hn hc
  have HM : Hid _ := hM
  clear hM hr hn hc
  generalize lkErr l = E at *
  generalize lkPk l = p at *
  generalize lkFl l = f at *
  generalize p.opts.length = no at *
  generalize p.body.length = nb at *
  generalize f.inner.length = ni at *
  go_enter Tryz.func14, Tryz.ntmps14
  go_wp2_with fail
  refine hL.mono ?_
  rintro e w1 ⟨ao, bo, ia, co, cb, ic, bv, rfl, ⟨hi1, hp1, ho1⟩, hb1⟩
  have hM1 := HM.out.after hb1
  have hsz : ((w.alloc (.cells ip0 ipT)).alloc (.cells flZ flT)).heap.size = w.heap.size + 2 := by simp
  rw [hsz] at hi1 hp1
  clear hL hb1 hsz HM
  have hgA := heap_alloc_new w1 (.cells sn0 snT)
  have hone : (snB p (.slice ao no co) (.slice bo nb cb) bv f (.slice ia ni ic)).all (fun x => x.oneCell') = true := sn_one' p ao bo ia no co nb cb ni ic bv ho1 f
  go_upto_region 2 with (refine wpList_store_row rfl snT _ _ rfl w1.heap.size (snB p (.slice ao no co) (.slice bo nb cb) bv f (.slice ia ni ic)) rfl rfl snT sn0 hgA (by kernel_rfl) rfl hone ?_)
  refine wp_letter (fun W => Mem w W [(w.heap.size, .cells ip0 ipT), (w.heap.size + 1, .cells flZ flT), (w1.heap.size, .cells (snB p (.slice ao no co) (.slice bo nb cb) bv f (.slice ia ni ic)) snT (0, 0))] ∧ IpV W (w.heap.size + 2) (.agg (ipB p (.slice ao no co) (.slice bo nb cb))) p ∧ PtsV W (w.heap.size + 2) (.slice ia ni ic) f.inner) ⟨(hM1.push3 rfl).wrote 2 rfl (wrote_setRow _ _ sn0 (snB p (.slice ao no co) (.slice bo nb cb) bv f (.slice ia ni ic)) snT hgA), hi1.below (below_setRow ((Below.refl _ _).alloc (Nat.le_refl _) _) (Nat.le_refl _) _) (Nat.le_refl _), hp1.below (below_setRow ((Below.refl _ _).alloc (Nat.le_refl _) _) (Nat.le_refl _) _) (Nat.le_refl _)⟩ ?_
  intro w2 ⟨hM2, hi2, hp2⟩
  have HM2 : Hid _ := hM2
  have HV2 : Hid (IpV w2 (w.heap.size + 2) (.agg (ipB p (.slice ao no co) (.slice bo nb cb))) p ∧ PtsV w2 (w.heap.size + 2) (.slice ia ni ic) f.inner) := ⟨hi2, hp2⟩
  have r0 : w2.cell? ⟨w1.heap.size, 0, none⟩ = some (.int .u8 p.tos) := hM2.cell 2 rfl 0
  have r1 : w2.cell? ⟨w1.heap.size, 1, none⟩ = some (.int .u8 p.ttl) := hM2.cell 2 rfl 1
  have r2 : w2.cell? ⟨w1.heap.size, 2, none⟩ = some (.int .u8 p.proto) := hM2.cell 2 rfl 2
  have r3 : w2.cell? ⟨w1.heap.size, 3, none⟩ = some (.int .u16 p.id) := hM2.cell 2 rfl 3
  have r4 : w2.cell? ⟨w1.heap.size, 4, none⟩ = some (.int .u8 p.flags) := hM2.cell 2 rfl 4
  have r5 : w2.cell? ⟨w1.heap.size, 5, none⟩ = some (.int .u16 p.off) := hM2.cell 2 rfl 5
  have r6 : w2.cell? ⟨w1.heap.size, 6, none⟩ = some (.int .u32 p.src) := hM2.cell 2 rfl 6
  have r7 : w2.cell? ⟨w1.heap.size, 7, none⟩ = some (.int .u32 p.dst) := hM2.cell 2 rfl 7
  have r8 : w2.cell? ⟨w1.heap.size, 8, none⟩ = some (.slice ao no co) := hM2.cell 2 rfl 8
  have r9 : w2.cell? ⟨w1.heap.size, 9, none⟩ = some (.slice bo nb cb) := hM2.cell 2 rfl 9
  have r11 : w2.cell? ⟨w1.heap.size, 11, none⟩ = some (.int .u8 f.proto) := hM2.cell 2 rfl 11
  have r12 : w2.cell? ⟨w1.heap.size, 12, none⟩ = some (.int .u32 f.src.ip) := hM2.cell 2 rfl 12
  have r13 : w2.cell? ⟨w1.heap.size, 13, none⟩ = some (.int .u16 f.src.port) := hM2.cell 2 rfl 13
  have r14 : w2.cell? ⟨w1.heap.size, 14, none⟩ = some (.int .u32 f.dst.ip) := hM2.cell 2 rfl 14
  have r15 : w2.cell? ⟨w1.heap.size, 15, none⟩ = some (.int .u16 f.dst.port) := hM2.cell 2 rfl 15
  have r16 : w2.cell? ⟨w1.heap.size, 16, none⟩ = some (.int .u8 f.flags) := hM2.cell 2 rfl 16
  have r17 : w2.cell? ⟨w1.heap.size, 17, none⟩ = some (.slice ia ni ic) := hM2.cell 2 rfl 17
  have n1 : w.heap.size ≠ w1.heap.size := hM2.ne 0 2 rfl rfl (by decide)
  have n2 : w.heap.size + 1 ≠ w1.heap.size := hM2.ne 1 2 rfl rfl (by decide)
  have ka : ∀ i, w2.cell? ⟨w.heap.size, i, none⟩ = ip0[i]? := hM2.cell 0 rfl
  have kaf : ∀ i, w2.frozen? ⟨w.heap.size, i, none⟩ = false := hM2.free 0 rfl
  have kb : ∀ i, w2.cell? ⟨w.heap.size + 1, i, none⟩ = flZ[i]? := hM2.cell 1 rfl
  have kbf : ∀ i, w2.frozen? ⟨w.heap.size + 1, i, none⟩ = false := hM2.free 1 rfl
  clear hM1 hi1 hp1 hgA hone hM2 hi2 hp2 ho1
  generalize w1.heap.size = Q at *
  go_region_held3 (fun w' => w'.cell? ⟨Q, 0, none⟩ = some (.int .u8 p.tos) ∧ w'.cell? ⟨Q, 1, none⟩ = some (.int .u8 p.ttl) ∧ w'.cell? ⟨Q, 2, none⟩ = some (.int .u8 p.proto) ∧ w'.cell? ⟨Q, 3, none⟩ = some (.int .u16 p.id) ∧ w'.cell? ⟨Q, 4, none⟩ = some (.int .u8 p.flags) ∧ w'.cell? ⟨Q, 5, none⟩ = some (.int .u16 p.off) ∧ w'.cell? ⟨Q, 6, none⟩ = some (.int .u32 p.src) ∧ w'.cell? ⟨Q, 7, none⟩ = some (.int .u32 p.dst) ∧ w'.cell? ⟨Q, 8, none⟩ = some (.slice ao no co) ∧ w'.cell? ⟨Q, 9, none⟩ = some (.slice bo nb cb) ∧ w'.cell? ⟨Q, 11, none⟩ = some (.int .u8 f.proto) ∧ w'.cell? ⟨Q, 12, none⟩ = some (.int .u32 f.src.ip) ∧ w'.cell? ⟨Q, 13, none⟩ = some (.int .u16 f.src.port) ∧ w'.cell? ⟨Q, 14, none⟩ = some (.int .u32 f.dst.ip) ∧ w'.cell? ⟨Q, 15, none⟩ = some (.int .u16 f.dst.port) ∧ w'.cell? ⟨Q, 16, none⟩ = some (.int .u8 f.flags) ∧ w'.cell? ⟨Q, 17, none⟩ = some (.slice ia ni ic)) (go_keep) (fail)
  all_goals
    go_wp2_with fail
    refine post_fill (HM2.out.get 0 rfl) (HM2.out.get 1 rfl) (by omega) ?_
    intro W1 W2 h1 h2
    have hM4 := ((HM2.out.wrote 0 rfl h1).wrote 1 rfl h2).drew
    have hab : Above (w.heap.size + 2) w2 W2.drew := fun k hk => (h2.there k (by omega)).trans (h1.there k (by omega))
    refine post_letter (fun W => Mem w W [(w.heap.size, .cells (ipB p (.slice ao no co) (.slice bo nb cb)) ipT (0, 0)), (w.heap.size + 1, .cells (flB f (.slice ia ni ic)) flT (0, 0)), (Q, .cells (snB p (.slice ao no co) (.slice bo nb cb) bv f (.slice ia ni ic)) snT (0, 0))] ∧ Above (w.heap.size + 2) w2 W) ⟨hM4, hab⟩ ?_
    clear h1 h2 hM4 hab
    intro wz ⟨hz, hab⟩
    refine bodyPost_ret (v := .tuple #[.agg (ipB p (.slice ao no co) (.slice bo nb cb)), .agg (flB f (.slice ia ni ic)), .int .i64 E]) ?hres rfl ?hpost
    case hres => exact results_cell2_tmp (p := 2) (q := 3) (r := 4) (ty := ipT) (tz := flT) rfl _ _ w.heap.size (w.heap.size + 1) (ipB p (.slice ao no co) (.slice bo nb cb)) (flB f (.slice ia ni ic)) rfl rfl (run_loadVar_row _ _ ipT ipT _ (0, 0) _ (hz.get 0 rfl) Tryz.underlying42 rfl (by kernel_rfl)) (run_loadVar_row _ _ flT flT _ (0, 0) _ (hz.get 1 rfl) Tryz.underlying45 rfl (by kernel_rfl))
    case hpost => exact ⟨ao, bo, ia, co, cb, ic, rfl, (HV2.out.1.above hab).mono (by omega), (HV2.out.2.above hab).mono (by omega), hz.below⟩
end Go.Proofs.YtjalpbkfpjfigaaGreat

namespace Go.Proofs.YtjalpbkfpjfigaaGreat
open Go.RowKit
open Sm
set_option linter.unusedVariables false
set_option maxRecDepth 20000

abbrev ptA (s : Pt) : Array Value := #[.int .u32 s.ip, .int .u16 s.port]

set_option maxHeartbeats 400000 in
theorem iserr_any {w : World} (f : Fl) (ia : Option Addr) (n ic : Nat) :
    Calls Tryz.prog 38 #[.agg (flB f (.slice ia n ic))] w fun e w' => e = .returned (.bool (decide (0 < n))) ∧ Below w.heap.size w w' := by
  have HB : Hid (∀ o, Below w.heap.size w (w.alloc o)) := fun o => (Below.refl _ _).alloc (Nat.le_refl _) o
  go_enter Tryz.func38, Tryz.ntmps38
  go_wp2
  go_ret
  exact ⟨by simp, HB.out _⟩

set_option maxHeartbeats 1000000 in
theorem pfit_any {w : World} (f : Fl) (ia : Option Addr) (ic : Nat) (s d : Pt) :
    Calls Tryz.prog 28 #[.agg (flB f (.slice ia f.inner.length ic)), .agg (ptA s), .agg (ptA d)] w fun e w' => e = .returned (.bool (pfit f s d)) ∧ Below w.heap.size w w' := by
  have hM : Mem w (((w.alloc (.cells (flB f (.slice ia f.inner.length ic)) flT)).alloc (.cells (ptA s) ptT)).alloc (.cells (ptA d) ptT)) [(w.heap.size, .cells (flB f (.slice ia f.inner.length ic)) flT), (w.heap.size + 1, .cells (ptA s) ptT), (w.heap.size + 2, .cells (ptA d) ptT)] := (((Mem.nil w).push1 rfl).push2 (by simp)).push3 (by simp)
  have HF : Hid (pfit f s d = if 0 < f.inner.length then decide (s.port = 0 ∧ d.port = 0) else decide (f.proto ≠ 1 ∨ s.port = d.port)) := rfl
  have HM : Hid _ := hM
  clear hM
  generalize pfit f s d = R at *
  generalize f.inner.length = n at *
  go_enter Tryz.func28, Tryz.ntmps28
  go_upto_region 1 with fail
  refine wp_letter (fun W => Mem w W [(w.heap.size, .cells (flB f (.slice ia n ic)) flT), (w.heap.size + 1, .cells (ptA s) ptT), (w.heap.size + 2, .cells (ptA d) ptT)]) HM.out ?_
  intro w1 hM1
  have HM1 : Hid _ := hM1
  have kc : ∀ i, w1.cell? ⟨w.heap.size, i, none⟩ = (flB f (.slice ia n ic))[i]? := hM1.cell 0 rfl
  have hC := iserr_any (w := w1) f ia n ic
  clear hM1 HM
  go_wp2_with fail
  refine hC.mono ?_
  rintro e w2 ⟨rfl, hb2⟩
  have hM2 := HM1.out.after hb2
  have HB : Hid _ := hM2.below
  have k0 : w2.cell? ⟨w.heap.size, 0, none⟩ = some (.int .u8 f.proto) := hM2.cell 0 rfl 0
  have k1 : w2.cell? ⟨w.heap.size + 1, 1, none⟩ = some (.int .u16 s.port) := hM2.cell 1 rfl 1
  have k2 : w2.cell? ⟨w.heap.size + 2, 1, none⟩ = some (.int .u16 d.port) := hM2.cell 2 rfl 1
  clear hC kc hb2 hM2 HM1
  by_cases hn : 0 < n
  · rw [decide_eq_true hn]
    rw [if_pos hn] at HF
    clear hn
    by_cases hs : s.port = 0
    · rw [hs] at k1
      rw [hs] at HF
      go_wp2_with fail
      go_ret
      exact ⟨by rw [HF.out]; simp <;> rfl, HB.out⟩
    · go_wp2_with fail
      go_ret
      exact ⟨by rw [HF.out]; simp [hs] <;> rfl, HB.out⟩
  · rw [decide_eq_false hn]
    rw [if_neg hn] at HF
    clear hn
    by_cases hp : f.proto = 1
    · rw [hp] at k0
      rw [hp] at HF
      go_wp2_with fail
      go_ret
      exact ⟨by rw [HF.out]; simp <;> rfl, HB.out⟩
    · go_wp2_with fail
      go_ret
      exact ⟨by rw [HF.out]; simp [hp] <;> rfl, HB.out⟩

set_option maxHeartbeats 1000000 in
/-- What rewrite.sealed answers, whatever message it is handed. -/
theorem seal_any {w : World} {B : Nat} {v : Value} {m : Mg} (hm : m.Ok) (hv : MgV w B v m) :
    Calls Tryz.prog 62 #[v] w fun e w' => ∃ u, e = .returned u ∧ w'.ownsRow w.heap.size 5 1 u (mgOut (msl m)).length ((mgOut (msl m)).map (Value.int .u8)) ∧ Below w.heap.size w w' := by
  have hv' := hv
  obtain ⟨bo, cb, rfl, -⟩ := hv'
  have hM : Mem w (w.alloc (.cells (mgB m bo m.body.length cb) mgT)) [(w.heap.size, .cells (mgB m bo m.body.length cb) mgT)] := (Mem.nil w).push1 rfl
  have hS := msum_any hm (mgv_box hv (.cells (mgB m bo m.body.length cb) mgT))
  have hr := msum_range m
  have HK : Hid (msl m).Ok := hm.at hr.1 hr.2
  have HV : Hid (∀ W, Below w.heap.size w W → MgV W 0 (.agg (mgA m.typ m.code (msum m) m.rest (.slice bo m.body.length cb))) (msl m)) := fun W hb => ((mgv_at hv (msum m)).below hb (Nat.le_refl _)).mono (Nat.zero_le _)
  have HM : Hid _ := hM
  clear hM hr hm hv
  generalize msum m = S at *
  generalize m.body.length = n at *
  generalize msl m = q at *
  go_enter Tryz.func62, Tryz.ntmps62
  go_wp2_with fail
  refine hS.mono ?_
  rintro e w1 ⟨rfl, hb1⟩
  have hM1 := HM.out.after hb1
  have kc : ∀ i, w1.cell? ⟨w.heap.size, i, none⟩ = (mgB m bo n cb)[i]? := hM1.cell 0 rfl
  have kf : ∀ i, w1.frozen? ⟨w.heap.size, i, none⟩ = false := hM1.free 0 rfl
  have HM1 : Hid _ := hM1
  clear hM1 hb1 hS HM
  go_upto_region 2 with fail
  refine wp_letter (fun W => Mem w W [(w.heap.size, .cells (mgA m.typ m.code S m.rest (.slice bo n cb)) mgT (0, 0))]) (HM1.out.set 0 rfl 2 _) ?_
  intro w2 hM2
  have HM2 : Hid _ := hM2
  clear kc kf HM1
  have kc : ∀ i, w2.cell? ⟨w.heap.size, i, none⟩ = (mgA m.typ m.code S m.rest (.slice bo n cb))[i]? := hM2.cell 0 rfl
  have hB := mbytes_any HK.out (HV.out w2 hM2.below)
  clear hM2
  go_wp2_with fail
  refine hB.mono ?_
  rintro e w3 ⟨u, rfl, hown, hb3⟩
  have HB3 : Hid _ := HM2.out.below.trans (hb3.mono HM2.out.below.size)
  have HU : Hid _ := own_base hown HM2.out.below.size
  clear hown hb3 hB kc
  go_wp2_with fail
  go_ret
  exact ⟨_, rfl, HU.out, HB3.out⟩
end Go.Proofs.YtjalpbkfpjfigaaGreat

