/-
  What the document's own lychref8.inner answers of what no points can be told.
-/
import Derived.Test.YtjalpbkfpjfigaaGreatRwRefIn
namespace Go.Proofs.YtjalpbkfpjfigaaGreat
open Go.RowKit
open Sm
set_option linter.unusedVariables false
set_option maxRecDepth 20000

set_option maxHeartbeats 4000000 in
theorem rin_type {w : World} {b off n c : Nat} {l : List Int} (hr : Row w (some ⟨b, off, none⟩) l) (hn : l.length = n) (h20 : 20 ≤ n) (hv : l.getD 0 0 / 16 = 4) (hh : 20 ≤ hdl l) (h8 : hdl l + 8 ≤ n) (hy : l.getD 9 0 = 1) (h1 : ¬ l.getD (hdl l) 0 = 8) (h2 : ¬ l.getD (hdl l) 0 = 0) :
    Calls Tryz.prog 40 #[.slice (some ⟨b, off, none⟩) n c] w fun e w' => e = .returned (.tuple #[.agg #[.int .u32 0, .int .u16 0], .agg #[.int .u32 0, .int .u16 0], .int .u8 0, .int .i64 0, .bool false]) ∧ Below w.heap.size w w' := by
  have HM : Hid (Mem w (((w.alloc (.cells #[.int .u32 0, .int .u16 0] ptT)).alloc (.cells #[.int .u32 0, .int .u16 0] ptT)).alloc (.cells #[.int .u32 0, .int .u16 0] ptT)) [(w.heap.size, .cells #[.int .u32 0, .int .u16 0] ptT), (w.heap.size + 1, .cells #[.int .u32 0, .int .u16 0] ptT), (w.heap.size + 2, .cells #[.int .u32 0, .int .u16 0] ptT)]) := (((Mem.nil w).push1 rfl).push2 (by simp)).push3 (by simp)
  have hx := hr.bytes 0
  have hlen := hr.len
  have hand := sm_low4 (l.getD 0 0) hx.1 hx.2
  obtain ⟨H, hH⟩ : ∃ H, hdl l = H := ⟨_, rfl⟩
  have hE : l.getD 0 0 % 16 * 4 = (H : Int) := by rw [← hH]; unfold hdl; omega
  have v3 := wrap64_small (l.getD 0 0 % 16) (by omega) (by omega)
  have v4 := wrap64_small (H : Int) (by omega) (by omega)
  have v5 := wrap64_small ((H : Int) + 8) (by omega) (by omega)
  have HRw : Hid (Row w (some ⟨b, off, none⟩) l ∧ l.length = n) := ⟨hr, hn⟩
  have i0 : (0 : Int) < n := by omega
  have i20 : (20 : Int) ≤ n := by omega
  have i9 : (9 : Int) < n := by omega
  have hh2 : (20 : Int) ≤ (H : Int) := by omega
  have hh3 : (H : Int) + 8 ≤ (n : Int) := by omega
  have hh4 : (H : Int) < (n : Int) := by omega
  have hh5 : (H : Int) + 1 < (n : Int) := by omega
  have hT0 : ((H : Nat) : Int).toNat = H := by omega
  have hT1 : ((H : Int) + 1).toNat = H + 1 := by omega
  have v6 := wrap64_small ((H : Int) + 1) (by omega) (by omega)
  have v7 := wrap64_small ((H : Int) + 2) (by omega) (by omega)
  have v8 := wrap64_small ((H : Int) + 4) (by omega) (by omega)
  have HL : Hid (H + 8 ≤ n ∧ 20 ≤ n ∧ hdl l = H) := ⟨by omega, h20, hH⟩
  rw [hH] at h1 h2
  clear hr hn h20 hH hh h8
  go_enter Tryz.func40, Tryz.ntmps40
  go_upto_region 2 with fail
  refine wp_letter (fun W => Mem w W [(w.heap.size, .cells #[.int .u32 0, .int .u16 0] ptT), (w.heap.size + 1, .cells #[.int .u32 0, .int .u16 0] ptT), (w.heap.size + 2, .cells #[.int .u32 0, .int .u16 0] ptT)]) HM.out ?_
  intro w1 hM1
  have HM1 : Hid (Mem w w1 [(w.heap.size, .cells #[.int .u32 0, .int .u16 0] ptT), (w.heap.size + 1, .cells #[.int .u32 0, .int .u16 0] ptT), (w.heap.size + 2, .cells #[.int .u32 0, .int .u16 0] ptT)]) := hM1
  have c0 : w1.cell? ⟨b, off, none⟩ = some (.int .u8 (l.getD 0 0)) := (hM1.row HRw.out.1).cellAt 0 (by have := HRw.out.2; omega)
  clear hM1 HM
  generalize l.getD 0 0 = x at *
  have C12 : Calls Tryz.prog 70 #[.slice (some ⟨b, off, none⟩) n c, .int .i64 12] w1 fun e w' => e = .returned (.int .u32 (w32 l 12)) ∧ Mem w w' [(w.heap.size, .cells #[.int .u32 0, .int .u16 0] ptT), (w.heap.size + 1, .cells #[.int .u32 0, .int .u16 0] ptT), (w.heap.size + 2, .cells #[.int .u32 0, .int .u16 0] ptT)] := get32_mem HM1.out HRw.out.1 12 n c HRw.out.2 (by have := HL.out; omega)
  go_wp2_with fail
  refine C12.mono ?_
  rintro e w2 ⟨rfl, hM2⟩
  have HM2 : Hid (Mem w w2 [(w.heap.size, .cells #[.int .u32 0, .int .u16 0] ptT), (w.heap.size + 1, .cells #[.int .u32 0, .int .u16 0] ptT), (w.heap.size + 2, .cells #[.int .u32 0, .int .u16 0] ptT)]) := hM2
  have C16 : Calls Tryz.prog 70 #[.slice (some ⟨b, off, none⟩) n c, .int .i64 16] w2 fun e w' => e = .returned (.int .u32 (w32 l 16)) ∧ Mem w w' [(w.heap.size, .cells #[.int .u32 0, .int .u16 0] ptT), (w.heap.size + 1, .cells #[.int .u32 0, .int .u16 0] ptT), (w.heap.size + 2, .cells #[.int .u32 0, .int .u16 0] ptT)] := get32_mem hM2 HRw.out.1 16 n c HRw.out.2 (by have := HL.out; omega)
  clear C12 hM2 HM1 c0
  go_wp2_with fail
  refine C16.mono ?_
  rintro e w3 ⟨rfl, hM3⟩
  have HM3 : Hid (Mem w w3 [(w.heap.size, .cells #[.int .u32 0, .int .u16 0] ptT), (w.heap.size + 1, .cells #[.int .u32 0, .int .u16 0] ptT), (w.heap.size + 2, .cells #[.int .u32 0, .int .u16 0] ptT)]) := hM3
  clear C16 hM3 HM2
  generalize hS1 : w32 l 12 = S1 at *
  generalize hS2 : w32 l 16 = S2 at *
  have HSS : Hid (w32 l 12 = S1 ∧ w32 l 16 = S2) := ⟨hS1, hS2⟩
  clear hS1 hS2
  go_upto_region 8 with fail
  obtain ⟨G, hG⟩ : ∃ G, w3.heap.size = G := ⟨_, rfl⟩
  rw [hG]
  refine wp_letter (fun W => Mem w W [(w.heap.size, .cells #[.int .u32 0, .int .u16 0] ptT), (w.heap.size + 1, .cells #[.int .u32 0, .int .u16 0] ptT), (w.heap.size + 2, .cells #[.int .u32 0, .int .u16 0] ptT), (G, .cells #[.int .u32 S1, .int .u16 0] ptT), (G + 1, .cells #[.int .u32 S2, .int .u16 0] ptT)]) (by rw [← hG]; exact (HM3.out.push4 rfl).push _ _ (by simp)) ?_
  intro w4 hM4
  have HM4 : Hid (Mem w w4 [(w.heap.size, .cells #[.int .u32 0, .int .u16 0] ptT), (w.heap.size + 1, .cells #[.int .u32 0, .int .u16 0] ptT), (w.heap.size + 2, .cells #[.int .u32 0, .int .u16 0] ptT), (G, .cells #[.int .u32 S1, .int .u16 0] ptT), (G + 1, .cells #[.int .u32 S2, .int .u16 0] ptT)]) := hM4
  have c9 : w4.cell? ⟨b, off + 9, none⟩ = some (.int .u8 (l.getD 9 0)) := (hM4.row HRw.out.1).cellAt 9 (by have := HRw.out.2; have := HL.out; omega)
  have cH : w4.cell? ⟨b, off + H, none⟩ = some (.int .u8 (l.getD H 0)) := (hM4.row HRw.out.1).cellAt H (by have := HRw.out.2; have := HL.out; omega)
  have cH1 : w4.cell? ⟨b, off + (H + 1), none⟩ = some (.int .u8 (l.getD (H + 1) 0)) := (hM4.row HRw.out.1).cellAt (H + 1) (by have := HRw.out.2; have := HL.out; omega)
  clear hM4 HM3 hG
  rw [hy] at c9
  generalize l.getD H 0 = t at *
  have b1 : (t != 8) = true := bne_iff_ne.mpr h1
  have b2 : (t != 0) = true := bne_iff_ne.mpr h2
  clear hy
  go_upto_region 16 with fail
  clear c9 cH cH1
  have c0 : w4.cell? ⟨w.heap.size + 2, 0, none⟩ = some (.int .u32 0) := HM4.out.cell 2 rfl 0
  have c1 : w4.cell? ⟨w.heap.size + 2, 1, none⟩ = some (.int .u16 0) := HM4.out.cell 2 rfl 1
  have fa : ∀ i, w4.frozen? ⟨w.heap.size, i, none⟩ = false := HM4.out.free 0 rfl
  have fb : ∀ i, w4.frozen? ⟨w.heap.size + 1, i, none⟩ = false := HM4.out.free 1 rfl
  have ca : ∀ i, w4.cell? ⟨w.heap.size, i, none⟩ = (#[.int .u32 0, .int .u16 0] : Array Value)[i]? := HM4.out.cell 0 rfl
  have cb : ∀ i, w4.cell? ⟨w.heap.size + 1, i, none⟩ = (#[.int .u32 0, .int .u16 0] : Array Value)[i]? := HM4.out.cell 1 rfl
  go_region_held3 (fun w' => w'.cell? ⟨w.heap.size + 2, 0, none⟩ = some (.int .u32 0) ∧ w'.cell? ⟨w.heap.size + 2, 1, none⟩ = some (.int .u16 0)) (go_keep) (fail)
  all_goals
    go_wp2_with fail
    (try simp only [Exit.inBlock, Exit.then])
    refine post_letter (fun W => Mem w W [(w.heap.size, .cells #[.int .u32 0, .int .u16 0] ptT), (w.heap.size + 1, .cells #[.int .u32 0, .int .u16 0] ptT), (w.heap.size + 2, .cells #[.int .u32 0, .int .u16 0] ptT), (G, .cells #[.int .u32 S1, .int .u16 0] ptT), (G + 1, .cells #[.int .u32 S2, .int .u16 0] ptT)]) (by first | exact ((((HM4.out.drew.set 0 rfl 0 _).set 0 rfl 1 _).set 1 rfl 0 _).set 1 rfl 1 _) | exact ((((HM4.out.drew.set 1 rfl 0 _).set 1 rfl 1 _).set 0 rfl 0 _).set 0 rfl 1 _)) ?_
    intro wz hz
    refine bodyPost_ret (v := .tuple #[.agg #[.int .u32 0, .int .u16 0], .agg #[.int .u32 0, .int .u16 0], .int .u8 0, .int .i64 0, .bool false]) ?hres rfl ?hpost
    case hres => exact results_in (p := 2) (q := 3) (r := 4) (s := 5) (t := 6) (ty := ptT) rfl _ _ w.heap.size (w.heap.size + 1) _ _ rfl rfl (run_loadVar_row _ _ ptT ptT _ (0, 0) _ (hz.get 0 rfl) Tryz.underlying32 rfl (by kernel_rfl)) (run_loadVar_row _ _ ptT ptT _ (0, 0) _ (hz.get 1 rfl) Tryz.underlying32 rfl (by kernel_rfl))
    case hpost => exact ⟨rfl, hz.below⟩

set_option maxHeartbeats 4000000 in
theorem rin_code8 {w : World} {b off n c : Nat} {l : List Int} (hr : Row w (some ⟨b, off, none⟩) l) (hn : l.length = n) (h20 : 20 ≤ n) (hv : l.getD 0 0 / 16 = 4) (hh : 20 ≤ hdl l) (h8 : hdl l + 8 ≤ n) (hy : l.getD 9 0 = 1) (h1 : l.getD (hdl l) 0 = 8) (h2 : ¬ l.getD (hdl l + 1) 0 = 0) :
    Calls Tryz.prog 40 #[.slice (some ⟨b, off, none⟩) n c] w fun e w' => e = .returned (.tuple #[.agg #[.int .u32 0, .int .u16 0], .agg #[.int .u32 0, .int .u16 0], .int .u8 0, .int .i64 0, .bool false]) ∧ Below w.heap.size w w' := by
  have HM : Hid (Mem w (((w.alloc (.cells #[.int .u32 0, .int .u16 0] ptT)).alloc (.cells #[.int .u32 0, .int .u16 0] ptT)).alloc (.cells #[.int .u32 0, .int .u16 0] ptT)) [(w.heap.size, .cells #[.int .u32 0, .int .u16 0] ptT), (w.heap.size + 1, .cells #[.int .u32 0, .int .u16 0] ptT), (w.heap.size + 2, .cells #[.int .u32 0, .int .u16 0] ptT)]) := (((Mem.nil w).push1 rfl).push2 (by simp)).push3 (by simp)
  have hx := hr.bytes 0
  have hlen := hr.len
  have hand := sm_low4 (l.getD 0 0) hx.1 hx.2
  obtain ⟨H, hH⟩ : ∃ H, hdl l = H := ⟨_, rfl⟩
  have hE : l.getD 0 0 % 16 * 4 = (H : Int) := by rw [← hH]; unfold hdl; omega
  have v3 := wrap64_small (l.getD 0 0 % 16) (by omega) (by omega)
  have v4 := wrap64_small (H : Int) (by omega) (by omega)
  have v5 := wrap64_small ((H : Int) + 8) (by omega) (by omega)
  have HRw : Hid (Row w (some ⟨b, off, none⟩) l ∧ l.length = n) := ⟨hr, hn⟩
  have i0 : (0 : Int) < n := by omega
  have i20 : (20 : Int) ≤ n := by omega
  have i9 : (9 : Int) < n := by omega
  have hh2 : (20 : Int) ≤ (H : Int) := by omega
  have hh3 : (H : Int) + 8 ≤ (n : Int) := by omega
  have hh4 : (H : Int) < (n : Int) := by omega
  have hh5 : (H : Int) + 1 < (n : Int) := by omega
  have hT0 : ((H : Nat) : Int).toNat = H := by omega
  have hT1 : ((H : Int) + 1).toNat = H + 1 := by omega
  have v6 := wrap64_small ((H : Int) + 1) (by omega) (by omega)
  have v7 := wrap64_small ((H : Int) + 2) (by omega) (by omega)
  have v8 := wrap64_small ((H : Int) + 4) (by omega) (by omega)
  have HL : Hid (H + 8 ≤ n ∧ 20 ≤ n ∧ hdl l = H) := ⟨by omega, h20, hH⟩
  rw [hH] at h1 h2
  clear hr hn h20 hH hh h8
  go_enter Tryz.func40, Tryz.ntmps40
  go_upto_region 2 with fail
  refine wp_letter (fun W => Mem w W [(w.heap.size, .cells #[.int .u32 0, .int .u16 0] ptT), (w.heap.size + 1, .cells #[.int .u32 0, .int .u16 0] ptT), (w.heap.size + 2, .cells #[.int .u32 0, .int .u16 0] ptT)]) HM.out ?_
  intro w1 hM1
  have HM1 : Hid (Mem w w1 [(w.heap.size, .cells #[.int .u32 0, .int .u16 0] ptT), (w.heap.size + 1, .cells #[.int .u32 0, .int .u16 0] ptT), (w.heap.size + 2, .cells #[.int .u32 0, .int .u16 0] ptT)]) := hM1
  have c0 : w1.cell? ⟨b, off, none⟩ = some (.int .u8 (l.getD 0 0)) := (hM1.row HRw.out.1).cellAt 0 (by have := HRw.out.2; omega)
  clear hM1 HM
  generalize l.getD 0 0 = x at *
  have C12 : Calls Tryz.prog 70 #[.slice (some ⟨b, off, none⟩) n c, .int .i64 12] w1 fun e w' => e = .returned (.int .u32 (w32 l 12)) ∧ Mem w w' [(w.heap.size, .cells #[.int .u32 0, .int .u16 0] ptT), (w.heap.size + 1, .cells #[.int .u32 0, .int .u16 0] ptT), (w.heap.size + 2, .cells #[.int .u32 0, .int .u16 0] ptT)] := get32_mem HM1.out HRw.out.1 12 n c HRw.out.2 (by have := HL.out; omega)
  go_wp2_with fail
  refine C12.mono ?_
  rintro e w2 ⟨rfl, hM2⟩
  have HM2 : Hid (Mem w w2 [(w.heap.size, .cells #[.int .u32 0, .int .u16 0] ptT), (w.heap.size + 1, .cells #[.int .u32 0, .int .u16 0] ptT), (w.heap.size + 2, .cells #[.int .u32 0, .int .u16 0] ptT)]) := hM2
  have C16 : Calls Tryz.prog 70 #[.slice (some ⟨b, off, none⟩) n c, .int .i64 16] w2 fun e w' => e = .returned (.int .u32 (w32 l 16)) ∧ Mem w w' [(w.heap.size, .cells #[.int .u32 0, .int .u16 0] ptT), (w.heap.size + 1, .cells #[.int .u32 0, .int .u16 0] ptT), (w.heap.size + 2, .cells #[.int .u32 0, .int .u16 0] ptT)] := get32_mem hM2 HRw.out.1 16 n c HRw.out.2 (by have := HL.out; omega)
  clear C12 hM2 HM1 c0
  go_wp2_with fail
  refine C16.mono ?_
  rintro e w3 ⟨rfl, hM3⟩
  have HM3 : Hid (Mem w w3 [(w.heap.size, .cells #[.int .u32 0, .int .u16 0] ptT), (w.heap.size + 1, .cells #[.int .u32 0, .int .u16 0] ptT), (w.heap.size + 2, .cells #[.int .u32 0, .int .u16 0] ptT)]) := hM3
  clear C16 hM3 HM2
  generalize hS1 : w32 l 12 = S1 at *
  generalize hS2 : w32 l 16 = S2 at *
  have HSS : Hid (w32 l 12 = S1 ∧ w32 l 16 = S2) := ⟨hS1, hS2⟩
  clear hS1 hS2
  go_upto_region 8 with fail
  obtain ⟨G, hG⟩ : ∃ G, w3.heap.size = G := ⟨_, rfl⟩
  rw [hG]
  refine wp_letter (fun W => Mem w W [(w.heap.size, .cells #[.int .u32 0, .int .u16 0] ptT), (w.heap.size + 1, .cells #[.int .u32 0, .int .u16 0] ptT), (w.heap.size + 2, .cells #[.int .u32 0, .int .u16 0] ptT), (G, .cells #[.int .u32 S1, .int .u16 0] ptT), (G + 1, .cells #[.int .u32 S2, .int .u16 0] ptT)]) (by rw [← hG]; exact (HM3.out.push4 rfl).push _ _ (by simp)) ?_
  intro w4 hM4
  have HM4 : Hid (Mem w w4 [(w.heap.size, .cells #[.int .u32 0, .int .u16 0] ptT), (w.heap.size + 1, .cells #[.int .u32 0, .int .u16 0] ptT), (w.heap.size + 2, .cells #[.int .u32 0, .int .u16 0] ptT), (G, .cells #[.int .u32 S1, .int .u16 0] ptT), (G + 1, .cells #[.int .u32 S2, .int .u16 0] ptT)]) := hM4
  have c9 : w4.cell? ⟨b, off + 9, none⟩ = some (.int .u8 (l.getD 9 0)) := (hM4.row HRw.out.1).cellAt 9 (by have := HRw.out.2; have := HL.out; omega)
  have cH : w4.cell? ⟨b, off + H, none⟩ = some (.int .u8 (l.getD H 0)) := (hM4.row HRw.out.1).cellAt H (by have := HRw.out.2; have := HL.out; omega)
  have cH1 : w4.cell? ⟨b, off + (H + 1), none⟩ = some (.int .u8 (l.getD (H + 1) 0)) := (hM4.row HRw.out.1).cellAt (H + 1) (by have := HRw.out.2; have := HL.out; omega)
  clear hM4 HM3 hG
  rw [hy] at c9
  rw [h1] at cH
  generalize l.getD (H + 1) 0 = t at *
  have b2 : (t != 0) = true := bne_iff_ne.mpr h2
  clear hy h1
  go_upto_region 16 with fail
  clear c9 cH cH1
  have c0 : w4.cell? ⟨w.heap.size + 2, 0, none⟩ = some (.int .u32 0) := HM4.out.cell 2 rfl 0
  have c1 : w4.cell? ⟨w.heap.size + 2, 1, none⟩ = some (.int .u16 0) := HM4.out.cell 2 rfl 1
  have fa : ∀ i, w4.frozen? ⟨w.heap.size, i, none⟩ = false := HM4.out.free 0 rfl
  have fb : ∀ i, w4.frozen? ⟨w.heap.size + 1, i, none⟩ = false := HM4.out.free 1 rfl
  have ca : ∀ i, w4.cell? ⟨w.heap.size, i, none⟩ = (#[.int .u32 0, .int .u16 0] : Array Value)[i]? := HM4.out.cell 0 rfl
  have cb : ∀ i, w4.cell? ⟨w.heap.size + 1, i, none⟩ = (#[.int .u32 0, .int .u16 0] : Array Value)[i]? := HM4.out.cell 1 rfl
  go_region_held3 (fun w' => w'.cell? ⟨w.heap.size + 2, 0, none⟩ = some (.int .u32 0) ∧ w'.cell? ⟨w.heap.size + 2, 1, none⟩ = some (.int .u16 0)) (go_keep) (fail)
  all_goals
    go_wp2_with fail
    (try simp only [Exit.inBlock, Exit.then])
    refine post_letter (fun W => Mem w W [(w.heap.size, .cells #[.int .u32 0, .int .u16 0] ptT), (w.heap.size + 1, .cells #[.int .u32 0, .int .u16 0] ptT), (w.heap.size + 2, .cells #[.int .u32 0, .int .u16 0] ptT), (G, .cells #[.int .u32 S1, .int .u16 0] ptT), (G + 1, .cells #[.int .u32 S2, .int .u16 0] ptT)]) (by first | exact ((((HM4.out.drew.set 0 rfl 0 _).set 0 rfl 1 _).set 1 rfl 0 _).set 1 rfl 1 _) | exact ((((HM4.out.drew.set 1 rfl 0 _).set 1 rfl 1 _).set 0 rfl 0 _).set 0 rfl 1 _)) ?_
    intro wz hz
    refine bodyPost_ret (v := .tuple #[.agg #[.int .u32 0, .int .u16 0], .agg #[.int .u32 0, .int .u16 0], .int .u8 0, .int .i64 0, .bool false]) ?hres rfl ?hpost
    case hres => exact results_in (p := 2) (q := 3) (r := 4) (s := 5) (t := 6) (ty := ptT) rfl _ _ w.heap.size (w.heap.size + 1) _ _ rfl rfl (run_loadVar_row _ _ ptT ptT _ (0, 0) _ (hz.get 0 rfl) Tryz.underlying32 rfl (by kernel_rfl)) (run_loadVar_row _ _ ptT ptT _ (0, 0) _ (hz.get 1 rfl) Tryz.underlying32 rfl (by kernel_rfl))
    case hpost => exact ⟨rfl, hz.below⟩

set_option maxHeartbeats 4000000 in
theorem rin_code0 {w : World} {b off n c : Nat} {l : List Int} (hr : Row w (some ⟨b, off, none⟩) l) (hn : l.length = n) (h20 : 20 ≤ n) (hv : l.getD 0 0 / 16 = 4) (hh : 20 ≤ hdl l) (h8 : hdl l + 8 ≤ n) (hy : l.getD 9 0 = 1) (h1 : l.getD (hdl l) 0 = 0) (h2 : ¬ l.getD (hdl l + 1) 0 = 0) :
    Calls Tryz.prog 40 #[.slice (some ⟨b, off, none⟩) n c] w fun e w' => e = .returned (.tuple #[.agg #[.int .u32 0, .int .u16 0], .agg #[.int .u32 0, .int .u16 0], .int .u8 0, .int .i64 0, .bool false]) ∧ Below w.heap.size w w' := by
  have HM : Hid (Mem w (((w.alloc (.cells #[.int .u32 0, .int .u16 0] ptT)).alloc (.cells #[.int .u32 0, .int .u16 0] ptT)).alloc (.cells #[.int .u32 0, .int .u16 0] ptT)) [(w.heap.size, .cells #[.int .u32 0, .int .u16 0] ptT), (w.heap.size + 1, .cells #[.int .u32 0, .int .u16 0] ptT), (w.heap.size + 2, .cells #[.int .u32 0, .int .u16 0] ptT)]) := (((Mem.nil w).push1 rfl).push2 (by simp)).push3 (by simp)
  have hx := hr.bytes 0
  have hlen := hr.len
  have hand := sm_low4 (l.getD 0 0) hx.1 hx.2
  obtain ⟨H, hH⟩ : ∃ H, hdl l = H := ⟨_, rfl⟩
  have hE : l.getD 0 0 % 16 * 4 = (H : Int) := by rw [← hH]; unfold hdl; omega
  have v3 := wrap64_small (l.getD 0 0 % 16) (by omega) (by omega)
  have v4 := wrap64_small (H : Int) (by omega) (by omega)
  have v5 := wrap64_small ((H : Int) + 8) (by omega) (by omega)
  have HRw : Hid (Row w (some ⟨b, off, none⟩) l ∧ l.length = n) := ⟨hr, hn⟩
  have i0 : (0 : Int) < n := by omega
  have i20 : (20 : Int) ≤ n := by omega
  have i9 : (9 : Int) < n := by omega
  have hh2 : (20 : Int) ≤ (H : Int) := by omega
  have hh3 : (H : Int) + 8 ≤ (n : Int) := by omega
  have hh4 : (H : Int) < (n : Int) := by omega
  have hh5 : (H : Int) + 1 < (n : Int) := by omega
  have hT0 : ((H : Nat) : Int).toNat = H := by omega
  have hT1 : ((H : Int) + 1).toNat = H + 1 := by omega
  have v6 := wrap64_small ((H : Int) + 1) (by omega) (by omega)
  have v7 := wrap64_small ((H : Int) + 2) (by omega) (by omega)
  have v8 := wrap64_small ((H : Int) + 4) (by omega) (by omega)
  have HL : Hid (H + 8 ≤ n ∧ 20 ≤ n ∧ hdl l = H) := ⟨by omega, h20, hH⟩
  rw [hH] at h1 h2
  clear hr hn h20 hH hh h8
  go_enter Tryz.func40, Tryz.ntmps40
  go_upto_region 2 with fail
  refine wp_letter (fun W => Mem w W [(w.heap.size, .cells #[.int .u32 0, .int .u16 0] ptT), (w.heap.size + 1, .cells #[.int .u32 0, .int .u16 0] ptT), (w.heap.size + 2, .cells #[.int .u32 0, .int .u16 0] ptT)]) HM.out ?_
  intro w1 hM1
  have HM1 : Hid (Mem w w1 [(w.heap.size, .cells #[.int .u32 0, .int .u16 0] ptT), (w.heap.size + 1, .cells #[.int .u32 0, .int .u16 0] ptT), (w.heap.size + 2, .cells #[.int .u32 0, .int .u16 0] ptT)]) := hM1
  have c0 : w1.cell? ⟨b, off, none⟩ = some (.int .u8 (l.getD 0 0)) := (hM1.row HRw.out.1).cellAt 0 (by have := HRw.out.2; omega)
  clear hM1 HM
  generalize l.getD 0 0 = x at *
  have C12 : Calls Tryz.prog 70 #[.slice (some ⟨b, off, none⟩) n c, .int .i64 12] w1 fun e w' => e = .returned (.int .u32 (w32 l 12)) ∧ Mem w w' [(w.heap.size, .cells #[.int .u32 0, .int .u16 0] ptT), (w.heap.size + 1, .cells #[.int .u32 0, .int .u16 0] ptT), (w.heap.size + 2, .cells #[.int .u32 0, .int .u16 0] ptT)] := get32_mem HM1.out HRw.out.1 12 n c HRw.out.2 (by have := HL.out; omega)
  go_wp2_with fail
  refine C12.mono ?_
  rintro e w2 ⟨rfl, hM2⟩
  have HM2 : Hid (Mem w w2 [(w.heap.size, .cells #[.int .u32 0, .int .u16 0] ptT), (w.heap.size + 1, .cells #[.int .u32 0, .int .u16 0] ptT), (w.heap.size + 2, .cells #[.int .u32 0, .int .u16 0] ptT)]) := hM2
  have C16 : Calls Tryz.prog 70 #[.slice (some ⟨b, off, none⟩) n c, .int .i64 16] w2 fun e w' => e = .returned (.int .u32 (w32 l 16)) ∧ Mem w w' [(w.heap.size, .cells #[.int .u32 0, .int .u16 0] ptT), (w.heap.size + 1, .cells #[.int .u32 0, .int .u16 0] ptT), (w.heap.size + 2, .cells #[.int .u32 0, .int .u16 0] ptT)] := get32_mem hM2 HRw.out.1 16 n c HRw.out.2 (by have := HL.out; omega)
  clear C12 hM2 HM1 c0
  go_wp2_with fail
  refine C16.mono ?_
  rintro e w3 ⟨rfl, hM3⟩
  have HM3 : Hid (Mem w w3 [(w.heap.size, .cells #[.int .u32 0, .int .u16 0] ptT), (w.heap.size + 1, .cells #[.int .u32 0, .int .u16 0] ptT), (w.heap.size + 2, .cells #[.int .u32 0, .int .u16 0] ptT)]) := hM3
  clear C16 hM3 HM2
  generalize hS1 : w32 l 12 = S1 at *
  generalize hS2 : w32 l 16 = S2 at *
  have HSS : Hid (w32 l 12 = S1 ∧ w32 l 16 = S2) := ⟨hS1, hS2⟩
  clear hS1 hS2
  go_upto_region 8 with fail
  obtain ⟨G, hG⟩ : ∃ G, w3.heap.size = G := ⟨_, rfl⟩
  rw [hG]
  refine wp_letter (fun W => Mem w W [(w.heap.size, .cells #[.int .u32 0, .int .u16 0] ptT), (w.heap.size + 1, .cells #[.int .u32 0, .int .u16 0] ptT), (w.heap.size + 2, .cells #[.int .u32 0, .int .u16 0] ptT), (G, .cells #[.int .u32 S1, .int .u16 0] ptT), (G + 1, .cells #[.int .u32 S2, .int .u16 0] ptT)]) (by rw [← hG]; exact (HM3.out.push4 rfl).push _ _ (by simp)) ?_
  intro w4 hM4
  have HM4 : Hid (Mem w w4 [(w.heap.size, .cells #[.int .u32 0, .int .u16 0] ptT), (w.heap.size + 1, .cells #[.int .u32 0, .int .u16 0] ptT), (w.heap.size + 2, .cells #[.int .u32 0, .int .u16 0] ptT), (G, .cells #[.int .u32 S1, .int .u16 0] ptT), (G + 1, .cells #[.int .u32 S2, .int .u16 0] ptT)]) := hM4
  have c9 : w4.cell? ⟨b, off + 9, none⟩ = some (.int .u8 (l.getD 9 0)) := (hM4.row HRw.out.1).cellAt 9 (by have := HRw.out.2; have := HL.out; omega)
  have cH : w4.cell? ⟨b, off + H, none⟩ = some (.int .u8 (l.getD H 0)) := (hM4.row HRw.out.1).cellAt H (by have := HRw.out.2; have := HL.out; omega)
  have cH1 : w4.cell? ⟨b, off + (H + 1), none⟩ = some (.int .u8 (l.getD (H + 1) 0)) := (hM4.row HRw.out.1).cellAt (H + 1) (by have := HRw.out.2; have := HL.out; omega)
  clear hM4 HM3 hG
  rw [hy] at c9
  rw [h1] at cH
  generalize l.getD (H + 1) 0 = t at *
  have b2 : (t != 0) = true := bne_iff_ne.mpr h2
  clear hy h1
  go_upto_region 16 with fail
  clear c9 cH cH1
  have c0 : w4.cell? ⟨w.heap.size + 2, 0, none⟩ = some (.int .u32 0) := HM4.out.cell 2 rfl 0
  have c1 : w4.cell? ⟨w.heap.size + 2, 1, none⟩ = some (.int .u16 0) := HM4.out.cell 2 rfl 1
  have fa : ∀ i, w4.frozen? ⟨w.heap.size, i, none⟩ = false := HM4.out.free 0 rfl
  have fb : ∀ i, w4.frozen? ⟨w.heap.size + 1, i, none⟩ = false := HM4.out.free 1 rfl
  have ca : ∀ i, w4.cell? ⟨w.heap.size, i, none⟩ = (#[.int .u32 0, .int .u16 0] : Array Value)[i]? := HM4.out.cell 0 rfl
  have cb : ∀ i, w4.cell? ⟨w.heap.size + 1, i, none⟩ = (#[.int .u32 0, .int .u16 0] : Array Value)[i]? := HM4.out.cell 1 rfl
  go_region_held3 (fun w' => w'.cell? ⟨w.heap.size + 2, 0, none⟩ = some (.int .u32 0) ∧ w'.cell? ⟨w.heap.size + 2, 1, none⟩ = some (.int .u16 0)) (go_keep) (fail)
  all_goals
    go_wp2_with fail
    (try simp only [Exit.inBlock, Exit.then])
    refine post_letter (fun W => Mem w W [(w.heap.size, .cells #[.int .u32 0, .int .u16 0] ptT), (w.heap.size + 1, .cells #[.int .u32 0, .int .u16 0] ptT), (w.heap.size + 2, .cells #[.int .u32 0, .int .u16 0] ptT), (G, .cells #[.int .u32 S1, .int .u16 0] ptT), (G + 1, .cells #[.int .u32 S2, .int .u16 0] ptT)]) (by first | exact ((((HM4.out.drew.set 0 rfl 0 _).set 0 rfl 1 _).set 1 rfl 0 _).set 1 rfl 1 _) | exact ((((HM4.out.drew.set 1 rfl 0 _).set 1 rfl 1 _).set 0 rfl 0 _).set 0 rfl 1 _)) ?_
    intro wz hz
    refine bodyPost_ret (v := .tuple #[.agg #[.int .u32 0, .int .u16 0], .agg #[.int .u32 0, .int .u16 0], .int .u8 0, .int .i64 0, .bool false]) ?hres rfl ?hpost
    case hres => exact results_in (p := 2) (q := 3) (r := 4) (s := 5) (t := 6) (ty := ptT) rfl _ _ w.heap.size (w.heap.size + 1) _ _ rfl rfl (run_loadVar_row _ _ ptT ptT _ (0, 0) _ (hz.get 0 rfl) Tryz.underlying32 rfl (by kernel_rfl)) (run_loadVar_row _ _ ptT ptT _ (0, 0) _ (hz.get 1 rfl) Tryz.underlying32 rfl (by kernel_rfl))
    case hpost => exact ⟨rfl, hz.below⟩

set_option maxHeartbeats 4000000 in
theorem rin_other {w : World} {b off n c : Nat} {l : List Int} (hr : Row w (some ⟨b, off, none⟩) l) (hn : l.length = n) (h20 : 20 ≤ n) (hv : l.getD 0 0 / 16 = 4) (hh : 20 ≤ hdl l) (h8 : hdl l + 8 ≤ n) (h1 : ¬ l.getD 9 0 = 17) (h2 : ¬ l.getD 9 0 = 6) (h3 : ¬ l.getD 9 0 = 1) :
    Calls Tryz.prog 40 #[.slice (some ⟨b, off, none⟩) n c] w fun e w' => e = .returned (.tuple #[.agg #[.int .u32 0, .int .u16 0], .agg #[.int .u32 0, .int .u16 0], .int .u8 0, .int .i64 0, .bool false]) ∧ Below w.heap.size w w' := by
  have HM : Hid (Mem w (((w.alloc (.cells #[.int .u32 0, .int .u16 0] ptT)).alloc (.cells #[.int .u32 0, .int .u16 0] ptT)).alloc (.cells #[.int .u32 0, .int .u16 0] ptT)) [(w.heap.size, .cells #[.int .u32 0, .int .u16 0] ptT), (w.heap.size + 1, .cells #[.int .u32 0, .int .u16 0] ptT), (w.heap.size + 2, .cells #[.int .u32 0, .int .u16 0] ptT)]) := (((Mem.nil w).push1 rfl).push2 (by simp)).push3 (by simp)
  have hx := hr.bytes 0
  have hlen := hr.len
  have hand := sm_low4 (l.getD 0 0) hx.1 hx.2
  obtain ⟨H, hH⟩ : ∃ H, hdl l = H := ⟨_, rfl⟩
  have hE : l.getD 0 0 % 16 * 4 = (H : Int) := by rw [← hH]; unfold hdl; omega
  have v3 := wrap64_small (l.getD 0 0 % 16) (by omega) (by omega)
  have v4 := wrap64_small (H : Int) (by omega) (by omega)
  have v5 := wrap64_small ((H : Int) + 8) (by omega) (by omega)
  have HRw : Hid (Row w (some ⟨b, off, none⟩) l ∧ l.length = n) := ⟨hr, hn⟩
  have i0 : (0 : Int) < n := by omega
  have i20 : (20 : Int) ≤ n := by omega
  have i9 : (9 : Int) < n := by omega
  have hh2 : (20 : Int) ≤ (H : Int) := by omega
  have hh3 : (H : Int) + 8 ≤ (n : Int) := by omega
  have hh4 : (H : Int) < (n : Int) := by omega
  have hh5 : (H : Int) + 1 < (n : Int) := by omega
  have hT0 : ((H : Nat) : Int).toNat = H := by omega
  have hT1 : ((H : Int) + 1).toNat = H + 1 := by omega
  have v6 := wrap64_small ((H : Int) + 1) (by omega) (by omega)
  have v7 := wrap64_small ((H : Int) + 2) (by omega) (by omega)
  have v8 := wrap64_small ((H : Int) + 4) (by omega) (by omega)
  have HL : Hid (H + 8 ≤ n ∧ 20 ≤ n ∧ hdl l = H) := ⟨by omega, h20, hH⟩
  clear hr hn h20 hH hh h8
  go_enter Tryz.func40, Tryz.ntmps40
  go_upto_region 2 with fail
  refine wp_letter (fun W => Mem w W [(w.heap.size, .cells #[.int .u32 0, .int .u16 0] ptT), (w.heap.size + 1, .cells #[.int .u32 0, .int .u16 0] ptT), (w.heap.size + 2, .cells #[.int .u32 0, .int .u16 0] ptT)]) HM.out ?_
  intro w1 hM1
  have HM1 : Hid (Mem w w1 [(w.heap.size, .cells #[.int .u32 0, .int .u16 0] ptT), (w.heap.size + 1, .cells #[.int .u32 0, .int .u16 0] ptT), (w.heap.size + 2, .cells #[.int .u32 0, .int .u16 0] ptT)]) := hM1
  have c0 : w1.cell? ⟨b, off, none⟩ = some (.int .u8 (l.getD 0 0)) := (hM1.row HRw.out.1).cellAt 0 (by have := HRw.out.2; omega)
  clear hM1 HM
  generalize l.getD 0 0 = x at *
  have C12 : Calls Tryz.prog 70 #[.slice (some ⟨b, off, none⟩) n c, .int .i64 12] w1 fun e w' => e = .returned (.int .u32 (w32 l 12)) ∧ Mem w w' [(w.heap.size, .cells #[.int .u32 0, .int .u16 0] ptT), (w.heap.size + 1, .cells #[.int .u32 0, .int .u16 0] ptT), (w.heap.size + 2, .cells #[.int .u32 0, .int .u16 0] ptT)] := get32_mem HM1.out HRw.out.1 12 n c HRw.out.2 (by have := HL.out; omega)
  go_wp2_with fail
  refine C12.mono ?_
  rintro e w2 ⟨rfl, hM2⟩
  have HM2 : Hid (Mem w w2 [(w.heap.size, .cells #[.int .u32 0, .int .u16 0] ptT), (w.heap.size + 1, .cells #[.int .u32 0, .int .u16 0] ptT), (w.heap.size + 2, .cells #[.int .u32 0, .int .u16 0] ptT)]) := hM2
  have C16 : Calls Tryz.prog 70 #[.slice (some ⟨b, off, none⟩) n c, .int .i64 16] w2 fun e w' => e = .returned (.int .u32 (w32 l 16)) ∧ Mem w w' [(w.heap.size, .cells #[.int .u32 0, .int .u16 0] ptT), (w.heap.size + 1, .cells #[.int .u32 0, .int .u16 0] ptT), (w.heap.size + 2, .cells #[.int .u32 0, .int .u16 0] ptT)] := get32_mem hM2 HRw.out.1 16 n c HRw.out.2 (by have := HL.out; omega)
  clear C12 hM2 HM1 c0
  go_wp2_with fail
  refine C16.mono ?_
  rintro e w3 ⟨rfl, hM3⟩
  have HM3 : Hid (Mem w w3 [(w.heap.size, .cells #[.int .u32 0, .int .u16 0] ptT), (w.heap.size + 1, .cells #[.int .u32 0, .int .u16 0] ptT), (w.heap.size + 2, .cells #[.int .u32 0, .int .u16 0] ptT)]) := hM3
  clear C16 hM3 HM2
  generalize hS1 : w32 l 12 = S1 at *
  generalize hS2 : w32 l 16 = S2 at *
  have HSS : Hid (w32 l 12 = S1 ∧ w32 l 16 = S2) := ⟨hS1, hS2⟩
  clear hS1 hS2
  go_upto_region 8 with fail
  obtain ⟨G, hG⟩ : ∃ G, w3.heap.size = G := ⟨_, rfl⟩
  rw [hG]
  refine wp_letter (fun W => Mem w W [(w.heap.size, .cells #[.int .u32 0, .int .u16 0] ptT), (w.heap.size + 1, .cells #[.int .u32 0, .int .u16 0] ptT), (w.heap.size + 2, .cells #[.int .u32 0, .int .u16 0] ptT), (G, .cells #[.int .u32 S1, .int .u16 0] ptT), (G + 1, .cells #[.int .u32 S2, .int .u16 0] ptT)]) (by rw [← hG]; exact (HM3.out.push4 rfl).push _ _ (by simp)) ?_
  intro w4 hM4
  have HM4 : Hid (Mem w w4 [(w.heap.size, .cells #[.int .u32 0, .int .u16 0] ptT), (w.heap.size + 1, .cells #[.int .u32 0, .int .u16 0] ptT), (w.heap.size + 2, .cells #[.int .u32 0, .int .u16 0] ptT), (G, .cells #[.int .u32 S1, .int .u16 0] ptT), (G + 1, .cells #[.int .u32 S2, .int .u16 0] ptT)]) := hM4
  have c9 : w4.cell? ⟨b, off + 9, none⟩ = some (.int .u8 (l.getD 9 0)) := (hM4.row HRw.out.1).cellAt 9 (by have := HRw.out.2; have := HL.out; omega)
  have cH : w4.cell? ⟨b, off + H, none⟩ = some (.int .u8 (l.getD H 0)) := (hM4.row HRw.out.1).cellAt H (by have := HRw.out.2; have := HL.out; omega)
  have cH1 : w4.cell? ⟨b, off + (H + 1), none⟩ = some (.int .u8 (l.getD (H + 1) 0)) := (hM4.row HRw.out.1).cellAt (H + 1) (by have := HRw.out.2; have := HL.out; omega)
  clear hM4 HM3 hG
  generalize l.getD 9 0 = t at *
  have b1 : (t == 17) = false := beq_eq_false_iff_ne.mpr h1
  have b2 : (t == 6) = false := beq_eq_false_iff_ne.mpr h2
  have b3 : (t == 1) = false := beq_eq_false_iff_ne.mpr h3
  go_upto_region 10 with fail
  clear c9 cH cH1
  have c0 : w4.cell? ⟨w.heap.size + 2, 0, none⟩ = some (.int .u32 0) := HM4.out.cell 2 rfl 0
  have c1 : w4.cell? ⟨w.heap.size + 2, 1, none⟩ = some (.int .u16 0) := HM4.out.cell 2 rfl 1
  have fa : ∀ i, w4.frozen? ⟨w.heap.size, i, none⟩ = false := HM4.out.free 0 rfl
  have fb : ∀ i, w4.frozen? ⟨w.heap.size + 1, i, none⟩ = false := HM4.out.free 1 rfl
  have ca : ∀ i, w4.cell? ⟨w.heap.size, i, none⟩ = (#[.int .u32 0, .int .u16 0] : Array Value)[i]? := HM4.out.cell 0 rfl
  have cb : ∀ i, w4.cell? ⟨w.heap.size + 1, i, none⟩ = (#[.int .u32 0, .int .u16 0] : Array Value)[i]? := HM4.out.cell 1 rfl
  go_region_held3 (fun w' => w'.cell? ⟨w.heap.size + 2, 0, none⟩ = some (.int .u32 0) ∧ w'.cell? ⟨w.heap.size + 2, 1, none⟩ = some (.int .u16 0)) (go_keep) (fail)
  all_goals
    go_wp2_with fail
    (try simp only [Exit.inBlock, Exit.then])
    refine post_letter (fun W => Mem w W [(w.heap.size, .cells #[.int .u32 0, .int .u16 0] ptT), (w.heap.size + 1, .cells #[.int .u32 0, .int .u16 0] ptT), (w.heap.size + 2, .cells #[.int .u32 0, .int .u16 0] ptT), (G, .cells #[.int .u32 S1, .int .u16 0] ptT), (G + 1, .cells #[.int .u32 S2, .int .u16 0] ptT)]) (by first | exact ((((HM4.out.drew.set 0 rfl 0 _).set 0 rfl 1 _).set 1 rfl 0 _).set 1 rfl 1 _) | exact ((((HM4.out.drew.set 1 rfl 0 _).set 1 rfl 1 _).set 0 rfl 0 _).set 0 rfl 1 _)) ?_
    intro wz hz
    refine bodyPost_ret (v := .tuple #[.agg #[.int .u32 0, .int .u16 0], .agg #[.int .u32 0, .int .u16 0], .int .u8 0, .int .i64 0, .bool false]) ?hres rfl ?hpost
    case hres => exact results_in (p := 2) (q := 3) (r := 4) (s := 5) (t := 6) (ty := ptT) rfl _ _ w.heap.size (w.heap.size + 1) _ _ rfl rfl (run_loadVar_row _ _ ptT ptT _ (0, 0) _ (hz.get 0 rfl) Tryz.underlying32 rfl (by kernel_rfl)) (run_loadVar_row _ _ ptT ptT _ (0, 0) _ (hz.get 1 rfl) Tryz.underlying32 rfl (by kernel_rfl))
    case hpost => exact ⟨rfl, hz.below⟩

end Go.Proofs.YtjalpbkfpjfigaaGreat
