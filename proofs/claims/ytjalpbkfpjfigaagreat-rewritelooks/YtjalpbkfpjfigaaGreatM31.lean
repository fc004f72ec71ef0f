/-
  What the document's own lychref8.inner answers of an echo.
  What the document's own lychref8.inner answers of a header that stands.
-/
import Derived.Test.YtjalpbkfpjfigaaGreatM29
namespace Go.Proofs.YtjalpbkfpjfigaaGreat
open Go.RowKit
open Sm
set_option linter.unusedVariables false
set_option maxRecDepth 20000

set_option maxHeartbeats 4000000 in
theorem rin_ask {w : World} {b off n c : Nat} {l : List Int} (hr : Row w (some ⟨b, off, none⟩) l) (hn : l.length = n) (h20 : 20 ≤ n) (hv : l.getD 0 0 / 16 = 4) (hh : 20 ≤ hdl l) (h8 : hdl l + 8 ≤ n) (hy : l.getD 9 0 = 1) (ht : l.getD (hdl l) 0 = 8) (hk : l.getD (hdl l + 1) 0 = 0) :
    Calls Tryz.prog 40 #[.slice (some ⟨b, off, none⟩) n c] w fun e w' => e = .returned (.tuple #[.agg #[.int .u32 (w32 l 12), .int .u16 (w16 l (hdl l + 4))], .agg #[.int .u32 (w32 l 16), .int .u16 (w16 l (hdl l + 4))], .int .u8 1, .int .i64 (hdl l : Nat), .bool true]) ∧ Below w.heap.size w w' := by
  have HM : Hid (Mem w (((w.alloc (.cells #[.int .u32 0, .int .u16 0] ptT)).alloc (.cells #[.int .u32 0, .int .u16 0] ptT)).alloc (.cells #[.int .u32 0, .int .u16 0] ptT)) [(w.heap.size, .cells #[.int .u32 0, .int .u16 0] ptT), (w.heap.size + 1, .cells #[.int .u32 0, .int .u16 0] ptT), (w.heap.size + 2, .cells #[.int .u32 0, .int .u16 0] ptT)]) := (((Mem.nil w).push1 rfl).push2 (by simp)).push3 (by simp)
  have hx := hr.bytes 0
  have hlen := hr.len
  have hand := sm_low4 (l.getD 0 0) hx.1 hx.2
  obtain ⟨H, hH⟩ : ∃ H, hdl l = H := ⟨_, rfl⟩
  have hE : l.getD 0 0 % 16 * 4 = (H : Int) := by rw [← hH]; unfold hdl; omega
  have v3 := wrap64_small (l.getD 0 0 % 16) (by omega) (by omega)
  have v4 := wrap64_small (H : Int) (by omega) (by omega)
  have v5 := wrap64_small ((H : Int) + 8) (by omega) (by omega)
  have HRw : Hid (Row w (some ⟨b, off, none⟩) l ∧ l.length = n) := ⟨hr, hn⟩
  have i0 : (0 : Int) < n := by omega
  have i20 : (20 : Int) ≤ n := by omega
  have i9 : (9 : Int) < n := by omega
  have hh2 : (20 : Int) ≤ (H : Int) := by omega
  have hh3 : (H : Int) + 8 ≤ (n : Int) := by omega
  have hh4 : (H : Int) < (n : Int) := by omega
  have hh5 : (H : Int) + 1 < (n : Int) := by omega
  have hT0 : ((H : Nat) : Int).toNat = H := by omega
  have hT1 : ((H : Int) + 1).toNat = H + 1 := by omega
  have v6 := wrap64_small ((H : Int) + 1) (by omega) (by omega)
  have v7 := wrap64_small ((H : Int) + 2) (by omega) (by omega)
  have v8 := wrap64_small ((H : Int) + 4) (by omega) (by omega)
  have HL : Hid (H + 8 ≤ n ∧ 20 ≤ n ∧ hdl l = H) := ⟨by omega, h20, hH⟩
  rw [hH] at ht hk
  have HG16 : Hid (∀ (W : World) (L : List (Nat × Obj)) (i : Nat), Mem w W L → i + 1 < n → Calls Tryz.prog 41 #[.slice (some ⟨b, off, none⟩) n c, .int .i64 i] W fun e w' => e = .returned (.int .u16 (w16 l i)) ∧ Mem w w' L) := fun W L i hM hi => get16_mem hM hr i n c hn hi
  rw [hH]
  clear hr hn h20 hH hh h8
  go_enter Tryz.func40, Tryz.ntmps40
  go_upto_region 2 with fail
  refine wp_letter (fun W => Mem w W [(w.heap.size, .cells #[.int .u32 0, .int .u16 0] ptT), (w.heap.size + 1, .cells #[.int .u32 0, .int .u16 0] ptT), (w.heap.size + 2, .cells #[.int .u32 0, .int .u16 0] ptT)]) HM.out ?_
  intro w1 hM1
  have HM1 : Hid (Mem w w1 [(w.heap.size, .cells #[.int .u32 0, .int .u16 0] ptT), (w.heap.size + 1, .cells #[.int .u32 0, .int .u16 0] ptT), (w.heap.size + 2, .cells #[.int .u32 0, .int .u16 0] ptT)]) := hM1
  have c0 : w1.cell? ⟨b, off, none⟩ = some (.int .u8 (l.getD 0 0)) := (hM1.row HRw.out.1).cellAt 0 (by have := HRw.out.2; omega)
  clear hM1 HM
  generalize l.getD 0 0 = x at *
  have C12 : Calls Tryz.prog 70 #[.slice (some ⟨b, off, none⟩) n c, .int .i64 12] w1 fun e w' => e = .returned (.int .u32 (w32 l 12)) ∧ Mem w w' [(w.heap.size, .cells #[.int .u32 0, .int .u16 0] ptT), (w.heap.size + 1, .cells #[.int .u32 0, .int .u16 0] ptT), (w.heap.size + 2, .cells #[.int .u32 0, .int .u16 0] ptT)] := get32_mem HM1.out HRw.out.1 12 n c HRw.out.2 (by have := HL.out; omega)
  go_wp2_with fail
  refine C12.mono ?_
  rintro e w2 ⟨rfl, hM2⟩
  have HM2 : Hid (Mem w w2 [(w.heap.size, .cells #[.int .u32 0, .int .u16 0] ptT), (w.heap.size + 1, .cells #[.int .u32 0, .int .u16 0] ptT), (w.heap.size + 2, .cells #[.int .u32 0, .int .u16 0] ptT)]) := hM2
  have C16 : Calls Tryz.prog 70 #[.slice (some ⟨b, off, none⟩) n c, .int .i64 16] w2 fun e w' => e = .returned (.int .u32 (w32 l 16)) ∧ Mem w w' [(w.heap.size, .cells #[.int .u32 0, .int .u16 0] ptT), (w.heap.size + 1, .cells #[.int .u32 0, .int .u16 0] ptT), (w.heap.size + 2, .cells #[.int .u32 0, .int .u16 0] ptT)] := get32_mem hM2 HRw.out.1 16 n c HRw.out.2 (by have := HL.out; omega)
  clear C12 hM2 HM1 c0
  go_wp2_with fail
  refine C16.mono ?_
  rintro e w3 ⟨rfl, hM3⟩
  have HM3 : Hid (Mem w w3 [(w.heap.size, .cells #[.int .u32 0, .int .u16 0] ptT), (w.heap.size + 1, .cells #[.int .u32 0, .int .u16 0] ptT), (w.heap.size + 2, .cells #[.int .u32 0, .int .u16 0] ptT)]) := hM3
  clear C16 hM3 HM2
  generalize hS1 : w32 l 12 = S1 at *
  generalize hS2 : w32 l 16 = S2 at *
  have HSS : Hid (w32 l 12 = S1 ∧ w32 l 16 = S2) := ⟨hS1, hS2⟩
  clear hS1 hS2
  go_upto_region 8 with fail
  obtain ⟨G, hG⟩ : ∃ G, w3.heap.size = G := ⟨_, rfl⟩
  rw [hG]
  refine wp_letter (fun W => Mem w W [(w.heap.size, .cells #[.int .u32 0, .int .u16 0] ptT), (w.heap.size + 1, .cells #[.int .u32 0, .int .u16 0] ptT), (w.heap.size + 2, .cells #[.int .u32 0, .int .u16 0] ptT), (G, .cells #[.int .u32 S1, .int .u16 0] ptT), (G + 1, .cells #[.int .u32 S2, .int .u16 0] ptT)]) (by rw [← hG]; exact (HM3.out.push4 rfl).push _ _ (by simp)) ?_
  intro w4 hM4
  have HM4 : Hid (Mem w w4 [(w.heap.size, .cells #[.int .u32 0, .int .u16 0] ptT), (w.heap.size + 1, .cells #[.int .u32 0, .int .u16 0] ptT), (w.heap.size + 2, .cells #[.int .u32 0, .int .u16 0] ptT), (G, .cells #[.int .u32 S1, .int .u16 0] ptT), (G + 1, .cells #[.int .u32 S2, .int .u16 0] ptT)]) := hM4
  have c9 : w4.cell? ⟨b, off + 9, none⟩ = some (.int .u8 (l.getD 9 0)) := (hM4.row HRw.out.1).cellAt 9 (by have := HRw.out.2; have := HL.out; omega)
  have cH : w4.cell? ⟨b, off + H, none⟩ = some (.int .u8 (l.getD H 0)) := (hM4.row HRw.out.1).cellAt H (by have := HRw.out.2; have := HL.out; omega)
  have cH1 : w4.cell? ⟨b, off + (H + 1), none⟩ = some (.int .u8 (l.getD (H + 1) 0)) := (hM4.row HRw.out.1).cellAt (H + 1) (by have := HRw.out.2; have := HL.out; omega)
  clear hM4 HM3 hG
  rw [hy] at c9
  rw [ht] at cH
  rw [hk] at cH1
  have C0 : Calls Tryz.prog 41 #[.slice (some ⟨b, off, none⟩) n c, .int .i64 ((H : Int) + 4)] w4 fun e w' => e = .returned (.int .u16 (w16 l (H + 4))) ∧ Mem w w' [(w.heap.size, .cells #[.int .u32 0, .int .u16 0] ptT), (w.heap.size + 1, .cells #[.int .u32 0, .int .u16 0] ptT), (w.heap.size + 2, .cells #[.int .u32 0, .int .u16 0] ptT), (G, .cells #[.int .u32 S1, .int .u16 0] ptT), (G + 1, .cells #[.int .u32 S2, .int .u16 0] ptT)] := HG16.out w4 _ (H + 4) HM4.out (by have := HL.out; omega)
  clear hy ht hk
  go_wp2_with fail
  refine C0.mono ?_
  rintro e w5 ⟨rfl, hM5⟩
  have HM5 : Hid (Mem w w5 [(w.heap.size, .cells #[.int .u32 0, .int .u16 0] ptT), (w.heap.size + 1, .cells #[.int .u32 0, .int .u16 0] ptT), (w.heap.size + 2, .cells #[.int .u32 0, .int .u16 0] ptT), (G, .cells #[.int .u32 S1, .int .u16 0] ptT), (G + 1, .cells #[.int .u32 S2, .int .u16 0] ptT)]) := hM5
  generalize hP1 : w16 l (H + 4) = P1 at *
  have HPP : Hid (w16 l (H + 4) = P1) := hP1
  have f3 : ∀ i, w5.frozen? ⟨G, i, none⟩ = false := hM5.free 3 rfl
  have k3 : ∀ i, w5.cell? ⟨G, i, none⟩ = (#[.int .u32 S1, .int .u16 0] : Array Value)[i]? := hM5.cell 3 rfl
  clear C0 hM5 HM4 c9 cH cH1 hP1
  go_upto_region 18 with fail
  refine wp_letter (fun W => Mem w W [(w.heap.size, .cells #[.int .u32 0, .int .u16 0] ptT), (w.heap.size + 1, .cells #[.int .u32 0, .int .u16 0] ptT), (w.heap.size + 2, .cells #[.int .u32 0, .int .u16 0] ptT), (G, .cells #[.int .u32 S1, .int .u16 P1] ptT), (G + 1, .cells #[.int .u32 S2, .int .u16 0] ptT)]) (HM5.out.set 3 rfl 1 _) ?_
  intro w6 hM6
  have HM6 : Hid (Mem w w6 [(w.heap.size, .cells #[.int .u32 0, .int .u16 0] ptT), (w.heap.size + 1, .cells #[.int .u32 0, .int .u16 0] ptT), (w.heap.size + 2, .cells #[.int .u32 0, .int .u16 0] ptT), (G, .cells #[.int .u32 S1, .int .u16 P1] ptT), (G + 1, .cells #[.int .u32 S2, .int .u16 0] ptT)]) := hM6
  clear f3 k3 HM5
  have f4 : ∀ i, w6.frozen? ⟨G + 1, i, none⟩ = false := hM6.free 4 rfl
  have k3 : w6.cell? ⟨G, 1, none⟩ = some (.int .u16 P1) := hM6.cell 3 rfl 1
  have k4 : ∀ i, w6.cell? ⟨G + 1, i, none⟩ = (#[.int .u32 S2, .int .u16 0] : Array Value)[i]? := hM6.cell 4 rfl
  clear hM6
  go_upto_region 19 with fail
  refine wp_letter (fun W => Mem w W [(w.heap.size, .cells #[.int .u32 0, .int .u16 0] ptT), (w.heap.size + 1, .cells #[.int .u32 0, .int .u16 0] ptT), (w.heap.size + 2, .cells #[.int .u32 0, .int .u16 0] ptT), (G, .cells #[.int .u32 S1, .int .u16 P1] ptT), (G + 1, .cells #[.int .u32 S2, .int .u16 P1] ptT)]) (HM6.out.set 4 rfl 1 _) ?_
  intro w7 hM7
  have HM7 : Hid (Mem w w7 [(w.heap.size, .cells #[.int .u32 0, .int .u16 0] ptT), (w.heap.size + 1, .cells #[.int .u32 0, .int .u16 0] ptT), (w.heap.size + 2, .cells #[.int .u32 0, .int .u16 0] ptT), (G, .cells #[.int .u32 S1, .int .u16 P1] ptT), (G + 1, .cells #[.int .u32 S2, .int .u16 P1] ptT)]) := hM7
  clear f4 k3 k4 hM7 HM6
  have e0 : w7.cell? ⟨G, 0, none⟩ = some (.int .u32 S1) := HM7.out.cell 3 rfl 0
  have e1 : w7.cell? ⟨G, 1, none⟩ = some (.int .u16 P1) := HM7.out.cell 3 rfl 1
  have e2 : w7.cell? ⟨G + 1, 0, none⟩ = some (.int .u32 S2) := HM7.out.cell 4 rfl 0
  have e3 : w7.cell? ⟨G + 1, 1, none⟩ = some (.int .u16 P1) := HM7.out.cell 4 rfl 1
  have fa : ∀ i, w7.frozen? ⟨w.heap.size, i, none⟩ = false := HM7.out.free 0 rfl
  have fb : ∀ i, w7.frozen? ⟨w.heap.size + 1, i, none⟩ = false := HM7.out.free 1 rfl
  have ca : ∀ i, w7.cell? ⟨w.heap.size, i, none⟩ = (#[.int .u32 0, .int .u16 0] : Array Value)[i]? := HM7.out.cell 0 rfl
  have cb : ∀ i, w7.cell? ⟨w.heap.size + 1, i, none⟩ = (#[.int .u32 0, .int .u16 0] : Array Value)[i]? := HM7.out.cell 1 rfl
  have d1 : w.heap.size ≠ G := HM7.out.ne 0 3 rfl rfl (by decide)
  have d2 : w.heap.size ≠ G + 1 := HM7.out.ne 0 4 rfl rfl (by decide)
  have d3 : w.heap.size + 1 ≠ G := HM7.out.ne 1 3 rfl rfl (by decide)
  have d4 : w.heap.size + 1 ≠ G + 1 := HM7.out.ne 1 4 rfl rfl (by decide)
  have d1' : G ≠ w.heap.size := fun e => d1 e.symm
  have d2' : G + 1 ≠ w.heap.size := fun e => d2 e.symm
  have d3' : G ≠ w.heap.size + 1 := fun e => d3 e.symm
  have d4' : G + 1 ≠ w.heap.size + 1 := fun e => d4 e.symm
  go_region_held3 (fun w' => w'.cell? ⟨G, 0, none⟩ = some (.int .u32 S1) ∧ w'.cell? ⟨G, 1, none⟩ = some (.int .u16 P1) ∧ w'.cell? ⟨G + 1, 0, none⟩ = some (.int .u32 S2) ∧ w'.cell? ⟨G + 1, 1, none⟩ = some (.int .u16 P1)) (go_keep) (fail)
  all_goals
    go_wp2_with fail
    (try simp only [Exit.inBlock, Exit.then])
    refine post_letter (fun W => Mem w W [(w.heap.size, .cells #[.int .u32 S1, .int .u16 P1] ptT), (w.heap.size + 1, .cells #[.int .u32 S2, .int .u16 P1] ptT), (w.heap.size + 2, .cells #[.int .u32 0, .int .u16 0] ptT), (G, .cells #[.int .u32 S1, .int .u16 P1] ptT), (G + 1, .cells #[.int .u32 S2, .int .u16 P1] ptT)]) (by first | exact ((((HM7.out.drew.set 0 rfl 0 _).set 0 rfl 1 _).set 1 rfl 0 _).set 1 rfl 1 _) | exact ((((HM7.out.drew.set 1 rfl 0 _).set 1 rfl 1 _).set 0 rfl 0 _).set 0 rfl 1 _)) ?_
    intro wz hz
    refine bodyPost_ret (v := .tuple #[.agg #[.int .u32 S1, .int .u16 P1], .agg #[.int .u32 S2, .int .u16 P1], .int .u8 1, .int .i64 (H : Int), .bool true]) ?hres rfl ?hpost
    case hres => exact results_in (p := 2) (q := 3) (r := 4) (s := 5) (t := 6) (ty := ptT) rfl _ _ w.heap.size (w.heap.size + 1) _ _ rfl rfl (run_loadVar_row _ _ ptT ptT _ (0, 0) _ (hz.get 0 rfl) Tryz.underlying32 rfl (by kernel_rfl)) (run_loadVar_row _ _ ptT ptT _ (0, 0) _ (hz.get 1 rfl) Tryz.underlying32 rfl (by kernel_rfl))
    case hpost => exact ⟨by rw [HSS.out.1, HSS.out.2, HPP.out], hz.below⟩

set_option maxHeartbeats 4000000 in
theorem rin_say {w : World} {b off n c : Nat} {l : List Int} (hr : Row w (some ⟨b, off, none⟩) l) (hn : l.length = n) (h20 : 20 ≤ n) (hv : l.getD 0 0 / 16 = 4) (hh : 20 ≤ hdl l) (h8 : hdl l + 8 ≤ n) (hy : l.getD 9 0 = 1) (ht : l.getD (hdl l) 0 = 0) (hk : l.getD (hdl l + 1) 0 = 0) :
    Calls Tryz.prog 40 #[.slice (some ⟨b, off, none⟩) n c] w fun e w' => e = .returned (.tuple #[.agg #[.int .u32 (w32 l 12), .int .u16 (w16 l (hdl l + 4))], .agg #[.int .u32 (w32 l 16), .int .u16 (w16 l (hdl l + 4))], .int .u8 1, .int .i64 (hdl l : Nat), .bool true]) ∧ Below w.heap.size w w' := by
  have HM : Hid (Mem w (((w.alloc (.cells #[.int .u32 0, .int .u16 0] ptT)).alloc (.cells #[.int .u32 0, .int .u16 0] ptT)).alloc (.cells #[.int .u32 0, .int .u16 0] ptT)) [(w.heap.size, .cells #[.int .u32 0, .int .u16 0] ptT), (w.heap.size + 1, .cells #[.int .u32 0, .int .u16 0] ptT), (w.heap.size + 2, .cells #[.int .u32 0, .int .u16 0] ptT)]) := (((Mem.nil w).push1 rfl).push2 (by simp)).push3 (by simp)
  have hx := hr.bytes 0
  have hlen := hr.len
  have hand := sm_low4 (l.getD 0 0) hx.1 hx.2
  obtain ⟨H, hH⟩ : ∃ H, hdl l = H := ⟨_, rfl⟩
  have hE : l.getD 0 0 % 16 * 4 = (H : Int) := by rw [← hH]; unfold hdl; omega
  have v3 := wrap64_small (l.getD 0 0 % 16) (by omega) (by omega)
  have v4 := wrap64_small (H : Int) (by omega) (by omega)
  have v5 := wrap64_small ((H : Int) + 8) (by omega) (by omega)
  have HRw : Hid (Row w (some ⟨b, off, none⟩) l ∧ l.length = n) := ⟨hr, hn⟩
  have i0 : (0 : Int) < n := by omega
  have i20 : (20 : Int) ≤ n := by omega
  have i9 : (9 : Int) < n := by omega
  have hh2 : (20 : Int) ≤ (H : Int) := by omega
  have hh3 : (H : Int) + 8 ≤ (n : Int) := by omega
  have hh4 : (H : Int) < (n : Int) := by omega
  have hh5 : (H : Int) + 1 < (n : Int) := by omega
  have hT0 : ((H : Nat) : Int).toNat = H := by omega
  have hT1 : ((H : Int) + 1).toNat = H + 1 := by omega
  have v6 := wrap64_small ((H : Int) + 1) (by omega) (by omega)
  have v7 := wrap64_small ((H : Int) + 2) (by omega) (by omega)
  have v8 := wrap64_small ((H : Int) + 4) (by omega) (by omega)
  have HL : Hid (H + 8 ≤ n ∧ 20 ≤ n ∧ hdl l = H) := ⟨by omega, h20, hH⟩
  rw [hH] at ht hk
  have HG16 : Hid (∀ (W : World) (L : List (Nat × Obj)) (i : Nat), Mem w W L → i + 1 < n → Calls Tryz.prog 41 #[.slice (some ⟨b, off, none⟩) n c, .int .i64 i] W fun e w' => e = .returned (.int .u16 (w16 l i)) ∧ Mem w w' L) := fun W L i hM hi => get16_mem hM hr i n c hn hi
  rw [hH]
  clear hr hn h20 hH hh h8
  go_enter Tryz.func40, Tryz.ntmps40
  go_upto_region 2 with fail
  refine wp_letter (fun W => Mem w W [(w.heap.size, .cells #[.int .u32 0, .int .u16 0] ptT), (w.heap.size + 1, .cells #[.int .u32 0, .int .u16 0] ptT), (w.heap.size + 2, .cells #[.int .u32 0, .int .u16 0] ptT)]) HM.out ?_
  intro w1 hM1
  have HM1 : Hid (Mem w w1 [(w.heap.size, .cells #[.int .u32 0, .int .u16 0] ptT), (w.heap.size + 1, .cells #[.int .u32 0, .int .u16 0] ptT), (w.heap.size + 2, .cells #[.int .u32 0, .int .u16 0] ptT)]) := hM1
  have c0 : w1.cell? ⟨b, off, none⟩ = some (.int .u8 (l.getD 0 0)) := (hM1.row HRw.out.1).cellAt 0 (by have := HRw.out.2; omega)
  clear hM1 HM
  generalize l.getD 0 0 = x at *
  have C12 : Calls Tryz.prog 70 #[.slice (some ⟨b, off, none⟩) n c, .int .i64 12] w1 fun e w' => e = .returned (.int .u32 (w32 l 12)) ∧ Mem w w' [(w.heap.size, .cells #[.int .u32 0, .int .u16 0] ptT), (w.heap.size + 1, .cells #[.int .u32 0, .int .u16 0] ptT), (w.heap.size + 2, .cells #[.int .u32 0, .int .u16 0] ptT)] := get32_mem HM1.out HRw.out.1 12 n c HRw.out.2 (by have := HL.out; omega)
  go_wp2_with fail
  refine C12.mono ?_
  rintro e w2 ⟨rfl, hM2⟩
  have HM2 : Hid (Mem w w2 [(w.heap.size, .cells #[.int .u32 0, .int .u16 0] ptT), (w.heap.size + 1, .cells #[.int .u32 0, .int .u16 0] ptT), (w.heap.size + 2, .cells #[.int .u32 0, .int .u16 0] ptT)]) := hM2
  have C16 : Calls Tryz.prog 70 #[.slice (some ⟨b, off, none⟩) n c, .int .i64 16] w2 fun e w' => e = .returned (.int .u32 (w32 l 16)) ∧ Mem w w' [(w.heap.size, .cells #[.int .u32 0, .int .u16 0] ptT), (w.heap.size + 1, .cells #[.int .u32 0, .int .u16 0] ptT), (w.heap.size + 2, .cells #[.int .u32 0, .int .u16 0] ptT)] := get32_mem hM2 HRw.out.1 16 n c HRw.out.2 (by have := HL.out; omega)
  clear C12 hM2 HM1 c0
  go_wp2_with fail
  refine C16.mono ?_
  rintro e w3 ⟨rfl, hM3⟩
  have HM3 : Hid (Mem w w3 [(w.heap.size, .cells #[.int .u32 0, .int .u16 0] ptT), (w.heap.size + 1, .cells #[.int .u32 0, .int .u16 0] ptT), (w.heap.size + 2, .cells #[.int .u32 0, .int .u16 0] ptT)]) := hM3
  clear C16 hM3 HM2
  generalize hS1 : w32 l 12 = S1 at *
  generalize hS2 : w32 l 16 = S2 at *
  have HSS : Hid (w32 l 12 = S1 ∧ w32 l 16 = S2) := ⟨hS1, hS2⟩
  clear hS1 hS2
  go_upto_region 8 with fail
  obtain ⟨G, hG⟩ : ∃ G, w3.heap.size = G := ⟨_, rfl⟩
  rw [hG]
  refine wp_letter (fun W => Mem w W [(w.heap.size, .cells #[.int .u32 0, .int .u16 0] ptT), (w.heap.size + 1, .cells #[.int .u32 0, .int .u16 0] ptT), (w.heap.size + 2, .cells #[.int .u32 0, .int .u16 0] ptT), (G, .cells #[.int .u32 S1, .int .u16 0] ptT), (G + 1, .cells #[.int .u32 S2, .int .u16 0] ptT)]) (by rw [← hG]; exact (HM3.out.push4 rfl).push _ _ (by simp)) ?_
  intro w4 hM4
  have HM4 : Hid (Mem w w4 [(w.heap.size, .cells #[.int .u32 0, .int .u16 0] ptT), (w.heap.size + 1, .cells #[.int .u32 0, .int .u16 0] ptT), (w.heap.size + 2, .cells #[.int .u32 0, .int .u16 0] ptT), (G, .cells #[.int .u32 S1, .int .u16 0] ptT), (G + 1, .cells #[.int .u32 S2, .int .u16 0] ptT)]) := hM4
  have c9 : w4.cell? ⟨b, off + 9, none⟩ = some (.int .u8 (l.getD 9 0)) := (hM4.row HRw.out.1).cellAt 9 (by have := HRw.out.2; have := HL.out; omega)
  have cH : w4.cell? ⟨b, off + H, none⟩ = some (.int .u8 (l.getD H 0)) := (hM4.row HRw.out.1).cellAt H (by have := HRw.out.2; have := HL.out; omega)
  have cH1 : w4.cell? ⟨b, off + (H + 1), none⟩ = some (.int .u8 (l.getD (H + 1) 0)) := (hM4.row HRw.out.1).cellAt (H + 1) (by have := HRw.out.2; have := HL.out; omega)
  clear hM4 HM3 hG
  rw [hy] at c9
  rw [ht] at cH
  rw [hk] at cH1
  have C0 : Calls Tryz.prog 41 #[.slice (some ⟨b, off, none⟩) n c, .int .i64 ((H : Int) + 4)] w4 fun e w' => e = .returned (.int .u16 (w16 l (H + 4))) ∧ Mem w w' [(w.heap.size, .cells #[.int .u32 0, .int .u16 0] ptT), (w.heap.size + 1, .cells #[.int .u32 0, .int .u16 0] ptT), (w.heap.size + 2, .cells #[.int .u32 0, .int .u16 0] ptT), (G, .cells #[.int .u32 S1, .int .u16 0] ptT), (G + 1, .cells #[.int .u32 S2, .int .u16 0] ptT)] := HG16.out w4 _ (H + 4) HM4.out (by have := HL.out; omega)
  clear hy ht hk
  go_wp2_with fail
  refine C0.mono ?_
  rintro e w5 ⟨rfl, hM5⟩
  have HM5 : Hid (Mem w w5 [(w.heap.size, .cells #[.int .u32 0, .int .u16 0] ptT), (w.heap.size + 1, .cells #[.int .u32 0, .int .u16 0] ptT), (w.heap.size + 2, .cells #[.int .u32 0, .int .u16 0] ptT), (G, .cells #[.int .u32 S1, .int .u16 0] ptT), (G + 1, .cells #[.int .u32 S2, .int .u16 0] ptT)]) := hM5
  generalize hP1 : w16 l (H + 4) = P1 at *
  have HPP : Hid (w16 l (H + 4) = P1) := hP1
  have f3 : ∀ i, w5.frozen? ⟨G, i, none⟩ = false := hM5.free 3 rfl
  have k3 : ∀ i, w5.cell? ⟨G, i, none⟩ = (#[.int .u32 S1, .int .u16 0] : Array Value)[i]? := hM5.cell 3 rfl
  clear C0 hM5 HM4 c9 cH cH1 hP1
  go_upto_region 18 with fail
  refine wp_letter (fun W => Mem w W [(w.heap.size, .cells #[.int .u32 0, .int .u16 0] ptT), (w.heap.size + 1, .cells #[.int .u32 0, .int .u16 0] ptT), (w.heap.size + 2, .cells #[.int .u32 0, .int .u16 0] ptT), (G, .cells #[.int .u32 S1, .int .u16 P1] ptT), (G + 1, .cells #[.int .u32 S2, .int .u16 0] ptT)]) (HM5.out.set 3 rfl 1 _) ?_
  intro w6 hM6
  have HM6 : Hid (Mem w w6 [(w.heap.size, .cells #[.int .u32 0, .int .u16 0] ptT), (w.heap.size + 1, .cells #[.int .u32 0, .int .u16 0] ptT), (w.heap.size + 2, .cells #[.int .u32 0, .int .u16 0] ptT), (G, .cells #[.int .u32 S1, .int .u16 P1] ptT), (G + 1, .cells #[.int .u32 S2, .int .u16 0] ptT)]) := hM6
  clear f3 k3 HM5
  have f4 : ∀ i, w6.frozen? ⟨G + 1, i, none⟩ = false := hM6.free 4 rfl
  have k3 : w6.cell? ⟨G, 1, none⟩ = some (.int .u16 P1) := hM6.cell 3 rfl 1
  have k4 : ∀ i, w6.cell? ⟨G + 1, i, none⟩ = (#[.int .u32 S2, .int .u16 0] : Array Value)[i]? := hM6.cell 4 rfl
  clear hM6
  go_upto_region 19 with fail
  refine wp_letter (fun W => Mem w W [(w.heap.size, .cells #[.int .u32 0, .int .u16 0] ptT), (w.heap.size + 1, .cells #[.int .u32 0, .int .u16 0] ptT), (w.heap.size + 2, .cells #[.int .u32 0, .int .u16 0] ptT), (G, .cells #[.int .u32 S1, .int .u16 P1] ptT), (G + 1, .cells #[.int .u32 S2, .int .u16 P1] ptT)]) (HM6.out.set 4 rfl 1 _) ?_
  intro w7 hM7
  have HM7 : Hid (Mem w w7 [(w.heap.size, .cells #[.int .u32 0, .int .u16 0] ptT), (w.heap.size + 1, .cells #[.int .u32 0, .int .u16 0] ptT), (w.heap.size + 2, .cells #[.int .u32 0, .int .u16 0] ptT), (G, .cells #[.int .u32 S1, .int .u16 P1] ptT), (G + 1, .cells #[.int .u32 S2, .int .u16 P1] ptT)]) := hM7
  clear f4 k3 k4 hM7 HM6
  have e0 : w7.cell? ⟨G, 0, none⟩ = some (.int .u32 S1) := HM7.out.cell 3 rfl 0
  have e1 : w7.cell? ⟨G, 1, none⟩ = some (.int .u16 P1) := HM7.out.cell 3 rfl 1
  have e2 : w7.cell? ⟨G + 1, 0, none⟩ = some (.int .u32 S2) := HM7.out.cell 4 rfl 0
  have e3 : w7.cell? ⟨G + 1, 1, none⟩ = some (.int .u16 P1) := HM7.out.cell 4 rfl 1
  have fa : ∀ i, w7.frozen? ⟨w.heap.size, i, none⟩ = false := HM7.out.free 0 rfl
  have fb : ∀ i, w7.frozen? ⟨w.heap.size + 1, i, none⟩ = false := HM7.out.free 1 rfl
  have ca : ∀ i, w7.cell? ⟨w.heap.size, i, none⟩ = (#[.int .u32 0, .int .u16 0] : Array Value)[i]? := HM7.out.cell 0 rfl
  have cb : ∀ i, w7.cell? ⟨w.heap.size + 1, i, none⟩ = (#[.int .u32 0, .int .u16 0] : Array Value)[i]? := HM7.out.cell 1 rfl
  have d1 : w.heap.size ≠ G := HM7.out.ne 0 3 rfl rfl (by decide)
  have d2 : w.heap.size ≠ G + 1 := HM7.out.ne 0 4 rfl rfl (by decide)
  have d3 : w.heap.size + 1 ≠ G := HM7.out.ne 1 3 rfl rfl (by decide)
  have d4 : w.heap.size + 1 ≠ G + 1 := HM7.out.ne 1 4 rfl rfl (by decide)
  have d1' : G ≠ w.heap.size := fun e => d1 e.symm
  have d2' : G + 1 ≠ w.heap.size := fun e => d2 e.symm
  have d3' : G ≠ w.heap.size + 1 := fun e => d3 e.symm
  have d4' : G + 1 ≠ w.heap.size + 1 := fun e => d4 e.symm
  go_region_held3 (fun w' => w'.cell? ⟨G, 0, none⟩ = some (.int .u32 S1) ∧ w'.cell? ⟨G, 1, none⟩ = some (.int .u16 P1) ∧ w'.cell? ⟨G + 1, 0, none⟩ = some (.int .u32 S2) ∧ w'.cell? ⟨G + 1, 1, none⟩ = some (.int .u16 P1)) (go_keep) (fail)
  all_goals
    go_wp2_with fail
    (try simp only [Exit.inBlock, Exit.then])
    refine post_letter (fun W => Mem w W [(w.heap.size, .cells #[.int .u32 S1, .int .u16 P1] ptT), (w.heap.size + 1, .cells #[.int .u32 S2, .int .u16 P1] ptT), (w.heap.size + 2, .cells #[.int .u32 0, .int .u16 0] ptT), (G, .cells #[.int .u32 S1, .int .u16 P1] ptT), (G + 1, .cells #[.int .u32 S2, .int .u16 P1] ptT)]) (by first | exact ((((HM7.out.drew.set 0 rfl 0 _).set 0 rfl 1 _).set 1 rfl 0 _).set 1 rfl 1 _) | exact ((((HM7.out.drew.set 1 rfl 0 _).set 1 rfl 1 _).set 0 rfl 0 _).set 0 rfl 1 _)) ?_
    intro wz hz
    refine bodyPost_ret (v := .tuple #[.agg #[.int .u32 S1, .int .u16 P1], .agg #[.int .u32 S2, .int .u16 P1], .int .u8 1, .int .i64 (H : Int), .bool true]) ?hres rfl ?hpost
    case hres => exact results_in (p := 2) (q := 3) (r := 4) (s := 5) (t := 6) (ty := ptT) rfl _ _ w.heap.size (w.heap.size + 1) _ _ rfl rfl (run_loadVar_row _ _ ptT ptT _ (0, 0) _ (hz.get 0 rfl) Tryz.underlying32 rfl (by kernel_rfl)) (run_loadVar_row _ _ ptT ptT _ (0, 0) _ (hz.get 1 rfl) Tryz.underlying32 rfl (by kernel_rfl))
    case hpost => exact ⟨by rw [HSS.out.1, HSS.out.2, HPP.out], hz.below⟩

end Go.Proofs.YtjalpbkfpjfigaaGreat

namespace Go.Proofs.YtjalpbkfpjfigaaGreat
open Go.RowKit
open Sm
set_option linter.unusedVariables false
set_option maxRecDepth 20000

set_option maxHeartbeats 4000000 in
theorem rin_udp {w : World} {b off n c : Nat} {l : List Int} (hr : Row w (some ⟨b, off, none⟩) l) (hn : l.length = n) (h20 : 20 ≤ n) (hv : l.getD 0 0 / 16 = 4) (hh : 20 ≤ hdl l) (h8 : hdl l + 8 ≤ n) (hy : l.getD 9 0 = 17) :
    Calls Tryz.prog 40 #[.slice (some ⟨b, off, none⟩) n c] w fun e w' => e = .returned (.tuple #[.agg #[.int .u32 (w32 l 12), .int .u16 (w16 l (hdl l))], .agg #[.int .u32 (w32 l 16), .int .u16 (w16 l (hdl l + 2))], .int .u8 17, .int .i64 (hdl l : Nat), .bool true]) ∧ Below w.heap.size w w' := by
  have HM : Hid (Mem w (((w.alloc (.cells #[.int .u32 0, .int .u16 0] ptT)).alloc (.cells #[.int .u32 0, .int .u16 0] ptT)).alloc (.cells #[.int .u32 0, .int .u16 0] ptT)) [(w.heap.size, .cells #[.int .u32 0, .int .u16 0] ptT), (w.heap.size + 1, .cells #[.int .u32 0, .int .u16 0] ptT), (w.heap.size + 2, .cells #[.int .u32 0, .int .u16 0] ptT)]) := (((Mem.nil w).push1 rfl).push2 (by simp)).push3 (by simp)
  have hx := hr.bytes 0
  have hlen := hr.len
  have hand := sm_low4 (l.getD 0 0) hx.1 hx.2
  obtain ⟨H, hH⟩ : ∃ H, hdl l = H := ⟨_, rfl⟩
  have hE : l.getD 0 0 % 16 * 4 = (H : Int) := by rw [← hH]; unfold hdl; omega
  have v3 := wrap64_small (l.getD 0 0 % 16) (by omega) (by omega)
  have v4 := wrap64_small (H : Int) (by omega) (by omega)
  have v5 := wrap64_small ((H : Int) + 8) (by omega) (by omega)
  have HRw : Hid (Row w (some ⟨b, off, none⟩) l ∧ l.length = n) := ⟨hr, hn⟩
  have i0 : (0 : Int) < n := by omega
  have i20 : (20 : Int) ≤ n := by omega
  have i9 : (9 : Int) < n := by omega
  have hh2 : (20 : Int) ≤ (H : Int) := by omega
  have hh3 : (H : Int) + 8 ≤ (n : Int) := by omega
  have hh4 : (H : Int) < (n : Int) := by omega
  have hh5 : (H : Int) + 1 < (n : Int) := by omega
  have hT0 : ((H : Nat) : Int).toNat = H := by omega
  have hT1 : ((H : Int) + 1).toNat = H + 1 := by omega
  have v6 := wrap64_small ((H : Int) + 1) (by omega) (by omega)
  have v7 := wrap64_small ((H : Int) + 2) (by omega) (by omega)
  have v8 := wrap64_small ((H : Int) + 4) (by omega) (by omega)
  have HL : Hid (H + 8 ≤ n ∧ 20 ≤ n ∧ hdl l = H) := ⟨by omega, h20, hH⟩
  have HG16 : Hid (∀ (W : World) (L : List (Nat × Obj)) (i : Nat), Mem w W L → i + 1 < n → Calls Tryz.prog 41 #[.slice (some ⟨b, off, none⟩) n c, .int .i64 i] W fun e w' => e = .returned (.int .u16 (w16 l i)) ∧ Mem w w' L) := fun W L i hM hi => get16_mem hM hr i n c hn hi
  rw [hH]
  clear hr hn h20 hH hh h8
  go_enter Tryz.func40, Tryz.ntmps40
  go_upto_region 2 with fail
  refine wp_letter (fun W => Mem w W [(w.heap.size, .cells #[.int .u32 0, .int .u16 0] ptT), (w.heap.size + 1, .cells #[.int .u32 0, .int .u16 0] ptT), (w.heap.size + 2, .cells #[.int .u32 0, .int .u16 0] ptT)]) HM.out ?_
  intro w1 hM1
  have HM1 : Hid (Mem w w1 [(w.heap.size, .cells #[.int .u32 0, .int .u16 0] ptT), (w.heap.size + 1, .cells #[.int .u32 0, .int .u16 0] ptT), (w.heap.size + 2, .cells #[.int .u32 0, .int .u16 0] ptT)]) := hM1
  have c0 : w1.cell? ⟨b, off, none⟩ = some (.int .u8 (l.getD 0 0)) := (hM1.row HRw.out.1).cellAt 0 (by have := HRw.out.2; omega)
  clear hM1 HM
  generalize l.getD 0 0 = x at *
  have C12 : Calls Tryz.prog 70 #[.slice (some ⟨b, off, none⟩) n c, .int .i64 12] w1 fun e w' => e = .returned (.int .u32 (w32 l 12)) ∧ Mem w w' [(w.heap.size, .cells #[.int .u32 0, .int .u16 0] ptT), (w.heap.size + 1, .cells #[.int .u32 0, .int .u16 0] ptT), (w.heap.size + 2, .cells #[.int .u32 0, .int .u16 0] ptT)] := get32_mem HM1.out HRw.out.1 12 n c HRw.out.2 (by have := HL.out; omega)
  go_wp2_with fail
  refine C12.mono ?_
  rintro e w2 ⟨rfl, hM2⟩
  have HM2 : Hid (Mem w w2 [(w.heap.size, .cells #[.int .u32 0, .int .u16 0] ptT), (w.heap.size + 1, .cells #[.int .u32 0, .int .u16 0] ptT), (w.heap.size + 2, .cells #[.int .u32 0, .int .u16 0] ptT)]) := hM2
  have C16 : Calls Tryz.prog 70 #[.slice (some ⟨b, off, none⟩) n c, .int .i64 16] w2 fun e w' => e = .returned (.int .u32 (w32 l 16)) ∧ Mem w w' [(w.heap.size, .cells #[.int .u32 0, .int .u16 0] ptT), (w.heap.size + 1, .cells #[.int .u32 0, .int .u16 0] ptT), (w.heap.size + 2, .cells #[.int .u32 0, .int .u16 0] ptT)] := get32_mem hM2 HRw.out.1 16 n c HRw.out.2 (by have := HL.out; omega)
  clear C12 hM2 HM1 c0
  go_wp2_with fail
  refine C16.mono ?_
  rintro e w3 ⟨rfl, hM3⟩
  have HM3 : Hid (Mem w w3 [(w.heap.size, .cells #[.int .u32 0, .int .u16 0] ptT), (w.heap.size + 1, .cells #[.int .u32 0, .int .u16 0] ptT), (w.heap.size + 2, .cells #[.int .u32 0, .int .u16 0] ptT)]) := hM3
  clear C16 hM3 HM2
  generalize hS1 : w32 l 12 = S1 at *
  generalize hS2 : w32 l 16 = S2 at *
  have HSS : Hid (w32 l 12 = S1 ∧ w32 l 16 = S2) := ⟨hS1, hS2⟩
  clear hS1 hS2
  go_upto_region 8 with fail
  obtain ⟨G, hG⟩ : ∃ G, w3.heap.size = G := ⟨_, rfl⟩
  rw [hG]
  refine wp_letter (fun W => Mem w W [(w.heap.size, .cells #[.int .u32 0, .int .u16 0] ptT), (w.heap.size + 1, .cells #[.int .u32 0, .int .u16 0] ptT), (w.heap.size + 2, .cells #[.int .u32 0, .int .u16 0] ptT), (G, .cells #[.int .u32 S1, .int .u16 0] ptT), (G + 1, .cells #[.int .u32 S2, .int .u16 0] ptT)]) (by rw [← hG]; exact (HM3.out.push4 rfl).push _ _ (by simp)) ?_
  intro w4 hM4
  have HM4 : Hid (Mem w w4 [(w.heap.size, .cells #[.int .u32 0, .int .u16 0] ptT), (w.heap.size + 1, .cells #[.int .u32 0, .int .u16 0] ptT), (w.heap.size + 2, .cells #[.int .u32 0, .int .u16 0] ptT), (G, .cells #[.int .u32 S1, .int .u16 0] ptT), (G + 1, .cells #[.int .u32 S2, .int .u16 0] ptT)]) := hM4
  have c9 : w4.cell? ⟨b, off + 9, none⟩ = some (.int .u8 (l.getD 9 0)) := (hM4.row HRw.out.1).cellAt 9 (by have := HRw.out.2; have := HL.out; omega)
  have cH : w4.cell? ⟨b, off + H, none⟩ = some (.int .u8 (l.getD H 0)) := (hM4.row HRw.out.1).cellAt H (by have := HRw.out.2; have := HL.out; omega)
  have cH1 : w4.cell? ⟨b, off + (H + 1), none⟩ = some (.int .u8 (l.getD (H + 1) 0)) := (hM4.row HRw.out.1).cellAt (H + 1) (by have := HRw.out.2; have := HL.out; omega)
  clear hM4 HM3 hG
  rw [hy] at c9
  have C0 := HG16.out w4 _ H HM4.out (by have := HL.out; omega)
  clear hy cH cH1
  go_wp2_with fail
  refine C0.mono ?_
  rintro e w5 ⟨rfl, hM5⟩
  have HM5 : Hid (Mem w w5 [(w.heap.size, .cells #[.int .u32 0, .int .u16 0] ptT), (w.heap.size + 1, .cells #[.int .u32 0, .int .u16 0] ptT), (w.heap.size + 2, .cells #[.int .u32 0, .int .u16 0] ptT), (G, .cells #[.int .u32 S1, .int .u16 0] ptT), (G + 1, .cells #[.int .u32 S2, .int .u16 0] ptT)]) := hM5
  have C2 : Calls Tryz.prog 41 #[.slice (some ⟨b, off, none⟩) n c, .int .i64 ((H : Int) + 2)] w5 fun e w' => e = .returned (.int .u16 (w16 l (H + 2))) ∧ Mem w w' [(w.heap.size, .cells #[.int .u32 0, .int .u16 0] ptT), (w.heap.size + 1, .cells #[.int .u32 0, .int .u16 0] ptT), (w.heap.size + 2, .cells #[.int .u32 0, .int .u16 0] ptT), (G, .cells #[.int .u32 S1, .int .u16 0] ptT), (G + 1, .cells #[.int .u32 S2, .int .u16 0] ptT)] := HG16.out w5 _ (H + 2) hM5 (by have := HL.out; omega)
  clear C0 hM5 HM4 c9
  go_wp2_with fail
  refine C2.mono ?_
  rintro e w6 ⟨rfl, hM6⟩
  have HM6 : Hid (Mem w w6 [(w.heap.size, .cells #[.int .u32 0, .int .u16 0] ptT), (w.heap.size + 1, .cells #[.int .u32 0, .int .u16 0] ptT), (w.heap.size + 2, .cells #[.int .u32 0, .int .u16 0] ptT), (G, .cells #[.int .u32 S1, .int .u16 0] ptT), (G + 1, .cells #[.int .u32 S2, .int .u16 0] ptT)]) := hM6
  generalize hP1 : w16 l H = P1 at *
  generalize hP2 : w16 l (H + 2) = P2 at *
  have HPP : Hid (w16 l H = P1 ∧ w16 l (H + 2) = P2) := ⟨hP1, hP2⟩
  clear hP1 hP2
  have f3 : ∀ i, w6.frozen? ⟨G, i, none⟩ = false := hM6.free 3 rfl
  have f4 : ∀ i, w6.frozen? ⟨G + 1, i, none⟩ = false := hM6.free 4 rfl
  have k3 : ∀ i, w6.cell? ⟨G, i, none⟩ = (#[.int .u32 S1, .int .u16 0] : Array Value)[i]? := hM6.cell 3 rfl
  have k4 : ∀ i, w6.cell? ⟨G + 1, i, none⟩ = (#[.int .u32 S2, .int .u16 0] : Array Value)[i]? := hM6.cell 4 rfl
  clear C2 hM6 HM5
  go_upto_region 19 with fail
  refine wp_letter (fun W => Mem w W [(w.heap.size, .cells #[.int .u32 0, .int .u16 0] ptT), (w.heap.size + 1, .cells #[.int .u32 0, .int .u16 0] ptT), (w.heap.size + 2, .cells #[.int .u32 0, .int .u16 0] ptT), (G, .cells #[.int .u32 S1, .int .u16 P1] ptT), (G + 1, .cells #[.int .u32 S2, .int .u16 P2] ptT)]) ((HM6.out.set 3 rfl 1 _).set 4 rfl 1 _) ?_
  intro w7 hM7
  have HM7 : Hid (Mem w w7 [(w.heap.size, .cells #[.int .u32 0, .int .u16 0] ptT), (w.heap.size + 1, .cells #[.int .u32 0, .int .u16 0] ptT), (w.heap.size + 2, .cells #[.int .u32 0, .int .u16 0] ptT), (G, .cells #[.int .u32 S1, .int .u16 P1] ptT), (G + 1, .cells #[.int .u32 S2, .int .u16 P2] ptT)]) := hM7
  clear f3 f4 k3 k4 hM7 HM6
  have e0 : w7.cell? ⟨G, 0, none⟩ = some (.int .u32 S1) := HM7.out.cell 3 rfl 0
  have e1 : w7.cell? ⟨G, 1, none⟩ = some (.int .u16 P1) := HM7.out.cell 3 rfl 1
  have e2 : w7.cell? ⟨G + 1, 0, none⟩ = some (.int .u32 S2) := HM7.out.cell 4 rfl 0
  have e3 : w7.cell? ⟨G + 1, 1, none⟩ = some (.int .u16 P2) := HM7.out.cell 4 rfl 1
  have fa : ∀ i, w7.frozen? ⟨w.heap.size, i, none⟩ = false := HM7.out.free 0 rfl
  have fb : ∀ i, w7.frozen? ⟨w.heap.size + 1, i, none⟩ = false := HM7.out.free 1 rfl
  have ca : ∀ i, w7.cell? ⟨w.heap.size, i, none⟩ = (#[.int .u32 0, .int .u16 0] : Array Value)[i]? := HM7.out.cell 0 rfl
  have cb : ∀ i, w7.cell? ⟨w.heap.size + 1, i, none⟩ = (#[.int .u32 0, .int .u16 0] : Array Value)[i]? := HM7.out.cell 1 rfl
  have d1 : w.heap.size ≠ G := HM7.out.ne 0 3 rfl rfl (by decide)
  have d2 : w.heap.size ≠ G + 1 := HM7.out.ne 0 4 rfl rfl (by decide)
  have d3 : w.heap.size + 1 ≠ G := HM7.out.ne 1 3 rfl rfl (by decide)
  have d4 : w.heap.size + 1 ≠ G + 1 := HM7.out.ne 1 4 rfl rfl (by decide)
  have d1' : G ≠ w.heap.size := fun e => d1 e.symm
  have d2' : G + 1 ≠ w.heap.size := fun e => d2 e.symm
  have d3' : G ≠ w.heap.size + 1 := fun e => d3 e.symm
  have d4' : G + 1 ≠ w.heap.size + 1 := fun e => d4 e.symm
  go_region_held3 (fun w' => w'.cell? ⟨G, 0, none⟩ = some (.int .u32 S1) ∧ w'.cell? ⟨G, 1, none⟩ = some (.int .u16 P1) ∧ w'.cell? ⟨G + 1, 0, none⟩ = some (.int .u32 S2) ∧ w'.cell? ⟨G + 1, 1, none⟩ = some (.int .u16 P2)) (go_keep) (fail)
  all_goals
    go_wp2_with fail
    (try simp only [Exit.inBlock, Exit.then])
    refine post_letter (fun W => Mem w W [(w.heap.size, .cells #[.int .u32 S1, .int .u16 P1] ptT), (w.heap.size + 1, .cells #[.int .u32 S2, .int .u16 P2] ptT), (w.heap.size + 2, .cells #[.int .u32 0, .int .u16 0] ptT), (G, .cells #[.int .u32 S1, .int .u16 P1] ptT), (G + 1, .cells #[.int .u32 S2, .int .u16 P2] ptT)]) (by first | exact ((((HM7.out.drew.set 0 rfl 0 _).set 0 rfl 1 _).set 1 rfl 0 _).set 1 rfl 1 _) | exact ((((HM7.out.drew.set 1 rfl 0 _).set 1 rfl 1 _).set 0 rfl 0 _).set 0 rfl 1 _)) ?_
    intro wz hz
    refine bodyPost_ret (v := .tuple #[.agg #[.int .u32 S1, .int .u16 P1], .agg #[.int .u32 S2, .int .u16 P2], .int .u8 17, .int .i64 (H : Int), .bool true]) ?hres rfl ?hpost
    case hres => exact results_in (p := 2) (q := 3) (r := 4) (s := 5) (t := 6) (ty := ptT) rfl _ _ w.heap.size (w.heap.size + 1) _ _ rfl rfl (run_loadVar_row _ _ ptT ptT _ (0, 0) _ (hz.get 0 rfl) Tryz.underlying32 rfl (by kernel_rfl)) (run_loadVar_row _ _ ptT ptT _ (0, 0) _ (hz.get 1 rfl) Tryz.underlying32 rfl (by kernel_rfl))
    case hpost => exact ⟨by rw [HSS.out.1, HSS.out.2, HPP.out.1, HPP.out.2], hz.below⟩

set_option maxHeartbeats 4000000 in
theorem rin_tcp {w : World} {b off n c : Nat} {l : List Int} (hr : Row w (some ⟨b, off, none⟩) l) (hn : l.length = n) (h20 : 20 ≤ n) (hv : l.getD 0 0 / 16 = 4) (hh : 20 ≤ hdl l) (h8 : hdl l + 8 ≤ n) (hy : l.getD 9 0 = 6) :
    Calls Tryz.prog 40 #[.slice (some ⟨b, off, none⟩) n c] w fun e w' => e = .returned (.tuple #[.agg #[.int .u32 (w32 l 12), .int .u16 (w16 l (hdl l))], .agg #[.int .u32 (w32 l 16), .int .u16 (w16 l (hdl l + 2))], .int .u8 6, .int .i64 (hdl l : Nat), .bool true]) ∧ Below w.heap.size w w' := by
  have HM : Hid (Mem w (((w.alloc (.cells #[.int .u32 0, .int .u16 0] ptT)).alloc (.cells #[.int .u32 0, .int .u16 0] ptT)).alloc (.cells #[.int .u32 0, .int .u16 0] ptT)) [(w.heap.size, .cells #[.int .u32 0, .int .u16 0] ptT), (w.heap.size + 1, .cells #[.int .u32 0, .int .u16 0] ptT), (w.heap.size + 2, .cells #[.int .u32 0, .int .u16 0] ptT)]) := (((Mem.nil w).push1 rfl).push2 (by simp)).push3 (by simp)
  have hx := hr.bytes 0
  have hlen := hr.len
  have hand := sm_low4 (l.getD 0 0) hx.1 hx.2
  obtain ⟨H, hH⟩ : ∃ H, hdl l = H := ⟨_, rfl⟩
  have hE : l.getD 0 0 % 16 * 4 = (H : Int) := by rw [← hH]; unfold hdl; omega
  have v3 := wrap64_small (l.getD 0 0 % 16) (by omega) (by omega)
  have v4 := wrap64_small (H : Int) (by omega) (by omega)
  have v5 := wrap64_small ((H : Int) + 8) (by omega) (by omega)
  have HRw : Hid (Row w (some ⟨b, off, none⟩) l ∧ l.length = n) := ⟨hr, hn⟩
  have i0 : (0 : Int) < n := by omega
  have i20 : (20 : Int) ≤ n := by omega
  have i9 : (9 : Int) < n := by omega
  have hh2 : (20 : Int) ≤ (H : Int) := by omega
  have hh3 : (H : Int) + 8 ≤ (n : Int) := by omega
  have hh4 : (H : Int) < (n : Int) := by omega
  have hh5 : (H : Int) + 1 < (n : Int) := by omega
  have hT0 : ((H : Nat) : Int).toNat = H := by omega
  have hT1 : ((H : Int) + 1).toNat = H + 1 := by omega
  have v6 := wrap64_small ((H : Int) + 1) (by omega) (by omega)
  have v7 := wrap64_small ((H : Int) + 2) (by omega) (by omega)
  have v8 := wrap64_small ((H : Int) + 4) (by omega) (by omega)
  have HL : Hid (H + 8 ≤ n ∧ 20 ≤ n ∧ hdl l = H) := ⟨by omega, h20, hH⟩
  have HG16 : Hid (∀ (W : World) (L : List (Nat × Obj)) (i : Nat), Mem w W L → i + 1 < n → Calls Tryz.prog 41 #[.slice (some ⟨b, off, none⟩) n c, .int .i64 i] W fun e w' => e = .returned (.int .u16 (w16 l i)) ∧ Mem w w' L) := fun W L i hM hi => get16_mem hM hr i n c hn hi
  rw [hH]
  clear hr hn h20 hH hh h8
  go_enter Tryz.func40, Tryz.ntmps40
  go_upto_region 2 with fail
  refine wp_letter (fun W => Mem w W [(w.heap.size, .cells #[.int .u32 0, .int .u16 0] ptT), (w.heap.size + 1, .cells #[.int .u32 0, .int .u16 0] ptT), (w.heap.size + 2, .cells #[.int .u32 0, .int .u16 0] ptT)]) HM.out ?_
  intro w1 hM1
  have HM1 : Hid (Mem w w1 [(w.heap.size, .cells #[.int .u32 0, .int .u16 0] ptT), (w.heap.size + 1, .cells #[.int .u32 0, .int .u16 0] ptT), (w.heap.size + 2, .cells #[.int .u32 0, .int .u16 0] ptT)]) := hM1
  have c0 : w1.cell? ⟨b, off, none⟩ = some (.int .u8 (l.getD 0 0)) := (hM1.row HRw.out.1).cellAt 0 (by have := HRw.out.2; omega)
  clear hM1 HM
  generalize l.getD 0 0 = x at *
  have C12 : Calls Tryz.prog 70 #[.slice (some ⟨b, off, none⟩) n c, .int .i64 12] w1 fun e w' => e = .returned (.int .u32 (w32 l 12)) ∧ Mem w w' [(w.heap.size, .cells #[.int .u32 0, .int .u16 0] ptT), (w.heap.size + 1, .cells #[.int .u32 0, .int .u16 0] ptT), (w.heap.size + 2, .cells #[.int .u32 0, .int .u16 0] ptT)] := get32_mem HM1.out HRw.out.1 12 n c HRw.out.2 (by have := HL.out; omega)
  go_wp2_with fail
  refine C12.mono ?_
  rintro e w2 ⟨rfl, hM2⟩
  have HM2 : Hid (Mem w w2 [(w.heap.size, .cells #[.int .u32 0, .int .u16 0] ptT), (w.heap.size + 1, .cells #[.int .u32 0, .int .u16 0] ptT), (w.heap.size + 2, .cells #[.int .u32 0, .int .u16 0] ptT)]) := hM2
  have C16 : Calls Tryz.prog 70 #[.slice (some ⟨b, off, none⟩) n c, .int .i64 16] w2 fun e w' => e = .returned (.int .u32 (w32 l 16)) ∧ Mem w w' [(w.heap.size, .cells #[.int .u32 0, .int .u16 0] ptT), (w.heap.size + 1, .cells #[.int .u32 0, .int .u16 0] ptT), (w.heap.size + 2, .cells #[.int .u32 0, .int .u16 0] ptT)] := get32_mem hM2 HRw.out.1 16 n c HRw.out.2 (by have := HL.out; omega)
  clear C12 hM2 HM1 c0
  go_wp2_with fail
  refine C16.mono ?_
  rintro e w3 ⟨rfl, hM3⟩
  have HM3 : Hid (Mem w w3 [(w.heap.size, .cells #[.int .u32 0, .int .u16 0] ptT), (w.heap.size + 1, .cells #[.int .u32 0, .int .u16 0] ptT), (w.heap.size + 2, .cells #[.int .u32 0, .int .u16 0] ptT)]) := hM3
  clear C16 hM3 HM2
  generalize hS1 : w32 l 12 = S1 at *
  generalize hS2 : w32 l 16 = S2 at *
  have HSS : Hid (w32 l 12 = S1 ∧ w32 l 16 = S2) := ⟨hS1, hS2⟩
  clear hS1 hS2
  go_upto_region 8 with fail
  obtain ⟨G, hG⟩ : ∃ G, w3.heap.size = G := ⟨_, rfl⟩
  rw [hG]
  refine wp_letter (fun W => Mem w W [(w.heap.size, .cells #[.int .u32 0, .int .u16 0] ptT), (w.heap.size + 1, .cells #[.int .u32 0, .int .u16 0] ptT), (w.heap.size + 2, .cells #[.int .u32 0, .int .u16 0] ptT), (G, .cells #[.int .u32 S1, .int .u16 0] ptT), (G + 1, .cells #[.int .u32 S2, .int .u16 0] ptT)]) (by rw [← hG]; exact (HM3.out.push4 rfl).push _ _ (by simp)) ?_
  intro w4 hM4
  have HM4 : Hid (Mem w w4 [(w.heap.size, .cells #[.int .u32 0, .int .u16 0] ptT), (w.heap.size + 1, .cells #[.int .u32 0, .int .u16 0] ptT), (w.heap.size + 2, .cells #[.int .u32 0, .int .u16 0] ptT), (G, .cells #[.int .u32 S1, .int .u16 0] ptT), (G + 1, .cells #[.int .u32 S2, .int .u16 0] ptT)]) := hM4
  have c9 : w4.cell? ⟨b, off + 9, none⟩ = some (.int .u8 (l.getD 9 0)) := (hM4.row HRw.out.1).cellAt 9 (by have := HRw.out.2; have := HL.out; omega)
  have cH : w4.cell? ⟨b, off + H, none⟩ = some (.int .u8 (l.getD H 0)) := (hM4.row HRw.out.1).cellAt H (by have := HRw.out.2; have := HL.out; omega)
  have cH1 : w4.cell? ⟨b, off + (H + 1), none⟩ = some (.int .u8 (l.getD (H + 1) 0)) := (hM4.row HRw.out.1).cellAt (H + 1) (by have := HRw.out.2; have := HL.out; omega)
  clear hM4 HM3 hG
  rw [hy] at c9
  have C0 := HG16.out w4 _ H HM4.out (by have := HL.out; omega)
  clear hy cH cH1
  go_wp2_with fail
  refine C0.mono ?_
  rintro e w5 ⟨rfl, hM5⟩
  have HM5 : Hid (Mem w w5 [(w.heap.size, .cells #[.int .u32 0, .int .u16 0] ptT), (w.heap.size + 1, .cells #[.int .u32 0, .int .u16 0] ptT), (w.heap.size + 2, .cells #[.int .u32 0, .int .u16 0] ptT), (G, .cells #[.int .u32 S1, .int .u16 0] ptT), (G + 1, .cells #[.int .u32 S2, .int .u16 0] ptT)]) := hM5
  have C2 : Calls Tryz.prog 41 #[.slice (some ⟨b, off, none⟩) n c, .int .i64 ((H : Int) + 2)] w5 fun e w' => e = .returned (.int .u16 (w16 l (H + 2))) ∧ Mem w w' [(w.heap.size, .cells #[.int .u32 0, .int .u16 0] ptT), (w.heap.size + 1, .cells #[.int .u32 0, .int .u16 0] ptT), (w.heap.size + 2, .cells #[.int .u32 0, .int .u16 0] ptT), (G, .cells #[.int .u32 S1, .int .u16 0] ptT), (G + 1, .cells #[.int .u32 S2, .int .u16 0] ptT)] := HG16.out w5 _ (H + 2) hM5 (by have := HL.out; omega)
  clear C0 hM5 HM4 c9
  go_wp2_with fail
  refine C2.mono ?_
  rintro e w6 ⟨rfl, hM6⟩
  have HM6 : Hid (Mem w w6 [(w.heap.size, .cells #[.int .u32 0, .int .u16 0] ptT), (w.heap.size + 1, .cells #[.int .u32 0, .int .u16 0] ptT), (w.heap.size + 2, .cells #[.int .u32 0, .int .u16 0] ptT), (G, .cells #[.int .u32 S1, .int .u16 0] ptT), (G + 1, .cells #[.int .u32 S2, .int .u16 0] ptT)]) := hM6
  generalize hP1 : w16 l H = P1 at *
  generalize hP2 : w16 l (H + 2) = P2 at *
  have HPP : Hid (w16 l H = P1 ∧ w16 l (H + 2) = P2) := ⟨hP1, hP2⟩
  clear hP1 hP2
  have f3 : ∀ i, w6.frozen? ⟨G, i, none⟩ = false := hM6.free 3 rfl
  have f4 : ∀ i, w6.frozen? ⟨G + 1, i, none⟩ = false := hM6.free 4 rfl
  have k3 : ∀ i, w6.cell? ⟨G, i, none⟩ = (#[.int .u32 S1, .int .u16 0] : Array Value)[i]? := hM6.cell 3 rfl
  have k4 : ∀ i, w6.cell? ⟨G + 1, i, none⟩ = (#[.int .u32 S2, .int .u16 0] : Array Value)[i]? := hM6.cell 4 rfl
  clear C2 hM6 HM5
  go_upto_region 19 with fail
  refine wp_letter (fun W => Mem w W [(w.heap.size, .cells #[.int .u32 0, .int .u16 0] ptT), (w.heap.size + 1, .cells #[.int .u32 0, .int .u16 0] ptT), (w.heap.size + 2, .cells #[.int .u32 0, .int .u16 0] ptT), (G, .cells #[.int .u32 S1, .int .u16 P1] ptT), (G + 1, .cells #[.int .u32 S2, .int .u16 P2] ptT)]) ((HM6.out.set 3 rfl 1 _).set 4 rfl 1 _) ?_
  intro w7 hM7
  have HM7 : Hid (Mem w w7 [(w.heap.size, .cells #[.int .u32 0, .int .u16 0] ptT), (w.heap.size + 1, .cells #[.int .u32 0, .int .u16 0] ptT), (w.heap.size + 2, .cells #[.int .u32 0, .int .u16 0] ptT), (G, .cells #[.int .u32 S1, .int .u16 P1] ptT), (G + 1, .cells #[.int .u32 S2, .int .u16 P2] ptT)]) := hM7
  clear f3 f4 k3 k4 hM7 HM6
  have e0 : w7.cell? ⟨G, 0, none⟩ = some (.int .u32 S1) := HM7.out.cell 3 rfl 0
  have e1 : w7.cell? ⟨G, 1, none⟩ = some (.int .u16 P1) := HM7.out.cell 3 rfl 1
  have e2 : w7.cell? ⟨G + 1, 0, none⟩ = some (.int .u32 S2) := HM7.out.cell 4 rfl 0
  have e3 : w7.cell? ⟨G + 1, 1, none⟩ = some (.int .u16 P2) := HM7.out.cell 4 rfl 1
  have fa : ∀ i, w7.frozen? ⟨w.heap.size, i, none⟩ = false := HM7.out.free 0 rfl
  have fb : ∀ i, w7.frozen? ⟨w.heap.size + 1, i, none⟩ = false := HM7.out.free 1 rfl
  have ca : ∀ i, w7.cell? ⟨w.heap.size, i, none⟩ = (#[.int .u32 0, .int .u16 0] : Array Value)[i]? := HM7.out.cell 0 rfl
  have cb : ∀ i, w7.cell? ⟨w.heap.size + 1, i, none⟩ = (#[.int .u32 0, .int .u16 0] : Array Value)[i]? := HM7.out.cell 1 rfl
  have d1 : w.heap.size ≠ G := HM7.out.ne 0 3 rfl rfl (by decide)
  have d2 : w.heap.size ≠ G + 1 := HM7.out.ne 0 4 rfl rfl (by decide)
  have d3 : w.heap.size + 1 ≠ G := HM7.out.ne 1 3 rfl rfl (by decide)
  have d4 : w.heap.size + 1 ≠ G + 1 := HM7.out.ne 1 4 rfl rfl (by decide)
  have d1' : G ≠ w.heap.size := fun e => d1 e.symm
  have d2' : G + 1 ≠ w.heap.size := fun e => d2 e.symm
  have d3' : G ≠ w.heap.size + 1 := fun e => d3 e.symm
  have d4' : G + 1 ≠ w.heap.size + 1 := fun e => d4 e.symm
  go_region_held3 (fun w' => w'.cell? ⟨G, 0, none⟩ = some (.int .u32 S1) ∧ w'.cell? ⟨G, 1, none⟩ = some (.int .u16 P1) ∧ w'.cell? ⟨G + 1, 0, none⟩ = some (.int .u32 S2) ∧ w'.cell? ⟨G + 1, 1, none⟩ = some (.int .u16 P2)) (go_keep) (fail)
  all_goals
    go_wp2_with fail
    (try simp only [Exit.inBlock, Exit.then])
    refine post_letter (fun W => Mem w W [(w.heap.size, .cells #[.int .u32 S1, .int .u16 P1] ptT), (w.heap.size + 1, .cells #[.int .u32 S2, .int .u16 P2] ptT), (w.heap.size + 2, .cells #[.int .u32 0, .int .u16 0] ptT), (G, .cells #[.int .u32 S1, .int .u16 P1] ptT), (G + 1, .cells #[.int .u32 S2, .int .u16 P2] ptT)]) (by first | exact ((((HM7.out.drew.set 0 rfl 0 _).set 0 rfl 1 _).set 1 rfl 0 _).set 1 rfl 1 _) | exact ((((HM7.out.drew.set 1 rfl 0 _).set 1 rfl 1 _).set 0 rfl 0 _).set 0 rfl 1 _)) ?_
    intro wz hz
    refine bodyPost_ret (v := .tuple #[.agg #[.int .u32 S1, .int .u16 P1], .agg #[.int .u32 S2, .int .u16 P2], .int .u8 6, .int .i64 (H : Int), .bool true]) ?hres rfl ?hpost
    case hres => exact results_in (p := 2) (q := 3) (r := 4) (s := 5) (t := 6) (ty := ptT) rfl _ _ w.heap.size (w.heap.size + 1) _ _ rfl rfl (run_loadVar_row _ _ ptT ptT _ (0, 0) _ (hz.get 0 rfl) Tryz.underlying32 rfl (by kernel_rfl)) (run_loadVar_row _ _ ptT ptT _ (0, 0) _ (hz.get 1 rfl) Tryz.underlying32 rfl (by kernel_rfl))
    case hpost => exact ⟨by rw [HSS.out.1, HSS.out.2, HPP.out.1, HPP.out.2], hz.below⟩

end Go.Proofs.YtjalpbkfpjfigaaGreat

