/-
  What is changed: the statements' own tenant (lychseat.Tenant(1, 3)).
-/
import Derived.Test.YtbccadbnaggkhaaGreatKE35
namespace Go.Proofs.YtbccadbnaggkhaaGreat
open Go.RowKit
open Sm
open Cf
open Df
set_option linter.unusedVariables false
set_option linter.unusedSimpArgs false
set_option maxRecDepth 20000

namespace Df
theorem addr_a (w : World) : Calls Tryz.prog 31 #[.int .u8 10, .int .u8 9, .int .u8 0, .int .u8 2] w fun e w' => e = .returned (.int .u32 168361986) ∧ w = w' := by
  have o1 : bits .or .u32 167772160 589824 = 168361984 := by decide
  have o2 : bits .or .u32 168361984 0 = 168361984 := by decide
  have o3 : bits .or .u32 168361984 2 = 168361986 := by decide
  go_enter Tryz.func31, Tryz.ntmps31
  go_wp2
  go_ret
  exact ⟨by first | rfl | decide, rfl⟩
theorem addr_b (w : World) : Calls Tryz.prog 31 #[.int .u8 5, .int .u8 5, .int .u8 1, .int .u8 1] w fun e w' => e = .returned (.int .u32 84214017) ∧ w = w' := by
  have o1 : bits .or .u32 83886080 327680 = 84213760 := by decide
  have o2 : bits .or .u32 84213760 256 = 84214016 := by decide
  have o3 : bits .or .u32 84214016 1 = 84214017 := by decide
  go_enter Tryz.func31, Tryz.ntmps31
  go_wp2
  go_ret
  exact ⟨by first | rfl | decide, rfl⟩
theorem sname1 (w : World) : Calls Tryz.prog 30 #[.int .i64 1] w fun e w' => e = .returned (.string ⟨#[98]⟩) ∧ w = w' := by
  have hsl : ∀ W, (Instr.slice 9 (.string ⟨#[97, 98, 99, 100, 101, 102, 103, 104]⟩) (some (.int .i64 1)) (some (.int .i64 2)) none).run Tryz.prog W = .ok (.string ⟨#[98]⟩) W := by
    intro W
    rw [run_slice_string W 9 _ .i64 .i64 1 2 Tryz.underlying9 (by omega) (by omega) (by show (2 : Int) ≤ ((8 : Nat) : Int); omega)]
    rfl
  go_enter Tryz.func30, Tryz.ntmps30
  go_wp2
  go_ret
  exact ⟨rfl, rfl⟩
/-- The tenant. -/
abbrev u15 (pool : List Int) (lo hi se qu ra bu : Int) : Ten := ⟨⟨#[98]⟩, 101, [2, 0, 0, 0, 0, 0, 0, 0], 168361986, [2, 9, 1, 0, 0, 0], [2, 7, 1, 0, 0, 0], pool, lo, hi, 0, [], [], se, qu, ra, bu⟩
def k15 : Ten := u15 [84214017] 1024 1024 1 1 0 3
/-- Its cells as they are filled. -/
def a15 (p : Value) (lo hi se qu ra bu : Int) : Array Value := (tc (u15 [] lo hi se qu ra bu) p nilV nilV).toArray
theorem a15_one (a : Option Addr) (m c : Nat) (lo hi se qu ra bu : Int) : (a15 (.slice a m c) lo hi se qu ra bu).all (·.oneCell') = true := tc_one3 _ rfl rfl rfl
set_option maxHeartbeats 8000000 in
theorem sten15 (w : World) : Calls Tryz.prog 19 #[.int .i64 1, .int .u16 3] w fun e V => ∃ z C, e = .returned (tv z) ∧ z.1 = k15 ∧ ZB z C ∧ Mem w V C := by
  obtain ⟨g, hg⟩ : ∃ g, w.heap.size = g := ⟨_, rfl⟩
  have HM0 : Hid (Mem w (w.alloc (.cells tz 34)) [(g, .cells tz 34 (0, 0))]) := (Mem.nil w).push1 hg.symm
  go_enter Tryz.func19, Tryz.ntmps19
  go_upto_region 1 with fail
  refine wp_letter (fun X => Mem w X [(g, .cells tz 34 (0, 0))]) (by exact HM0.out) ?_
  intro V0 hM0
  try simp only [hg]
  clear HM0 hg
  obtain ⟨gb, hgb⟩ : ∃ gb, V0.heap.size = gb := ⟨_, rfl⟩
  obtain ⟨B0, hB0⟩ : ∃ B, a15 nilV 0 0 0 0 0 0 = B := ⟨_, rfl⟩
  have hsz : B0.size = 33 := by rw [← hB0]; rfl
  have hone : B0.all (·.oneCell') = true := by rw [← hB0]; exact a15_one _ _ _ _ _ _ _ _ _
  have i33 : (Tryz.prog.info? 34).map (·.size) = some B0.size := by rw [hsz]; kernel_rfl
  have HB0 : Hid (a15 nilV 0 0 0 0 0 0 = B0) := hB0
  have hk1 : (V0.alloc (.cells tz 34)).heap[gb]? = some (.cells tz 34 (0, 0)) := by rw [← hgb]; exact heap_alloc_new _ _
  have HP : Hid (Mem w ((V0.alloc (.cells tz 34)).setRow gb B0) [(gb, .cells B0 34 (0, 0)), (g, .cells tz 34 (0, 0))]) := by
    rw [← hgb, World.setRow_alloc_new]
    exact (hM0.push2 rfl).perm (List.Perm.swap _ _ _)
  clear hM0 hB0
  go_wp2_with fail
  refine (sname1 _).mono ?_
  rintro e _ ⟨rfl, rfl⟩
  go_wp2_with fail
  refine (addr_a _).mono ?_
  rintro e _ ⟨rfl, rfl⟩
  go_upto_region 3 with (refine wpList_store_row rfl 34 (.tmp 6) (.tmp 27) (by with_reducible rfl) gb B0 (by simp [Act.eval]; try exact hgb) (by rw [← HB0.out]; rfl) 34 tz hk1 i33 (by rw [hsz]; rfl) hone ?_)
  refine wp_letter (fun X => Mem w X [(gb, .cells B0 34 (0, 0)), (g, .cells tz 34 (0, 0))]) (by exact HP.out) ?_
  intro V1 hM1
  try simp only [hgb]
  clear HP hgb hk1
  rw [← HB0.out] at hM1
  clear HB0 hsz hone i33
  go_wp2_with fail
  refine (addr_b _).mono ?_
  rintro e _ ⟨rfl, rfl⟩
  obtain ⟨gp, hgp⟩ : ∃ gp, V1.heap.size = gp := ⟨_, rfl⟩
  have hM2 : Mem w (V1.alloc (.cells #[.int .u32 84214017] 26 (0, 0))) [(gb, .cells (a15 nilV 0 0 0 0 0 0) 34 (0, 0)), (g, .cells tz 34 (0, 0)), (gp, .cells #[.int .u32 84214017] 26 (0, 0))] := hM1.push3 hgp.symm
  have c23 : (V1.alloc (.cells #[.int .u32 84214017] 26 (0, 0))).cell? ⟨gb, 23, none⟩ = some nilV := by rw [hM2.cell 0 rfl]; rfl
  have f23 : (V1.alloc (.cells #[.int .u32 84214017] 26 (0, 0))).frozen? ⟨gb, 23, none⟩ = false := hM2.free 0 rfl 23
  have HM3 : Hid (Mem w ((V1.alloc (.cells #[.int .u32 84214017] 26 (0, 0))).setCell ⟨gb, 23, none⟩ (.slice (some ⟨gp, 0, none⟩) 1 1)) [(gb, .cells (a15 (.slice (some ⟨gp, 0, none⟩) 1 1) 0 0 0 0 0 0) 34 (0, 0)), (g, .cells tz 34 (0, 0)), (gp, .cells #[.int .u32 84214017] 26 (0, 0))]) := hM2.set 0 rfl 23 _
  clear hM1 hM2
  go_upto_region 4 with fail
  refine wp_letter (fun X => Mem w X [(gb, .cells (a15 (.slice (some ⟨gp, 0, none⟩) 1 1) 0 0 0 0 0 0) 34 (0, 0)), (g, .cells tz 34 (0, 0)), (gp, .cells #[.int .u32 84214017] 26 (0, 0))]) (by first | exact HM3.out | (have h := HM3.out; rw [← hgp] at h ⊢; exact h)) ?_
  intro V2 hM2
  try simp only [hgp]
  clear HM3 c23 f23 hgp
  have b1 : bits .and .u16 3 4 = 0 := by decide
  have b2 : bits .and .u16 3 64 = 0 := by decide
  have b3 : bits .and .u16 3 128 = 0 := by decide
  have b4 : bits .and .u16 3 256 = 0 := by decide
  have b5 : bits .and .u16 0 7 = 0 := by decide
  have b6 : bits .and .i64 0 7 = 0 := by decide
  have b7 : bits .and .i64 0 3 = 0 := by decide
  have b8 : bits .and .u32 0 3 = 0 := by decide
  have b9 : bits .and .u32 0 7 = 0 := by decide
  generalize hpv : (.slice (some ⟨gp, 0, none⟩) 1 1 : Value) = pv at hM2
  go_upto_region 6 with fail
  have c24 : V2.cell? ⟨gb, 24, none⟩ = some (.int .u16 0) := by rw [(hM2).cell 0 rfl]; rfl
  have f24 : V2.frozen? ⟨gb, 24, none⟩ = false := (hM2).free 0 rfl 24
  have m24 : Mem w (V2.setCell ⟨gb, 24, none⟩ (.int .u16 1024)) [(gb, .cells (a15 pv 1024 0 0 0 0 0) 34 (0, 0)), (g, .cells tz 34 (0, 0)), (gp, .cells #[.int .u32 84214017] 26 (0, 0))] := (hM2).set 0 rfl 24 _
  have c25 : (V2.setCell ⟨gb, 24, none⟩ (.int .u16 1024)).cell? ⟨gb, 25, none⟩ = some (.int .u16 0) := by rw [(m24).cell 0 rfl]; rfl
  have f25 : (V2.setCell ⟨gb, 24, none⟩ (.int .u16 1024)).frozen? ⟨gb, 25, none⟩ = false := (m24).free 0 rfl 25
  have m25 : Mem w ((V2.setCell ⟨gb, 24, none⟩ (.int .u16 1024)).setCell ⟨gb, 25, none⟩ (.int .u16 1024)) [(gb, .cells (a15 pv 1024 1024 0 0 0 0) 34 (0, 0)), (g, .cells tz 34 (0, 0)), (gp, .cells #[.int .u32 84214017] 26 (0, 0))] := (m24).set 0 rfl 25 _
  have HX2 : Hid (Mem w ((V2.setCell ⟨gb, 24, none⟩ (.int .u16 1024)).setCell ⟨gb, 25, none⟩ (.int .u16 1024)) [(gb, .cells (a15 pv 1024 1024 0 0 0 0) 34 (0, 0)), (g, .cells tz 34 (0, 0)), (gp, .cells #[.int .u32 84214017] 26 (0, 0))]) := m25
  clear hM2 m24 m25
  go_upto_region 7 with fail
  refine wp_letter (fun X => Mem w X [(gb, .cells (a15 pv 1024 1024 0 0 0 0) 34 (0, 0)), (g, .cells tz 34 (0, 0)), (gp, .cells #[.int .u32 84214017] 26 (0, 0))]) (by exact HX2.out) ?_
  intro V3 hM3
  clear HX2 c24 f24 c25 f25
  go_upto_region 13 with fail
  have c29 : V3.cell? ⟨gb, 29, none⟩ = some (.int .i64 0) := by rw [(hM3).cell 0 rfl]; rfl
  have f29 : V3.frozen? ⟨gb, 29, none⟩ = false := (hM3).free 0 rfl 29
  have m29 : Mem w (V3.setCell ⟨gb, 29, none⟩ (.int .i64 1)) [(gb, .cells (a15 pv 1024 1024 1 0 0 0) 34 (0, 0)), (g, .cells tz 34 (0, 0)), (gp, .cells #[.int .u32 84214017] 26 (0, 0))] := (hM3).set 0 rfl 29 _
  have HX3 : Hid (Mem w (V3.setCell ⟨gb, 29, none⟩ (.int .i64 1)) [(gb, .cells (a15 pv 1024 1024 1 0 0 0) 34 (0, 0)), (g, .cells tz 34 (0, 0)), (gp, .cells #[.int .u32 84214017] 26 (0, 0))]) := m29
  clear hM3 m29
  go_upto_region 14 with fail
  refine wp_letter (fun X => Mem w X [(gb, .cells (a15 pv 1024 1024 1 0 0 0) 34 (0, 0)), (g, .cells tz 34 (0, 0)), (gp, .cells #[.int .u32 84214017] 26 (0, 0))]) (by exact HX3.out) ?_
  intro V4 hM4
  clear HX3 c29 f29
  have c30 : V4.cell? ⟨gb, 30, none⟩ = some (.int .i64 0) := by rw [(hM4).cell 0 rfl]; rfl
  have f30 : V4.frozen? ⟨gb, 30, none⟩ = false := (hM4).free 0 rfl 30
  have m30 : Mem w (V4.setCell ⟨gb, 30, none⟩ (.int .i64 1)) [(gb, .cells (a15 pv 1024 1024 1 1 0 0) 34 (0, 0)), (g, .cells tz 34 (0, 0)), (gp, .cells #[.int .u32 84214017] 26 (0, 0))] := (hM4).set 0 rfl 30 _
  have HX4 : Hid (Mem w (V4.setCell ⟨gb, 30, none⟩ (.int .i64 1)) [(gb, .cells (a15 pv 1024 1024 1 1 0 0) 34 (0, 0)), (g, .cells tz 34 (0, 0)), (gp, .cells #[.int .u32 84214017] 26 (0, 0))]) := m30
  clear hM4 m30
  go_upto_region 15 with fail
  refine wp_letter (fun X => Mem w X [(gb, .cells (a15 pv 1024 1024 1 1 0 0) 34 (0, 0)), (g, .cells tz 34 (0, 0)), (gp, .cells #[.int .u32 84214017] 26 (0, 0))]) (by exact HX4.out) ?_
  intro V5 hM5
  clear HX4 c30 f30
  have c31 : V5.cell? ⟨gb, 31, none⟩ = some (.int .u32 0) := by rw [(hM5).cell 0 rfl]; rfl
  have f31 : V5.frozen? ⟨gb, 31, none⟩ = false := (hM5).free 0 rfl 31
  have m31 : Mem w (V5.setCell ⟨gb, 31, none⟩ (.int .u32 0)) [(gb, .cells (a15 pv 1024 1024 1 1 0 0) 34 (0, 0)), (g, .cells tz 34 (0, 0)), (gp, .cells #[.int .u32 84214017] 26 (0, 0))] := (hM5).set 0 rfl 31 _
  have HX5 : Hid (Mem w (V5.setCell ⟨gb, 31, none⟩ (.int .u32 0)) [(gb, .cells (a15 pv 1024 1024 1 1 0 0) 34 (0, 0)), (g, .cells tz 34 (0, 0)), (gp, .cells #[.int .u32 84214017] 26 (0, 0))]) := m31
  clear hM5 m31
  go_upto_region 16 with fail
  refine wp_letter (fun X => Mem w X [(gb, .cells (a15 pv 1024 1024 1 1 0 0) 34 (0, 0)), (g, .cells tz 34 (0, 0)), (gp, .cells #[.int .u32 84214017] 26 (0, 0))]) (by exact HX5.out) ?_
  intro V6 hM6
  clear HX5 c31 f31
  have c32 : V6.cell? ⟨gb, 32, none⟩ = some (.int .u32 0) := by rw [(hM6).cell 0 rfl]; rfl
  have f32 : V6.frozen? ⟨gb, 32, none⟩ = false := (hM6).free 0 rfl 32
  have m32 : Mem w (V6.setCell ⟨gb, 32, none⟩ (.int .u32 3)) [(gb, .cells (a15 pv 1024 1024 1 1 0 3) 34 (0, 0)), (g, .cells tz 34 (0, 0)), (gp, .cells #[.int .u32 84214017] 26 (0, 0))] := (hM6).set 0 rfl 32 _
  have HX6 : Hid (Mem w (V6.setCell ⟨gb, 32, none⟩ (.int .u32 3)) [(gb, .cells (a15 pv 1024 1024 1 1 0 3) 34 (0, 0)), (g, .cells tz 34 (0, 0)), (gp, .cells #[.int .u32 84214017] 26 (0, 0))]) := m32
  clear hM6 m32
  go_upto_region 17 with fail
  refine wp_letter (fun X => Mem w X [(gb, .cells (a15 pv 1024 1024 1 1 0 3) 34 (0, 0)), (g, .cells tz 34 (0, 0)), (gp, .cells #[.int .u32 84214017] 26 (0, 0))]) (by exact HX6.out) ?_
  intro V7 hM7
  clear HX6 c32 f32
  obtain ⟨A3, hA3⟩ : ∃ A, a15 pv 1024 1024 1 1 0 3 = A := ⟨_, rfl⟩
  have hsz : A3.size = 33 := by rw [← hA3]; rfl
  have hone : A3.all (·.oneCell') = true := by rw [← hA3, ← hpv]; exact a15_one _ _ _ _ _ _ _ _ _
  have i33 : (Tryz.prog.info? 34).map (·.size) = some A3.size := by rw [hsz]; kernel_rfl
  rw [hA3] at hM7
  have k4 := hM7.get 0 rfl
  have k5 := hM7.get 1 rfl
  have hM9 := hM7.wrote 1 rfl (wrote_setRow V7 g _ A3 _ k5)
  have HQ : Hid ((V7.setRow g A3).heap[g]? = some (.cells A3 34 (0, 0)) ∧ ∃ (z : Tv) (C : List (Nat × Obj)), Ending.returned (.agg A3) = .returned (tv z) ∧ z.1 = k15 ∧ ZB z C ∧ Mem w (V7.setRow g A3) C) := by
    refine ⟨hM9.get 1 rfl, (k15, pv, nilV, nilV), [(gp, .cells #[.int .u32 84214017] 26 (0, 0))], by rw [← hA3]; rfl, rfl, ⟨⟨rfl, rfl, rfl⟩, [(gp, .cells #[.int .u32 84214017] 26 (0, 0))], [], [], by simp, ?_, OwB.nil _ _, OwB.nil _ _⟩, hM9.subl (by simp)⟩
    rw [← hpv]
    exact ⟨rfl, Or.inr ⟨gp, 1, #[.int .u32 84214017], rfl, rfl, Nat.le_refl _, by unfold maxLen; omega, rfl, rfl⟩⟩
  clear hM7 hM9 hA3
  go_wp2_with (first | (refine wpList_load_row rfl 34 (.tmp 6) (by with_reducible rfl) gb (by first | rfl | simp [Act.eval]) 34 A3 (0, 0) _ k4 Tryz.underlying34 rfl i33 ?_) | (refine wpList_store_row rfl 34 (.tmp 4) (.tmp 97) (by with_reducible rfl) g A3 (by first | rfl | simp [Act.eval]) (by first | rfl | simp [Act.eval]) 34 tz k5 i33 (by rw [hsz]; rfl) hone ?_))
  refine bodyPost_ret (v := .agg A3) ?_ rfl HQ.out.2
  exact results_cell_row (p := 4) (ty := 34) rfl _ _ g 34 _ (0, 0) _ rfl HQ.out.1 Tryz.underlying34 rfl i33
end Df
end Go.Proofs.YtbccadbnaggkhaaGreat

