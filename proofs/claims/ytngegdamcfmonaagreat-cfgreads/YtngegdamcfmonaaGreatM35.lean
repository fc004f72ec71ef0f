/-
  Settings as bytes: the program's OpenChange where a tenant is put: its walk.
  Settings as bytes: what the document's reader reads of a tenant is what the program's fields read.
  Settings held against one another: lychhelp.Tenant and the program's Same tell the same.
-/
import Derived.Test.YtngegdamcfmonaaGreatM33
import Derived.Test.YtngegdamcfmonaaGreatM27
import Derived.Test.YtngegdamcfmonaaGreatM29
import Derived.Test.YtngegdamcfmonaaGreatM28
import Derived.Test.YtngegdamcfmonaaGreatM31
import Derived.Test.YtngegdamcfmonaaGreatM30
namespace Go.Proofs.YtngegdamcfmonaaGreat
open Go.RowKit
open Sm
open Cf
set_option linter.unusedVariables false
set_option maxRecDepth 20000

set_option maxHeartbeats 16000000 in
theorem openChange_put {w : World} {a : Option Addr} {r : List Int} {c : Nat} (hS : Sl w a (1 :: r) c) :
    Calls Tryz.prog 23 #[.slice a (1 :: r).length c] w (OCP w (hdec (1 :: r))) := by
  obtain ⟨g, hg⟩ : ∃ g, w.heap.size = g := ⟨_, rfl⟩
  have hM0 : Mem w (w.alloc (.cells hz0 35)) [(g, .cells hz0 35 (0, 0))] := (Mem.nil w).push1 hg.symm
  have hbt := build_H
  have hsz : (Tryz.prog.info? 35).map (·.size) = some (hz0 : Array Value).size := by kernel_rfl
  have hone := hz0_one
  obtain ⟨a1, c1, hsl, hS1⟩ := sl_tail hS
  have hl := hS.row.len
  simp only [List.length_cons] at hl
  have hc0 : ∃ b0 off, a = some ⟨b0, off, none⟩ ∧ ∀ V, Below w.heap.size w V → V.cell? ⟨b0, off, none⟩ = some (.int .u8 1) := by
    rcases hS.row.cells with e | ⟨b0, off, e, hc⟩
    · simp at e
    · refine ⟨b0, off, e, fun V hV => ?_⟩
      have h1 := hc 0 (by simp)
      rw [hV.cell (p := ⟨b0, off, none⟩) (cell_lt h1)]
      simpa using h1
  obtain ⟨b0, off, rfl, hc0⟩ := hc0
  have hn : ((1 :: r).length : Int) = (r.length : Int) + 1 := by simp
  generalize (1 :: r).length = n at *
  have hn0 : ¬ ((n : Int) = 0) := by omega
  have hn1 : (0 : Int) < n := by omega
  have hn2 : 0 < n := by omega
  have hn3 : ¬ (n = 0) := by omega
  have hn4 : ((n : Int) == 0) = false := by simp; omega
  clear hn
  have HCW : Hid (∀ (k1 k2 k3 : Nat) (c1' c2 c3 : Array Value) (E L : List (Nat × Obj)) (V : World), Mem w V (E ++ L) → Fd w E IT JT ⟨k1, k2, k3, c1', c2, c3⟩ spT →
      Calls Tryz.prog 44 #[.agg #[.func (.func k1) #[] c1', .func (.func k2) #[] c2, .func (.func k3) #[] c3], .slice a1 r.length c1] V fun e W' => ∃ tl er, e = .returned (.tuple #[.agg tl, .int .i64 er]) ∧ tl.size = 33 ∧ tl.all (·.oneCell') = true ∧ Mem w W' (E ++ L) ∧ RT w.heap.size ((E ++ L).map Prod.fst) r tl er W') := fun k1 k2 k3 c1' c2 c3 E L V hM hF => whole_put hM hF hS1
  obtain ⟨R, hR0⟩ : ∃ R, hdec (1 :: r) = R := ⟨_, rfl⟩
  rw [hR0]
  clear hS hS1
  go_enter Tryz.func23, Tryz.ntmps23
  go_upto_region 1 with fail
  refine wp_letter (fun V => Mem w V [(g, .cells hz0 35 (0, 0))]) hM0 ?_
  intro V0 hV0
  have d0 := hc0 _ hV0.below
  have C := hV0.drew
  have HAL : Hid (∀ o, Mem w (V0.drew.alloc o) ((V0.heap.size, o) :: [(g, .cells hz0 35 (0, 0))])) := fun o => al_push C o
  clear hM0 hc0 hV0
  go_upto_region 7 with fail
  go_region_held3 (fun _ => True) (trivial)
    (first | (go_at_call 33; refine (tenant_any (by first | exact C | exact HAL.out _)).mono ?_; rintro e V ⟨⟨k1, k2, k3, q1, q2, q3⟩, E, rfl, hM, hF⟩; simp only [Fv.val]) | (go_at_call 44; refine (HCW.out _ _ _ _ _ _ _ _ _ (by first | exact hM | exact al_mid hM _) hF).mono ?_; rintro e V2 ⟨tl, er, rfl, htl, hto, hM2, hR⟩; have hst := fun V => st_lit V tl htl hto; try have hg2 := storeCells_row V2 _ _ tl _ (hM2.at_ (_, .cells #[.string ⟨#[]⟩, .int .u32 0, .int .u8 0, .int .u8 0, .int .u8 0, .int .u8 0, .int .u8 0, .int .u8 0, .int .u8 0, .int .u8 0, .int .u32 0, .int .u8 0, .int .u8 0, .int .u8 0, .int .u8 0, .int .u8 0, .int .u8 0, .int .u8 0, .int .u8 0, .int .u8 0, .int .u8 0, .int .u8 0, .int .u8 0, .slice none 0 0, .int .u16 0, .int .u16 0, .int .i64 0, .slice none 0 0, .slice none 0 0, .int .i64 0, .int .i64 0, .int .u32 0, .int .u32 0] 33 (0, 0)) (List.mem_append_right _ List.mem_cons_self)) (by rw [htl]; rfl) hto))
  rotate_right
  · go_upto_region 8 with fail
    refine wp_letter (fun X => Mem w X [(V0.heap.size, .cells tl 33 (0, 0)), (g, .cells hz0 35 (0, 0))] ∧ RT w.heap.size [V0.heap.size, g] r tl er X) (put_ab hM2 hR) ?_
    generalize V0.heap.size = bt
    rintro V5 ⟨hM5, hR5⟩
    clear hM hF hM2 hR hst C
    try clear hg2
    have k4 := hM5.get 0 rfl
    have k5 := hM5.get 1 rfl
    have hi33 : (Tryz.prog.info? 33).map (·.size) = some tl.size := by rw [htl]; kernel_rfl
    rcases hR5 with ⟨t, e1, rfl, hl, p, s, q, etl, B, hB, hBM, hBl⟩ | ⟨e1, rfl⟩
    · obtain rfl : tl = (tc t p s q).toArray := by simpa using etl
      obtain ⟨r1, r2, r3⟩ := hB V5 (fun _ _ => rfl)
      have hbp := build_put t hl p s q t.name
      have d1 : V5.cell? ⟨bt, 0, none⟩ = some (.string t.name) := (hM5.cell 0 rfl 0).trans rfl
      have hho : (hc ⟨true, t.name, t⟩ p s q).toArray.all (·.oneCell') = true := by
        apply all_oneCell_toArray
        intro v hv
        simp only [hc, List.mem_cons] at hv
        rcases hv with rfl | rfl | hv
        · rfl
        · rfl
        · have := tc_one2 t (rw_one r1) (rw_one r2) (rw_one r3)
          rw [Array.all_eq_true_iff_forall_mem] at this
          exact this v (by simpa using hv)
      have hhs : (hc ⟨true, t.name, t⟩ p s q).toArray.size = 35 := by
        have := tc_len hl p s q
        simp only [hc, List.size_toArray, List.length_cons]
        omega
      have FIN : Hid (∀ H, Value.agg H = .agg (hc ⟨true, t.name, t⟩ p s q).toArray → OCP w R (.returned (.tuple #[.agg H, .int .i64 0])) (V5.setRow g H)) := by
        intro H hH
        have hM6 := hM5.wrote 1 rfl (wrote_setRow V5 g _ H _ k5)
        refine ⟨hM6.below, ?_⟩
        rw [← hR0, show hdec (1 :: r) = some ⟨true, t.name, t⟩ by simp [hdec, e1]]
        refine ⟨_, rfl, fun V' hV' => ?_⟩
        obtain ⟨q1, q2, q3⟩ := hB V' (fun c hc => (hV' c (hBl c hc).1 (by simpa [World.setRow] using (hBl c hc).2)).trans (setRow_other V5 g c _ (fun e => hBM g (by simp) (e ▸ hc))))
        exact ⟨hl, p, s, q, hH, q1, q2, q3⟩
      have hM6 := fun H => hM5.wrote 1 rfl (wrote_setRow V5 g _ H _ k5)
      generalize (hc ⟨true, t.name, t⟩ p s q).toArray = H at hbp hho hhs FIN
      generalize (tc t p s q).toArray = tl at *
      have hi35 : (Tryz.prog.info? 35).map (·.size) = some H.size := by rw [hhs]; kernel_rfl
      have hM7 := hM6 H
      clear hM6 hB hBl r1 r2 r3 hM5
      go_wp2_with ((refine wpList_load_row rfl 33 (.tmp 4) (by with_reducible rfl) bt rfl 33 tl (0, 0) _ k4 Tryz.underlying33 rfl hi33 ?_); (refine wpList_build_run rfl 35 _ (by with_reducible rfl) (hbp _) (by first | (simp [Act.eval, Act.put]; done) | kernel_rfl) ?_); (refine wpList_store_row rfl 35 (.tmp 2) (.tmp 37) (by with_reducible rfl) g H rfl rfl 35 hz0 k5 hi35 (by rw [hhs]; rfl) hho ?_))
      refine bodyPost_ret (v := .tuple #[.agg H, .int .i64 0]) ?_ rfl (FIN.out H rfl)
      exact results_two' (p := 2) (q := 3) (ty := 35) rfl _ _ g _ rfl (run_loadVar_row _ _ 35 35 _ (0, 0) _ (hM7.get 1 rfl) Tryz.underlying35 rfl hi35)
    · have FIN : Hid (∀ V, Below w.heap.size w V → OCP w R (.returned (.tuple #[.agg hz0, .int .i64 70])) V) := by
        intro V hV
        refine ⟨hV, ?_⟩
        have : hdec (1 :: r) = none := by
          cases hd : tdec r with
          | none => simp [hdec, hd]
          | some y =>
            obtain ⟨t, l'⟩ := y
            cases l' with
            | nil => exact absurd hd (e1 t)
            | cons b l2 => simp [hdec, hd]
        rw [← hR0, this]
      have hM7 := hM5.wrote 1 rfl (wrote_setRow V5 g _ hz0 _ k5)
      clear hM5
      go_wp2_with (refine wpList_store_row rfl 35 (.tmp 2) (.tmp 32) (by with_reducible rfl) g hz0 rfl rfl 35 hz0 k5 hsz rfl hone ?_)
      refine bodyPost_ret (v := .tuple #[.agg hz0, .int .i64 70]) ?_ rfl (FIN.out _ hM7.below)
      exact results_two' (p := 2) (q := 3) (ty := 35) rfl _ _ g _ rfl (run_loadVar_row _ _ 35 35 _ (0, 0) _ (hM7.get 1 rfl) Tryz.underlying35 rfl hsz)
  · go_upto_region 8 with fail
    refine wp_letter (fun X => Mem w X [(V2.heap.size, .cells tl 33 (0, 0)), (g, .cells hz0 35 (0, 0))] ∧ RT w.heap.size [V2.heap.size, g] r tl er X) (put_c hM2 hR _) ?_
    generalize V2.heap.size = bt
    rintro V5 ⟨hM5, hR5⟩
    clear hM hF hM2 hR hst C
    try clear hg2
    have k4 := hM5.get 0 rfl
    have k5 := hM5.get 1 rfl
    have hi33 : (Tryz.prog.info? 33).map (·.size) = some tl.size := by rw [htl]; kernel_rfl
    rcases hR5 with ⟨t, e1, rfl, hl, p, s, q, etl, B, hB, hBM, hBl⟩ | ⟨e1, rfl⟩
    · obtain rfl : tl = (tc t p s q).toArray := by simpa using etl
      obtain ⟨r1, r2, r3⟩ := hB V5 (fun _ _ => rfl)
      have hbp := build_put t hl p s q t.name
      have d1 : V5.cell? ⟨bt, 0, none⟩ = some (.string t.name) := (hM5.cell 0 rfl 0).trans rfl
      have hho : (hc ⟨true, t.name, t⟩ p s q).toArray.all (·.oneCell') = true := by
        apply all_oneCell_toArray
        intro v hv
        simp only [hc, List.mem_cons] at hv
        rcases hv with rfl | rfl | hv
        · rfl
        · rfl
        · have := tc_one2 t (rw_one r1) (rw_one r2) (rw_one r3)
          rw [Array.all_eq_true_iff_forall_mem] at this
          exact this v (by simpa using hv)
      have hhs : (hc ⟨true, t.name, t⟩ p s q).toArray.size = 35 := by
        have := tc_len hl p s q
        simp only [hc, List.size_toArray, List.length_cons]
        omega
      have FIN : Hid (∀ H, Value.agg H = .agg (hc ⟨true, t.name, t⟩ p s q).toArray → OCP w R (.returned (.tuple #[.agg H, .int .i64 0])) (V5.setRow g H)) := by
        intro H hH
        have hM6 := hM5.wrote 1 rfl (wrote_setRow V5 g _ H _ k5)
        refine ⟨hM6.below, ?_⟩
        rw [← hR0, show hdec (1 :: r) = some ⟨true, t.name, t⟩ by simp [hdec, e1]]
        refine ⟨_, rfl, fun V' hV' => ?_⟩
        obtain ⟨q1, q2, q3⟩ := hB V' (fun c hc => (hV' c (hBl c hc).1 (by simpa [World.setRow] using (hBl c hc).2)).trans (setRow_other V5 g c _ (fun e => hBM g (by simp) (e ▸ hc))))
        exact ⟨hl, p, s, q, hH, q1, q2, q3⟩
      have hM6 := fun H => hM5.wrote 1 rfl (wrote_setRow V5 g _ H _ k5)
      generalize (hc ⟨true, t.name, t⟩ p s q).toArray = H at hbp hho hhs FIN
      generalize (tc t p s q).toArray = tl at *
      have hi35 : (Tryz.prog.info? 35).map (·.size) = some H.size := by rw [hhs]; kernel_rfl
      have hM7 := hM6 H
      clear hM6 hB hBl r1 r2 r3 hM5
      go_wp2_with ((refine wpList_load_row rfl 33 (.tmp 4) (by with_reducible rfl) bt rfl 33 tl (0, 0) _ k4 Tryz.underlying33 rfl hi33 ?_); (refine wpList_build_run rfl 35 _ (by with_reducible rfl) (hbp _) (by first | (simp [Act.eval, Act.put]; done) | kernel_rfl) ?_); (refine wpList_store_row rfl 35 (.tmp 2) (.tmp 37) (by with_reducible rfl) g H rfl rfl 35 hz0 k5 hi35 (by rw [hhs]; rfl) hho ?_))
      refine bodyPost_ret (v := .tuple #[.agg H, .int .i64 0]) ?_ rfl (FIN.out H rfl)
      exact results_two' (p := 2) (q := 3) (ty := 35) rfl _ _ g _ rfl (run_loadVar_row _ _ 35 35 _ (0, 0) _ (hM7.get 1 rfl) Tryz.underlying35 rfl hi35)
    · have FIN : Hid (∀ V, Below w.heap.size w V → OCP w R (.returned (.tuple #[.agg hz0, .int .i64 70])) V) := by
        intro V hV
        refine ⟨hV, ?_⟩
        have : hdec (1 :: r) = none := by
          cases hd : tdec r with
          | none => simp [hdec, hd]
          | some y =>
            obtain ⟨t, l'⟩ := y
            cases l' with
            | nil => exact absurd hd (e1 t)
            | cons b l2 => simp [hdec, hd]
        rw [← hR0, this]
      have hM7 := hM5.wrote 1 rfl (wrote_setRow V5 g _ hz0 _ k5)
      clear hM5
      go_wp2_with (refine wpList_store_row rfl 35 (.tmp 2) (.tmp 32) (by with_reducible rfl) g hz0 rfl rfl 35 hz0 k5 hsz rfl hone ?_)
      refine bodyPost_ret (v := .tuple #[.agg hz0, .int .i64 70]) ?_ rfl (FIN.out _ hM7.below)
      exact results_two' (p := 2) (q := 3) (ty := 35) rfl _ _ g _ rfl (run_loadVar_row _ _ 35 35 _ (0, 0) _ (hM7.get 1 rfl) Tryz.underlying35 rfl hsz)
  · go_upto_region 8 with fail
    refine wp_letter (fun X => Mem w X [(V.heap.size, .cells tl 33 (0, 0)), (g, .cells hz0 35 (0, 0))] ∧ RT w.heap.size [V.heap.size, g] r tl er X) (put_ab hM2 hR) ?_
    generalize V.heap.size = bt
    rintro V5 ⟨hM5, hR5⟩
    clear hM hF hM2 hR hst C
    try clear hg2
    have k4 := hM5.get 0 rfl
    have k5 := hM5.get 1 rfl
    have hi33 : (Tryz.prog.info? 33).map (·.size) = some tl.size := by rw [htl]; kernel_rfl
    rcases hR5 with ⟨t, e1, rfl, hl, p, s, q, etl, B, hB, hBM, hBl⟩ | ⟨e1, rfl⟩
    · obtain rfl : tl = (tc t p s q).toArray := by simpa using etl
      obtain ⟨r1, r2, r3⟩ := hB V5 (fun _ _ => rfl)
      have hbp := build_put t hl p s q t.name
      have d1 : V5.cell? ⟨bt, 0, none⟩ = some (.string t.name) := (hM5.cell 0 rfl 0).trans rfl
      have hho : (hc ⟨true, t.name, t⟩ p s q).toArray.all (·.oneCell') = true := by
        apply all_oneCell_toArray
        intro v hv
        simp only [hc, List.mem_cons] at hv
        rcases hv with rfl | rfl | hv
        · rfl
        · rfl
        · have := tc_one2 t (rw_one r1) (rw_one r2) (rw_one r3)
          rw [Array.all_eq_true_iff_forall_mem] at this
          exact this v (by simpa using hv)
      have hhs : (hc ⟨true, t.name, t⟩ p s q).toArray.size = 35 := by
        have := tc_len hl p s q
        simp only [hc, List.size_toArray, List.length_cons]
        omega
      have FIN : Hid (∀ H, Value.agg H = .agg (hc ⟨true, t.name, t⟩ p s q).toArray → OCP w R (.returned (.tuple #[.agg H, .int .i64 0])) (V5.setRow g H)) := by
        intro H hH
        have hM6 := hM5.wrote 1 rfl (wrote_setRow V5 g _ H _ k5)
        refine ⟨hM6.below, ?_⟩
        rw [← hR0, show hdec (1 :: r) = some ⟨true, t.name, t⟩ by simp [hdec, e1]]
        refine ⟨_, rfl, fun V' hV' => ?_⟩
        obtain ⟨q1, q2, q3⟩ := hB V' (fun c hc => (hV' c (hBl c hc).1 (by simpa [World.setRow] using (hBl c hc).2)).trans (setRow_other V5 g c _ (fun e => hBM g (by simp) (e ▸ hc))))
        exact ⟨hl, p, s, q, hH, q1, q2, q3⟩
      have hM6 := fun H => hM5.wrote 1 rfl (wrote_setRow V5 g _ H _ k5)
      generalize (hc ⟨true, t.name, t⟩ p s q).toArray = H at hbp hho hhs FIN
      generalize (tc t p s q).toArray = tl at *
      have hi35 : (Tryz.prog.info? 35).map (·.size) = some H.size := by rw [hhs]; kernel_rfl
      have hM7 := hM6 H
      clear hM6 hB hBl r1 r2 r3 hM5
      go_wp2_with ((refine wpList_load_row rfl 33 (.tmp 4) (by with_reducible rfl) bt rfl 33 tl (0, 0) _ k4 Tryz.underlying33 rfl hi33 ?_); (refine wpList_build_run rfl 35 _ (by with_reducible rfl) (hbp _) (by first | (simp [Act.eval, Act.put]; done) | kernel_rfl) ?_); (refine wpList_store_row rfl 35 (.tmp 2) (.tmp 37) (by with_reducible rfl) g H rfl rfl 35 hz0 k5 hi35 (by rw [hhs]; rfl) hho ?_))
      refine bodyPost_ret (v := .tuple #[.agg H, .int .i64 0]) ?_ rfl (FIN.out H rfl)
      exact results_two' (p := 2) (q := 3) (ty := 35) rfl _ _ g _ rfl (run_loadVar_row _ _ 35 35 _ (0, 0) _ (hM7.get 1 rfl) Tryz.underlying35 rfl hi35)
    · have FIN : Hid (∀ V, Below w.heap.size w V → OCP w R (.returned (.tuple #[.agg hz0, .int .i64 70])) V) := by
        intro V hV
        refine ⟨hV, ?_⟩
        have : hdec (1 :: r) = none := by
          cases hd : tdec r with
          | none => simp [hdec, hd]
          | some y =>
            obtain ⟨t, l'⟩ := y
            cases l' with
            | nil => exact absurd hd (e1 t)
            | cons b l2 => simp [hdec, hd]
        rw [← hR0, this]
      have hM7 := hM5.wrote 1 rfl (wrote_setRow V5 g _ hz0 _ k5)
      clear hM5
      go_wp2_with (refine wpList_store_row rfl 35 (.tmp 2) (.tmp 32) (by with_reducible rfl) g hz0 rfl rfl 35 hz0 k5 hsz rfl hone ?_)
      refine bodyPost_ret (v := .tuple #[.agg hz0, .int .i64 70]) ?_ rfl (FIN.out _ hM7.below)
      exact results_two' (p := 2) (q := 3) (ty := 35) rfl _ _ g _ rfl (run_loadVar_row _ _ 35 35 _ (0, 0) _ (hM7.get 1 rfl) Tryz.underlying35 rfl hsz)
end Go.Proofs.YtngegdamcfmonaaGreat

namespace Go.Proofs.YtngegdamcfmonaaGreat
open Go.RowKit
open Sm
open Cf
set_option linter.unusedVariables false
set_option linter.unusedSimpArgs false
set_option maxRecDepth 20000

set_option maxHeartbeats 4000000 in
theorem tdec_rt (l0 : List Int) : (tdec l0 = none ∧ (rt (some l0)).2 = none) ∨ ∃ t r, tdec l0 = some (t, r) ∧ (rt (some l0)).2 = some r ∧ (rt (some l0)).1 = t := by
  obtain ⟨dec, hdec⟩ : ∃ dec, (fun i => (tsp.getD i sp0).dec) = dec := ⟨_, rfl⟩
  have T : tdec l0 = sq dec 0 19 l0 ten0 := by rw [← hdec]; rfl
  rw [T]
  rcases name_step l0 with ⟨h1, h2⟩ | ⟨l1, h1, h2⟩
  · refine Or.inl ⟨sq_none ?_, rt_dead ?_⟩
    · rw [← hdec]
      show (dtxt l0).map _ = none
      rw [h1]
      rfl
    · have e1 : s1 (some l0) = none := h2
      simp only [s16, s15, s14, s13, s12, s11, s10, s9, s8, s7, s6, s5, s4, s3, s2, e1, nx]
  have e1 : s1 (some l0) = some l1 := h2
  obtain ⟨x1, hx1⟩ : ∃ x, { ten0 with name := rnm (some l0) } = x := ⟨_, rfl⟩
  have q0 : dec 0 l0 ten0 = some (x1, l1) := by
    rw [← hdec, ← hx1]
    show (dtxt l0).map _ = _
    rw [h1]
    rfl
  rw [sq_some q0]
  rcases num_step 4 l1 with ⟨a1, b1⟩ | ⟨a1, b1, c1⟩
  · refine Or.inl ⟨sq_none ?_, rt_dead ?_⟩
    · rw [← hdec]
      show (if l1.length < 4 then none else some _) = none
      rw [if_pos a1]
    · have e : s2 (some l0) = none := by show nx 4 (s1 (some l0)) = none; rw [e1]; exact b1
      simp only [s16, s15, s14, s13, s12, s11, s10, s9, s8, s7, s6, s5, s4, s3, e, nx]
  obtain ⟨l2, hl2⟩ : ∃ l', l1.drop 4 = l' := ⟨_, rfl⟩
  obtain ⟨v1, hv1⟩ : ∃ v, num (l1.take 4) = v := ⟨_, rfl⟩
  have e2 : s2 (some l0) = some l2 := by show nx 4 (s1 (some l0)) = _; rw [e1, c1, hl2]
  have f1 : num (tk 4 (s1 (some l0))) = v1 := by rw [e1, b1, hv1]
  obtain ⟨x2, hx2⟩ : ∃ x, { x1 with vni := v1 } = x := ⟨_, rfl⟩
  have q1 : dec 1 l1 x1 = some (x2, l2) := by
    rw [← hdec, ← hx2, ← hl2, ← hv1]
    show (if l1.length < 4 then none else some _) = _
    rw [if_neg a1]
  rw [sq_some q1]
  rcases num_step 8 l2 with ⟨a2, b2⟩ | ⟨a2, b2, c2⟩
  · refine Or.inl ⟨sq_none ?_, rt_dead ?_⟩
    · rw [← hdec]
      show (if l2.length < 8 then none else some _) = none
      rw [if_pos a2]
    · have e : s3 (some l0) = none := by show nx 8 (s2 (some l0)) = none; rw [e2]; exact b2
      simp only [s16, s15, s14, s13, s12, s11, s10, s9, s8, s7, s6, s5, s4, e, nx]
  obtain ⟨l3, hl3⟩ : ∃ l', l2.drop 8 = l' := ⟨_, rfl⟩
  obtain ⟨v2, hv2⟩ : ∃ v, l2.take 8 = v := ⟨_, rfl⟩
  have e3 : s3 (some l0) = some l3 := by show nx 8 (s2 (some l0)) = _; rw [e2, c2, hl3]
  have f2 : tk 8 (s2 (some l0)) = v2 := by rw [e2, b2, hv2]
  obtain ⟨x3, hx3⟩ : ∃ x, { x2 with key := v2 } = x := ⟨_, rfl⟩
  have q2 : dec 2 l2 x2 = some (x3, l3) := by
    rw [← hdec, ← hx3, ← hl3, ← hv2]
    show (if l2.length < 8 then none else some _) = _
    rw [if_neg a2]
  rw [sq_some q2]
  rcases num_step 4 l3 with ⟨a3, b3⟩ | ⟨a3, b3, c3⟩
  · refine Or.inl ⟨sq_none ?_, rt_dead ?_⟩
    · rw [← hdec]
      show (if l3.length < 4 then none else some _) = none
      rw [if_pos a3]
    · have e : s4 (some l0) = none := by show nx 4 (s3 (some l0)) = none; rw [e3]; exact b3
      simp only [s16, s15, s14, s13, s12, s11, s10, s9, s8, s7, s6, s5, e, nx]
  obtain ⟨l4, hl4⟩ : ∃ l', l3.drop 4 = l' := ⟨_, rfl⟩
  obtain ⟨v3, hv3⟩ : ∃ v, num (l3.take 4) = v := ⟨_, rfl⟩
  have e4 : s4 (some l0) = some l4 := by show nx 4 (s3 (some l0)) = _; rw [e3, c3, hl4]
  have f3 : num (tk 4 (s3 (some l0))) = v3 := by rw [e3, b3, hv3]
  obtain ⟨x4, hx4⟩ : ∃ x, { x3 with vtep := v3 } = x := ⟨_, rfl⟩
  have q3 : dec 3 l3 x3 = some (x4, l4) := by
    rw [← hdec, ← hx4, ← hl4, ← hv3]
    show (if l3.length < 4 then none else some _) = _
    rw [if_neg a3]
  rw [sq_some q3]
  rcases num_step 6 l4 with ⟨a4, b4⟩ | ⟨a4, b4, c4⟩
  · refine Or.inl ⟨sq_none ?_, rt_dead ?_⟩
    · rw [← hdec]
      show (if l4.length < 6 then none else some _) = none
      rw [if_pos a4]
    · have e : s5 (some l0) = none := by show nx 6 (s4 (some l0)) = none; rw [e4]; exact b4
      simp only [s16, s15, s14, s13, s12, s11, s10, s9, s8, s7, s6, e, nx]
  obtain ⟨l5, hl5⟩ : ∃ l', l4.drop 6 = l' := ⟨_, rfl⟩
  obtain ⟨v4, hv4⟩ : ∃ v, l4.take 6 = v := ⟨_, rfl⟩
  have e5 : s5 (some l0) = some l5 := by show nx 6 (s4 (some l0)) = _; rw [e4, c4, hl5]
  have f4 : tk 6 (s4 (some l0)) = v4 := by rw [e4, b4, hv4]
  obtain ⟨x5, hx5⟩ : ∃ x, { x4 with vmac := v4 } = x := ⟨_, rfl⟩
  have q4 : dec 4 l4 x4 = some (x5, l5) := by
    rw [← hdec, ← hx5, ← hl5, ← hv4]
    show (if l4.length < 6 then none else some _) = _
    rw [if_neg a4]
  rw [sq_some q4]
  rcases num_step 6 l5 with ⟨a5, b5⟩ | ⟨a5, b5, c5⟩
  · refine Or.inl ⟨sq_none ?_, rt_dead ?_⟩
    · rw [← hdec]
      show (if l5.length < 6 then none else some _) = none
      rw [if_pos a5]
    · have e : s6 (some l0) = none := by show nx 6 (s5 (some l0)) = none; rw [e5]; exact b5
      simp only [s16, s15, s14, s13, s12, s11, s10, s9, s8, s7, e, nx]
  obtain ⟨l6, hl6⟩ : ∃ l', l5.drop 6 = l' := ⟨_, rfl⟩
  obtain ⟨v5, hv5⟩ : ∃ v, l5.take 6 = v := ⟨_, rfl⟩
  have e6 : s6 (some l0) = some l6 := by show nx 6 (s5 (some l0)) = _; rw [e5, c5, hl6]
  have f5 : tk 6 (s5 (some l0)) = v5 := by rw [e5, b5, hv5]
  obtain ⟨x6, hx6⟩ : ∃ x, { x5 with host := v5 } = x := ⟨_, rfl⟩
  have q5 : dec 5 l5 x5 = some (x6, l6) := by
    rw [← hdec, ← hx6, ← hl6, ← hv5]
    show (if l5.length < 6 then none else some _) = _
    rw [if_neg a5]
  rw [sq_some q5]
  rcases num_step 2 l6 with ⟨a6, b6⟩ | ⟨a6, b6, c6⟩
  · refine Or.inl ⟨sq_none ?_, rt_dead ?_⟩
    · rw [← hdec]
      show (if l6.length < 2 then none else some _) = none
      rw [if_pos a6]
    · have e : s7 (some l0) = none := by show nx 2 (s6 (some l0)) = none; rw [e6]; exact b6
      simp only [s16, s15, s14, s13, s12, s11, s10, s9, s8, e, nx]
  obtain ⟨l7, hl7⟩ : ∃ l', l6.drop 2 = l' := ⟨_, rfl⟩
  obtain ⟨v6, hv6⟩ : ∃ v, num (l6.take 2) = v := ⟨_, rfl⟩
  have e7 : s7 (some l0) = some l7 := by show nx 2 (s6 (some l0)) = _; rw [e6, c6, hl7]
  have f6 : num (tk 2 (s6 (some l0))) = v6 := by rw [e6, b6, hv6]
  obtain ⟨x7, hx7⟩ : ∃ x, { x6 with lo := v6 } = x := ⟨_, rfl⟩
  have q6 : dec 6 l6 x6 = some (x7, l7) := by
    rw [← hdec, ← hx7, ← hl7, ← hv6]
    show (if l6.length < 2 then none else some _) = _
    rw [if_neg a6]
  rw [sq_some q6]
  rcases num_step 2 l7 with ⟨a7, b7⟩ | ⟨a7, b7, c7⟩
  · refine Or.inl ⟨sq_none ?_, rt_dead ?_⟩
    · rw [← hdec]
      show (if l7.length < 2 then none else some _) = none
      rw [if_pos a7]
    · have e : s8 (some l0) = none := by show nx 2 (s7 (some l0)) = none; rw [e7]; exact b7
      simp only [s16, s15, s14, s13, s12, s11, s10, s9, e, nx]
  obtain ⟨l8, hl8⟩ : ∃ l', l7.drop 2 = l' := ⟨_, rfl⟩
  obtain ⟨v7, hv7⟩ : ∃ v, num (l7.take 2) = v := ⟨_, rfl⟩
  have e8 : s8 (some l0) = some l8 := by show nx 2 (s7 (some l0)) = _; rw [e7, c7, hl8]
  have f7 : num (tk 2 (s7 (some l0))) = v7 := by rw [e7, b7, hv7]
  obtain ⟨x8, hx8⟩ : ∃ x, { x7 with hi := v7 } = x := ⟨_, rfl⟩
  have q7 : dec 7 l7 x7 = some (x8, l8) := by
    rw [← hdec, ← hx8, ← hl8, ← hv7]
    show (if l7.length < 2 then none else some _) = _
    rw [if_neg a7]
  rw [sq_some q7]
  rcases num_step 1 l8 with ⟨a8, b8⟩ | ⟨a8, b8, c8⟩
  · refine Or.inl ⟨sq_none ?_, rt_dead ?_⟩
    · rw [← hdec]
      show (if l8.length < 1 then none else some _) = none
      rw [if_pos a8]
    · have e : s9 (some l0) = none := by show nx 1 (s8 (some l0)) = none; rw [e8]; exact b8
      simp only [s16, s15, s14, s13, s12, s11, s10, e, nx]
  obtain ⟨l9, hl9⟩ : ∃ l', l8.drop 1 = l' := ⟨_, rfl⟩
  obtain ⟨v8, hv8⟩ : ∃ v, num (l8.take 1) = v := ⟨_, rfl⟩
  have e9 : s9 (some l0) = some l9 := by show nx 1 (s8 (some l0)) = _; rw [e8, c8, hl9]
  have f8 : num (tk 1 (s8 (some l0))) = v8 := by rw [e8, b8, hv8]
  obtain ⟨x9, hx9⟩ : ∃ x, { x8 with filter := v8 } = x := ⟨_, rfl⟩
  have q8 : dec 8 l8 x8 = some (x9, l9) := by
    rw [← hdec, ← hx9, ← hl9, ← hv8]
    show (if l8.length < 1 then none else some _) = _
    rw [if_neg a8]
  rw [sq_some q8]
  rcases num_step 2 l9 with ⟨a9, b9⟩ | ⟨a9, b9, c9⟩
  · refine Or.inl ⟨sq_none ?_, rt_dead ?_⟩
    · rw [← hdec]
      show (if l9.length < 2 then none else some _) = none
      rw [if_pos a9]
    · have e : s10 (some l0) = none := by show nx 2 (s9 (some l0)) = none; rw [e9]; exact b9
      simp only [s16, s15, s14, s13, s12, s11, e, nx]
  obtain ⟨l10, hl10⟩ : ∃ l', l9.drop 2 = l' := ⟨_, rfl⟩
  obtain ⟨v9, hv9⟩ : ∃ v, num (l9.take 2) = v := ⟨_, rfl⟩
  have e10 : s10 (some l0) = some l10 := by show nx 2 (s9 (some l0)) = _; rw [e9, c9, hl10]
  have f9 : num (tk 2 (s9 (some l0))) = v9 := by rw [e9, b9, hv9]
  obtain ⟨x10, hx10⟩ : ∃ x, { x9 with sess := v9 } = x := ⟨_, rfl⟩
  have q9 : dec 9 l9 x9 = some (x10, l10) := by
    rw [← hdec, ← hx10, ← hl10, ← hv9]
    show (if l9.length < 2 then none else some _) = _
    rw [if_neg a9]
  rw [sq_some q9]
  rcases num_step 2 l10 with ⟨a10, b10⟩ | ⟨a10, b10, c10⟩
  · refine Or.inl ⟨sq_none ?_, rt_dead ?_⟩
    · rw [← hdec]
      show (if l10.length < 2 then none else some _) = none
      rw [if_pos a10]
    · have e : s11 (some l0) = none := by show nx 2 (s10 (some l0)) = none; rw [e10]; exact b10
      simp only [s16, s15, s14, s13, s12, e, nx]
  obtain ⟨l11, hl11⟩ : ∃ l', l10.drop 2 = l' := ⟨_, rfl⟩
  obtain ⟨v10, hv10⟩ : ∃ v, num (l10.take 2) = v := ⟨_, rfl⟩
  have e11 : s11 (some l0) = some l11 := by show nx 2 (s10 (some l0)) = _; rw [e10, c10, hl11]
  have f10 : num (tk 2 (s10 (some l0))) = v10 := by rw [e10, b10, hv10]
  obtain ⟨x11, hx11⟩ : ∃ x, { x10 with queue := v10 } = x := ⟨_, rfl⟩
  have q10 : dec 10 l10 x10 = some (x11, l11) := by
    rw [← hdec, ← hx11, ← hl11, ← hv10]
    show (if l10.length < 2 then none else some _) = _
    rw [if_neg a10]
  rw [sq_some q10]
  rcases num_step 4 l11 with ⟨a11, b11⟩ | ⟨a11, b11, c11⟩
  · refine Or.inl ⟨sq_none ?_, rt_dead ?_⟩
    · rw [← hdec]
      show (if l11.length < 4 then none else some _) = none
      rw [if_pos a11]
    · have e : s12 (some l0) = none := by show nx 4 (s11 (some l0)) = none; rw [e11]; exact b11
      simp only [s16, s15, s14, s13, e, nx]
  obtain ⟨l12, hl12⟩ : ∃ l', l11.drop 4 = l' := ⟨_, rfl⟩
  obtain ⟨v11, hv11⟩ : ∃ v, num (l11.take 4) = v := ⟨_, rfl⟩
  have e12 : s12 (some l0) = some l12 := by show nx 4 (s11 (some l0)) = _; rw [e11, c11, hl12]
  have f11 : num (tk 4 (s11 (some l0))) = v11 := by rw [e11, b11, hv11]
  obtain ⟨x12, hx12⟩ : ∃ x, { x11 with rate := v11 } = x := ⟨_, rfl⟩
  have q11 : dec 11 l11 x11 = some (x12, l12) := by
    rw [← hdec, ← hx12, ← hl12, ← hv11]
    show (if l11.length < 4 then none else some _) = _
    rw [if_neg a11]
  rw [sq_some q11]
  rcases num_step 4 l12 with ⟨a12, b12⟩ | ⟨a12, b12, c12⟩
  · refine Or.inl ⟨sq_none ?_, rt_dead ?_⟩
    · rw [← hdec]
      show (if l12.length < 4 then none else some _) = none
      rw [if_pos a12]
    · have e : s13 (some l0) = none := by show nx 4 (s12 (some l0)) = none; rw [e12]; exact b12
      simp only [s16, s15, s14, e, nx]
  obtain ⟨l13, hl13⟩ : ∃ l', l12.drop 4 = l' := ⟨_, rfl⟩
  obtain ⟨v12, hv12⟩ : ∃ v, num (l12.take 4) = v := ⟨_, rfl⟩
  have e13 : s13 (some l0) = some l13 := by show nx 4 (s12 (some l0)) = _; rw [e12, c12, hl13]
  have f12 : num (tk 4 (s12 (some l0))) = v12 := by rw [e12, b12, hv12]
  obtain ⟨x13, hx13⟩ : ∃ x, { x12 with burst := v12 } = x := ⟨_, rfl⟩
  have q12 : dec 12 l12 x12 = some (x13, l13) := by
    rw [← hdec, ← hx13, ← hl13, ← hv12]
    show (if l12.length < 4 then none else some _) = _
    rw [if_neg a12]
  rw [sq_some q12]
  rcases cnt_step l13 with ⟨a13, b13⟩ | ⟨m13, l14, a13, b13, c13⟩
  · refine Or.inl ⟨sq_none ?_, rt_dead ?_⟩
    · rw [← hdec, a13]
      rfl
    · have e : s14 (some l0) = none := by show nx 1 (s13 (some l0)) = none; rw [e13]; exact b13
      simp only [s16, s15, e, nx]
  have e14 : s14 (some l0) = some l14 := by show nx 1 (s13 (some l0)) = _; rw [e13]; exact c13
  have f13 : rx (some l0) = m13.toNat := by show (num (tk 1 (s13 (some l0)))).toNat = _; rw [e13, b13]
  obtain ⟨x14, hx14⟩ : ∃ x, { x13 with pool := List.replicate m13.toNat 0 } = x := ⟨_, rfl⟩
  have p13 : x13.pool = [] := by simp only [← hx13, ← hx12, ← hx11, ← hx10, ← hx9, ← hx8, ← hx7, ← hx6, ← hx5, ← hx4, ← hx3, ← hx2, ← hx1]; rfl
  have q13 : dec 13 l13 x13 = some (x14, l14) := by
    rw [← hdec, ← hx14, a13, ← set_pool_eq x13 m13.toNat p13]
    rfl
  rw [sq_some q13]
  rcases cnt_step l14 with ⟨a14, b14⟩ | ⟨m14, l15, a14, b14, c14⟩
  · refine Or.inl ⟨sq_none ?_, rt_dead ?_⟩
    · rw [← hdec, a14]
      rfl
    · have e : s15 (some l0) = none := by show nx 1 (s14 (some l0)) = none; rw [e14]; exact b14
      simp only [s16, e, nx]
  have e15 : s15 (some l0) = some l15 := by show nx 1 (s14 (some l0)) = _; rw [e14]; exact c14
  have f14 : ry (some l0) = m14.toNat := by show (num (tk 1 (s14 (some l0)))).toNat = _; rw [e14, b14]
  obtain ⟨x15, hx15⟩ : ∃ x, { x14 with stat := List.replicate m14.toNat (0, 0) } = x := ⟨_, rfl⟩
  have p14 : x14.stat = [] := by simp only [← hx14, ← hx13, ← hx12, ← hx11, ← hx10, ← hx9, ← hx8, ← hx7, ← hx6, ← hx5, ← hx4, ← hx3, ← hx2, ← hx1]; rfl
  have q14 : dec 14 l14 x14 = some (x15, l15) := by
    rw [← hdec, ← hx15, a14, ← set_stat_eq x14 m14.toNat p14]
    rfl
  rw [sq_some q14]
  rcases cnt_step l15 with ⟨a15, b15⟩ | ⟨m15, l16, a15, b15, c15⟩
  · refine Or.inl ⟨sq_none ?_, rt_dead ?_⟩
    · rw [← hdec, a15]
      rfl
    · have e : s16 (some l0) = none := by show nx 1 (s15 (some l0)) = none; rw [e15]; exact b15
      simp only [e, nx]
  have e16 : s16 (some l0) = some l16 := by show nx 1 (s15 (some l0)) = _; rw [e15]; exact c15
  have f15 : rz (some l0) = m15.toNat := by show (num (tk 1 (s15 (some l0)))).toNat = _; rw [e15, b15]
  obtain ⟨x16, hx16⟩ : ∃ x, { x15 with twi := List.replicate m15.toNat (0, 0) } = x := ⟨_, rfl⟩
  have p15 : x15.twi = [] := by simp only [← hx15, ← hx14, ← hx13, ← hx12, ← hx11, ← hx10, ← hx9, ← hx8, ← hx7, ← hx6, ← hx5, ← hx4, ← hx3, ← hx2, ← hx1]; rfl
  have q15 : dec 15 l15 x15 = some (x16, l16) := by
    rw [← hdec, ← hx16, a15, ← set_twi_eq x15 m15.toNat p15]
    rfl
  rw [sq_some q15]
  have hp : x16.pool = List.replicate m13.toNat 0 := by simp only [← hx16, ← hx15, ← hx14]
  have hs : x16.stat = List.replicate m14.toNat (0, 0) := by simp only [← hx16, ← hx15]
  have hq : x16.twi = List.replicate m15.toNat (0, 0) := by simp only [← hx16]
  rcases pls_dec m13.toNat 0 l16 (List.replicate m13.toNat 0) (by simp) with ⟨u1, u2⟩ | ⟨r1, u1, u2⟩
  · refine Or.inl ⟨sq_none ?_, ?_⟩
    · rw [← hdec]
      show (sq (itd 0 spU) 0 x16.pool.length l16 x16.pool).map _ = none
      rw [hp, List.length_replicate, u1]
      rfl
    · simp only [rt, f13, e16, u2, prs_none]
  obtain ⟨x17, hx17⟩ : ∃ x, { x16 with pool := (pls m13.toNat (some l16)).1 } = x := ⟨_, rfl⟩
  have q16 : dec 16 l16 x16 = some (x17, r1) := by
    rw [← hdec, ← hx17]
    show (sq (itd 0 spU) 0 x16.pool.length l16 x16.pool).map _ = _
    rw [hp, List.length_replicate, u1]
    rfl
  rw [sq_some q16]
  have hs2 : x17.stat = List.replicate m14.toNat (0, 0) := by rw [← hx17]; exact hs
  have hq2 : x17.twi = List.replicate m15.toNat (0, 0) := by rw [← hx17]; exact hq
  rcases prs_dec m14.toNat 0 r1 (List.replicate m14.toNat (0, 0)) (by simp) with ⟨w1, w2⟩ | ⟨r2, w1, w2⟩
  · refine Or.inl ⟨sq_none ?_, ?_⟩
    · rw [← hdec]
      show (sq (itd (0, 0) spP) 0 x17.stat.length r1 x17.stat).map _ = none
      rw [hs2, List.length_replicate, w1]
      rfl
    · simp only [rt, f13, f14, e16, u2, w2, prs_none]
  obtain ⟨x18, hx18⟩ : ∃ x, { x17 with stat := (prs m14.toNat (some r1)).1 } = x := ⟨_, rfl⟩
  have q17 : dec 17 r1 x17 = some (x18, r2) := by
    rw [← hdec, ← hx18]
    show (sq (itd (0, 0) spP) 0 x17.stat.length r1 x17.stat).map _ = _
    rw [hs2, List.length_replicate, w1]
    rfl
  rw [sq_some q17]
  have hq3 : x18.twi = List.replicate m15.toNat (0, 0) := by rw [← hx18]; exact hq2
  rcases prs_dec m15.toNat 0 r2 (List.replicate m15.toNat (0, 0)) (by simp) with ⟨y1, y2⟩ | ⟨r3, y1, y2⟩
  · refine Or.inl ⟨sq_none ?_, ?_⟩
    · rw [← hdec]
      show (sq (itd (0, 0) spP) 0 x18.twi.length r2 x18.twi).map _ = none
      rw [hq3, List.length_replicate, y1]
      rfl
    · simp only [rt, f13, f14, f15, e16, u2, w2, y2]
  obtain ⟨x19, hx19⟩ : ∃ x, { x18 with twi := (prs m15.toNat (some r2)).1 } = x := ⟨_, rfl⟩
  have q18 : dec 18 r2 x18 = some (x19, r3) := by
    rw [← hdec, ← hx19]
    show (sq (itd (0, 0) spP) 0 x18.twi.length r2 x18.twi).map _ = _
    rw [hq3, List.length_replicate, y1]
    rfl
  rw [sq_some q18]
  refine Or.inr ⟨x19, r3, rfl, ?_, ?_⟩
  · simp only [rt, f13, f14, f15, e16, u2, w2, y2]
  · simp only [rt, rhd, f1, f2, f3, f4, f5, f6, f7, f8, f9, f10, f11, f12, f13, f14, f15, e16, u2, w2, y2, ← hx19, ← hx18, ← hx17, ← hx16, ← hx15, ← hx14, ← hx13, ← hx12, ← hx11, ← hx10, ← hx9, ← hx8, ← hx7, ← hx6, ← hx5, ← hx4, ← hx3, ← hx2, ← hx1]
    try rfl
end Go.Proofs.YtngegdamcfmonaaGreat

namespace Go.Proofs.YtngegdamcfmonaaGreat
open Go.RowKit
open Sm
open Cf
set_option linter.unusedVariables false
set_option maxRecDepth 20000

instance (t z : Ten) : Decidable (TSame t z) := by unfold TSame; infer_instance
theorem eq_same (t z : Ten) : spT.eq t z = decide (TSame t z) := by
  by_cases h : TSame t z
  · rw [decide_eq_true h]
    obtain ⟨h0, h1, h2, h3, h4, h5, h6, h7, h8, h9, h10, h11, h12, h13, h14, h15⟩ := h
    apply decide_eq_true
    intro i hi
    match i, hi with
    | 0, _ => exact decide_eq_true h0
    | 1, _ => exact decide_eq_true h1
    | 2, _ => exact decide_eq_true h2
    | 3, _ => exact decide_eq_true h3
    | 4, _ => exact decide_eq_true h4
    | 5, _ => exact decide_eq_true h5
    | 6, _ => exact decide_eq_true h7
    | 7, _ => exact decide_eq_true h8
    | 8, _ => exact decide_eq_true h9
    | 9, _ => exact decide_eq_true h12
    | 10, _ => exact decide_eq_true h13
    | 11, _ => exact decide_eq_true h14
    | 12, _ => exact decide_eq_true h15
    | 13, _ => exact decide_eq_true (congrArg List.length h6)
    | 14, _ => exact decide_eq_true (congrArg List.length h10)
    | 15, _ => exact decide_eq_true (congrArg List.length h11)
    | 16, _ => exact decide_eq_true h6
    | 17, _ => exact decide_eq_true h10
    | 18, _ => exact decide_eq_true h11
    | n + 19, h => exact absurd (show n + 19 < 19 from h) (by omega)
  · rw [decide_eq_false h]
    apply decide_eq_false
    intro hc
    apply h
    exact ⟨of_decide_eq_true (hc 0 (by decide)), of_decide_eq_true (hc 1 (by decide)), of_decide_eq_true (hc 2 (by decide)), of_decide_eq_true (hc 3 (by decide)), of_decide_eq_true (hc 4 (by decide)), of_decide_eq_true (hc 5 (by decide)), of_decide_eq_true (hc 16 (by decide)), of_decide_eq_true (hc 6 (by decide)), of_decide_eq_true (hc 7 (by decide)), of_decide_eq_true (hc 8 (by decide)), of_decide_eq_true (hc 17 (by decide)), of_decide_eq_true (hc 18 (by decide)), of_decide_eq_true (hc 9 (by decide)), of_decide_eq_true (hc 10 (by decide)), of_decide_eq_true (hc 11 (by decide)), of_decide_eq_true (hc 12 (by decide))⟩
theorem Rw.at_ {w V : World} {n : Nat} {v : Value} {xs : List (List Value)} (h : Rw w n v xs) (hne : ∀ x ∈ xs, x ≠ []) (hb : Below w.heap.size w V) : Rw V n v xs := h.below hne hb (Nat.le_refl _)
set_option maxHeartbeats 8000000 in
theorem htenant_any {w : World} {va vb : Value} {t z : Ten} (ha : TV w va t) (hb : TV w vb z) (hp : t.pool.length ≤ 1000000) (hs : t.stat.length ≤ 1000000) (hq : t.twi.length ≤ 1000000) :
    Calls Tryz.prog 26 #[va, vb] w fun e w' => e = .returned (.bool (decide (TSame t z))) ∧ Below w.heap.size w w' := by
  obtain ⟨hl, p, s, q, rfl, r1, r2, r3⟩ := ha
  obtain ⟨hl', p', s', q', rfl, r1', r2', r3'⟩ := hb
  have CN := fun V (hV : Below w.heap.size w V) => nums_any p p' t.pool z.pool (r1.at_ ux_ne hV) (r1'.at_ ux_ne hV) hp
  have CP := fun V (hV : Below w.heap.size w V) => pairs_any s s' t.stat z.stat (r2.at_ px_ne hV) (r2'.at_ px_ne hV) hs
  have CQ := fun V (hV : Below w.heap.size w V) => pairs_any q q' t.twi z.twi (r3.at_ px_ne hV) (r3'.at_ px_ne hV) hq
  obtain ⟨pa, pc, rfl, -⟩ := r1
  obtain ⟨sa, sc, rfl, -⟩ := r2
  obtain ⟨qa, qc, rfl, -⟩ := r3
  obtain ⟨pa', pc', rfl, -⟩ := r1'
  obtain ⟨sa', sc', rfl, -⟩ := r2'
  obtain ⟨qa', qc', rfl, -⟩ := r3'
  generalize (ux t.pool).length = pn at *
  generalize (px t.stat).length = sn at *
  generalize (px t.twi).length = qn at *
  generalize (ux z.pool).length = pn' at *
  generalize (px z.stat).length = sn' at *
  generalize (px z.twi).length = qn' at *
  obtain ⟨n, vn, key, vt, vm, ho, po, lo, hi, fi, st, tw, se, qu, ra, bu⟩ := t
  obtain ⟨n', vn', key', vt', vm', ho', po', lo', hi', fi', st', tw', se', qu', ra', bu'⟩ := z
  obtain ⟨h1, h2, h3⟩ := hl
  obtain ⟨a, b, c, d, f, g, x, y, rfl⟩ := eight8 h1
  obtain ⟨a1, b1, c1, d1, f1, g1, rfl⟩ := six6 h2
  obtain ⟨a2, b2, c2, d2, f2, g2, rfl⟩ := six6 h3
  obtain ⟨h1', h2', h3'⟩ := hl'
  obtain ⟨a', b', c', d', f', g', x', y', rfl⟩ := eight8 h1'
  obtain ⟨a1', b1', c1', d1', f1', g1', rfl⟩ := six6 h2'
  obtain ⟨a2', b2', c2', d2', f2', g2', rfl⟩ := six6 h3'
  simp only at CN CP CQ
  by_cases h10 : (sb n = sb n')
  rotate_left
  · rw [decide_eq_false (fun e => h10 e.1)]
    exact ht_0 h10 CN CP CQ
  by_cases h11 : (vn = vn')
  rotate_left
  · rw [decide_eq_false (fun e => h11 e.2.1)]
    exact ht_1 h10 h11 CN CP CQ
  by_cases h12 : ([a, b, c, d, f, g, x, y] = [a', b', c', d', f', g', x', y'])
  rotate_left
  · rw [decide_eq_false (fun e => h12 e.2.2.1)]
    exact ht_2 h10 h11 h12 CN CP CQ
  by_cases h13 : (vt = vt')
  rotate_left
  · rw [decide_eq_false (fun e => h13 e.2.2.2.1)]
    exact ht_3 h10 h11 h12 h13 CN CP CQ
  by_cases h14 : ([a1, b1, c1, d1, f1, g1] = [a1', b1', c1', d1', f1', g1'])
  rotate_left
  · rw [decide_eq_false (fun e => h14 e.2.2.2.2.1)]
    exact ht_4 h10 h11 h12 h13 h14 CN CP CQ
  by_cases h15 : ([a2, b2, c2, d2, f2, g2] = [a2', b2', c2', d2', f2', g2'])
  rotate_left
  · rw [decide_eq_false (fun e => h15 e.2.2.2.2.2.1)]
    exact ht_5 h10 h11 h12 h13 h14 h15 CN CP CQ
  by_cases h16 : (po = po')
  rotate_left
  · rw [decide_eq_false (fun e => h16 e.2.2.2.2.2.2.1)]
    exact ht_6 h10 h11 h12 h13 h14 h15 h16 CN CP CQ
  by_cases h17 : (lo = lo')
  rotate_left
  · rw [decide_eq_false (fun e => h17 e.2.2.2.2.2.2.2.1)]
    exact ht_7 h10 h11 h12 h13 h14 h15 h16 h17 CN CP CQ
  by_cases h18 : (hi = hi')
  rotate_left
  · rw [decide_eq_false (fun e => h18 e.2.2.2.2.2.2.2.2.1)]
    exact ht_8 h10 h11 h12 h13 h14 h15 h16 h17 h18 CN CP CQ
  by_cases h19 : (fi = fi')
  rotate_left
  · rw [decide_eq_false (fun e => h19 e.2.2.2.2.2.2.2.2.2.1)]
    exact ht_9 h10 h11 h12 h13 h14 h15 h16 h17 h18 h19 CN CP CQ
  by_cases h20 : (st = st')
  rotate_left
  · rw [decide_eq_false (fun e => h20 e.2.2.2.2.2.2.2.2.2.2.1)]
    exact ht_10 h10 h11 h12 h13 h14 h15 h16 h17 h18 h19 h20 CN CP CQ
  by_cases h21 : (tw = tw')
  rotate_left
  · rw [decide_eq_false (fun e => h21 e.2.2.2.2.2.2.2.2.2.2.2.1)]
    exact ht_11 h10 h11 h12 h13 h14 h15 h16 h17 h18 h19 h20 h21 CN CP CQ
  by_cases h22 : (se = se')
  rotate_left
  · rw [decide_eq_false (fun e => h22 e.2.2.2.2.2.2.2.2.2.2.2.2.1)]
    exact ht_12 h10 h11 h12 h13 h14 h15 h16 h17 h18 h19 h20 h21 h22 CN CP CQ
  by_cases h23 : (qu = qu')
  rotate_left
  · rw [decide_eq_false (fun e => h23 e.2.2.2.2.2.2.2.2.2.2.2.2.2.1)]
    exact ht_13 h10 h11 h12 h13 h14 h15 h16 h17 h18 h19 h20 h21 h22 h23 CN CP CQ
  by_cases h24 : (ra = ra')
  rotate_left
  · rw [decide_eq_false (fun e => h24 e.2.2.2.2.2.2.2.2.2.2.2.2.2.2.1)]
    exact ht_14 h10 h11 h12 h13 h14 h15 h16 h17 h18 h19 h20 h21 h22 h23 h24 CN CP CQ
  by_cases h25 : (bu = bu')
  rotate_left
  · rw [decide_eq_false (fun e => h25 e.2.2.2.2.2.2.2.2.2.2.2.2.2.2.2)]
    exact ht_15 h10 h11 h12 h13 h14 h15 h16 h17 h18 h19 h20 h21 h22 h23 h24 h25 CN CP CQ
  rw [decide_eq_true ⟨h10, h11, h12, h13, h14, h15, h16, h17, h18, h19, h20, h21, h22, h23, h24, h25⟩]
  exact ht_16 h10 h11 h12 h13 h14 h15 h16 h17 h18 h19 h20 h21 h22 h23 h24 h25 CN CP CQ
end Go.Proofs.YtngegdamcfmonaaGreat

