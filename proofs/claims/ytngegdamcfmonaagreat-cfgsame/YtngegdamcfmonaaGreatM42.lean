/-
  Settings as bytes: the chapter's example, as the statements ask it.
-/
import Derived.Test.YtngegdamcfmonaaGreatM37
namespace Go.Proofs.YtngegdamcfmonaaGreat
open Go.RowKit
open Sm
open Cf
set_option linter.unusedVariables false
set_option maxRecDepth 20000

abbrev sA : ByteArray := ⟨#[97]⟩
theorem build_a (V : World) : (Instr.build 35 #[(1, .string sA)]).run Tryz.prog V = .ok (.agg (hc ⟨false, sA, ten0⟩ nilV nilV nilV).toArray) V := by kernel_rfl
def tv3 (n : Int) : Ten := { ten0 with vni := n }
theorem build_t (n : Int) (V : World) : (Instr.build 33 #[(1, .int .u32 n)]).run Tryz.prog V = .ok (.agg (tc (tv3 n) nilV nilV nilV).toArray) V := by kernel_rfl
theorem rw_nil (V : World) (n : Nat) : Rw V n nilV [] := ⟨none, 0, rfl, Nat.le_refl _, by omega, fun _ => rfl, Or.inl rfl⟩
theorem tv_t3 (V : World) (n : Int) : TV V (.agg (tc (tv3 n) nilV nilV nilV).toArray) (tv3 n) := ⟨⟨rfl, rfl, rfl⟩, nilV, nilV, nilV, rfl, rw_nil V 1, rw_nil V 2, rw_nil V 2⟩
theorem z6b : IsBytes [0, 0, 0, 0, 0, 0] := bytes_noughts 6
theorem z8b : IsBytes [0, 0, 0, 0, 0, 0, 0, 0] := bytes_noughts 8
theorem tin_t3 (n : Int) : TIn (tv3 n) := ⟨⟨rfl, rfl, rfl⟩, z8b, z6b, z6b, Nat.zero_le _, Nat.zero_le _, Nat.zero_le _, Nat.zero_le _⟩
theorem hv_a (V : World) : HV V (.agg (hc ⟨false, sA, ten0⟩ nilV nilV nilV).toArray) ⟨false, sA, ten0⟩ := ⟨ten0_len, nilV, nilV, nilV, rfl, rw_nil V 1, rw_nil V 2, rw_nil V 2⟩
theorem henc_a : henc ⟨false, sA, ten0⟩ = [0, 1, 97] := by decide
theorem hdec_a : hdec [0, 1, 97] = some ⟨false, sA, ten0⟩ := by
  simp only [hdec, if_true, spN, spTxt]
  rfl
theorem hdec_9 : hdec [9] = none := by decide
theorem eq_33 : spT.eq (tv3 3) (tv3 3) = true := by decide +kernel
theorem eq_34 : spT.eq (tv3 3) (tv3 4) = false := by decide +kernel
/-- What was written, as its readers see it. -/
theorem Out.sl {w W : World} {u : Value} {l : List Int} {K : List (Nat × Obj)} (h : Out w W u l K) (hl : l.length ≤ 1000000000) : ∃ a c, u = .slice a l.length c ∧ Sl W a l c := by
  obtain ⟨hb, h1, h2⟩ := h
  rcases h2 with ⟨rfl, e, hm⟩ | ⟨g, cap, cur, rfl, hm, hnc, hcm, hcs, htake⟩
  · have : l = [] := List.length_eq_zero_iff.mp e
    subst this
    exact ⟨Option.none, 0, rfl, ⟨row_empty W Option.none, Nat.le_refl _, by omega, fun _ => rfl⟩⟩
  · refine ⟨_, cap, rfl, ⟨⟨hb, by omega, Or.inr ⟨g, 0, rfl, fun i hi => ?_⟩⟩, hnc, by simpa [maxLen] using hcm, fun e => by cases e⟩⟩
    rw [Nat.zero_add, hm.cell 0 rfl]
    have := congrArg (fun x => x[i]?) htake
    simp only [List.getElem?_take, Nat.mul_one, if_pos hi, List.getElem?_map, List.getElem?_eq_getElem hi, Option.map_some, Array.getElem?_toList] at this
    rw [this, getD_eq hi]
set_option maxHeartbeats 8000000 in
theorem known_any (w : World) : Calls Tryz.prog 9 #[] w fun e w' => e = .returned (.bool true) ∧ Below w.heap.size w w' := by
  have b1 := build_a
  have C1 := cfgChange_any (hv_a w) ⟨ten0_len, z8b, z6b, z6b, by decide, by decide, by decide, by decide⟩ (by decide) (by rw [henc_a]; decide)
  rw [henc_a] at C1
  go_enter Tryz.func9, Tryz.ntmps9
  go_wp2_with fail
  refine C1.mono ?_
  rintro e W1 ⟨u, rfl, hO⟩
  obtain ⟨a1, c1, rfl, hS1⟩ := hO.sl (by decide)
  have hB1 := hO.mem.below
  have C2 := openChange_no hS1 (by decide)
  rw [hdec_a] at C2
  clear C1 hO
  go_wp2_with fail
  refine C2.mono ?_
  rintro e W2 ⟨hB2, v, rfl, hv⟩
  obtain ⟨hl, p, s, q, rfl, h1, h2, h3⟩ := hv
  have hone : (hc ⟨false, sA, ten0⟩ p s q).toArray.all (·.oneCell') = true := by
    have h5 := rw_one h1
    have h6 := rw_one h2
    have h7 := rw_one h3
    apply all_oneCell_toArray
    intro v hv
    simp only [hc, List.mem_cons] at hv
    rcases hv with rfl | rfl | hv
    · rfl
    · rfl
    · have := tc_one2 ten0 h5 h6 h7
      rw [Array.all_eq_true_iff_forall_mem] at this
      exact this v (by simpa using hv)
  obtain ⟨tl, htl⟩ : ∃ tl, (hc ⟨false, sA, ten0⟩ p s q).toArray = tl := ⟨_, rfl⟩
  have t0 : tl[0]? = some (.bool false) := by rw [← htl]; rfl
  have t1 : tl[1]? = some (.string sA) := by rw [← htl]; rfl
  have hsz : tl.size = 35 := by rw [← htl]; rfl
  rw [htl] at hone ⊢
  have hi35 : (Tryz.prog.info? 35).map (·.size) = some tl.size := by rw [hsz]; kernel_rfl
  clear htl h1 h2 h3 C2
  go_upto_region 3 with (refine wpList_store_row rfl 35 (.tmp 2) (.tmp 11) (by with_reducible rfl) W2.heap.size tl rfl rfl 35 _ (heap_alloc_new W2 _) hi35 (by rw [hsz]; rfl) hone ?_)
  obtain ⟨bt, hbt⟩ : ∃ bt, W2.heap.size = bt := ⟨_, rfl⟩
  refine wp_letter (fun V => Mem W2 V [(bt, .cells tl 35 (0, 0))]) (by
    rw [World.setRow_alloc_new]
    exact (Mem.nil W2).push1 hbt.symm) ?_
  intro V3 hM3
  have hS9 := row_lit V3 [9] (bytes_cons (by decide) bytes_nil) (by decide) 5
  have C3 := openChange_no (l := [9]) ⟨hS9, Nat.le_refl _, by decide, fun e => by cases e⟩ (by decide)
  rw [hdec_9] at C3
  go_wp2_with fail
  refine C3.mono ?_
  rintro e V4 ⟨hB4, rfl⟩
  have hM4 := hM3.after (((Below.refl _ _).alloc (Nat.le_refl _) _).trans (hB4.mono (by simp)))
  clear C3 hS9
  have hzone := hz0_one
  go_upto_region 4 with (refine wpList_store_row rfl 35 (.tmp 4) (.tmp 16) (by with_reducible rfl) V4.heap.size hz0 rfl rfl 35 _ (heap_alloc_new V4 _) (by kernel_rfl) rfl hzone ?_)
  refine wp_letter (fun V => Mem W2 V [(bt, .cells tl 35 (0, 0))]) (by
    rw [World.setRow_alloc_new]
    exact hM4.after ((Below.refl _ _).alloc (Nat.le_refl _) _)) ?_
  intro V5 hM5
  have hSw : Sl W2 a1 [0, 1, 97] c1 := ⟨hS1.row.below hB2 (Nat.le_refl _), hS1.le, hS1.big, hS1.nil⟩
  have hM6 : Mem W2 (V5.alloc (.cells #[.int .u8 0, .int .u8 1, .int .u8 97] 5)) [(bt, .cells tl 35 (0, 0))] := hM5.after ((Below.refl _ _).alloc (Nat.le_refl _) _)
  have CB := hbytes_any (hM6.sl hSw).row (row_lit V5 [0, 1, 97] (bytes_cons (by decide) (bytes_cons (by decide) (bytes_cons (by decide) bytes_nil))) (by decide) 5) 3 3 rfl rfl c1 3
  simp only [decide_true] at CB
  have d0 := (hM6.cell 0 rfl 0).trans t0
  have d1 := (hM6.cell 0 rfl 1).trans t1
  have CS := fun V => cfgSame_any (tv_t3 V 3) (tin_t3 3) (tv_t3 V 3) (tin_t3 3)
  have CT := fun V => cfgSame_any (tv_t3 V 3) (tin_t3 3) (tv_t3 V 4) (tin_t3 4)
  rw [eq_33] at CS
  rw [eq_34] at CT
  have HB : Hid (Below w.heap.size w (V5.alloc (.cells #[.int .u8 0, .int .u8 1, .int .u8 97] 5))) := hB1.trans ((hB2.trans (hM6.below.mono hB2.size)).mono hB1.size)
  clear hM3 hM4 hM5 hM6 hSw hB4 hB1 hB2 hS1 t0 t1
  have hs : ((⟨#[97]⟩ : ByteArray).toList == (⟨#[97]⟩ : ByteArray).toList) = true := by simp
  go_wp2_with fail
  refine CB.mono ?_
  rintro e V6 ⟨rfl, rfl⟩
  go_wp2_with fail
  refine (CS _).mono ?_
  rintro e V7 ⟨rfl, hb7⟩
  go_wp2_with fail
  refine (CT _).mono ?_
  rintro e V8 ⟨rfl, hb8⟩
  go_wp2_with fail
  go_ret
  exact ⟨rfl, HB.out.trans ((hb7.trans (hb8.mono hb7.size)).mono HB.out.size)⟩
end Go.Proofs.YtngegdamcfmonaaGreat

