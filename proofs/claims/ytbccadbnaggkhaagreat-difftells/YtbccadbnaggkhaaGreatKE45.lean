/-
  What is changed: the document's Same, where a field differs.
  What is changed: the document's Same, where a field differs.
-/
import Derived.Test.YtbccadbnaggkhaaGreatKE42
namespace Go.Proofs.YtbccadbnaggkhaaGreat
open Go.RowKit
open Sm
open Cf
open Df
set_option linter.unusedVariables false
set_option linter.unusedSimpArgs false
set_option maxRecDepth 20000

namespace Df
set_option maxHeartbeats 8000000 in
theorem rs_4 {w : World} {t z : Ten} {pa sa qa pa' sa' qa' : Option Addr} {pn pc sn sc qn qc pn' pc' sn' sc' qn' qc' : Nat} (hl : TLen t) (hl' : TLen z)
    (h0 : (sb t.name = sb z.name))
    (h1 : (t.vni = z.vni))
    (h2 : (t.key = z.key))
    (h3 : (t.vtep = z.vtep))
    (h4 : ¬ (t.vmac = z.vmac))
    : Calls Tryz.prog 29 #[.agg (tc t (.slice pa pn pc) (.slice sa sn sc) (.slice qa qn qc)).toArray, .agg (tc z (.slice pa' pn' pc') (.slice sa' sn' sc') (.slice qa' qn' qc')).toArray] w fun e w' => e = .returned (.bool false) ∧ Below w.heap.size w w' := by
  have e0 : (t.name.toList == z.name.toList) = true := by rw [text_same]; exact decide_eq_true h0
  have e1 : (t.vni != z.vni) = false := by simpa using h1
  have e2 : ∀ V, (Op.equalIn 10000 27 (.agg (t.key.map (Value.int .u8)).toArray) (.agg (z.key.map (Value.int .u8)).toArray)).run Tryz.prog V = .ok true V := fun V => by rw [keys_eq hl.key hl'.key, decide_eq_true h2]
  have e3 : (t.vtep != z.vtep) = false := by simpa using h3
  have e4 : ∀ V, (Op.equalIn 10000 29 (.agg (t.vmac.map (Value.int .u8)).toArray) (.agg (z.vmac.map (Value.int .u8)).toArray)).run Tryz.prog V = .ok false V := fun V => by rw [macs_eq hl.vmac hl'.vmac, decide_eq_false h4]
  clear h0 h1 h2 h3 h4
  have i8 : (Tryz.prog.info? 27).map (·.size) = some (t.key.map (Value.int .u8)).length := by rw [List.length_map, hl.key]; kernel_rfl
  have i8' : (Tryz.prog.info? 27).map (·.size) = some (z.key.map (Value.int .u8)).length := by rw [List.length_map, hl'.key]; kernel_rfl
  have i6 : (Tryz.prog.info? 29).map (·.size) = some (t.vmac.map (Value.int .u8)).length := by rw [List.length_map, hl.vmac]; kernel_rfl
  have i6' : (Tryz.prog.info? 29).map (·.size) = some (z.vmac.map (Value.int .u8)).length := by rw [List.length_map, hl'.vmac]; kernel_rfl
  have j6 : (Tryz.prog.info? 29).map (·.size) = some (t.host.map (Value.int .u8)).length := by rw [List.length_map, hl.host]; kernel_rfl
  have j6' : (Tryz.prog.info? 29).map (·.size) = some (z.host.map (Value.int .u8)).length := by rw [List.length_map, hl'.host]; kernel_rfl
  obtain ⟨gx, hgx⟩ : ∃ g, w.heap.size = g := ⟨_, rfl⟩
  have HM0 : Hid (Mem w ((w.alloc (.cells (tc t (.slice pa pn pc) (.slice sa sn sc) (.slice qa qn qc)).toArray 34)).alloc (.cells (tc z (.slice pa' pn' pc') (.slice sa' sn' sc') (.slice qa' qn' qc')).toArray 34)) [(gx + 1, .cells (tc z (.slice pa' pn' pc') (.slice sa' sn' sc') (.slice qa' qn' qc')).toArray 34 (0, 0)), (gx, .cells (tc t (.slice pa pn pc) (.slice sa sn sc) (.slice qa qn qc)).toArray 34 (0, 0))]) := by rw [← hgx]; exact two_blocks' w _ _
  have HC : Hid (∀ V, Mem w V [(gx + 1, .cells (tc z (.slice pa' pn' pc') (.slice sa' sn' sc') (.slice qa' qn' qc')).toArray 34 (0, 0)), (gx, .cells (tc t (.slice pa pn pc) (.slice sa sn sc) (.slice qa qn qc)).toArray 34 (0, 0))] → Bx V gx t (.slice pa pn pc) (.slice sa sn sc) (.slice qa qn qc) ∧ Bx V (gx + 1) z (.slice pa' pn' pc') (.slice sa' sn' sc') (.slice qa' qn' qc')) := fun V hV => ⟨bx_of hl (hV.get 1 rfl), bx_of hl' (hV.get 0 rfl)⟩
  clear hl hl'
  obtain ⟨A, hA⟩ : ∃ A, (tc t (.slice pa pn pc) (.slice sa sn sc) (.slice qa qn qc)).toArray = A := ⟨_, rfl⟩
  obtain ⟨B, hB⟩ : ∃ B, (tc z (.slice pa' pn' pc') (.slice sa' sn' sc') (.slice qa' qn' qc')).toArray = B := ⟨_, rfl⟩
  rw [hA, hB] at HM0 HC
  rw [hA, hB]
  clear hA hB
  go_enter Tryz.func29, Tryz.ntmps29
  go_upto_region 1 with fail
  refine wp_letter (fun X => Mem w X [(gx + 1, .cells B 34 (0, 0)), (gx, .cells A 34 (0, 0))]) HM0.out ?_
  intro V0 hM0
  obtain ⟨⟨k0, k1, k10, k23, k24, k25, k26, k27, k28, k29, k30, k31, k32, kk, kv, kh⟩, ⟨l0, l1, l10, l23, l24, l25, l26, l27, l28, l29, l30, l31, l32, lk, lv, lh⟩⟩ := HC.out V0 hM0
  have HV0 : Hid (Mem w V0 [(gx + 1, .cells B 34 (0, 0)), (gx, .cells A 34 (0, 0))]) := hM0
  clear hM0 HM0 hgx
  go_step
  dsimp only [List.append]
  go_wp2_with (refine wpList_row (by rfl) ?_; first | (refine wpList_load_mid_g 27 (.tmp 19) (by with_reducible rfl) (by rfl) gx 2 (by first | rfl | simp [Act.eval]) _ _ kk Tryz.underlying27 rfl i8 ?_) | (refine wpList_load_mid_g 27 (.tmp 21) (by with_reducible rfl) (by rfl) (gx + 1) 2 (by first | rfl | simp [Act.eval]) _ _ lk Tryz.underlying27 rfl i8' ?_) | (refine wpList_load_mid_g 29 (.tmp 33) (by with_reducible rfl) (by rfl) gx 11 (by first | rfl | simp [Act.eval]) _ _ kv Tryz.underlying29 rfl i6 ?_) | (refine wpList_load_mid_g 29 (.tmp 35) (by with_reducible rfl) (by rfl) (gx + 1) 11 (by first | rfl | simp [Act.eval]) _ _ lv Tryz.underlying29 rfl i6' ?_) | (refine wpList_load_mid_g 29 (.tmp 40) (by with_reducible rfl) (by rfl) gx 17 (by first | rfl | simp [Act.eval]) _ _ kh Tryz.underlying29 rfl j6 ?_) | (refine wpList_load_mid_g 29 (.tmp 42) (by with_reducible rfl) (by rfl) (gx + 1) 17 (by first | rfl | simp [Act.eval]) _ _ lh Tryz.underlying29 rfl j6' ?_))
  go_ret
  exact ⟨rfl, HV0.out.below⟩
set_option maxHeartbeats 8000000 in
theorem rs_9 {w : World} {t z : Ten} {pa sa qa pa' sa' qa' : Option Addr} {pn pc sn sc qn qc pn' pc' sn' sc' qn' qc' : Nat} (hl : TLen t) (hl' : TLen z)
    (h0 : (sb t.name = sb z.name))
    (h1 : (t.vni = z.vni))
    (h2 : (t.key = z.key))
    (h3 : (t.vtep = z.vtep))
    (h4 : (t.vmac = z.vmac))
    (h5 : (t.host = z.host))
    (h6 : (t.lo = z.lo))
    (h7 : (t.hi = z.hi))
    (h8 : (t.filter = z.filter))
    (h9 : ¬ (t.sess = z.sess))
    : Calls Tryz.prog 29 #[.agg (tc t (.slice pa pn pc) (.slice sa sn sc) (.slice qa qn qc)).toArray, .agg (tc z (.slice pa' pn' pc') (.slice sa' sn' sc') (.slice qa' qn' qc')).toArray] w fun e w' => e = .returned (.bool false) ∧ Below w.heap.size w w' := by
  have e0 : (t.name.toList == z.name.toList) = true := by rw [text_same]; exact decide_eq_true h0
  have e1 : (t.vni != z.vni) = false := by simpa using h1
  have e2 : ∀ V, (Op.equalIn 10000 27 (.agg (t.key.map (Value.int .u8)).toArray) (.agg (z.key.map (Value.int .u8)).toArray)).run Tryz.prog V = .ok true V := fun V => by rw [keys_eq hl.key hl'.key, decide_eq_true h2]
  have e3 : (t.vtep != z.vtep) = false := by simpa using h3
  have e4 : ∀ V, (Op.equalIn 10000 29 (.agg (t.vmac.map (Value.int .u8)).toArray) (.agg (z.vmac.map (Value.int .u8)).toArray)).run Tryz.prog V = .ok true V := fun V => by rw [macs_eq hl.vmac hl'.vmac, decide_eq_true h4]
  have e5 : ∀ V, (Op.equalIn 10000 29 (.agg (t.host.map (Value.int .u8)).toArray) (.agg (z.host.map (Value.int .u8)).toArray)).run Tryz.prog V = .ok true V := fun V => by rw [macs_eq hl.host hl'.host, decide_eq_true h5]
  have e6 : (t.lo != z.lo) = false := by simpa using h6
  have e7 : (t.hi != z.hi) = false := by simpa using h7
  have e8 : (t.filter != z.filter) = false := by simpa using h8
  have e9 : (t.sess != z.sess) = true := by simpa using h9
  clear h0 h1 h2 h3 h4 h5 h6 h7 h8 h9
  have i8 : (Tryz.prog.info? 27).map (·.size) = some (t.key.map (Value.int .u8)).length := by rw [List.length_map, hl.key]; kernel_rfl
  have i8' : (Tryz.prog.info? 27).map (·.size) = some (z.key.map (Value.int .u8)).length := by rw [List.length_map, hl'.key]; kernel_rfl
  have i6 : (Tryz.prog.info? 29).map (·.size) = some (t.vmac.map (Value.int .u8)).length := by rw [List.length_map, hl.vmac]; kernel_rfl
  have i6' : (Tryz.prog.info? 29).map (·.size) = some (z.vmac.map (Value.int .u8)).length := by rw [List.length_map, hl'.vmac]; kernel_rfl
  have j6 : (Tryz.prog.info? 29).map (·.size) = some (t.host.map (Value.int .u8)).length := by rw [List.length_map, hl.host]; kernel_rfl
  have j6' : (Tryz.prog.info? 29).map (·.size) = some (z.host.map (Value.int .u8)).length := by rw [List.length_map, hl'.host]; kernel_rfl
  obtain ⟨gx, hgx⟩ : ∃ g, w.heap.size = g := ⟨_, rfl⟩
  have HM0 : Hid (Mem w ((w.alloc (.cells (tc t (.slice pa pn pc) (.slice sa sn sc) (.slice qa qn qc)).toArray 34)).alloc (.cells (tc z (.slice pa' pn' pc') (.slice sa' sn' sc') (.slice qa' qn' qc')).toArray 34)) [(gx + 1, .cells (tc z (.slice pa' pn' pc') (.slice sa' sn' sc') (.slice qa' qn' qc')).toArray 34 (0, 0)), (gx, .cells (tc t (.slice pa pn pc) (.slice sa sn sc) (.slice qa qn qc)).toArray 34 (0, 0))]) := by rw [← hgx]; exact two_blocks' w _ _
  have HC : Hid (∀ V, Mem w V [(gx + 1, .cells (tc z (.slice pa' pn' pc') (.slice sa' sn' sc') (.slice qa' qn' qc')).toArray 34 (0, 0)), (gx, .cells (tc t (.slice pa pn pc) (.slice sa sn sc) (.slice qa qn qc)).toArray 34 (0, 0))] → Bx V gx t (.slice pa pn pc) (.slice sa sn sc) (.slice qa qn qc) ∧ Bx V (gx + 1) z (.slice pa' pn' pc') (.slice sa' sn' sc') (.slice qa' qn' qc')) := fun V hV => ⟨bx_of hl (hV.get 1 rfl), bx_of hl' (hV.get 0 rfl)⟩
  clear hl hl'
  obtain ⟨A, hA⟩ : ∃ A, (tc t (.slice pa pn pc) (.slice sa sn sc) (.slice qa qn qc)).toArray = A := ⟨_, rfl⟩
  obtain ⟨B, hB⟩ : ∃ B, (tc z (.slice pa' pn' pc') (.slice sa' sn' sc') (.slice qa' qn' qc')).toArray = B := ⟨_, rfl⟩
  rw [hA, hB] at HM0 HC
  rw [hA, hB]
  clear hA hB
  go_enter Tryz.func29, Tryz.ntmps29
  go_upto_region 1 with fail
  refine wp_letter (fun X => Mem w X [(gx + 1, .cells B 34 (0, 0)), (gx, .cells A 34 (0, 0))]) HM0.out ?_
  intro V0 hM0
  obtain ⟨⟨k0, k1, k10, k23, k24, k25, k26, k27, k28, k29, k30, k31, k32, kk, kv, kh⟩, ⟨l0, l1, l10, l23, l24, l25, l26, l27, l28, l29, l30, l31, l32, lk, lv, lh⟩⟩ := HC.out V0 hM0
  have HV0 : Hid (Mem w V0 [(gx + 1, .cells B 34 (0, 0)), (gx, .cells A 34 (0, 0))]) := hM0
  clear hM0 HM0 hgx
  go_step
  dsimp only [List.append]
  go_wp2_with (refine wpList_row (by rfl) ?_; first | (refine wpList_load_mid_g 27 (.tmp 19) (by with_reducible rfl) (by rfl) gx 2 (by first | rfl | simp [Act.eval]) _ _ kk Tryz.underlying27 rfl i8 ?_) | (refine wpList_load_mid_g 27 (.tmp 21) (by with_reducible rfl) (by rfl) (gx + 1) 2 (by first | rfl | simp [Act.eval]) _ _ lk Tryz.underlying27 rfl i8' ?_) | (refine wpList_load_mid_g 29 (.tmp 33) (by with_reducible rfl) (by rfl) gx 11 (by first | rfl | simp [Act.eval]) _ _ kv Tryz.underlying29 rfl i6 ?_) | (refine wpList_load_mid_g 29 (.tmp 35) (by with_reducible rfl) (by rfl) (gx + 1) 11 (by first | rfl | simp [Act.eval]) _ _ lv Tryz.underlying29 rfl i6' ?_) | (refine wpList_load_mid_g 29 (.tmp 40) (by with_reducible rfl) (by rfl) gx 17 (by first | rfl | simp [Act.eval]) _ _ kh Tryz.underlying29 rfl j6 ?_) | (refine wpList_load_mid_g 29 (.tmp 42) (by with_reducible rfl) (by rfl) (gx + 1) 17 (by first | rfl | simp [Act.eval]) _ _ lh Tryz.underlying29 rfl j6' ?_))
  go_ret
  exact ⟨rfl, HV0.out.below⟩
end Df
end Go.Proofs.YtbccadbnaggkhaaGreat

namespace Go.Proofs.YtbccadbnaggkhaaGreat
open Go.RowKit
open Sm
open Cf
open Df
set_option linter.unusedVariables false
set_option linter.unusedSimpArgs false
set_option maxRecDepth 20000

namespace Df
set_option maxHeartbeats 8000000 in
theorem rs_3 {w : World} {t z : Ten} {pa sa qa pa' sa' qa' : Option Addr} {pn pc sn sc qn qc pn' pc' sn' sc' qn' qc' : Nat} (hl : TLen t) (hl' : TLen z)
    (h0 : (sb t.name = sb z.name))
    (h1 : (t.vni = z.vni))
    (h2 : (t.key = z.key))
    (h3 : ¬ (t.vtep = z.vtep))
    : Calls Tryz.prog 29 #[.agg (tc t (.slice pa pn pc) (.slice sa sn sc) (.slice qa qn qc)).toArray, .agg (tc z (.slice pa' pn' pc') (.slice sa' sn' sc') (.slice qa' qn' qc')).toArray] w fun e w' => e = .returned (.bool false) ∧ Below w.heap.size w w' := by
  have e0 : (t.name.toList == z.name.toList) = true := by rw [text_same]; exact decide_eq_true h0
  have e1 : (t.vni != z.vni) = false := by simpa using h1
  have e2 : ∀ V, (Op.equalIn 10000 27 (.agg (t.key.map (Value.int .u8)).toArray) (.agg (z.key.map (Value.int .u8)).toArray)).run Tryz.prog V = .ok true V := fun V => by rw [keys_eq hl.key hl'.key, decide_eq_true h2]
  have e3 : (t.vtep != z.vtep) = true := by simpa using h3
  clear h0 h1 h2 h3
  have i8 : (Tryz.prog.info? 27).map (·.size) = some (t.key.map (Value.int .u8)).length := by rw [List.length_map, hl.key]; kernel_rfl
  have i8' : (Tryz.prog.info? 27).map (·.size) = some (z.key.map (Value.int .u8)).length := by rw [List.length_map, hl'.key]; kernel_rfl
  have i6 : (Tryz.prog.info? 29).map (·.size) = some (t.vmac.map (Value.int .u8)).length := by rw [List.length_map, hl.vmac]; kernel_rfl
  have i6' : (Tryz.prog.info? 29).map (·.size) = some (z.vmac.map (Value.int .u8)).length := by rw [List.length_map, hl'.vmac]; kernel_rfl
  have j6 : (Tryz.prog.info? 29).map (·.size) = some (t.host.map (Value.int .u8)).length := by rw [List.length_map, hl.host]; kernel_rfl
  have j6' : (Tryz.prog.info? 29).map (·.size) = some (z.host.map (Value.int .u8)).length := by rw [List.length_map, hl'.host]; kernel_rfl
  obtain ⟨gx, hgx⟩ : ∃ g, w.heap.size = g := ⟨_, rfl⟩
  have HM0 : Hid (Mem w ((w.alloc (.cells (tc t (.slice pa pn pc) (.slice sa sn sc) (.slice qa qn qc)).toArray 34)).alloc (.cells (tc z (.slice pa' pn' pc') (.slice sa' sn' sc') (.slice qa' qn' qc')).toArray 34)) [(gx + 1, .cells (tc z (.slice pa' pn' pc') (.slice sa' sn' sc') (.slice qa' qn' qc')).toArray 34 (0, 0)), (gx, .cells (tc t (.slice pa pn pc) (.slice sa sn sc) (.slice qa qn qc)).toArray 34 (0, 0))]) := by rw [← hgx]; exact two_blocks' w _ _
  have HC : Hid (∀ V, Mem w V [(gx + 1, .cells (tc z (.slice pa' pn' pc') (.slice sa' sn' sc') (.slice qa' qn' qc')).toArray 34 (0, 0)), (gx, .cells (tc t (.slice pa pn pc) (.slice sa sn sc) (.slice qa qn qc)).toArray 34 (0, 0))] → Bx V gx t (.slice pa pn pc) (.slice sa sn sc) (.slice qa qn qc) ∧ Bx V (gx + 1) z (.slice pa' pn' pc') (.slice sa' sn' sc') (.slice qa' qn' qc')) := fun V hV => ⟨bx_of hl (hV.get 1 rfl), bx_of hl' (hV.get 0 rfl)⟩
  clear hl hl'
  obtain ⟨A, hA⟩ : ∃ A, (tc t (.slice pa pn pc) (.slice sa sn sc) (.slice qa qn qc)).toArray = A := ⟨_, rfl⟩
  obtain ⟨B, hB⟩ : ∃ B, (tc z (.slice pa' pn' pc') (.slice sa' sn' sc') (.slice qa' qn' qc')).toArray = B := ⟨_, rfl⟩
  rw [hA, hB] at HM0 HC
  rw [hA, hB]
  clear hA hB
  go_enter Tryz.func29, Tryz.ntmps29
  go_upto_region 1 with fail
  refine wp_letter (fun X => Mem w X [(gx + 1, .cells B 34 (0, 0)), (gx, .cells A 34 (0, 0))]) HM0.out ?_
  intro V0 hM0
  obtain ⟨⟨k0, k1, k10, k23, k24, k25, k26, k27, k28, k29, k30, k31, k32, kk, kv, kh⟩, ⟨l0, l1, l10, l23, l24, l25, l26, l27, l28, l29, l30, l31, l32, lk, lv, lh⟩⟩ := HC.out V0 hM0
  have HV0 : Hid (Mem w V0 [(gx + 1, .cells B 34 (0, 0)), (gx, .cells A 34 (0, 0))]) := hM0
  clear hM0 HM0 hgx
  go_step
  dsimp only [List.append]
  go_wp2_with (refine wpList_row (by rfl) ?_; first | (refine wpList_load_mid_g 27 (.tmp 19) (by with_reducible rfl) (by rfl) gx 2 (by first | rfl | simp [Act.eval]) _ _ kk Tryz.underlying27 rfl i8 ?_) | (refine wpList_load_mid_g 27 (.tmp 21) (by with_reducible rfl) (by rfl) (gx + 1) 2 (by first | rfl | simp [Act.eval]) _ _ lk Tryz.underlying27 rfl i8' ?_) | (refine wpList_load_mid_g 29 (.tmp 33) (by with_reducible rfl) (by rfl) gx 11 (by first | rfl | simp [Act.eval]) _ _ kv Tryz.underlying29 rfl i6 ?_) | (refine wpList_load_mid_g 29 (.tmp 35) (by with_reducible rfl) (by rfl) (gx + 1) 11 (by first | rfl | simp [Act.eval]) _ _ lv Tryz.underlying29 rfl i6' ?_) | (refine wpList_load_mid_g 29 (.tmp 40) (by with_reducible rfl) (by rfl) gx 17 (by first | rfl | simp [Act.eval]) _ _ kh Tryz.underlying29 rfl j6 ?_) | (refine wpList_load_mid_g 29 (.tmp 42) (by with_reducible rfl) (by rfl) (gx + 1) 17 (by first | rfl | simp [Act.eval]) _ _ lh Tryz.underlying29 rfl j6' ?_))
  go_ret
  exact ⟨rfl, HV0.out.below⟩
set_option maxHeartbeats 8000000 in
theorem rs_10 {w : World} {t z : Ten} {pa sa qa pa' sa' qa' : Option Addr} {pn pc sn sc qn qc pn' pc' sn' sc' qn' qc' : Nat} (hl : TLen t) (hl' : TLen z)
    (h0 : (sb t.name = sb z.name))
    (h1 : (t.vni = z.vni))
    (h2 : (t.key = z.key))
    (h3 : (t.vtep = z.vtep))
    (h4 : (t.vmac = z.vmac))
    (h5 : (t.host = z.host))
    (h6 : (t.lo = z.lo))
    (h7 : (t.hi = z.hi))
    (h8 : (t.filter = z.filter))
    (h9 : (t.sess = z.sess))
    (h10 : ¬ (t.queue = z.queue))
    : Calls Tryz.prog 29 #[.agg (tc t (.slice pa pn pc) (.slice sa sn sc) (.slice qa qn qc)).toArray, .agg (tc z (.slice pa' pn' pc') (.slice sa' sn' sc') (.slice qa' qn' qc')).toArray] w fun e w' => e = .returned (.bool false) ∧ Below w.heap.size w w' := by
  have e0 : (t.name.toList == z.name.toList) = true := by rw [text_same]; exact decide_eq_true h0
  have e1 : (t.vni != z.vni) = false := by simpa using h1
  have e2 : ∀ V, (Op.equalIn 10000 27 (.agg (t.key.map (Value.int .u8)).toArray) (.agg (z.key.map (Value.int .u8)).toArray)).run Tryz.prog V = .ok true V := fun V => by rw [keys_eq hl.key hl'.key, decide_eq_true h2]
  have e3 : (t.vtep != z.vtep) = false := by simpa using h3
  have e4 : ∀ V, (Op.equalIn 10000 29 (.agg (t.vmac.map (Value.int .u8)).toArray) (.agg (z.vmac.map (Value.int .u8)).toArray)).run Tryz.prog V = .ok true V := fun V => by rw [macs_eq hl.vmac hl'.vmac, decide_eq_true h4]
  have e5 : ∀ V, (Op.equalIn 10000 29 (.agg (t.host.map (Value.int .u8)).toArray) (.agg (z.host.map (Value.int .u8)).toArray)).run Tryz.prog V = .ok true V := fun V => by rw [macs_eq hl.host hl'.host, decide_eq_true h5]
  have e6 : (t.lo != z.lo) = false := by simpa using h6
  have e7 : (t.hi != z.hi) = false := by simpa using h7
  have e8 : (t.filter != z.filter) = false := by simpa using h8
  have e9 : (t.sess != z.sess) = false := by simpa using h9
  have e10 : (t.queue != z.queue) = true := by simpa using h10
  clear h0 h1 h2 h3 h4 h5 h6 h7 h8 h9 h10
  have i8 : (Tryz.prog.info? 27).map (·.size) = some (t.key.map (Value.int .u8)).length := by rw [List.length_map, hl.key]; kernel_rfl
  have i8' : (Tryz.prog.info? 27).map (·.size) = some (z.key.map (Value.int .u8)).length := by rw [List.length_map, hl'.key]; kernel_rfl
  have i6 : (Tryz.prog.info? 29).map (·.size) = some (t.vmac.map (Value.int .u8)).length := by rw [List.length_map, hl.vmac]; kernel_rfl
  have i6' : (Tryz.prog.info? 29).map (·.size) = some (z.vmac.map (Value.int .u8)).length := by rw [List.length_map, hl'.vmac]; kernel_rfl
  have j6 : (Tryz.prog.info? 29).map (·.size) = some (t.host.map (Value.int .u8)).length := by rw [List.length_map, hl.host]; kernel_rfl
  have j6' : (Tryz.prog.info? 29).map (·.size) = some (z.host.map (Value.int .u8)).length := by rw [List.length_map, hl'.host]; kernel_rfl
  obtain ⟨gx, hgx⟩ : ∃ g, w.heap.size = g := ⟨_, rfl⟩
  have HM0 : Hid (Mem w ((w.alloc (.cells (tc t (.slice pa pn pc) (.slice sa sn sc) (.slice qa qn qc)).toArray 34)).alloc (.cells (tc z (.slice pa' pn' pc') (.slice sa' sn' sc') (.slice qa' qn' qc')).toArray 34)) [(gx + 1, .cells (tc z (.slice pa' pn' pc') (.slice sa' sn' sc') (.slice qa' qn' qc')).toArray 34 (0, 0)), (gx, .cells (tc t (.slice pa pn pc) (.slice sa sn sc) (.slice qa qn qc)).toArray 34 (0, 0))]) := by rw [← hgx]; exact two_blocks' w _ _
  have HC : Hid (∀ V, Mem w V [(gx + 1, .cells (tc z (.slice pa' pn' pc') (.slice sa' sn' sc') (.slice qa' qn' qc')).toArray 34 (0, 0)), (gx, .cells (tc t (.slice pa pn pc) (.slice sa sn sc) (.slice qa qn qc)).toArray 34 (0, 0))] → Bx V gx t (.slice pa pn pc) (.slice sa sn sc) (.slice qa qn qc) ∧ Bx V (gx + 1) z (.slice pa' pn' pc') (.slice sa' sn' sc') (.slice qa' qn' qc')) := fun V hV => ⟨bx_of hl (hV.get 1 rfl), bx_of hl' (hV.get 0 rfl)⟩
  clear hl hl'
  obtain ⟨A, hA⟩ : ∃ A, (tc t (.slice pa pn pc) (.slice sa sn sc) (.slice qa qn qc)).toArray = A := ⟨_, rfl⟩
  obtain ⟨B, hB⟩ : ∃ B, (tc z (.slice pa' pn' pc') (.slice sa' sn' sc') (.slice qa' qn' qc')).toArray = B := ⟨_, rfl⟩
  rw [hA, hB] at HM0 HC
  rw [hA, hB]
  clear hA hB
  go_enter Tryz.func29, Tryz.ntmps29
  go_upto_region 1 with fail
  refine wp_letter (fun X => Mem w X [(gx + 1, .cells B 34 (0, 0)), (gx, .cells A 34 (0, 0))]) HM0.out ?_
  intro V0 hM0
  obtain ⟨⟨k0, k1, k10, k23, k24, k25, k26, k27, k28, k29, k30, k31, k32, kk, kv, kh⟩, ⟨l0, l1, l10, l23, l24, l25, l26, l27, l28, l29, l30, l31, l32, lk, lv, lh⟩⟩ := HC.out V0 hM0
  have HV0 : Hid (Mem w V0 [(gx + 1, .cells B 34 (0, 0)), (gx, .cells A 34 (0, 0))]) := hM0
  clear hM0 HM0 hgx
  go_step
  dsimp only [List.append]
  go_wp2_with (refine wpList_row (by rfl) ?_; first | (refine wpList_load_mid_g 27 (.tmp 19) (by with_reducible rfl) (by rfl) gx 2 (by first | rfl | simp [Act.eval]) _ _ kk Tryz.underlying27 rfl i8 ?_) | (refine wpList_load_mid_g 27 (.tmp 21) (by with_reducible rfl) (by rfl) (gx + 1) 2 (by first | rfl | simp [Act.eval]) _ _ lk Tryz.underlying27 rfl i8' ?_) | (refine wpList_load_mid_g 29 (.tmp 33) (by with_reducible rfl) (by rfl) gx 11 (by first | rfl | simp [Act.eval]) _ _ kv Tryz.underlying29 rfl i6 ?_) | (refine wpList_load_mid_g 29 (.tmp 35) (by with_reducible rfl) (by rfl) (gx + 1) 11 (by first | rfl | simp [Act.eval]) _ _ lv Tryz.underlying29 rfl i6' ?_) | (refine wpList_load_mid_g 29 (.tmp 40) (by with_reducible rfl) (by rfl) gx 17 (by first | rfl | simp [Act.eval]) _ _ kh Tryz.underlying29 rfl j6 ?_) | (refine wpList_load_mid_g 29 (.tmp 42) (by with_reducible rfl) (by rfl) (gx + 1) 17 (by first | rfl | simp [Act.eval]) _ _ lh Tryz.underlying29 rfl j6' ?_))
  go_ret
  exact ⟨rfl, HV0.out.below⟩
end Df
end Go.Proofs.YtbccadbnaggkhaaGreat

