/-
  Hardware addresses as text: the document's own Mac, at every text.
-/
import Derived.Test.YtkkbnagfndphpaaDoorAdMac
import Derived.Test.YtkkbnagfndphpaaDoorAdParts
namespace Go.Proofs.YtkkbnagfndphpaaDoor
open Go.RowKit
open Ad
open Sm (IsBytes)
set_option linter.unusedVariables false

set_option maxHeartbeats 4000000 in
set_option maxRecDepth 20000 in
theorem rmac_any (w : World) (s : ByteArray) (hs : s.size ≤ 1000) :
    Calls Tryd.prog 12 #[.string s] w fun e w' => e = .returned (.tuple #[mv (mac s.data.toList), .int .i64 (le (mac s.data.toList))]) ∧ Below w.heap.size w w' := by
  have hM0 := two_blocks w (.cells (ab z6) 30 (0, 0)) (.cells (ab z6) 30 (0, 0))
  have cS : Calls Tryd.prog 27 #[.string s, .int .u8 58] ((w.alloc (.cells (ab z6) 30 (0, 0))).alloc (.cells (ab z6) 30 (0, 0))) _ := rparts_any s 58 hs _
  unfold mac
  have hpl := cut_part_len 58 s.data.toList
  generalize hA : cut 58 s.data.toList = A at cS hpl ⊢
  by_cases h6 : A.length = 6
  · rw [if_pos h6]
    obtain ⟨R, hR⟩ : ∃ R, fill 0 [0, 0, 0, 0, 0, 0] A = R := ⟨_, rfl⟩
    rw [hR]
    go_enter Tryd.func12, Tryd.ntmps12
    go_wp2_with fail
    refine cS.mono ?_
    rintro e w1 ⟨g, cap, rfl, hcap, hcells, hb1⟩
    have hM1 := hM0.after hb1
    clear hM0 cS hb1
    rw [h6] at hcap ⊢
    obtain ⟨o, ho⟩ : ∃ o, w1.heap[g]? = some o := by
      have := hcells 0 _ (List.getElem?_eq_getElem (by omega))
      exact ⟨_, Array.getElem?_eq_getElem (cell_in this)⟩
    have hgs : ∀ (W : World) (l : List Int), Mem w W [(w.heap.size + 1, .cells (ab l) 30 (0, 0)), (w.heap.size, .cells (ab z6) 30 (0, 0))] → True := fun _ _ _ => trivial
    have hne1 : g ≠ w.heap.size + 1 := by
      intro e
      have h0 := hcells 0 _ (List.getElem?_eq_getElem (by omega))
      rw [e, hM1.cell 0 rfl] at h0
      simp at h0
    have hne0 : g ≠ w.heap.size := by
      intro e
      have h0 := hcells 0 _ (List.getElem?_eq_getElem (by omega))
      rw [e, hM1.cell 1 rfl] at h0
      simp at h0
    have hcellk : ∀ (W : World), (∀ k, k ≠ w.heap.size + 1 → k < w1.heap.size → W.heap[k]? = w1.heap[k]?) → ∀ (j : Nat) x, A[j]? = some x → W.cell? ⟨g, j, none⟩ = some (.string ⟨x.toArray⟩) := by
      intro W hk j x hj
      rw [← hcells j x hj]
      exact World.cell?_of_block (w := w1) (w' := W) (a := ⟨g, j, none⟩) (hk g hne1 (cell_in (hcells j x hj)))
    clear hgs
    go_wp2_with fail
    go_loopw [6] (fun jj w' => ∃ (j : Nat) (l : List Int), jj = .int .i64 j ∧ j ≤ 6 ∧ l.length = 6 ∧ fill j l (A.drop j) = R ∧ (∀ k, k ≠ w.heap.size + 1 → k < w1.heap.size → w'.heap[k]? = w1.heap[k]?) ∧ Mem w w' [(w.heap.size + 1, .cells (ab l) 30 (0, 0)), (w.heap.size, .cells (ab z6) 30 (0, 0))]) (fun jj _ => 6 - (intOf jj).toNat)
    case atStart => exact ⟨0, z6, rfl, by omega, rfl, by simpa using hR, fun _ _ _ => rfl, hM1⟩
    case round =>
      obtain ⟨j, l, rfl, hj6, hl6, hc, hkp, hMr⟩ := hrel
      clear hM1 hR
      by_cases hj : j < 6
      · have hjz : (j : Int) < 6 := by omega
        have e7 : IntKind.i64.wrap ((j : Int) + 1) = (j : Int) + 1 := wrap64 (by omega) (by omega)
        obtain ⟨x, hx⟩ : ∃ x, A[j]? = some x := ⟨A[j]'(by omega), List.getElem?_eq_getElem (by omega)⟩
        have hcell := hcellk wr hkp j x hx
        have hxl : (⟨x.toArray⟩ : ByteArray).size ≤ 140737488355328 := by
          have := hpl x (List.mem_of_getElem? hx)
          rw [text_len] at this
          show x.toArray.size ≤ 140737488355328
          simp; omega
        rw [drop_at hx] at hc
        have cN := rtwo_any ⟨x.toArray⟩ hxl
        have hxx : (⟨x.toArray⟩ : ByteArray).data.toList = x := by simp
        rw [hxx] at cN
        clear hcells hpl hx hA hxx hcellk
        cases h2 : two x with
        | none =>
          rw [fill_stop h2] at hc
          subst hc
          rw [h2] at cN
          generalize (⟨x.toArray⟩ : ByteArray) = X at cN hcell
          generalize ((twov x : Nat) : Int) = tv at cN
          go_wp2_with fail
          refine (cN _).mono ?_
          rintro e w' ⟨rfl, rfl⟩
          have c0 : wr.cell? ⟨w.heap.size, 0, none⟩ = some (.int .u8 0) := hMr.cell 1 rfl 0
          have c1 : wr.cell? ⟨w.heap.size, 1, none⟩ = some (.int .u8 0) := hMr.cell 1 rfl 1
          have c2 : wr.cell? ⟨w.heap.size, 2, none⟩ = some (.int .u8 0) := hMr.cell 1 rfl 2
          have c3 : wr.cell? ⟨w.heap.size, 3, none⟩ = some (.int .u8 0) := hMr.cell 1 rfl 3
          have c4 : wr.cell? ⟨w.heap.size, 4, none⟩ = some (.int .u8 0) := hMr.cell 1 rfl 4
          have c5 : wr.cell? ⟨w.heap.size, 5, none⟩ = some (.int .u8 0) := hMr.cell 1 rfl 5
          have f0 := hMr.free 1 rfl
          go_wp2_with fail
          refine post_let (fun W2 => Mem w W2 [(w.heap.size, .cells (ab z6) 30 (0, 0)), (w.heap.size + 1, .cells (ab l) 30 (0, 0))]) (hMr.flip.put6 rfl 0 0 0 0 0 0) ?_
          intro W2 hM4
          refine bodyPost_ret (v := .tuple #[.agg (ab z6), .int .i64 60]) ?_ rfl ⟨rfl, hM4.below⟩
          exact results_two (p := 2) (q := 3) (ty := 30) rfl _ _ w.heap.size (ab z6) rfl (run_loadVar_row _ _ 30 30 _ (0, 0) _ (hM4.get 0 rfl) Tryd.underlying30 rfl (by kernel_rfl))
        | some v =>
          rw [fill_on h2] at hc
          rw [h2, twov_of h2] at cN
          clear h2
          generalize (⟨x.toArray⟩ : ByteArray) = X at cN hcell
          have hcj : wr.cell? ⟨w.heap.size + 1, j, none⟩ = some (.int .u8 (l.getD j 0)) := by rw [hMr.cell 0 rfl, ab_at (by omega)]
          generalize l.getD j 0 = old at hcj
          have hfj := hMr.free 0 rfl j
          have hMs := hMr.byte j (v : Int)
          go_wp2_with fail
          refine (cN _).mono ?_
          rintro e w' ⟨rfl, rfl⟩
          go_wp2_with fail
          go_roundw
          case rel => exact ⟨j + 1, _, by first | rfl | trivial, by omega, by rw [List.length_set]; exact hl6, hc, fun k hk1 hk2 => (Below.heap_setCell _ _ _ _ hk1).trans (hkp k hk1 hk2), hMs⟩
          case measure => simp [intOf]; omega
      · have hjz : ¬ (j : Int) < 6 := by omega
        have hnil : A.drop j = [] := List.drop_eq_nil_of_le (by omega)
        rw [hnil, fill] at hc
        subst hc
        obtain ⟨a0, a1, a2, a3, a4, a5, rfl⟩ := six hl6
        clear hcells hcellk hkp hpl hA
        have c0 : wr.cell? ⟨w.heap.size, 0, none⟩ = some (.int .u8 0) := hMr.cell 1 rfl 0
        have c1 : wr.cell? ⟨w.heap.size, 1, none⟩ = some (.int .u8 0) := hMr.cell 1 rfl 1
        have c2 : wr.cell? ⟨w.heap.size, 2, none⟩ = some (.int .u8 0) := hMr.cell 1 rfl 2
        have c3 : wr.cell? ⟨w.heap.size, 3, none⟩ = some (.int .u8 0) := hMr.cell 1 rfl 3
        have c4 : wr.cell? ⟨w.heap.size, 4, none⟩ = some (.int .u8 0) := hMr.cell 1 rfl 4
        have c5 : wr.cell? ⟨w.heap.size, 5, none⟩ = some (.int .u8 0) := hMr.cell 1 rfl 5
        have f0 := hMr.free 1 rfl
        have d0 : wr.cell? ⟨w.heap.size + 1, 0, none⟩ = some (.int .u8 a0) := hMr.cell 0 rfl 0
        have d1 : wr.cell? ⟨w.heap.size + 1, 1, none⟩ = some (.int .u8 a1) := hMr.cell 0 rfl 1
        have d2 : wr.cell? ⟨w.heap.size + 1, 2, none⟩ = some (.int .u8 a2) := hMr.cell 0 rfl 2
        have d3 : wr.cell? ⟨w.heap.size + 1, 3, none⟩ = some (.int .u8 a3) := hMr.cell 0 rfl 3
        have d4 : wr.cell? ⟨w.heap.size + 1, 4, none⟩ = some (.int .u8 a4) := hMr.cell 0 rfl 4
        have d5 : wr.cell? ⟨w.heap.size + 1, 5, none⟩ = some (.int .u8 a5) := hMr.cell 0 rfl 5
        go_wp2_with fail
        refine post_let (fun W2 => Mem w W2 [(w.heap.size, .cells (ab [a0, a1, a2, a3, a4, a5]) 30 (0, 0)), (w.heap.size + 1, .cells (ab [a0, a1, a2, a3, a4, a5]) 30 (0, 0))]) (hMr.flip.put6 rfl a0 a1 a2 a3 a4 a5) ?_
        intro W2 hM4
        refine bodyPost_ret (v := .tuple #[.agg (ab [a0, a1, a2, a3, a4, a5]), .int .i64 0]) ?_ rfl ⟨rfl, hM4.below⟩
        exact results_two (p := 2) (q := 3) (ty := 30) rfl _ _ w.heap.size (ab [a0, a1, a2, a3, a4, a5]) rfl (run_loadVar_row _ _ 30 30 _ (0, 0) _ (hM4.get 0 rfl) Tryd.underlying30 rfl (by kernel_rfl))
  · rw [if_neg h6]
    go_enter Tryd.func12, Tryd.ntmps12
    go_wp2_with fail
    refine cS.mono ?_
    rintro e w1 ⟨g, cap, rfl, hcap, hcells, hb1⟩
    have hlz : (((A.length : Nat) : Int) != 6) = true := by simp; omega
    have hM3 := hM0.after hb1
    have c0 : w1.cell? ⟨w.heap.size, 0, none⟩ = some (.int .u8 0) := hM3.cell 1 rfl 0
    have c1 : w1.cell? ⟨w.heap.size, 1, none⟩ = some (.int .u8 0) := hM3.cell 1 rfl 1
    have c2 : w1.cell? ⟨w.heap.size, 2, none⟩ = some (.int .u8 0) := hM3.cell 1 rfl 2
    have c3 : w1.cell? ⟨w.heap.size, 3, none⟩ = some (.int .u8 0) := hM3.cell 1 rfl 3
    have c4 : w1.cell? ⟨w.heap.size, 4, none⟩ = some (.int .u8 0) := hM3.cell 1 rfl 4
    have c5 : w1.cell? ⟨w.heap.size, 5, none⟩ = some (.int .u8 0) := hM3.cell 1 rfl 5
    have f0 := hM3.free 1 rfl
    clear cS hcells hb1 hpl
    go_wp2_with fail
    refine post_let (fun W2 => Mem w W2 [(w.heap.size, .cells (ab z6) 30 (0, 0)), (w.heap.size + 1, .cells (ab z6) 30 (0, 0))]) (hM3.flip.put6 rfl 0 0 0 0 0 0) ?_
    intro W2 hM4
    refine bodyPost_ret (v := .tuple #[.agg (ab z6), .int .i64 60]) ?_ rfl ⟨rfl, hM4.below⟩
    exact results_two (p := 2) (q := 3) (ty := 30) rfl _ _ w.heap.size (ab z6) rfl (run_loadVar_row _ _ 30 30 _ (0, 0) _ (hM4.get 0 rfl) Tryd.underlying30 rfl (by kernel_rfl))
end Go.Proofs.YtkkbnagfndphpaaDoor
