/-
  The chapter's example stands: lychlaw2.known answers true, and turns nothing that was there.
-/
import Derived.Test.YtkkpjpelcnebeaaHelpEth
import Derived.Test.YtkkpjpelcnebeaaPuts
namespace Go.Proofs.Ytkkpjpelcnebeaa
open Go.RowKit
open Sm
set_option linter.unusedVariables false

theorem ex_bytes : IsBytes [1, 2, 3, 4, 5, 6, 7, 8, 9, 10, 11, 12, 8, 0, 99] := by
  intro i
  match i with
  | 0 | 1 | 2 | 3 | 4 | 5 | 6 | 7 | 8 | 9 | 10 | 11 | 12 | 13 | 14 => simp
  | n + 15 => simp [List.getD]

set_option maxHeartbeats 1000000 in
theorem known_any (w : World) :
    Calls Try.prog 7 #[] w fun e w' => e = .returned (.bool true) ∧ Below w.heap.size w w' := by
  have hr := row_lit w [1, 2, 3, 4, 5, 6, 7, 8, 9, 10, 11, 12, 8, 0, 99] ex_bytes (by simp) 5
  have hp := parse_ok w.heap.size 0 15 _ 1 2 3 4 5 6 7 8 9 10 11 12 8 0 [99] hr 15 1 rfl rfl (by omega) (by omega)
  have HB : Hid (Below w.heap.size w (w.alloc (.cells ([1, 2, 3, 4, 5, 6, 7, 8, 9, 10, 11, 12, 8, 0, 99].map (Value.int .u8)).toArray 5))) := (Below.refl _ _).alloc (Nat.le_refl _) _
  have q0 := mac_eq 1 2 3 4 5 6
  have q1 := mac_eq 7 8 9 10 11 12
  clear hr
  go_enter Try.func7, Try.ntmps7
  go_wp2_with fail
  refine hp.mono ?_
  rintro e w1 ⟨ao, c, rfl, hrow, hc, hbel⟩
  have HO : Hid (Row w1 ao [99]) := hrow
  have HB1 : Hid (Below w.heap.size w w1) := HB.out.trans (hbel.mono (by simp))
  clear hp HB hrow hbel
  go_wp2_with fail
  refine (parse_short none 0 0 _ (by omega)).mono ?_
  rintro e w2 ⟨rfl, hb2⟩
  have kc : ∀ i, w2.cell? ⟨w1.heap.size, i, none⟩ = (ethA 1 2 3 4 5 6 7 8 9 10 11 12 2048 (.slice ao 1 c))[i]? := fun i => by
    rw [hb2.cell (p := ⟨w1.heap.size, i, none⟩) (by simp), World.cell?_alloc_new]
  have hz : w1.heap.size < w2.heap.size := by have := hb2.size; simp at this; omega
  have HB2 : Hid (Below w.heap.size w w2) := (HB1.out.alloc HB1.out.size _).trans (hb2.mono (by have := HB1.out.size; simp; omega))
  have HO2 : Hid (Row w2 ao [99]) := (HO.out.below ((Below.refl _ _).alloc (Nat.le_refl _) _) (Nat.le_refl _)).below hb2 (Nat.le_refl _)
  have hws : w.heap.size ≤ w2.heap.size := HB2.out.size
  clear hb2 HB1 HO
  go_wp2_with fail
  refine (hbytes_yes (l := [99]) (b := some ⟨w2.heap.size + 1, 0, none⟩) (HO2.out.below (((Below.refl _ _).alloc (Nat.le_refl _) _).alloc (by simp) _) (Nat.le_refl _)) ⟨fun i => by match i with | 0 => simp | i + 1 => simp [List.getD], by simp, Or.inr ⟨_, 0, rfl, fun i hi => ?_⟩⟩ 1 1 rfl rfl c 1).mono ?_
  · obtain rfl : i = 0 := by simp at hi; omega
    rw [World.cell?_alloc_at _ _ _ _ (by simp)]; rfl
  rintro e w' ⟨rfl, rfl⟩
  go_wp2_with fail
  go_ret
  exact ⟨rfl, (HB2.out.alloc hws _).alloc (by simp; omega) _⟩
end Go.Proofs.Ytkkpjpelcnebeaa
