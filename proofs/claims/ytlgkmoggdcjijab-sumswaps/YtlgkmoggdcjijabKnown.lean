/-
  The chapter's example stands: lychlaw1.known answers true, and turns nothing that was there.
-/
import Derived.Test.YtlgkmoggdcjijabWords
namespace Go.Proofs.Ytlgkmoggdcjijab
open Go.RowKit
open Sm
set_option linter.unusedVariables false

def exBytes : List Int := [0, 1, 242, 3, 244, 245, 246, 247]
def exCells : Array Value := #[.int .u8 0, .int .u8 1, .int .u8 242, .int .u8 3, .int .u8 244, .int .u8 245, .int .u8 246, .int .u8 247]
theorem ex_bytes : IsBytes exBytes := by
  intro i
  match i with
  | 0 | 1 | 2 | 3 | 4 | 5 | 6 | 7 => simp [exBytes]
  | n + 8 => simp [exBytes, List.getD]
theorem ex_row (w : World) : Row (w.alloc (.cells #[.int .u8 0, .int .u8 1, .int .u8 242, .int .u8 3, .int .u8 244, .int .u8 245, .int .u8 246, .int .u8 247] 5)) (some ⟨w.heap.size, 0, none⟩) exBytes := by
  refine ⟨ex_bytes, by simp [exBytes], Or.inr ⟨_, _, rfl, fun i hi => ?_⟩⟩
  have hi' : i < 8 := by simpa [exBytes] using hi
  rw [Nat.zero_add, World.cell?_alloc_new]
  match i, hi' with
  | 0, _ | 1, _ | 2, _ | 3, _ | 4, _ | 5, _ | 6, _ | 7, _ => rfl
theorem ex_of : ofv exBytes = 8717 := by decide
theorem ex_fold : foldv 187888 = 56818 := by decide
theorem ex_upd : updv 56623 21845 12933 = 0 := by decide
theorem ex_ps : psv 1 2 17 8 = 28 := by decide

set_option maxHeartbeats 1000000 in
theorem known_any (w : World) :
    Calls Try.prog 4 #[] w fun e w' => e = .returned (.bool true) ∧ Below w.heap.size w w' := by
  have hr := ex_row w
  have c1 : ∀ cap, Calls Try.prog 6 #[.slice (some ⟨w.heap.size, 0, none⟩) 8 cap] _ _ := fun cap => of_any hr cap
  have c2 : ∀ cap, Calls Try.prog 9 #[.slice (some ⟨w.heap.size, 0, none⟩) 8 cap] _ _ := fun cap => words_any hr cap
  rw [ex_of] at c1
  clear hr
  go_enter Try.func4, Try.ntmps4
  go_wp2_with (first
    | (go_at_call 6; refine (c1 _).mono ?_; rintro e w' ⟨rfl, rfl⟩)
    | (go_at_call 7; refine (fold_any _ _ (by omega) (by omega)).mono ?_; rintro e w' ⟨rfl, rfl⟩; rw [ex_fold])
    | (go_at_call 8; refine (update_any _ _ _ _ (by omega) (by omega) (by omega) (by omega) (by omega) (by omega)).mono ?_; rintro e w' ⟨rfl, rfl⟩; rw [ex_upd])
    | (go_at_call 9; refine (c2 _).mono ?_; rintro e w' ⟨rfl, _, hbel⟩)
    | (go_at_call 10; refine (pseudo_any _ _ _ _ _ (by omega) (by omega) (by omega) (by omega) (by omega) (by omega)).mono ?_; rintro e w' ⟨rfl, rfl⟩; rw [ex_ps]))
  go_ret
  exact ⟨rfl, ((Below.refl _ _).alloc (Nat.le_refl _) _).trans (hbel.mono (by simp))⟩
end Go.Proofs.Ytlgkmoggdcjijab
