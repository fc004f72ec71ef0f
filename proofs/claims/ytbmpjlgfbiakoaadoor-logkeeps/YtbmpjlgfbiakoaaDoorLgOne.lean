/-
  What package log's smaller functions answer: slotBlocks, other, later, fits, Room; and readPiece.
-/
import Derived.Test.YtbmpjlgfbiakoaaDoorLgUnfYes
import Derived.Test.YtbmpjlgfbiakoaaDoorLgModel
import Derived.Test.YtbmpjlgfbiakoaaDoorDkWrite
namespace Go.Proofs.YtbmpjlgfbiakoaaDoor
open Go.RowKit
open Sm
set_option linter.unusedVariables false

section
variable {w W : World} {p h m : Nat} {D : Dk} {hc : Array Value} {ks : List Bk} {L : List (Nat × Obj)}
theorem DkAt.on (H : DkAt w W p h m D hc ks L) {W' : World} {L' : List (Nat × Obj)} (s : St w W' p (dkA h ks.length D) dkT h m hc ks L') : DkAt w W' p h m D hc ks L' := ⟨s, H.pos, H.top, H.mlo, H.mhi, H.left, H.pre⟩
theorem DkAt.join (H : DkAt w W p h m D hc ks L) {W' : World} {K : List (Nat × Obj)} (k : Mem W W' K) : DkAt w W' p h m D hc ks (K ++ L) := H.on (H.st.join k)
theorem DkAt.drewN (H : DkAt w W p h m D hc ks L) (n : Nat) : DkAt w (W.drewN n) p h m D hc ks L := H.on (H.st.drewN n)
theorem lsb_any (H : DkAt w W p h m D hc ks L) : Calls Tryd.prog 32 #[.pointer (some ⟨p, 0, none⟩)] W fun e W' => e = .returned (.int .i64 (sbk ks.length)) ∧ W = W' := by
  have hb := dblocks_any H
  have hp := H.pos
  have ht := H.top
  have HS : Hid ((((ks.length : Int) - 1) / 2) = (sbk ks.length : Int)) := by show _ = _; unfold sbk; omega
  generalize sbk ks.length = q at *
  generalize ks.length = n at *
  clear H
  go_enter Tryd.func32, Tryd.ntmps32
  go_wp2_with fail
  refine hb.mono ?_
  rintro e w' ⟨rfl, rfl⟩
  go_wp2
  go_ret
  exact ⟨ret_int HS.out, rfl⟩
theorem lfits_any (H : DkAt w W p h m D hc ks L) : Calls Tryd.prog 28 #[.pointer (some ⟨p, 0, none⟩)] W fun e W' => e = .returned (.bool (decide (4 ≤ ks.length) && decide (256 ≤ m))) ∧ W = W' := by
  have hb := dblocks_any H
  have hs := dsize_any H
  generalize ks.length = n at *
  clear H
  by_cases h4 : 4 ≤ n
  · have h4' : (4 : Int) ≤ n := by omega
    go_enter Tryd.func28, Tryd.ntmps28
    go_wp2_with fail
    refine hb.mono ?_
    rintro e w' ⟨rfl, rfl⟩
    go_wp2_with fail
    refine hs.mono ?_
    rintro e w' ⟨rfl, rfl⟩
    go_wp2
    go_ret
    refine ⟨?_, rfl⟩
    have e : decide ((256 : Int) ≤ m) = decide (256 ≤ m) := by
      by_cases q : 256 ≤ m
      · rw [decide_eq_true q, decide_eq_true (by omega)]
      · rw [decide_eq_false q, decide_eq_false (by omega)]
    simp [h4, e]
  · have h4' : ¬ (4 : Int) ≤ n := by omega
    go_enter Tryd.func28, Tryd.ntmps28
    go_wp2_with fail
    refine hb.mono ?_
    rintro e w' ⟨rfl, rfl⟩
    go_wp2
    go_ret
    exact ⟨by simp, rfl⟩
/-- How many bytes a record has at most. -/
def room (n m : Nat) : Nat := if 4 ≤ n ∧ 256 ≤ m then min (sbk n * (m - 64)) 16384 else 0
theorem lroom_any (H : DkAt w W p h m D hc ks L) : Calls Tryd.prog 15 #[.pointer (some ⟨p, 0, none⟩)] W fun e W' => e = .returned (.int .i64 (room ks.length m)) ∧ W = W' := by
  have hf := lfits_any H
  have hb := lsb_any H
  have hs := dsize_any H
  have hmh := H.mhi
  have ht := H.top
  unfold room
  by_cases hh : 4 ≤ ks.length ∧ 256 ≤ m
  · rw [if_pos hh]
    rw [show (decide (4 ≤ ks.length) && decide (256 ≤ m)) = true by simp [hh]] at hf
    have hq : sbk ks.length ≤ 31 := by unfold sbk; omega
    obtain ⟨-, hm⟩ := hh
    obtain ⟨x, hx⟩ : ∃ x : Nat, x = sbk ks.length * (m - 64) := ⟨_, rfl⟩
    have hx2 : (sbk ks.length : Int) * ((m : Int) - 64) = x := by
      rw [hx, Int.natCast_mul, Int.natCast_sub (by omega)]; rfl
    have hx3 : x ≤ 31 * 65536 := by rw [hx]; exact Nat.mul_le_mul hq (by omega)
    rw [← hx]
    have hwx : IntKind.i64.wrap (x : Int) = x := by rw [IntKind.wrap_i64]; omega
    have w64 : IntKind.i64.wrap ((m : Int) - 64) = (m : Int) - 64 := by rw [IntKind.wrap_i64]; omega
    generalize sbk ks.length = q at *
    clear H hx
    go_enter Tryd.func15, Tryd.ntmps15
    go_wp2_with fail
    refine hf.mono ?_
    rintro e w' ⟨rfl, rfl⟩
    go_wp2_with fail
    refine hb.mono ?_
    rintro e w' ⟨rfl, rfl⟩
    go_wp2_with fail
    refine hs.mono ?_
    rintro e w' ⟨rfl, rfl⟩
    go_wp2
    all_goals go_ret
    all_goals exact ⟨ret_int (by omega), rfl⟩
  · rw [if_neg hh]
    rw [show (decide (4 ≤ ks.length) && decide (256 ≤ m)) = false by simp; omega] at hf
    clear H hb hs
    go_enter Tryd.func15, Tryd.ntmps15
    go_wp2_with fail
    refine hf.mono ?_
    rintro e w' ⟨rfl, rfl⟩
    go_wp2
    go_ret
    exact ⟨rfl, rfl⟩
end
theorem lother_any (W : World) (s : Nat) (h : s ≤ 1) : Calls Tryd.prog 40 #[.int .i64 s] W fun e W' => e = .returned (.int .i64 ((1 - s : Nat) : Int)) ∧ W = W' := by
  go_enter Tryd.func40, Tryd.ntmps40
  go_wp2
  go_ret
  exact ⟨ret_int (by omega), rfl⟩
theorem llater_any (W : World) (a b : Int) : Calls Tryd.prog 39 #[.int .u64 a, .int .u64 b] W fun e W' => e = .returned (.bool (ltr a b)) ∧ W = W' := by
  go_enter Tryd.func39, Tryd.ntmps39
  go_wp2
  go_ret
  refine ⟨?_, rfl⟩
  unfold ltr
  rw [show IntKind.i64.wrap (IntKind.u64.wrap (a - b)) = wrap64 (IntKind.u64.wrap (a - b)) by unfold wrap64; exact IntKind.wrap_i64 _]
  rfl
end Go.Proofs.YtbmpjlgfbiakoaaDoor
