/-
  Ports: one port's bit in its block.
-/
import Derived.Test.YtkbjiackjefkkaaDoorPpMath
import Derived.Test.YtkbjiackjefkkaaDoorPoFace
namespace Go.Proofs.YtkbjiackjefkkaaDoor
open Go.RowKit
open Sm
open Po
set_option linter.unusedVariables false
set_option linter.unusedSimpArgs false
set_option maxRecDepth 20000

namespace Po
/-- A block's value: sixteen words. -/
abbrev blv (f : Nat → Nat) : Array Value := #[.int .u64 (f 0 : Nat), .int .u64 (f 1 : Nat), .int .u64 (f 2 : Nat), .int .u64 (f 3 : Nat), .int .u64 (f 4 : Nat), .int .u64 (f 5 : Nat), .int .u64 (f 6 : Nat), .int .u64 (f 7 : Nat), .int .u64 (f 8 : Nat), .int .u64 (f 9 : Nat), .int .u64 (f 10 : Nat), .int .u64 (f 11 : Nat), .int .u64 (f 12 : Nat), .int .u64 (f 13 : Nat), .int .u64 (f 14 : Nat), .int .u64 (f 15 : Nat)]
theorem blv_at (f : Nat → Nat) : ∀ i, i < 16 → (blv f)[i]? = some (.int .u64 (f i : Nat)) := by
  intro i hi
  match i, hi with
  | 0, _ => rfl | 1, _ => rfl | 2, _ => rfl | 3, _ => rfl | 4, _ => rfl | 5, _ => rfl | 6, _ => rfl | 7, _ => rfl
  | 8, _ => rfl | 9, _ => rfl | 10, _ => rfl | 11, _ => rfl | 12, _ => rfl | 13, _ => rfl | 14, _ => rfl | 15, _ => rfl
  | i + 16, h => omega
theorem bitOf_any (W : World) (k : Nat) (hk : k < 65536) :
    Calls Tryd.prog 28 #[.int .u16 (k : Int)] W fun e W' => e = .returned (.tuple #[.int .i64 ((k % 1024 / 64 : Nat) : Int), .int .u64 ((2 ^ (k % 64) : Nat) : Int)]) ∧ W = W' := by
  have r1 : Int.tmod (k : Int) 1024 = ((k % 1024 : Nat) : Int) := rfl
  have r2 : Int.tdiv ((k % 1024 : Nat) : Int) 64 = ((k % 1024 / 64 : Nat) : Int) := rfl
  have r3 : Int.tmod (k : Int) 64 = ((k % 64 : Nat) : Int) := rfl
  go_enter Tryd.func28, Tryd.ntmps28
  go_wp2_with fail
  refine bodyPost_ret (v := .tuple #[.int .i64 ((k : Int) % 1024 / 64), .int .u64 (IntKind.u64.wrap (2 ^ (k % 64)))]) (by simp [results, Tryd.results28, go_sem]) rfl ⟨?_, rfl⟩
  have e : IntKind.u64.wrap (2 ^ (k % 64)) = ((2 ^ (k % 64) : Nat) : Int) := by
    have h : (2 : Nat) ^ (k % 64) < 2 ^ 64 := Nat.pow_lt_pow_right (by decide) (by omega)
    rw [p64] at h
    have hp : (2 : Int) ^ (k % 64) = ((2 ^ (k % 64) : Nat) : Int) := by simp
    rw [IntKind.wrap_u64, hp]
    generalize (2 : Nat) ^ (k % 64) = z at *
    omega
  rw [e]
  simp
theorem pow_lt (k : Nat) : 2 ^ (k % 64) < 18446744073709551616 := by
  rw [← p64]
  exact Nat.pow_lt_pow_right (by decide) (by omega)
theorem bit_and {x k : Nat} (hx : x < 18446744073709551616) : (bits .and .u64 (x : Int) ((2 ^ (k % 64) : Nat) : Int) != 0) = x.testBit (k % 64) := by
  rw [u64_and_nat _ _ hx (pow_lt k), nat_bit, Nat.testBit_eq_decide_div_mod_eq]
  have h : 0 < 2 ^ (k % 64) := Nat.two_pow_pos _
  generalize (2 : Nat) ^ (k % 64) = z at *
  have h2 : x / z % 2 < 2 := Nat.mod_lt _ (by decide)
  generalize x / z % 2 = y at *
  match y, h2 with
  | 0, _ => simp
  | 1, _ => simp; omega
theorem blv_cell {w V : World} {g : Nat} {f : Nat → Nat} {t : TypeId} {L : List (Nat × Obj)} (h : Mem w V ((g, .cells (blv f) t (0, 0)) :: L)) : ∀ i : Nat, i < 16 → V.cell? ⟨g, i, none⟩ = some (.int .u64 (f i : Nat)) := by
  intro i hi
  have := h.cell 0 rfl i
  rw [this]
  exact blv_at f i hi
set_option maxHeartbeats 4000000 in
theorem has_any (W : World) (f : Nat → Nat) (hf : ∀ i, i < 16 → f i < 18446744073709551616) (k : Nat) (hk : k < 65536) :
    Calls Tryd.prog 25 #[.agg (blv f), .int .u16 (k : Int)] W fun e W' => e = .returned (.bool ((f (k % 1024 / 64)).testBit (k % 64))) ∧ Below W.heap.size W W' := by
  have hj : k % 1024 / 64 < 16 := by omega
  have hb := bit_and (k := k) (hf _ hj)
  generalize (f (k % 1024 / 64)).testBit (k % 64) = D at *
  obtain ⟨g, hg⟩ : ∃ g, W.heap.size = g := ⟨_, rfl⟩
  have HM0 : Hid (Mem W (W.alloc (.cells (blv f) 67)) [(g, .cells (blv f) 67 (0, 0))]) := (Mem.nil W).push1 hg.symm
  have C := fun V => bitOf_any V k hk
  generalize k % 1024 / 64 = j at *
  generalize (2 : Nat) ^ (k % 64) = z at *
  go_enter Tryd.func25, Tryd.ntmps25
  go_upto_region 1 with fail
  refine wp_letter (fun X => Mem W X [(g, .cells (blv f) 67 (0, 0))]) (by exact HM0.out) ?_
  intro V0 hM0
  try simp only [hg]
  have q0 : V0.cell? ⟨g, (j : Int).toNat, none⟩ = some (.int .u64 (f j : Nat)) := by simpa using blv_cell hM0 j hj
  have q1 : V0.cell? ⟨g, j, none⟩ = some (.int .u64 (f j : Nat)) := blv_cell hM0 j hj
  have j0 : (j : Int) < 16 := by omega
  have HB : Hid (Below W.heap.size W V0) := hM0.below
  have C1 := C V0
  clear HM0 hM0 C
  go_wp2_with fail
  refine C1.mono ?_
  rintro e V1 ⟨rfl, rfl⟩
  clear C1
  go_wp2_with fail
  go_ret
  exact ⟨rfl, HB.out⟩
/-- A block with one port's bit turned. -/
def flp (f : Nat → Nat) (k : Nat) (i : Nat) : Nat := if i = k % 1024 / 64 then f i ^^^ 2 ^ (k % 64) else f i
theorem blv_set (f : Nat → Nat) : ∀ (j x : Nat), j < 16 → (blv f).setIfInBounds j (.int .u64 (x : Nat)) = blv (fun i => if i = j then x else f i) := by
  intro j x hj
  match j, hj with
  | 0, _ => rfl | 1, _ => rfl | 2, _ => rfl | 3, _ => rfl | 4, _ => rfl | 5, _ => rfl | 6, _ => rfl | 7, _ => rfl
  | 8, _ => rfl | 9, _ => rfl | 10, _ => rfl | 11, _ => rfl | 12, _ => rfl | 13, _ => rfl | 14, _ => rfl | 15, _ => rfl
  | i + 16, h => omega
set_option maxHeartbeats 4000000 in
theorem turnb_any {w W : World} {g : Nat} {f : Nat → Nat} {L : List (Nat × Obj)} (hM : Mem w W ((g, .cells (blv f) 67 (0, 0)) :: L)) (hf : ∀ i, i < 16 → f i < 18446744073709551616) (k : Nat) (hk : k < 65536) :
    Calls Tryd.prog 27 #[.pointer (some ⟨g, 0, none⟩), .int .u16 (k : Int)] W fun e W' => e = .returned (.tuple #[]) ∧ Mem w W' ((g, .cells (blv (flp f k)) 67 (0, 0)) :: L) := by
  have hj : k % 1024 / 64 < 16 := by omega
  have hx : bits .xor .u64 ((f (k % 1024 / 64) : Nat) : Int) ((2 ^ (k % 64) : Nat) : Int) = ((f (k % 1024 / 64) ^^^ 2 ^ (k % 64) : Nat) : Int) := u64_xor_nat _ _ (hf _ hj) (pow_lt k)
  have q0 : W.cell? ⟨g, ((k % 1024 / 64 : Nat) : Int).toNat, none⟩ = some (.int .u64 (f (k % 1024 / 64) : Nat)) := by rw [Int.toNat_natCast]; exact blv_cell hM _ hj
  have q1 : W.cell? ⟨g, k % 1024 / 64, none⟩ = some (.int .u64 (f (k % 1024 / 64) : Nat)) := blv_cell hM _ hj
  have HS : Hid (Mem w (W.setCell ⟨g, k % 1024 / 64, none⟩ (.int .u64 ((f (k % 1024 / 64) ^^^ 2 ^ (k % 64) : Nat) : Int))) ((g, .cells (blv (flp f k)) 67 (0, 0)) :: L)) := by
    have := hM.set 0 rfl (k % 1024 / 64) (.int .u64 ((f (k % 1024 / 64) ^^^ 2 ^ (k % 64) : Nat) : Int))
    rw [blv_set f _ _ hj] at this
    have e : (fun i => if i = k % 1024 / 64 then f (k % 1024 / 64) ^^^ 2 ^ (k % 64) else f i) = flp f k := by
      funext i
      unfold flp
      split
      · rename_i h; rw [h]
      · rfl
    rw [e] at this
    exact this
  have C := bitOf_any W k hk
  generalize flp f k = f' at *
  generalize f (k % 1024 / 64) ^^^ 2 ^ (k % 64) = y at *
  generalize hx0 : f (k % 1024 / 64) = x at *
  generalize k % 1024 / 64 = j at *
  generalize (2 : Nat) ^ (k % 64) = z at *
  have j0 : (j : Int) < 16 := by omega
  have q2 : W.frozen? ⟨g, j, none⟩ = false := hM.free 0 rfl _
  clear hM hx0
  go_enter Tryd.func27, Tryd.ntmps27
  go_wp2_with fail
  refine C.mono ?_
  rintro e V1 ⟨rfl, rfl⟩
  clear C
  go_wp2_with fail
  go_region
  all_goals
    go_wp2_with fail
    exact bodyPost_end (v := .tuple #[]) (by simp [results, Tryd.results27, go_sem]) rfl ⟨rfl, HS.out.drew⟩
end Po
end Go.Proofs.YtkbjiackjefkkaaDoor
