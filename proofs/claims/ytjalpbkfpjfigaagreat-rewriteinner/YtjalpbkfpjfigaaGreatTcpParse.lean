/-
  What tcp.Parse answers where it refuses.
-/
import Derived.Test.YtjalpbkfpjfigaaGreatTcpWords
namespace Go.Proofs.YtjalpbkfpjfigaaGreat
open Go.RowKit
open Sm
set_option linter.unusedVariables false

set_option maxHeartbeats 400000 in
theorem tparse_short (a : Option Addr) (n cap : Nat) (w : World) (h : n < 20) :
    Calls Tryz.prog 77 #[.slice a n cap] w fun e w' => e = .returned (.tuple #[.agg tc0, .int .i64 20]) ∧ Below w.heap.size w w' := by
  have h' : (n : Int) < 20 := by omega
  go_enter Tryz.func77, Tryz.ntmps77
  go_wp2
  refine bodyPost_ret (v := .tuple #[.agg tc0, .int .i64 20]) (by simp [results, Tryz.results77, go_sem]) rfl ⟨rfl, ?_⟩
  exact (Below.refl _ _).alloc (Nat.le_refl _) _

set_option maxHeartbeats 1000000 in
theorem tparse_no {w : World} {b off n cap : Nat} (x k : Nat) (c12 : w.cell? ⟨b, off + 12, none⟩ = some (.int .u8 x)) (hx : x ≤ 255) (hk : x / 16 = k) (h20 : 20 ≤ n) (hnl : n ≤ 140737488351232) (E : Int) (hE : (k < 5 ∧ E = 21) ∨ (5 ≤ k ∧ n < 4 * k ∧ E = 20)) :
    Calls Tryz.prog 77 #[.slice (some ⟨b, off, none⟩) n cap] w fun e w' => e = .returned (.tuple #[.agg tc0, .int .i64 E]) ∧ Below w.heap.size w w' := by
  have h20' : (20 : Int) ≤ n := by omega
  have h12 : (12 : Int) < n := by omega
  have hb : b < w.heap.size := cell_lt c12
  have hM := (Mem.nil w).push w.heap.size (.cells tc0 tcT) rfl
  have c12' : (w.alloc (.cells tc0 tcT)).cell? ⟨b, off + 12, none⟩ = some (.int .u8 x) := (hM.old hb).trans c12
  have hdv : (x : Int) / 16 = k := by omega
  have w1 : IntKind.i64.wrap (k : Int) = k := wrap64_small _ (by omega) (by omega)
  have w2 : IntKind.i64.wrap (4 * (k : Int)) = 4 * (k : Int) := wrap64_small _ (by omega) (by omega)
  clear hM c12
  rcases hE with ⟨h1, rfl⟩ | ⟨h1, h2, rfl⟩
  · have h1' : 4 * (k : Int) < 20 := by omega
    go_enter Tryz.func77, Tryz.ntmps77
    go_wp2_with fail
    refine bodyPost_ret (v := .tuple #[.agg tc0, .int .i64 21]) (by simp [results, Tryz.results77, go_sem]) rfl ⟨rfl, ?_⟩
    repeat (refine below_set ?_ (Nat.le_refl _))
    exact (Below.refl _ _).alloc (Nat.le_refl _) _
  · have h1' : (20 : Int) ≤ 4 * (k : Int) := by omega
    have h2' : (n : Int) < 4 * (k : Int) := by omega
    go_enter Tryz.func77, Tryz.ntmps77
    go_wp2_with fail
    refine bodyPost_ret (v := .tuple #[.agg tc0, .int .i64 20]) (by simp [results, Tryz.results77, go_sem]) rfl ⟨rfl, ?_⟩
    repeat (refine below_set ?_ (Nat.le_refl _))
    exact (Below.refl _ _).alloc (Nat.le_refl _) _
end Go.Proofs.YtjalpbkfpjfigaaGreat
