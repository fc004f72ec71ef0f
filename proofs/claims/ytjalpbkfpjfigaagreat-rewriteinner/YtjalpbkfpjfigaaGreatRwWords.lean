/-
  Package rewrite's words: word, long, putWord, headOf, isEcho, whatever slice they are handed.
-/
import Derived.Test.YtjalpbkfpjfigaaGreatRwMath
import Derived.Test.YtjalpbkfpjfigaaGreatIpSplit
namespace Go.Proofs.YtjalpbkfpjfigaaGreat
open Go.RowKit
open Sm
set_option linter.unusedVariables false
set_option maxRecDepth 20000

set_option maxHeartbeats 400000 in
theorem xword_cells {w : World} {b j m : Nat} (x y : Int) (c0 : w.cell? ⟨b, j, none⟩ = some (.int .u8 x)) (c1 : w.cell? ⟨b, j + 1, none⟩ = some (.int .u8 y)) (r0 : 0 ≤ x) (r1 : x ≤ 255) (r2 : 0 ≤ y) (r3 : y ≤ 255) (hm : 2 ≤ m) (c : Nat) :
    Calls Tryz.prog 93 #[.slice (some ⟨b, j, none⟩) m c] w fun e w' => e = .returned (.int .u16 (x * 256 + y)) ∧ ∃ q, w' = w.drewN q := by
  have hor := sm_word x y r0 r1 r2 r3
  have w0 := wrap16_small x r0 (by omega)
  have w1 := wrap16_small y r2 (by omega)
  have w2 := wrap16_small (x * 256) (by omega) (by omega)
  have i0 : 0 < m := by omega
  have i0' : (0 : Int) < m := by omega
  have i1 : 1 < m := by omega
  have i1' : (1 : Int) < m := by omega
  clear hm
  go_enter Tryz.func93, Tryz.ntmps93
  go_wp2
  go_quiet (fail)
  go_wp2
  go_ret
  exact ⟨rfl, _, rfl⟩
theorem xword_at {w : World} {b off : Nat} {l : List Int} (h : Row w (some ⟨b, off, none⟩) l) (j k : Nat) (hk : k = off + j) (hj : j + 1 < l.length) (X : Int) (hX : w16 l j = X) (m : Nat) (hm : 2 ≤ m) (c : Nat) :
    Calls Tryz.prog 93 #[.slice (some ⟨b, k, none⟩) m c] w fun e w' => e = .returned (.int .u16 X) ∧ ∃ q, w' = w.drewN q := by
  subst hk hX
  have b0 := h.bytes j
  have b1 := h.bytes (j + 1)
  exact xword_cells _ _ (h.cellAt j (by omega)) (by rw [Nat.add_assoc]; exact h.cellAt (j + 1) hj) b0.1 b0.2 b1.1 b1.2 hm c

set_option maxHeartbeats 1000000 in
theorem xlong_at {w : World} {b off : Nat} {l : List Int} (h : Row w (some ⟨b, off, none⟩) l) (j k : Nat) (hk : k = off + j) (hj : j + 3 < l.length) (X : Int) (hX : w32 l j = X) (m : Nat) (hm : 4 ≤ m) (c : Nat) (hc : m ≤ c) :
    Calls Tryz.prog 121 #[.slice (some ⟨b, k, none⟩) m c] w fun e w' => e = .returned (.int .u32 X) ∧ ∃ q, w' = w.drewN q := by
  have ra := w16_range h.bytes j
  have rb := w16_range h.bytes (j + 2)
  have c1 := fun W M C (hW : Row W (some ⟨b, off, none⟩) l) (hM : 2 ≤ M) => xword_at hW j k hk (by omega) _ rfl M hM C
  have c2 := fun W M C (hW : Row W (some ⟨b, off, none⟩) l) (hM : 2 ≤ M) => xword_at hW (j + 2) (k + 2) (by omega) (by omega) _ rfl M hM C
  have hor := sm_long _ _ ra.1 ra.2 rb.1 rb.2
  have w0 := wrap32_small (w16 l j) (by omega) (by omega)
  have w1 := wrap32_small (w16 l (j + 2)) (by omega) (by omega)
  have w2 := wrap32_small (w16 l j * 65536) (by omega) (by omega)
  have HE : Hid (w16 l j * 65536 + w16 l (j + 2) = X) := hX
  have hm2 : (2 : Int) ≤ m := by omega
  have hc2 : (2 : Int) ≤ c := by omega
  have hmc : (m : Int) ≤ c := by omega
  have hnc : ¬ c = 2 := by omega
  have HM : Hid (2 ≤ m ∧ 2 ≤ m - 2) := ⟨by omega, by omega⟩
  generalize w16 l j = X1 at *
  generalize w16 l (j + 2) = X2 at *
  have C1 : Hid _ := c1
  have C2 : Hid _ := c2
  clear c1 c2 hX ra rb hk hj hm hc
  go_enter Tryz.func121, Tryz.ntmps121
  go_wp2_with fail
  go_region_held3 (fun w' => Row w' (some ⟨b, off, none⟩) l) (repeat (first | assumption | refine row_drewN ?_ | refine row_drew ?_))
    (first
      | (go_at_call 93; with_reducible refine (C1.out _ _ _ (by assumption) HM.out.1).mono ?_; rintro e w5 ⟨rfl, q5, rfl⟩)
      | (go_at_call 93; with_reducible refine (C2.out _ _ _ (by assumption) HM.out.2).mono ?_; rintro e w6 ⟨rfl, q6, rfl⟩))
  all_goals
    go_wp2_with fail
    go_ret
    exact ⟨by rw [← HE.out] <;> rfl, _, rfl⟩

set_option maxHeartbeats 1000000 in
theorem xput_ok {W : World} {g j m : Nat} (z0 z1 : Int) (k0 : W.cell? ⟨g, j, none⟩ = some (.int .u8 z0)) (k1 : W.cell? ⟨g, j + 1, none⟩ = some (.int .u8 z1)) (kf : ∀ i, W.frozen? ⟨g, i, none⟩ = false) (hm : 2 ≤ m) (c : Nat) (x : Int) (r0 : 0 ≤ x) (r1 : x ≤ 65535) :
    Calls Tryz.prog 95 #[.slice (some ⟨g, j, none⟩) m c, .int .u16 x] W fun e w' => e = .returned (.tuple #[]) ∧ w' = (W.setCell ⟨g, j, none⟩ (.int .u8 (x / 256))).setCell ⟨g, j + 1, none⟩ (.int .u8 (x % 256)) := by
  have u1 : IntKind.u8.wrap (x / 256) = x / 256 := wrap8_small _ (by omega) (by omega)
  have u2 : IntKind.u8.wrap x = x % 256 := by simp [IntKind.wrap, IntKind.bits, IntKind.signed]
  have i0 : 0 < m := by omega
  have i0' : (0 : Int) < m := by omega
  have i1 : 1 < m := by omega
  have i1' : (1 : Int) < m := by omega
  clear hm
  go_enter Tryz.func95, Tryz.ntmps95
  go_wp2
  go_end0
  exact ⟨rfl, rfl⟩

set_option maxHeartbeats 400000 in
theorem xhead_any {w : World} {b off n c : Nat} {l : List Int} (h : Row w (some ⟨b, off, none⟩) l) (hn : l.length = n) (h1 : 0 < n) :
    Calls Tryz.prog 96 #[.slice (some ⟨b, off, none⟩) n c] w fun e w' => e = .returned (.int .i64 (hdl l : Nat)) ∧ w = w' := by
  have c0 : w.cell? ⟨b, off, none⟩ = some (.int .u8 (l.getD 0 0)) := h.cellAt 0 (by omega)
  have r := h.bytes 0
  have hand := sm_low4 (l.getD 0 0) r.1 r.2
  have HE : Hid (4 * (l.getD 0 0 % 16) = ((hdl l : Nat) : Int)) := by show _ = _; unfold hdl; omega
  have v3 := wrap64_small (l.getD 0 0 % 16) (by omega) (by omega)
  have v4 := wrap64_small (4 * (l.getD 0 0 % 16)) (by omega) (by omega)
  have i0' : (0 : Int) < n := by omega
  generalize ((hdl l : Nat) : Int) = H at *
  generalize l.getD 0 0 = x at *
  clear h hn
  go_enter Tryz.func96, Tryz.ntmps96
  go_wp2
  go_ret
  exact ⟨by rw [← HE.out] <;> rfl, rfl⟩

set_option maxHeartbeats 400000 in
theorem xecho_any {w : World} {b off n c : Nat} {l : List Int} (h : Row w (some ⟨b, off, none⟩) l) (hn : l.length = n) (h1 : 20 ≤ n) :
    Calls Tryz.prog 71 #[.slice (some ⟨b, off, none⟩) n c] w fun e w' => e = .returned (.bool (decide (l.getD 9 0 = 1))) ∧ w = w' := by
  have c0 : w.cell? ⟨b, off + 9, none⟩ = some (.int .u8 (l.getD 9 0)) := h.cellAt 9 (by omega)
  have i0' : (9 : Int) < n := by omega
  have i0 : 9 < n := by omega
  generalize l.getD 9 0 = x at *
  clear h hn h1
  go_enter Tryz.func71, Tryz.ntmps71
  go_wp2
  go_ret
  exact ⟨by simp <;> rfl, rfl⟩
end Go.Proofs.YtjalpbkfpjfigaaGreat
