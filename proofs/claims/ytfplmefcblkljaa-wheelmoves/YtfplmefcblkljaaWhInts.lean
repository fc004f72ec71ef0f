/-
  Two slices of numbers held against each other.
-/
import Derived.Test.YtfplmefcblkljaaWhMath
import Derived.BigQuiet
namespace Go.Proofs.Ytfplmefcblkljaa
open Go.RowKit
open Sm
open Po
open Wh
set_option linter.unusedVariables false
set_option linter.unusedSimpArgs false
set_option maxRecDepth 20000

namespace Wh
def ix (l : List Int) : List (List Value) := l.map (fun x => [.int .i64 x])
theorem ix_len (l : List Int) : (ix l).length = l.length := by simp [ix]
theorem ix_ne (l : List Int) : ∀ x ∈ ix l, x ≠ [] := by
  intro x hx
  obtain ⟨y, -, rfl⟩ := List.mem_map.1 hx
  simp
theorem ints_at {V : World} {v : Value} {l : List Int} (h : Rw V 1 v (ix l)) : ∃ a c, v = .slice a l.length c ∧ l.length ≤ c ∧ c ≤ 9223372036854775807 ∧ ∀ i (hi : i < l.length), ∃ b off, a = some ⟨b, off, none⟩ ∧ V.cell? ⟨b, off + i, none⟩ = some (.int .i64 l[i]) := by
  obtain ⟨a, c, rfl, h1, h2, -, h4⟩ := h
  rw [ix_len] at h1 h4 ⊢
  refine ⟨a, c, rfl, h1, h2, fun i hi => ?_⟩
  rcases h4 with e | ⟨b, off, rfl, hc⟩
  · have : l = [] := by simpa [ix] using e
    subst this
    cases hi
  · have e : (ix l).getD i [] = [.int .i64 l[i]] := by simp [ix, List.getD, List.getElem?_eq_getElem hi]
    have k := hc i hi
    rw [e] at k
    have k0 := k 0 _ rfl
    rw [Nat.add_zero, Nat.mul_one] at k0
    exact ⟨b, off, rfl, k0⟩
theorem take_eq_succ {l l' : List Int} {i : Nat} (h1 : i < l.length) (h2 : i < l'.length) (h : l.take i = l'.take i) (e : l[i] = l'[i]) : l.take (i + 1) = l'.take (i + 1) := by
  rw [List.take_add_one, List.take_add_one, h, List.getElem?_eq_getElem h1, List.getElem?_eq_getElem h2, e]
set_option maxHeartbeats 4000000 in
theorem ints_any {W : World} {va vb : Value} {l l' : List Int} (ha : Rw W 1 va (ix l)) (hb : Rw W 1 vb (ix l')) :
    Calls Try.prog 13 #[va, vb] W fun e W' => e = .returned (.bool (decide (l = l'))) ∧ Below W.heap.size W W' := by
  obtain ⟨a, c, rfl, h1, h2, hx⟩ := ints_at ha
  obtain ⟨b, d, rfl, h3, h4, hy⟩ := ints_at hb
  obtain ⟨R, hR⟩ : ∃ R, decide (l = l') = R := ⟨_, rfl⟩
  rw [hR]
  have HR : Hid (decide (l = l') = R) := hR
  clear hR ha hb
  by_cases hl : l.length = l'.length
  · have HX : Hid (∀ V, Below W.heap.size W V → ∀ i (hi : i < l.length) (hi' : i < l'.length), ∃ b1 off b2 off2, a = some ⟨b1, off, none⟩ ∧ b = some ⟨b2, off2, none⟩ ∧ V.cell? ⟨b1, off + i, none⟩ = some (.int .i64 l[i]) ∧ V.cell? ⟨b2, off2 + i, none⟩ = some (.int .i64 l'[i])) := fun V hV i hi hi' => by
      obtain ⟨b1, off, e1, q1⟩ := hx i hi
      obtain ⟨b2, off2, e2, q2⟩ := hy i hi'
      refine ⟨b1, off, b2, off2, e1, e2, ?_, ?_⟩
      · rw [hV.cell (p := ⟨b1, off + i, none⟩) (cell_lt q1)]; exact q1
      · rw [hV.cell (p := ⟨b2, off2 + i, none⟩) (cell_lt q2)]; exact q2
    clear hx hy
    obtain ⟨n, hn⟩ : ∃ n, l.length = n := ⟨_, rfl⟩
    have hn' : l'.length = n := by omega
    have HN : Hid (l.length = n ∧ l'.length = n) := ⟨hn, hn'⟩
    rw [hn] at h1
    rw [hn'] at h3
    rw [hn, hn']
    have hnn : ((n : Int) != (n : Int)) = false := by simp
    clear hl hn hn'
    go_enter Try.func13, Try.ntmps13
    go_wp2_with fail
    go_loopw [5] (fun u5 w' => ∃ i : Nat, i ≤ n ∧ u5 = .int .i64 i ∧ Hid (Below W.heap.size W w' ∧ l.take i = l'.take i)) (fun u5 w' => n - (intOf u5).toNat)
    case atStart => exact ⟨0, Nat.zero_le _, rfl, Below.refl _ _, rfl⟩
    case round =>
      obtain ⟨i, hi, rfl, HI⟩ := hrel
      by_cases hlt : i < n
      · have k1 : (i : Int) < n := by omega
        have i1 : i < l.length := by rw [HN.out.1]; exact hlt
        have i2 : i < l'.length := by rw [HN.out.2]; exact hlt
        obtain ⟨b1, off, b2, off2, rfl, rfl, q1, q2⟩ := HX.out wr HI.out.1 i i1 i2
        have HT : Hid (l[i] = l'[i] → l.take (i + 1) = l'.take (i + 1)) := fun e => take_eq_succ i1 i2 HI.out.2 e
        have HF : Hid (l[i] ≠ l'[i] → R = false) := fun e => by
          rw [← HR.out]
          exact decide_eq_false fun h => e (by subst h; rfl)
        have HB : Hid (∀ n, Below W.heap.size W (wr.drewN n)) := fun n => below_drewN HI.out.1 n
        clear HI HX
        generalize l[i] = x at *
        generalize l'[i] = y at *
        clear i1 i2
        by_cases e : x = y
        · have hq : (x != y) = false := by simpa using e
          have HT2 : Hid (l.take (i + 1) = l'.take (i + 1)) := HT.out e
          clear HT HF e
          go_wp2_with fail
          go_quiet (fail)
          go_wp2_with fail
          go_roundw
          case rel => exact ⟨i + 1, by omega, by go_num, HB.out _, HT2.out⟩
          case measure => simp [intOf]; omega
        · have hq : (x != y) = true := by simpa using e
          have HF2 : Hid (R = false) := HF.out e
          clear HT HF e
          go_wp2_with fail
          go_quiet (fail)
          go_wp2_with fail
          go_ret
          exact ⟨by rw [HF2.out]; rfl, HB.out _⟩
      · obtain rfl : i = n := by omega
        have k1 : ¬ ((i : Int) < i) := by omega
        have HT : Hid (R = true) := by
          show R = true
          rw [← HR.out]
          have h := HI.out.2
          have e1 : l.take i = l := List.take_of_length_le (by rw [HN.out.1]; exact Nat.le_refl _)
          have e2 : l'.take i = l' := List.take_of_length_le (by rw [HN.out.2]; exact Nat.le_refl _)
          rw [e1, e2] at h
          exact decide_eq_true h
        have HB : Hid (Below W.heap.size W wr) := HI.out.1
        clear HI HX
        go_wp2_with fail
        go_ret
        exact ⟨by rw [HT.out]; rfl, HB.out⟩
  · have HF : Hid (R = false) := by
      show R = false
      rw [← HR.out]
      exact decide_eq_false fun h => hl (by rw [h])
    have hnn : ((l.length : Int) != (l'.length : Int)) = true := by simp; omega
    clear hx hy
    go_enter Try.func13, Try.ntmps13
    go_wp2_with fail
    go_ret
    exact ⟨by rw [HF.out]; rfl, Below.refl _ _⟩
end Wh
end Go.Proofs.Ytfplmefcblkljaa
