/-
  In any number of ticks no more is taken than the burst and the rate for each of them.
-/
import Derived.Test.YteojfacalkklfaaLiKnown
namespace Go.Proofs.Yteojfacalkklfaa
open Go.RowKit
open Sm
open Li
set_option linter.unusedVariables false
set_option linter.unusedSimpArgs false
set_option maxRecDepth 20000

namespace Li
theorem wrap_u32n {x : Int} (h0 : 0 ≤ x) (h1 : x ≤ 4294967295) : IntKind.u32.wrap x = x := by
  rw [IntKind.wrap_u32]; omega
theorem and1_u32 (s : Int) (h : U s) : bits .and .u32 s 1 = s % 2 := bits_mask .u32 32 (by decide) (fun n h0 h1 => wrap_u32n h0 (by omega)) 1 (by decide) s h.1 (by have := h.2; omega)
theorem tr_le (t : Nat) (r : Int) (hr : 0 ≤ r ∧ r ≤ 4294967295) (ht : t ≤ 100) : 0 ≤ (t : Int) * r ∧ (t : Int) * r ≤ 429496729500 := by
  have h1 : 0 ≤ (t : Int) * r := Int.mul_nonneg (by omega) hr.1
  have h2 : (t : Int) * r ≤ 100 * r := Int.mul_le_mul_of_nonneg_right (by omega) hr.1
  exact ⟨h1, by omega⟩
/-- What is taken: k behind t ticks, l left. -/
structure Tk (r b : Int) (i t : Nat) (k l : Int) : Prop where
  ticks : t ≤ i
  low : 0 ≤ k
  high : k ≤ i * 4294967295
  lev : 0 ≤ l ∧ l ≤ b
  sum : k + l ≤ b + t * r
theorem Tk.start {r b : Int} (hb : U b) : Tk r b 0 0 0 b := ⟨Nat.le_refl _, by omega, by omega, by unfold U at hb; omega, by simp⟩
theorem Tk.tick {r b : Int} {i t : Nat} {k l : Int} (h : Tk r b i t k l) (hr : U r) (hb : U b) : Tk r b (i + 1) (t + 1) k (tik r b l) := by
  obtain ⟨h1, h2, h3, h4, h5⟩ := h
  refine ⟨by omega, h2, by omega, tik_in hr hb h4, ?_⟩
  have e : ((t + 1 : Nat) : Int) * r = (t : Int) * r + r := by rw [Int.natCast_add, Int.add_mul]; simp
  rw [e]
  generalize (t : Int) * r = q at *
  unfold tik
  split <;> omega
theorem Tk.take {r b : Int} {i t : Nat} {k l n : Int} (h : Tk r b i t k l) (hn : U n) (hle : n ≤ l) : Tk r b (i + 1) t (k + n) (lef l n) := by
  obtain ⟨h1, h2, h3, h4, h5⟩ := h
  unfold U at hn
  unfold lef
  rw [if_pos hle]
  have h6 : k + n + (l - n) ≤ b + (t : Int) * r := by rw [show k + n + (l - n) = k + l by omega]; exact h5
  exact ⟨by omega, by omega, by omega, by omega, h6⟩
theorem Tk.none {r b : Int} {i t : Nat} {k l n : Int} (h : Tk r b i t k l) (hle : ¬ n ≤ l) : Tk r b (i + 1) t k (lef l n) := by
  obtain ⟨h1, h2, h3, h4, h5⟩ := h
  unfold lef
  rw [if_neg hle]
  exact ⟨by omega, by omega, by omega, h4, h5⟩
set_option maxHeartbeats 8000000 in
theorem bounds20_law (W : World) (r b : Int) (hr : 0 ≤ r ∧ r ≤ 4294967295) (hb : 0 ≤ b ∧ b ≤ 4294967295) (a : Option Addr) (n cap : Nat) (ks : Nat → Int)
    (hks : ∀ i, i < n → ∃ b off, a = some ⟨b, off, none⟩ ∧ W.cell? ⟨b, off + i, none⟩ = some (.int .u32 (ks i)) ∧ 0 ≤ ks i ∧ ks i ≤ 4294967295) :
    Calls Try.prog 4 #[.int .u32 r, .int .u32 b, .slice a n cap] W fun e W' => e = .returned (.bool true) ∧ Below W.heap.size W W' := by
  have K1 := known20_any W
  have HK : Hid (∀ V, Below W.heap.size W V → ∀ i, i < n → ∃ b off, a = some ⟨b, off, none⟩ ∧ V.cell? ⟨b, off + i, none⟩ = some (.int .u32 (ks i)) ∧ 0 ≤ ks i ∧ ks i ≤ 4294967295) := fun V hV i hi => by
    obtain ⟨b, off, e, q, r⟩ := hks i hi
    exact ⟨b, off, e, by rw [hV.cell (p := ⟨b, off + i, none⟩) (cell_lt q)]; exact q, r⟩
  have hrU : U r := hr
  have hbU : U b := hb
  clear hks
  go_enter Try.func4, Try.ntmps4
  go_wp2_with fail
  refine K1.mono ?_
  rintro e W1 ⟨rfl, hb1⟩
  have HB1 : Hid (Below W.heap.size W W1) := hb1
  clear K1 hb1
  by_cases h100 : 100 < n
  · have e1 : (100 : Int) < (n : Int) := by omega
    go_wp2_with fail
    go_ret
    exact ⟨rfl, HB1.out⟩
  have e1 : ¬ ((100 : Int) < (n : Int)) := by omega
  have C1 := new_any r b W1
  go_wp2_with fail
  refine C1.mono ?_
  rintro e W2 ⟨p, rfl, m2⟩
  have hm2 : Mem W W2 [Bk 43 p r b b] := by simpa using ((Mem.nil W).after HB1.out).join m2
  have HS0 : Hid (Mem W W2 [Bk 43 p r b b]) := hm2
  clear C1 m2 hm2 HB1
  have vr : IntKind.u64.wrap r = r := by rw [IntKind.wrap_u64]; omega
  have vb : IntKind.u64.wrap b = b := by rw [IntKind.wrap_u64]; omega
  go_wp2_with fail
  go_loopw [8, 9, 10] (fun u8 u9 u10 w' => ∃ (i t : Nat) (k l : Int), i ≤ n ∧ u8 = .int .u64 k ∧ u9 = .int .u64 t ∧ u10 = .int .i64 i ∧ Hid (Tk r b i t k l ∧ Mem W w' [Bk 43 p r b l])) (fun u8 u9 u10 w' => n - (intOf u10).toNat)
  case atStart => exact ⟨0, 0, 0, b, Nat.zero_le _, rfl, rfl, rfl, Tk.start hbU, HS0.out⟩
  case round =>
    obtain ⟨i, t, k, l, hi, rfl, rfl, rfl, HS⟩ := hrel
    clear HS0
    by_cases hlt : i < n
    · have k1 : (i : Int) < n := by omega
      obtain ⟨hT, hM⟩ := HS.out
      obtain ⟨bl, off, rfl, q0, q1⟩ := HK.out wr hM.below i hlt
      have hxU : U (ks i) := q1
      have hnU : U (ks i / 2) := by unfold U at *; omega
      have a1 := and1_u32 (ks i) hxU
      have hT0 := hT.high
      have hT1 := hT.ticks
      have hT2 := hT.low
      have wt : IntKind.u64.wrap ((t : Int) + 1) = ((t + 1 : Nat) : Int) := by rw [IntKind.wrap_u64]; omega
      by_cases hev : ks i % 2 = 0
      · have g1 : (ks i % 2 == 0) = true := by simpa using hev
        have C2 := tick_any hM hrU hbU hT.lev
        have HT : Hid (Tk r b (i + 1) (t + 1) k (tik r b l)) := hT.tick hrU hbU
        clear HS hT hM HK
        generalize ks i = x at *
        go_wp2_with fail
        refine C2.mono ?_
        rintro e W3 ⟨rfl, m3⟩
        have HS : Hid (Tk r b (i + 1) (t + 1) k (tik r b l) ∧ Mem W W3 [Bk 43 p r b (tik r b l)]) := ⟨HT.out, m3⟩
        clear C2 m3 HT q0
        go_wp2_with fail
        go_roundw
        case rel => exact ⟨i + 1, t + 1, k, _, by omega, by first | rfl | trivial, by first | rfl | go_num, by go_num, HS.out⟩
        case measure => simp [intOf]; omega
      · have g1 : (ks i % 2 == 0) = false := by simpa using hev
        have C2 := take_any hM (l := l) (by have := hT.lev; unfold U; omega) (ks i / 2) hnU
        have wn : IntKind.u64.wrap (ks i / 2) = ks i / 2 := by unfold U at hnU; rw [IntKind.wrap_u64]; omega
        have wk : IntKind.u64.wrap (k + ks i / 2) = k + ks i / 2 := by unfold U at hnU; rw [IntKind.wrap_u64]; omega
        have htr := tr_le t r hr (by omega)
        have wm : IntKind.u64.wrap ((t : Int) * r) = (t : Int) * r := by rw [IntKind.wrap_u64]; omega
        have ws : IntKind.u64.wrap (b + (t : Int) * r) = b + (t : Int) * r := by rw [IntKind.wrap_u64]; omega
        have HT : Hid (Tk r b i t k l) := hT
        clear HS hT hM HK
        generalize hy : ks i / 2 = y at *
        generalize ks i = x at *
        by_cases hle : y ≤ l
        · rw [decide_eq_true hle] at C2
          have HT2 : Hid (Tk r b (i + 1) t (k + y) (lef l y)) := HT.out.take hnU hle
          have hs := HT2.out.sum
          have hlv := HT2.out.lev
          have g2 : ¬ (b + (t : Int) * r < k + y) := by omega
          have g3 : ¬ (b < lef l y) := by omega
          clear HT
          generalize lef l y = l' at *
          generalize hky : k + y = k' at *
          generalize hq : (t : Int) * r = tr at *
          go_wp2_with fail
          refine C2.mono ?_
          rintro e W3 ⟨rfl, m3⟩
          have C3 := level_any m3
          have HS : Hid (Tk r b (i + 1) t k' l' ∧ Mem W W3 [Bk 43 p r b l']) := ⟨HT2.out, m3⟩
          clear C2 m3 HT2 q0
          go_wp2_with fail
          refine C3.mono ?_
          rintro e W4 ⟨rfl, rfl⟩
          clear C3
          go_wp2_with fail
          go_roundw
          case rel => exact ⟨i + 1, t, k', l', by omega, by first | rfl | trivial, by first | rfl | trivial, by go_num, HS.out⟩
          case measure => simp [intOf]; omega
        · rw [decide_eq_false hle] at C2
          have HT2 : Hid (Tk r b (i + 1) t k (lef l y)) := HT.out.none hle
          have hs := HT2.out.sum
          have hlv := HT2.out.lev
          have g2 : ¬ (b + (t : Int) * r < k) := by omega
          have g3 : ¬ (b < lef l y) := by omega
          clear HT
          generalize lef l y = l' at *
          generalize hq : (t : Int) * r = tr at *
          go_wp2_with fail
          refine C2.mono ?_
          rintro e W3 ⟨rfl, m3⟩
          have C3 := level_any m3
          have HS : Hid (Tk r b (i + 1) t k l' ∧ Mem W W3 [Bk 43 p r b l']) := ⟨HT2.out, m3⟩
          clear C2 m3 HT2 q0
          go_wp2_with fail
          refine C3.mono ?_
          rintro e W4 ⟨rfl, rfl⟩
          clear C3
          go_wp2_with fail
          go_roundw
          case rel => exact ⟨i + 1, t, k, l', by omega, by first | rfl | trivial, by first | rfl | trivial, by go_num, HS.out⟩
          case measure => simp [intOf]; omega
    · obtain rfl : i = n := by omega
      have k1 : ¬ ((i : Int) < i) := by omega
      have HB : Hid (Below W.heap.size W wr) := HS.out.2.below
      clear HS HK
      go_wp2_with fail
      go_ret
      exact ⟨rfl, HB.out⟩
end Li
end Go.Proofs.Yteojfacalkklfaa
