/-
  One that is set again is due at its new tick alone.
-/
import Derived.Test.YtfplmefcblkljaaWhFace
import Derived.LoopN
namespace Go.Proofs.Ytfplmefcblkljaa
open Go.RowKit
open Sm
open Po
open Wh
set_option linter.unusedVariables false
set_option linter.unusedSimpArgs false
set_option maxRecDepth 20000

namespace Wh
section
variable {PS : List Du → Int → Nat → List (Nat × Obj) → Prop}
/-- What is due behind i sets of one number. -/
def moA (id : Int) (ks : Nat → Int) (i : Nat) : List Du := if i = 0 then [] else [(id, 10 + ks (i - 1))]
theorem moA_set (id : Int) (ks : Nat → Int) (i : Nat) : wset (moA id ks i) id (10 + ks i) = moA id ks (i + 1) := by
  unfold moA
  by_cases h : i = 0
  · subst h; simp [wset, wdel, wins]
  · simp [h, wset, wdel, wins]
def moB (id T k : Int) : List Du := if k ≤ T then [(id, T)] else []
theorem moB_tick (id T k : Int) (h1 : 10 ≤ k) (h2 : k ≤ 271) : tout (k - 1) (moB id T k) = (if k = T then [id] else []) ∧ trest (k - 1) (moB id T k) = moB id T (k + 1) ∧ tnow (k - 1) = k := by
  have e : k - 1 < 2147483647 := by omega
  unfold tout trest tnow moB
  rw [if_pos e, if_pos e, if_pos e, show k - 1 + 1 = k by omega]
  refine ⟨?_, ?_, rfl⟩
  · by_cases h : k ≤ T
    · rw [if_pos h]
      by_cases h3 : k = T
      · rw [if_pos h3]; simp [wout, h3]
      · rw [if_neg h3]
        have : ¬ T ≤ k := by omega
        simp [wout, this]
    · rw [if_neg h, if_neg (by omega)]; rfl
  · by_cases h : k ≤ T
    · rw [if_pos h]
      by_cases h3 : k = T
      · rw [if_neg (by omega)]; simp [wrest, h3]
      · rw [if_pos (by omega)]
        have : ¬ T ≤ k := by omega
        simp [wrest, this]
    · rw [if_neg h, if_neg (by omega)]; rfl
theorem mem_left {w V : World} {A B : List (Nat × Obj)} (h : Mem w V (A ++ B)) : Mem w V A :=
  ⟨h.below, fun q hq => h.low q (List.mem_append_left _ hq), fun q hq => h.at_ q (List.mem_append_left _ hq), (List.nodup_append.mp (by have := h.apart; rw [List.map_append] at this; exact this)).1⟩
theorem moB_le (id T k : Int) : (moB id T k).length ≤ 1000 := by
  unfold moB
  split <;> simp
set_option maxHeartbeats 8000000 in
theorem moves18_law (W : World) (hc : WC W PS) (id : Int) (hid : -9223372036854775808 ≤ id ∧ id ≤ 9223372036854775807) (a : Option Addr) (n cap : Nat) (ks : Nat → Int)
    (hks : ∀ i, i < n → ∃ b off, a = some ⟨b, off, none⟩ ∧ W.cell? ⟨b, off + i, none⟩ = some (.int .u8 (ks i)) ∧ 0 ≤ ks i ∧ ks i ≤ 255) :
    Calls Try.prog 6 #[.int .i64 id, .slice a n cap] W fun e W' => e = .returned (.bool true) ∧ Below W.heap.size W W' := by
  have K1 := known18_any W hc
  have HC : Hid (WC W PS) := hc
  have HK : Hid (∀ V, Below W.heap.size W V → ∀ i, i < n → ∃ b off, a = some ⟨b, off, none⟩ ∧ V.cell? ⟨b, off + i, none⟩ = some (.int .u8 (ks i)) ∧ 0 ≤ ks i ∧ ks i ≤ 255) := fun V hV i hi => by
    obtain ⟨b, off, e, q, r⟩ := hks i hi
    exact ⟨b, off, e, by rw [hV.cell (p := ⟨b, off + i, none⟩) (cell_lt q)]; exact q, r⟩
  clear hc hks
  go_enter Try.func6, Try.ntmps6
  go_wp2_with fail
  refine K1.mono ?_
  rintro e W1 ⟨rfl, hb1⟩
  have HB1 : Hid (Below W.heap.size W W1) := hb1
  clear K1 hb1
  by_cases h0 : n = 0
  · subst h0
    go_wp2_with fail
    go_ret
    exact ⟨rfl, HB1.out⟩
  by_cases h40 : 40 < n
  · have e0 : ((n : Int) == 0) = false := by simp; omega
    have e1 : decide ((40 : Int) < (n : Int)) = true := decide_eq_true (by omega)
    go_wp2_with fail
    go_ret
    exact ⟨rfl, HB1.out⟩
  have e0 : ((n : Int) == 0) = false := by simp; omega
  have e1 : decide ((40 : Int) < (n : Int)) = false := decide_eq_false (by omega)
  have C2 := HC.out.new W1 HB1.out 9 (by omega)
  go_wp2_with fail
  refine C2.mono ?_
  rintro e W2 ⟨p, B, rfl, h2, m2⟩
  have HS0 : Hid (∃ B, PS (moA id ks 0) 9 p B ∧ Mem W W2 (B ++ [])) := ⟨B, h2, by rw [List.append_nil]; exact (Mem.nil W).after HB1.out |>.join m2 |> fun h => by simpa using h⟩
  clear C2 h2 m2 HB1
  go_wp2_with fail
  go_loopw [6] (fun u6 w' => ∃ i : Nat, i ≤ n ∧ u6 = .int .i64 i ∧ Hid (∃ B, PS (moA id ks i) 9 p B ∧ Mem W w' (B ++ []))) (fun u6 w' => n - (intOf u6).toNat)
  case atStart => exact ⟨0, Nat.zero_le _, rfl, HS0.out⟩
  case round =>
    obtain ⟨i, hi, rfl, HS⟩ := hrel
    clear HS0
    by_cases hlt : i < n
    · have k1 : (i : Int) < n := by omega
      obtain ⟨B, h3, m3⟩ := HS.out
      obtain ⟨b, off, rfl, q0, q1⟩ := HK.out wr m3.below i hlt
      have w1 : IntKind.u32.wrap (10 + ks i) = 10 + ks i := by rw [IntKind.wrap_u32]; omega
      have C3 := HC.out.set h3 m3 (by unfold moA; split <;> simp) id (10 + ks i) hid (by omega)
      rw [moA_set] at C3
      clear HS h3 m3 HK
      generalize ks i = x at *
      go_wp2_with fail
      refine C3.mono ?_
      rintro e W3 ⟨rfl, B3, h4, m4⟩
      have HS : Hid (∃ B, PS (moA id ks (i + 1)) 9 p B ∧ Mem W W3 (B ++ [])) := ⟨B3, h4, m4⟩
      clear C3 h4 m4
      go_wp2_with fail
      go_roundw
      case rel => exact ⟨i + 1, by omega, by go_num, HS.out⟩
      case measure => simp [intOf]; omega
    · obtain rfl : i = n := by omega
      have k1 : ¬ ((i : Int) < i) := by omega
      obtain ⟨B, h3, m3⟩ := HS.out
      obtain ⟨T, hT⟩ : ∃ T, 10 + ks (i - 1) = T := ⟨_, rfl⟩
      have eA : moA id ks i = [(id, T)] := by unfold moA; rw [if_neg h0, hT]
      rw [eA] at h3
      obtain ⟨b, off, rfl, q0, q1, q2⟩ := HK.out W (Below.refl _ _) (i - 1) (by omega)
      have hT2 : 10 ≤ T ∧ T ≤ 265 := by omega
      have HQ0 : Hid (∀ V, Below W.heap.size W V → V.cell? ⟨b, off + (i - 1), none⟩ = some (.int .u8 (T - 10))) := fun V hV => by
        rw [hV.cell (p := ⟨b, off + (i - 1), none⟩) (cell_lt q0), q0, ← hT]
        rw [show 10 + ks (i - 1) - 10 = ks (i - 1) by omega]
      have C4 := HC.out.count h3 m3 (by simp)
      simp only [List.length_cons, List.length_nil] at C4
      clear HS h3 m3 eA hT q0 q1 q2 HK
      go_wp2_with fail
      refine C4.mono ?_
      rintro e W4 ⟨rfl, B4, h5, m5⟩
      have HS1 : Hid (∃ B, PS (moB id T 10) (10 - 1) p B ∧ Mem W W4 (B ++ [])) := ⟨B4, by unfold moB; rw [if_pos hT2.1]; exact h5, m5⟩
      clear C4 h5 m5
      go_wp2_with fail
      go_loopw [7] (fun u7 w' => ∃ k : Int, (10 ≤ k ∧ k ≤ 271) ∧ u7 = .int .u32 k ∧ Hid (∃ B, PS (moB id T k) (k - 1) p B ∧ Mem W w' (B ++ []))) (fun u7 w' => 271 - (intOf u7).toNat)
      case atStart => exact ⟨10, by omega, rfl, HS1.out⟩
      case round =>
        obtain ⟨k, hk, rfl, HS⟩ := hrel
        clear HS1
        by_cases hkt : k ≤ 270
        · obtain ⟨B, h6, m6⟩ := HS.out
          obtain ⟨t1, t2, t3⟩ := moB_tick id T k hk.1 hk.2
          have C5 := HC.out.tick h6 m6 (moB_le _ _ _) (by omega)
          rw [t1, t2, t3] at C5
          have w2 : IntKind.u32.wrap (k + 1) = k + 1 := by rw [IntKind.wrap_u32]; omega
          clear HS h6 m6 t1 t2 t3
          go_wp2_with fail
          refine C5.mono ?_
          rintro e V ⟨v, D, B5, rfl, hv, h7, m7⟩
          have HS : Hid (∀ n, ∃ B, PS (moB id T (k + 1)) (k + 1 - 1) p B ∧ Mem W (V.drewN n) (B ++ [])) := fun n => by
            refine ⟨B5, by rw [show k + 1 - 1 = k by omega]; exact h7, ?_⟩
            exact mem_left ((m7.perm List.perm_append_comm).drewN n)
          have q0 := HQ0.out V m7.below
          have w3 : IntKind.u32.wrap (10 + (T - 10)) = T := by rw [IntKind.wrap_u32]; omega
          have w4 : IntKind.i64.wrap ((i : Int) - 1) = ((i - 1 : Nat) : Int) := by rw [IntKind.wrap_i64]; omega
          have k5 : ((i - 1 : Nat) : Int) < (i : Int) := by omega
          obtain ⟨va, vc, rfl, hvc, hvc2, hve⟩ := ints_at (hv _ _ _ m7)
          clear C5 h7 m7 hv
          by_cases hkT : k = T
          · rw [if_pos hkT] at *
            obtain ⟨b2, off2, rfl, q5⟩ := hve 0 (by simp)
            have hkb : (k == T) = true := by simpa using hkT
            have hid2 : (id == id) = true := by simp
            simp only [List.getElem_cons_zero, Nat.add_zero] at q5
            simp only [List.length_cons, List.length_nil] at hvc ⊢
            clear hve
            go_wp2_with fail
            go_quiet (fail)
            go_wp2_with fail
            go_roundw
            case rel => exact ⟨k + 1, by omega, by go_num, HS.out _⟩
            case measure => simp [intOf]; omega
          · rw [if_neg hkT] at *
            have hkb : (k == T) = false := by simpa using hkT
            simp only [List.length_nil] at hvc ⊢
            clear hve
            go_wp2_with fail
            go_quiet (fail)
            go_wp2_with fail
            go_roundw
            case rel => exact ⟨k + 1, by omega, by go_num, HS.out _⟩
            case measure => simp [intOf]; omega
        · obtain rfl : k = 271 := by omega
          obtain ⟨B, h6, m6⟩ := HS.out
          have eB : moB id T 271 = [] := by unfold moB; rw [if_neg (by omega)]
          rw [eB] at h6
          have C5 := HC.out.count h6 m6 (by simp)
          simp only [List.length_nil, Int.natCast_zero] at C5
          clear HS h6 m6
          go_wp2_with fail
          refine C5.mono ?_
          rintro e V ⟨rfl, B6, h7, m7⟩
          have HB : Hid (Below W.heap.size W V) := m7.below
          clear C5 h7 m7
          go_wp2_with fail
          go_ret
          exact ⟨rfl, HB.out⟩
end
end Wh
end Go.Proofs.Ytfplmefcblkljaa
