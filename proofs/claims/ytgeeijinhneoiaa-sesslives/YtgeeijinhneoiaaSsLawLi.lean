/-
  Sessions: SessLives.
-/
import Derived.Test.YtgeeijinhneoiaaSsLawSt
namespace Go.Proofs.Ytgeeijinhneoiaa
open Go.RowKit
open Sm
open Po
open Wh
set_option linter.unusedVariables false
set_option linter.unusedSimpArgs false
set_option maxRecDepth 20000

namespace Ss
theorem i64_low_all : ∀ n : Fin 16, bits .and .i64 (n.val : Int) 4 = (n.val : Int) / 4 % 2 * 4 ∧ bits .and .i64 (n.val : Int) 8 = (n.val : Int) / 8 % 2 * 8 := by decide +kernel
theorem i64_low (x : Int) (h : 0 ≤ x ∧ x ≤ 15) : bits .and .i64 x 4 = x / 4 % 2 * 4 ∧ bits .and .i64 x 8 = x / 8 % 2 * 8 := by
  have := i64_low_all ⟨x.toNat, by omega⟩
  simp only [show ((x.toNat : Nat) : Int) = x by omega] at this
  exact this
def bi (b : Bool) (k : Int) : Int := if b then k else 0
/-- A state: its lowest two bits, which sides ended. -/
def Lv (st : Int) (inn out : Bool) : Prop := ∃ s, (s = 0 ∨ s = 1 ∨ s = 2) ∧ st = s + bi inn 4 + bi out 8 ∧ (inn = true → out = true → s = 2)
def ni (r f sd inn : Bool) : Bool := if r then inn else if f then inn || sd else inn
def no (r f sd out : Bool) : Bool := if r then out else if f then out || !sd else out
def wnt (r f sd inn out : Bool) (s : Int) : Int := if r then 2 else if ni r f sd inn && no r f sd out then 2 else if s = 0 ∧ sd = false then 1 else s
theorem lv_round (s : Int) (hs : s = 0 ∨ s = 1 ∨ s = 2) (r f sd inn out : Bool) (hb : inn = true → out = true → s = 2) :
    stq s (bi inn 4 + bi out 8) r f sd = wnt r f sd inn out s + bi (ni r f sd inn) 4 + bi (no r f sd out) 8 ∧ (wnt r f sd inn out s = 0 ∨ wnt r f sd inn out s = 1 ∨ wnt r f sd inn out s = 2) ∧ (ni r f sd inn = true → no r f sd out = true → wnt r f sd inn out s = 2) ∧ s ≤ wnt r f sd inn out s := by
  rcases hs with rfl | rfl | rfl <;> cases r <;> cases f <;> cases sd <;> cases inn <;> cases out <;> first | decide | (exact absurd (hb rfl rfl) (by decide))
/-- What a round asks of the numbers. -/
theorem lv_all {st fl : Int} {inn out : Bool} (h : Lv st inn out) (sd : Bool) (r f : Bool) (hr : decide (fl / 4 % 2 = 1) = r) (hf : decide (fl % 2 = 1) = f) :
    bits .and .i64 st 3 = st % 4 ∧ bits .and .i64 (stp 6 st fl sd) 3 = wnt r f sd inn out (st % 4) ∧ (bits .and .i64 (stp 6 st fl sd) 4 != 0) = ni r f sd inn ∧ (bits .and .i64 (stp 6 st fl sd) 8 != 0) = no r f sd out ∧ ¬ wnt r f sd inn out (st % 4) < st % 4 ∧ Lv (stp 6 st fl sd) (ni r f sd inn) (no r f sd out) ∧ (-9223372036854775808 ≤ st ∧ st ≤ 9223372036854775807) := by
  obtain ⟨s, hs, rfl, hb⟩ := h
  obtain ⟨g1, g2, g3, g4⟩ := lv_round s hs r f sd inn out hb
  have hk : ∀ (a b : Bool) (t : Int), (t = 0 ∨ t = 1 ∨ t = 2) → (t + bi a 4 + bi b 8) % 4 = t ∧ (t + bi a 4 + bi b 8) % 16 / 4 * 4 = bi a 4 + bi b 8 ∧ (t + bi a 4 + bi b 8) / 4 % 2 * 4 = bi a 4 ∧ (t + bi a 4 + bi b 8) / 8 % 2 * 8 = bi b 8 ∧ 0 ≤ t + bi a 4 + bi b 8 ∧ t + bi a 4 + bi b 8 ≤ 15 := by
    intro a b t ht
    cases a <;> cases b <;> simp only [bi] <;> refine ⟨?_, ?_, ?_, ?_, ?_, ?_⟩ <;> simp <;> omega
  obtain ⟨m1, m2, -, -, m5, m6⟩ := hk inn out s hs
  have e : stp 6 (s + bi inn 4 + bi out 8) fl sd = wnt r f sd inn out s + bi (ni r f sd inn) 4 + bi (no r f sd out) 8 := by
    unfold stp
    rw [if_pos rfl, m1, m2, hr, hf, g1]
  rw [e, m1]
  obtain ⟨n1, n2, n3, n4, n5, n6⟩ := hk (ni r f sd inn) (no r f sd out) _ g2
  obtain ⟨o1, o2⟩ := i64_low _ ⟨n5, n6⟩
  refine ⟨by rw [i64_and3, m1], by rw [i64_and3, n1], ?_, ?_, by omega, ⟨_, g2, rfl, g3⟩, by omega⟩
  · rw [o1, n3]
    cases ni r f sd inn <;> decide
  · rw [o2, n4]
    cases no r f sd out <;> decide
section
variable {PS : List Sn → Nat → List (Nat × Obj) → Prop}
set_option maxHeartbeats 16000000 in
theorem lives19_law (W : World) (hc : SC W PS) (a : Option Addr) (n cap : Nat) (ks : Nat → Int)
    (hks : ∀ i, i < n → ∃ b off, a = some ⟨b, off, none⟩ ∧ W.cell? ⟨b, off + i, none⟩ = some (.int .u16 (ks i)) ∧ 0 ≤ ks i ∧ ks i ≤ 65535) :
    Calls Try.prog 5 #[.slice a n cap] W fun e W' => e = .returned (.bool true) ∧ Below W.heap.size W W' := by
  have K1 := known19_any W hc
  have HC : Hid (SC W PS) := hc
  have HK : Hid (∀ V, Below W.heap.size W V → ∀ i, i < n → ∃ b off, a = some ⟨b, off, none⟩ ∧ V.cell? ⟨b, off + i, none⟩ = some (.int .u16 (ks i)) ∧ 0 ≤ ks i ∧ ks i ≤ 65535) := fun V hV i hi => by
    obtain ⟨b, off, e, q, r⟩ := hks i hi
    exact ⟨b, off, e, by rw [hV.cell (cell_lt q)]; exact q, r⟩
  clear hc hks
  go_enter Try.func5, Try.ntmps5
  go_wp2_with fail
  refine K1.mono ?_
  rintro e W1 ⟨rfl, hb1⟩
  have HB1 : Hid (Below W.heap.size W W1) := hb1
  clear K1 hb1
  by_cases h100 : 100 < n
  · have k100 : (100 : Int) < n := by omega
    clear HC HK
    go_wp2_with fail
    go_ret
    exact ⟨rfl, HB1.out⟩
  have k100 : ¬ (100 : Int) < n := by omega
  go_wp2_with fail
  go_loopw [3, 4, 5, 6] (fun u3 u4 u5 u6 w' => ∃ (i : Nat) (st : Int) (inn out : Bool), i ≤ n ∧ u6 = .int .i64 i ∧ u3 = .int .i64 st ∧ u4 = .bool inn ∧ u5 = .bool out ∧ Hid (Below W.heap.size W w' ∧ Lv st inn out)) (fun u3 u4 u5 u6 w' => n - (intOf u6).toNat)
  case atStart => exact ⟨0, 0, false, false, Nat.zero_le _, rfl, rfl, rfl, rfl, HB1.out, 0, Or.inl rfl, rfl, fun h => by simp at h⟩
  case round =>
    obtain ⟨i, st, inn, out, hi, rfl, rfl, rfl, rfl, HI⟩ := hrel
    clear HB1
    by_cases hlt : i < n
    · have j1 : (i : Int) < n := by omega
      obtain ⟨b, off, rfl, q0, q1, q2⟩ := HK.out wr HI.out.1 i hlt
      obtain ⟨x, hx⟩ : ∃ x, ks i = x := ⟨_, rfl⟩
      rw [hx] at q0 q1 q2
      obtain ⟨fl, hfl⟩ : ∃ fl, IntKind.u8.wrap x = fl := ⟨_, rfl⟩
      have hf255 : 0 ≤ fl ∧ fl ≤ 255 := by rw [← hfl, IntKind.wrap_u8]; omega
      obtain ⟨sv, hsv⟩ : ∃ sv, bits .and .u16 x 256 = sv := ⟨_, rfl⟩
      obtain ⟨sd, hsd⟩ : ∃ sd, (sv != 0) = sd := ⟨_, rfl⟩
      obtain ⟨r, hr⟩ : ∃ r, decide (fl / 4 % 2 = 1) = r := ⟨_, rfl⟩
      obtain ⟨f, hf⟩ : ∃ f, decide (fl % 2 = 1) = f := ⟨_, rfl⟩
      obtain ⟨a1, a2⟩ := u8_and4 fl hf255
      have hr2 : (bits .and .u8 fl 4 != 0) = r := by
        rw [a1, ← hr]
        by_cases h : fl / 4 % 2 = 1
        · simp [h]
        · have : fl / 4 % 2 = 0 := by omega
          simp [this]
      have hf2 : (bits .and .u8 fl 1 != 0) = f := by
        rw [a2, ← hf]
        by_cases h : fl % 2 = 1
        · simp [h]
        · have : fl % 2 = 0 := by omega
          simp [this]
      obtain ⟨d1, d2, d3, d4, d5, d6, d7⟩ := lv_all HI.out.2 sd r f hr hf
      have C1 := fun q => HC.out.step (wr.drewN q) (below_drewN HI.out.1 q) 6 st fl sd (by omega) d7 hf255
      have HB : Hid (∀ q V, Below (wr.drewN q).heap.size (wr.drewN q) V → Below W.heap.size W V) := fun q V hV => (below_drewN HI.out.1 q).trans (hV.mono (below_drewN HI.out.1 q).size)
      obtain ⟨nx, hnx⟩ : ∃ nx, stp 6 st fl sd = nx := ⟨_, rfl⟩
      rw [hnx] at d2 d3 d4 d6 C1
      obtain ⟨s0, hs0⟩ : ∃ s, st % 4 = s := ⟨_, rfl⟩
      rw [hs0] at d1 d2 d5
      have d8 : decide (wnt r f sd inn out s0 < s0) = false := decide_eq_false d5
      clear d5
      have HN : Hid (Lv nx (ni r f sd inn) (no r f sd out)) := d6
      clear HI d6 d7 a1 a2 hr hf hnx hs0 hx HK q1 q2
      go_wp2_with fail
      go_quiet (fail)
      go_wp2_with fail
      refine (C1 _).mono ?_
      rintro e V ⟨rfl, hV⟩
      have HV : Hid (Below W.heap.size W V) := HB.out _ _ hV
      clear C1 hV HB q0
      obtain ⟨w, hw⟩ : ∃ w, wnt r f sd inn out s0 = w := ⟨_, rfl⟩
      rw [hw] at d2 d8
      by_cases hz : s0 = 0
      · subst hz
        cases r <;> cases f <;> cases sd <;> cases inn <;> cases out <;>
          (simp only [ni, no, wnt, Bool.false_eq_true, Bool.true_eq_false, and_true, and_false, true_and, ↓reduceIte, Bool.or_true, Bool.or_false, Bool.true_or, Bool.false_or, Bool.not_true, Bool.not_false, Bool.and_true, Bool.and_false, Bool.true_and, Bool.false_and] at hw d3 d4
           subst hw
           go_wp2_with fail
           go_roundw
           case rel => exact ⟨i + 1, nx, _, _, by omega, by go_num, rfl, rfl, rfl, HV.out, HN.out⟩
           case measure => simp [intOf]; omega)
      · have hz2 : (s0 == 0) = false := by simpa using hz
        cases r <;> cases f <;> cases sd <;> cases inn <;> cases out <;>
          (simp only [ni, no, wnt, hz, false_and, Bool.false_eq_true, Bool.true_eq_false, and_true, and_false, true_and, ↓reduceIte, Bool.or_true, Bool.or_false, Bool.true_or, Bool.false_or, Bool.not_true, Bool.not_false, Bool.and_true, Bool.and_false, Bool.true_and, Bool.false_and] at hw d3 d4
           subst hw
           go_wp2_with fail
           go_roundw
           case rel => exact ⟨i + 1, nx, _, _, by omega, by go_num, rfl, rfl, rfl, HV.out, HN.out⟩
           case measure => simp [intOf]; omega)
    · have j1 : ¬ (i : Int) < n := by omega
      have HB : Hid (Below W.heap.size W wr) := HI.out.1
      clear HI HK HC
      go_wp2_with fail
      go_ret
      exact ⟨rfl, HB.out⟩
end
end Ss
end Go.Proofs.Ytgeeijinhneoiaa
