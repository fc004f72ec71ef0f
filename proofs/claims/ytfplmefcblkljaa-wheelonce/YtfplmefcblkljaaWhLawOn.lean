/-
  Each that was set is told once, at its tick.
-/
import Derived.Test.YtfplmefcblkljaaWhOnM
import Derived.LoopN
namespace Go.Proofs.Ytfplmefcblkljaa
open Go.RowKit
open Sm
open Po
open Wh
set_option linter.unusedVariables false
set_option linter.unusedSimpArgs false
set_option maxRecDepth 20000

namespace Wh
section
variable {PS : List Du → Int → Nat → List (Nat × Obj) → Prop}
theorem mem_left3 {w V : World} {A B : List (Nat × Obj)} (h : Mem w V (A ++ B)) : Mem w V A :=
  ⟨h.below, fun q hq => h.low q (List.mem_append_left _ hq), fun q hq => h.at_ q (List.mem_append_left _ hq), (List.nodup_append.mp (by have := h.apart; rw [List.map_append] at this; exact this)).1⟩
set_option maxHeartbeats 16000000 in
theorem once18_law (W : World) (hc : WC W PS) (now : Int) (hnow : 0 ≤ now ∧ now ≤ 4294967295) (a : Option Addr) (n cap : Nat) (ks : Nat → Int)
    (hks : ∀ i, i < n → ∃ b off, a = some ⟨b, off, none⟩ ∧ W.cell? ⟨b, off + i, none⟩ = some (.int .u16 (ks i)) ∧ 0 ≤ ks i ∧ ks i ≤ 65535) :
    Calls Try.prog 4 #[.int .u32 now, .slice a n cap] W fun e W' => e = .returned (.bool true) ∧ Below W.heap.size W W' := by
  have K1 := known18_any W hc
  have HC : Hid (WC W PS) := hc
  have HK : Hid (∀ V, Below W.heap.size W V → ∀ i, i < n → ∃ b off, a = some ⟨b, off, none⟩ ∧ V.cell? ⟨b, off + i, none⟩ = some (.int .u16 (ks i)) ∧ 0 ≤ ks i ∧ ks i ≤ 65535) := fun V hV i hi => by
    obtain ⟨b, off, e, q, r⟩ := hks i hi
    exact ⟨b, off, e, by rw [hV.cell (p := ⟨b, off + i, none⟩) (cell_lt q)]; exact q, r⟩
  obtain ⟨t, ht⟩ : ∃ t, now % 1073741824 = t := ⟨_, rfl⟩
  have r1 : Int.tmod now 1073741824 = t := by rw [Int.tmod_eq_emod_of_nonneg hnow.1]; exact ht
  have ht2 : 0 ≤ t ∧ t < 1073741824 := by omega
  have w0 : IntKind.u32.wrap (t + 1) = t + 1 := by rw [IntKind.wrap_u32]; omega
  clear hc hks
  go_enter Try.func4, Try.ntmps4
  go_wp2_with fail
  refine K1.mono ?_
  rintro e W1 ⟨rfl, hb1⟩
  have HB1 : Hid (Below W.heap.size W W1) := hb1
  clear K1 hb1
  by_cases h50 : 50 < n
  · have e1 : (50 : Int) < (n : Int) := by omega
    go_wp2_with fail
    go_ret
    exact ⟨rfl, HB1.out⟩
  have e1 : ¬ ((50 : Int) < (n : Int)) := by omega
  have C2 := HC.out.new W1 HB1.out t (by omega)
  go_wp2_with fail
  refine C2.mono ?_
  rintro e W2 ⟨p, B, rfl, h2, m2⟩
  have HS0 : Hid (∃ xs B, OI t ks 0 xs ∧ PS xs t p B ∧ Mem W W2 (B ++ [])) := ⟨[], B, OI.nil t ks, h2, by rw [List.append_nil]; exact (Mem.nil W).after HB1.out |>.join m2 |> fun h => by simpa using h⟩
  clear C2 h2 m2 HB1 r1 ht
  go_wp2_with fail
  go_loopw [6] (fun u6 w' => ∃ i : Nat, i ≤ n ∧ u6 = .int .i64 i ∧ Hid (∃ xs B, OI t ks i xs ∧ PS xs t p B ∧ Mem W w' (B ++ []))) (fun u6 w' => n - (intOf u6).toNat)
  case atStart => exact ⟨0, Nat.zero_le _, rfl, HS0.out⟩
  case round =>
    obtain ⟨i, hi, rfl, HS⟩ := hrel
    clear HS0
    by_cases hlt : i < n
    · have k1 : (i : Int) < n := by omega
      obtain ⟨xs, B, hO, h3, m3⟩ := HS.out
      obtain ⟨b, off, rfl, q0, q1⟩ := HK.out wr m3.below i hlt
      have r2 : Int.tmod (ks i) 2000 = ks i % 2000 := Int.tmod_eq_emod_of_nonneg q1.1
      have w1 : IntKind.u32.wrap (t + 1 + ks i % 2000) = onT t ks i := by
        unfold onT
        rw [IntKind.wrap_u32]
        omega
      have hT : 0 ≤ onT t ks i ∧ onT t ks i ≤ 4294967295 := by unfold onT; omega
      have C3 := HC.out.set h3 m3 (by rw [hO.len]; omega) i (onT t ks i) (by omega) hT
      have HO : Hid (OI t ks (i + 1) (wset xs i (onT t ks i))) := hO.set
      clear HS h3 m3 HK hO hT
      generalize onT t ks i = T at *
      generalize ks i = x at *
      go_wp2_with fail
      refine C3.mono ?_
      rintro e W3 ⟨rfl, B3, h4, m4⟩
      have HS : Hid (∃ xs B, OI t ks (i + 1) xs ∧ PS xs t p B ∧ Mem W W3 (B ++ [])) := ⟨_, B3, HO.out, h4, m4⟩
      clear C3 h4 m4 HO
      go_wp2_with fail
      go_roundw
      case rel => exact ⟨i + 1, by omega, by go_num, HS.out⟩
      case measure => simp [intOf]; omega
    · obtain rfl : i = n := by omega
      have k1 : ¬ ((i : Int) < i) := by omega
      have HS1 : Hid (∃ xs, xs.length = i ∧ OK t ks i 1 xs ∧ ∃ B, PS xs (t + 1 - 1) p B ∧ Mem W wr (B ++ [])) := by
        obtain ⟨xs, B, hO, h3, m3⟩ := HS.out
        exact ⟨xs, hO.len, hO.ok, B, by rw [show t + 1 - 1 = t by omega]; exact h3, m3⟩
      clear HS
      go_wp2_with fail
      go_loopw [7, 8] (fun u7 u8 w' => ∃ (k : Int) (c : Nat), (1 ≤ k ∧ k ≤ 2001) ∧ c ≤ i ∧ u7 = .int .i64 c ∧ u8 = .int .u32 k ∧ Hid (∃ xs, xs.length = c ∧ OK t ks i k xs ∧ ∃ B, PS xs (t + k - 1) p B ∧ Mem W w' (B ++ []))) (fun u7 u8 w' => 2001 - (intOf u8).toNat)
      case atStart => exact ⟨1, i, by omega, Nat.le_refl _, rfl, rfl, HS1.out⟩
      case round =>
        obtain ⟨k, c, hk, hci, rfl, rfl, HS⟩ := hrel
        clear HS1
        by_cases hkt : k ≤ 2000
        · obtain ⟨xs, hxc, hO, B, h6, m6⟩ := HS.out
          have C5 := HC.out.tick h6 m6 (by omega) (by omega)
          have e5 : t + k - 1 < 2147483647 := by omega
          have e6 : tout (t + k - 1) xs = wout (t + k) xs := by unfold tout; rw [if_pos e5, show t + k - 1 + 1 = t + k by omega]
          have e7 : trest (t + k - 1) xs = wrest (t + k) xs := by unfold trest; rw [if_pos e5, show t + k - 1 + 1 = t + k by omega]
          have e8 : tnow (t + k - 1) = t + (k + 1) - 1 := by unfold tnow; rw [if_pos e5]; omega
          rw [e6, e7, e8] at C5
          have w2 : IntKind.u32.wrap (k + 1) = k + 1 := by rw [IntKind.wrap_u32]; omega
          have hlen := wout_rest (t + k) xs
          obtain ⟨os, hos⟩ : ∃ os, wout (t + k) xs = os := ⟨_, rfl⟩
          have HT : Hid (∀ q (hq : q < os.length), ∃ j : Nat, j < i ∧ os[q] = (j : Int) ∧ ks j % 2000 + 1 = k) := by
            subst hos
            exact fun q hq => hO.told hq
          have HOr : Hid (∀ q (hq : q + 1 < os.length), os[q] < os[q + 1]) := by
            subst hos
            exact fun q hq => hO.order hq
          obtain ⟨ys, hys⟩ : ∃ ys, wrest (t + k) xs = ys := ⟨_, rfl⟩
          have HN : Hid (OK t ks i (k + 1) ys) := by
            subst hys
            exact hO.next
          rw [hos, hys] at C5 hlen
          clear hos hys
          clear HS h6 m6 e5 e6 e7 e8 hO
          go_wp2_with fail
          refine C5.mono ?_
          rintro e V ⟨v, D, B5, rfl, hv, h7, m7⟩
          obtain ⟨va, vc, rfl, hvc, hvc2, hve⟩ := ints_at (hv _ _ _ m7)
          have HV : Hid (∀ X, Mem W X (D ++ (B5 ++ [])) → ∀ q (hq : q < os.length), ∃ b off, va = some ⟨b, off, none⟩ ∧ X.cell? ⟨b, off + q, none⟩ = some (.int .i64 os[q])) := fun X hX q hq => by
            obtain ⟨va', vc', e, -, -, hve'⟩ := ints_at (hv _ _ _ hX)
            simp only [Value.slice.injEq] at e
            obtain ⟨rfl, -, rfl⟩ := e
            exact hve' q hq
          have HP : Hid (PS ys (t + (k + 1) - 1) p B5) := h7
          have HM0 : Hid (Mem W V (D ++ (B5 ++ []))) := m7
          clear C5 h7 m7 hv hve
          go_wp2_with fail
          go_loopw [7, 10] (fun u7 u10 w' => ∃ j : Nat, j ≤ os.length ∧ u7 = .int .i64 ((c : Int) - j) ∧ u10 = .int .i64 j ∧ Hid (Mem W w' (D ++ (B5 ++ [])))) (fun u7 u10 w' => os.length - (intOf u10).toNat)
          case atStart => exact ⟨0, Nat.zero_le _, by simp, rfl, HM0.out⟩
          case round =>
            obtain ⟨j, hj, rfl, rfl, HM⟩ := hrel
            clear HM0
            by_cases hjt : j < os.length
            · have k2 : (j : Int) < os.length := by omega
              have w3 : IntKind.i64.wrap ((c : Int) - j - 1) = (c : Int) - ((j + 1 : Nat) : Int) := by rw [IntKind.wrap_i64]; omega
              obtain ⟨jj, hjj, ej, em⟩ := HT.out j hjt
              obtain ⟨b2, off2, hva, q5⟩ := HV.out wr HM.out j hjt
              obtain ⟨b, off, hab, q0, q1⟩ := HK.out wr HM.out.below jj hjj
              rw [ej] at q5
              have r3 : Int.tmod (ks jj) 2000 = ks jj % 2000 := Int.tmod_eq_emod_of_nonneg q1.1
              have w4 : IntKind.u32.wrap (ks jj % 2000 + 1) = k := by rw [IntKind.wrap_u32]; omega
              have g1 : (k != k) = false := by simp
              have g0 : decide ((jj : Int) < 0) = false := decide_eq_false (by omega)
              have w6 : IntKind.u32.wrap (ks jj % 2000) = ks jj % 2000 := by rw [IntKind.wrap_u32]; omega
              have g2 : decide (i ≤ jj) = false := decide_eq_false (by omega)
              have k3 : (jj : Int) < (i : Int) := by omega
              have HMn : Hid (∀ n, Mem W (wr.drewN n) (D ++ (B5 ++ []))) := fun n => HM.out.drewN n
              have HOj : Hid (0 < j → ∃ x : Int, wr.cell? ⟨b2, off2 + (j - 1), none⟩ = some (.int .i64 x) ∧ x < (jj : Int)) := fun h0 => by
                obtain ⟨b3, off3, e3, q6⟩ := HV.out wr HM.out (j - 1) (by omega)
                rw [hva] at e3
                simp only [Option.some.injEq, Addr.mk.injEq, and_true] at e3
                obtain ⟨rfl, rfl⟩ := e3
                have := HOr.out (j - 1) (by omega)
                simp only [show j - 1 + 1 = j by omega] at this
                rw [ej] at this
                exact ⟨_, q6, this⟩
              clear HM HT HV HOr HK ej
              generalize ks jj = x at *
              subst hva
              subst hab
              by_cases h0 : j = 0
              · subst h0
                clear HOj
                simp only [Nat.add_zero] at q5
                have k6 : 0 < os.length := hjt
                clear k2
                go_wp2_with fail
                go_quiet (fail)
                go_wp2_with fail
                go_roundw
                case rel => exact ⟨1, by omega, by go_num, by go_num, HMn.out _⟩
                case measure => simp [intOf]; omega
              · obtain ⟨x2, q6, hx2⟩ := HOj.out (by omega)
                have k6 : decide (0 < j) = true := decide_eq_true (by omega)
                have k7 : 0 < j := by omega
                have w5 : IntKind.i64.wrap ((j : Int) - 1) = ((j - 1 : Nat) : Int) := by rw [IntKind.wrap_i64]; omega
                have k8 : ((j - 1 : Nat) : Int) < os.length := by omega
                have g3 : decide ((jj : Int) ≤ x2) = false := decide_eq_false (by omega)
                clear HOj
                go_wp2_with fail
                go_quiet (fail)
                go_wp2_with fail
                go_roundw
                case rel => exact ⟨j + 1, by omega, by go_num, by go_num, HMn.out _⟩
                case measure => simp [intOf]; omega
            · obtain rfl : j = os.length := by omega
              have k2 : ¬ ((os.length : Int) < os.length) := by omega
              have HS : Hid (∃ xs, xs.length = c - os.length ∧ OK t ks i (k + 1) xs ∧ ∃ B, PS xs (t + (k + 1) - 1) p B ∧ Mem W wr (B ++ [])) := by
                refine ⟨ys, by omega, HN.out, B5, HP.out, ?_⟩
                exact mem_left3 (HM.out.perm List.perm_append_comm)
              have ec : (c : Int) - os.length = ((c - os.length : Nat) : Int) := by omega
              clear HM HT HV HOr HK HN HP
              go_wp2_with fail
              exact ⟨⟨k + 1, c - os.length, by omega, by omega, by rw [ec], rfl, HS.out⟩, by simp only [intOf]; omega⟩
        · obtain rfl : k = 2001 := by omega
          obtain ⟨xs, hxc, hO, B, h6, m6⟩ := HS.out
          have e6 := hO.done
          subst e6
          have hc0 : c = 0 := by simpa using hxc.symm
          subst hc0
          have C5 := HC.out.count h6 m6 (by simp)
          simp only [List.length_nil, Int.natCast_zero] at C5
          clear HS h6 m6 hO
          go_wp2_with fail
          refine C5.mono ?_
          rintro e V ⟨rfl, B6, h7, m7⟩
          have HB : Hid (Below W.heap.size W V) := m7.below
          clear C5 h7 m7
          go_wp2_with fail
          go_ret
          exact ⟨rfl, HB.out⟩
end
end Wh
end Go.Proofs.Ytfplmefcblkljaa
