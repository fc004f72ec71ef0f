/-
  The clock stays at its last tick; nothing is due then.
-/
import Derived.Test.YtfplmefcblkljaaWhFace
import Derived.LoopN
namespace Go.Proofs.Ytfplmefcblkljaa
open Go.RowKit
open Sm
open Po
open Wh
set_option linter.unusedVariables false
set_option linter.unusedSimpArgs false
set_option maxRecDepth 20000

namespace Wh
section
variable {PS : List Du → Int → Nat → List (Nat × Obj) → Prop}
theorem ic_flat (l : List Int) : ic l = (ix l).flatten := by
  induction l with
  | nil => rfl
  | cons x l ih =>
    show Value.int .i64 x :: ic l = [Value.int .i64 x] ++ (ix l).flatten
    rw [ih]
    rfl
theorem slb_ix {w V : World} {T : TypeId} {v : Value} {l : List Int} {D L : List (Nat × Obj)} (h : SlB T 1 v l.length (ic l) D) (hM : Mem w V (D ++ L)) : Rw V 1 v (ix l) := by
  refine SlB.rw (T := T) (B := D) (L := L) (w := w) (fun x hx => ?_) ?_ hM
  · obtain ⟨y, -, rfl⟩ := List.mem_map.1 hx
    rfl
  · rw [ix_len, ← ic_flat]
    exact h
theorem mem_left2 {w V : World} {A B : List (Nat × Obj)} (h : Mem w V (A ++ B)) : Mem w V A :=
  ⟨h.below, fun q hq => h.low q (List.mem_append_left _ hq), fun q hq => h.at_ q (List.mem_append_left _ hq), (List.nodup_append.mp (by have := h.apart; rw [List.map_append] at this; exact this)).1⟩
theorem trest_len (now : Int) (xs : List Du) : (trest now xs).length ≤ xs.length := by
  unfold trest
  split
  · exact wrest_len _ _
  · exact Nat.le_refl _
/-- The clock behind i ticks. -/
def clk (t : Int) (i : Nat) : Int := if t + i < 2147483647 then t + i else 2147483647
theorem clk_tick (t : Int) (i : Nat) (h : t ≤ 2147483647) : tnow (clk t i) = clk t (i + 1) := by
  unfold tnow clk
  repeat' split
  all_goals omega
/-- Both wheels side by side. -/
def Bo (PS : List Du → Int → Nat → List (Nat × Obj) → Prop) (w : World) (p m : Nat) (xs : List Du) (now : Int) (V : World) : Prop :=
  ∃ B Bm, PS xs now p B ∧ RW xs now m Bm ∧ Mem w V (B ++ Bm)
set_option maxHeartbeats 16000000 in
theorem ends18_law (W : World) (hc : WC W PS) (below : Int) (hbl : 0 ≤ below ∧ below ≤ 255) (a : Option Addr) (n cap : Nat) (ks : Nat → Int)
    (hks : ∀ i, i < n → ∃ b off, a = some ⟨b, off, none⟩ ∧ W.cell? ⟨b, off + i, none⟩ = some (.int .u32 (ks i)) ∧ 0 ≤ ks i ∧ ks i ≤ 4294967295) :
    Calls Try.prog 5 #[.int .u8 below, .slice a n cap] W fun e W' => e = .returned (.bool true) ∧ Below W.heap.size W W' := by
  have K1 := known18_any W hc
  have HC : Hid (WC W PS) := hc
  have HK : Hid (∀ V, Below W.heap.size W V → ∀ i, i < n → ∃ b off, a = some ⟨b, off, none⟩ ∧ V.cell? ⟨b, off + i, none⟩ = some (.int .u32 (ks i)) ∧ 0 ≤ ks i ∧ ks i ≤ 4294967295) := fun V hV i hi => by
    obtain ⟨b, off, e, q, r⟩ := hks i hi
    exact ⟨b, off, e, by rw [hV.cell (p := ⟨b, off + i, none⟩) (cell_lt q)]; exact q, r⟩
  have r1 : Int.tmod below 10 = below % 10 := Int.tmod_eq_emod_of_nonneg hbl.1
  obtain ⟨t, ht⟩ : ∃ t, 2147483647 - below % 10 = t := ⟨_, rfl⟩
  have ht2 : 2147483638 ≤ t ∧ t ≤ 2147483647 := by omega
  have w0 : IntKind.u32.wrap (2147483647 - below % 10) = t := by rw [IntKind.wrap_u32]; omega
  clear hc hks ht
  go_enter Try.func5, Try.ntmps5
  go_wp2_with fail
  refine K1.mono ?_
  rintro e W1 ⟨rfl, hb1⟩
  have HB1 : Hid (Below W.heap.size W W1) := hb1
  clear K1 hb1
  by_cases h30 : 30 < n
  · have e1 : (30 : Int) < (n : Int) := by omega
    go_wp2_with fail
    go_ret
    exact ⟨rfl, HB1.out⟩
  have e1 : ¬ ((30 : Int) < (n : Int)) := by omega
  have C2 := HC.out.new W1 HB1.out t (by omega)
  go_wp2_with fail
  refine C2.mono ?_
  rintro e W2 ⟨p, B, rfl, h2, m2⟩
  obtain ⟨pm, hpm⟩ : ∃ g, W2.heap.size = g := ⟨_, rfl⟩
  have m3 : Mem W W2 (B ++ []) := ((Mem.nil W).after HB1.out |>.join m2 |> fun h => by simpa using h)
  have HS0 : Hid (∃ xs, xs.length ≤ 0 ∧ Bo PS W p pm xs t (W2.alloc (.cells #[.slice none 0 0, .int .u32 t] 30))) := by
    refine ⟨[], Nat.le_refl _, B, [(pm, .cells #[.slice none 0 0, .int .u32 t] 30 (0, 0))], h2, ⟨.slice none 0 0, [], SlF.nil _ _ _, rfl⟩, ?_⟩
    have := m3.push pm (.cells #[.slice none 0 0, .int .u32 t] 30) hpm.symm
    rwa [List.append_nil] at this
  clear C2 h2 m2 m3 HB1 r1
  go_upto_region 7 with fail
  refine wp_letter (fun X => ∃ xs, xs.length ≤ 0 ∧ Bo PS W p pm xs t X) (by exact HS0.out) ?_
  intro V0 hV0
  try simp only [hpm]
  have HS1 : Hid (∃ xs, xs.length ≤ 0 ∧ Bo PS W p pm xs t V0) := hV0
  clear HS0 hV0 hpm w0
  go_wp2_with fail
  go_loopw [8] (fun u8 w' => ∃ i : Nat, i ≤ n ∧ u8 = .int .i64 i ∧ Hid (∃ xs, xs.length ≤ i ∧ Bo PS W p pm xs t w')) (fun u8 w' => n - (intOf u8).toNat)
  case atStart => exact ⟨0, Nat.zero_le _, rfl, HS1.out⟩
  case round =>
    obtain ⟨i, hi, rfl, HS⟩ := hrel
    clear HS1
    by_cases hlt : i < n
    · have k1 : (i : Int) < n := by omega
      obtain ⟨xs, hxs, B, Bm, h3, h3m, m3⟩ := HS.out
      obtain ⟨b, off, rfl, q0, q1⟩ := HK.out wr m3.below i hlt
      have C3 := HC.out.set h3 m3 (by omega) i (ks i) (by omega) (by omega)
      have HQ : Hid (∀ V, Below W.heap.size W V → V.cell? ⟨b, off + i, none⟩ = some (.int .u32 (ks i))) := fun V hV => by
        obtain ⟨b', off', e, q, -⟩ := HK.out V hV i hlt
        simp only [Option.some.injEq, Addr.mk.injEq, and_true] at e
        rw [e.1, e.2]
        exact q
      clear HS h3 m3
      go_wp2_with fail
      refine C3.mono ?_
      rintro e W3 ⟨rfl, B3, h4, m4⟩
      have q2 := HQ.out W3 m4.below
      have C4 := rset_any h3m (m4.perm List.perm_append_comm) (by omega) i (ks i)
      clear C3 m4 q0 HQ
      go_wp2_with fail
      refine C4.mono ?_
      rintro e W4 ⟨rfl, B4, h5, m5⟩
      have HS : Hid (∃ xs, xs.length ≤ i + 1 ∧ Bo PS W p pm xs t W4) := by
        refine ⟨wset xs i (ks i), ?_, B3, B4, h4, h5, m5.perm List.perm_append_comm⟩
        have := wset_le xs i (ks i)
        omega
      clear C4 m5 h5 h4 h3m q2
      go_wp2_with fail
      go_roundw
      case rel => exact ⟨i + 1, by omega, by go_num, HS.out⟩
      case measure => simp [intOf]; omega
    · obtain rfl : i = n := by omega
      have k1 : ¬ ((i : Int) < i) := by omega
      have HS1 : Hid (∃ xs, xs.length ≤ 30 ∧ Bo PS W p pm xs (clk t 0) wr) := by
        obtain ⟨xs, hxs, hbo⟩ := HS.out
        refine ⟨xs, by omega, ?_⟩
        have e : clk t 0 = t := by unfold clk; split <;> omega
        rw [e]
        exact hbo
      clear HS HK
      go_wp2_with fail
      go_loopw [9] (fun u9 w' => ∃ i : Nat, i ≤ 14 ∧ u9 = .int .i64 i ∧ Hid (∃ xs, xs.length ≤ 30 ∧ Bo PS W p pm xs (clk t i) w')) (fun u9 w' => 14 - (intOf u9).toNat)
      case atStart => exact ⟨0, Nat.zero_le _, rfl, HS1.out⟩
      case round =>
        obtain ⟨j, hj, rfl, HS⟩ := hrel
        clear HS1
        by_cases hjt : j < 14
        · have k2 : (j : Int) < 14 := by omega
          obtain ⟨xs, hxs, B, Bm, h3, h3m, m3⟩ := HS.out
          have hck : 0 ≤ clk t j ∧ clk t j ≤ 4294967295 := by unfold clk; split <;> omega
          have C3 := HC.out.tick h3 m3 (by omega) hck
          clear HS h3 m3
          go_wp2_with fail
          refine C3.mono ?_
          rintro e W3 ⟨v, D, B3, rfl, hv, h4, m4⟩
          have C4 := rtick_any (L := D ++ B3) h3m (m4.perm (by
            classical
            rw [List.perm_iff_count]
            intro q
            simp only [List.count_append]
            omega)) (by omega) hck
          clear C3 m4 h3m
          go_wp2_with fail
          refine C4.mono ?_
          rintro e W4 ⟨v2, D2, B4, rfl, hv2, h5, m5⟩
          have r1 := hv W W4 (D2 ++ (B4 ++ B3)) (m5.perm (by
            classical
            rw [List.perm_iff_count]
            intro q
            simp only [List.count_append]
            omega))
          have r2 := slb_ix hv2 m5
          have C5 := ints_any r1 r2
          rw [decide_eq_true (rfl : tout (clk t j) xs = tout (clk t j) xs)] at C5
          rw [clk_tick t j (by omega)] at h4 h5
          have HM5 : Hid (Mem W W4 (D2 ++ (B4 ++ (D ++ B3)))) := m5
          have hle := trest_len (clk t j) xs
          clear C4 m5 hv hv2 r1 r2
          go_wp2_with fail
          refine C5.mono ?_
          rintro e W5 ⟨rfl, hb5⟩
          have HS : Hid (∃ xs, xs.length ≤ 30 ∧ Bo PS W p pm xs (clk t (j + 1)) W5) := by
            refine ⟨trest (clk t j) xs, by omega, B3, B4, h4, h5, ?_⟩
            have := (HM5.out.after hb5).perm (show List.Perm _ ((B3 ++ B4) ++ (D2 ++ D)) by
              classical
              rw [List.perm_iff_count]
              intro q
              simp only [List.count_append]
              omega)
            exact mem_left2 this
          clear C5 hb5 HM5 h4 h5 hle
          go_wp2_with fail
          go_roundw
          case rel => exact ⟨j + 1, by omega, by go_num, HS.out⟩
          case measure => simp [intOf]; omega
        · obtain rfl : j = 14 := by omega
          have k2 : ¬ ((14 : Int) < 14) := by omega
          obtain ⟨xs, hxs, B, Bm, h3, h3m, m3⟩ := HS.out
          have ec : clk t 14 = 2147483647 := by unfold clk; rw [if_neg (by omega)]
          rw [ec] at h3 h3m
          clear HS ec
          obtain ⟨v, Cm, hsm, rfl⟩ := h3m
          have hlen : xs.length ≤ 1000 := by omega
          obtain ⟨-, qa, qc, rfl, -, hqc, -, -⟩ := hsm
          have hqc' : qc ≤ 9223372036854775807 := by simp only [maxLen] at hqc; omega
          have HM : Hid (Mem W wr (B ++ ((pm, .cells #[.slice qa xs.length qc, .int .u32 2147483647] 30 (0, 0)) :: Cm))) := m3
          have HS : Hid (∀ V B', Mem W V (B' ++ ((pm, .cells #[.slice qa xs.length qc, .int .u32 2147483647] 30 (0, 0)) :: Cm)) → (fun V => V.cell? ⟨pm, 0, none⟩ = some (.slice qa xs.length qc)) V) := fun V B' h => cell_of (h.at_ (pm, _) (List.mem_append_right _ (List.mem_cons_self ..))) 0
          have HNow : Hid (∀ V, Mem W V (B ++ ((pm, .cells #[.slice qa xs.length qc, .int .u32 2147483647] 30 (0, 0)) :: Cm)) → Calls Try.prog 19 #[.pointer (some ⟨p, 0, none⟩)] V (WkQ PS W p ((pm, .cells #[.slice qa xs.length qc, .int .u32 2147483647] 30 (0, 0)) :: Cm) (.int .u32 2147483647) xs 2147483647)) := fun V h => HC.out.now h3 h hlen
          clear m3 h3
          go_upto_region 17 with fail
          refine wp_region_held_drew (S := (fun V => V.cell? ⟨pm, 0, none⟩ = some (.slice qa xs.length qc))) (by kernel_rfl) (HS.out _ _ HM.out.drew) (fun hHeld => ?_)
          refine wpAnyH_take (i := 0) (v := ?_) rfl (by kernel_rfl) (by kernel_rfl) (by kernel_rfl) (fun _ _ _ h => h) (Or.inl ⟨by rfl, ?z1⟩) (by assumption) ?_
          case z1 =>
           intro w hSw
           (try dsimp only at hSw)
           go_simp
           all_goals with_reducible rfl
          try simp only [List.getElem_toArray, List.getElem_cons_zero, List.getElem_cons_succ, Act.put, List.setIfInBounds_toArray, List.set_cons_zero, List.set_cons_succ]
          refine wpAnyH_ready (rs := [1]) (by kernel_rfl) (by simp) ?_
          refine AllReadyH.cons rfl (fun K hK => ?_) AllReadyH.nil
          go_simp
          with_reducible refine (HNow.out _ HM.out.drew).mono ?_
          rintro e V1 ⟨rfl, B1, h1, m1⟩
          try go_wp2_with fail
          refine hK.out _ _ (HS.out _ _ m1) (fun hHeld => ?_)
          clear hK K
          try simp only [List.getElem_toArray, List.getElem_cons_zero, List.getElem_cons_succ, Act.put, List.setIfInBounds_toArray, List.set_cons_zero, List.set_cons_succ]
          refine wpAnyH_take (i := 2) (v := ?_) rfl (by kernel_rfl) (by kernel_rfl) (by kernel_rfl) (fun _ _ _ h => h) (Or.inl ⟨by rfl, ?z2⟩) (by assumption) ?_
          case z2 =>
           intro w hSw
           (try dsimp only at hSw)
           go_simp
           all_goals with_reducible rfl
          try simp only [List.getElem_toArray, List.getElem_cons_zero, List.getElem_cons_succ, Act.put, List.setIfInBounds_toArray, List.set_cons_zero, List.set_cons_succ]
          refine wpAnyH_take (i := 3) (v := ?_) rfl (by kernel_rfl) (by kernel_rfl) (by kernel_rfl) (fun _ _ _ h => h) (Or.inl ⟨by rfl, ?z3⟩) (by assumption) ?_
          case z3 =>
           intro w hSw
           (try dsimp only at hSw)
           go_simp
           all_goals with_reducible rfl
          try simp only [List.getElem_toArray, List.getElem_cons_zero, List.getElem_cons_succ, Act.put, List.setIfInBounds_toArray, List.set_cons_zero, List.set_cons_succ]
          refine wpAnyH_take (i := 4) (v := ?_) rfl (by kernel_rfl) (by kernel_rfl) (by kernel_rfl) (fun _ _ _ h => h) (Or.inl ⟨by rfl, ?z4⟩) (by assumption) ?_
          case z4 =>
           intro w hSw
           (try dsimp only at hSw)
           go_simp
           all_goals with_reducible rfl
          try simp only [List.getElem_toArray, List.getElem_cons_zero, List.getElem_cons_succ, Act.put, List.setIfInBounds_toArray, List.set_cons_zero, List.set_cons_succ]
          refine wpAnyH_take (i := 6) (v := ?_) rfl (by kernel_rfl) (by kernel_rfl) (by kernel_rfl) (fun _ _ _ h => h) (Or.inl ⟨by rfl, ?z5⟩) (by assumption) ?_
          case z5 =>
           intro w hSw
           (try dsimp only at hSw)
           go_simp
           all_goals with_reducible rfl
          try simp only [List.getElem_toArray, List.getElem_cons_zero, List.getElem_cons_succ, Act.put, List.setIfInBounds_toArray, List.set_cons_zero, List.set_cons_succ]
          refine wpAnyH_take (i := 7) (v := ?_) rfl (by kernel_rfl) (by kernel_rfl) (by kernel_rfl) (fun _ _ _ h => h) (Or.inl ⟨by rfl, ?z6⟩) (by assumption) ?_
          case z6 =>
           intro w hSw
           (try dsimp only at hSw)
           go_simp
           all_goals with_reducible rfl
          try simp only [List.getElem_toArray, List.getElem_cons_zero, List.getElem_cons_succ, Act.put, List.setIfInBounds_toArray, List.set_cons_zero, List.set_cons_succ]
          refine wpAnyH_take (i := 8) (v := ?_) rfl (by kernel_rfl) (by kernel_rfl) (by kernel_rfl) (fun _ _ _ h => h) (Or.inl ⟨by rfl, ?z7⟩) (by assumption) ?_
          case z7 =>
           intro w hSw
           (try dsimp only at hSw)
           go_simp
           all_goals with_reducible rfl
          try simp only [List.getElem_toArray, List.getElem_cons_zero, List.getElem_cons_succ, Act.put, List.setIfInBounds_toArray, List.set_cons_zero, List.set_cons_succ]
          refine wpAnyH_take (i := 9) (v := ?_) rfl (by kernel_rfl) (by kernel_rfl) (by kernel_rfl) (fun _ _ _ h => h) (Or.inl ⟨by rfl, ?z8⟩) (by assumption) ?_
          case z8 =>
           intro w hSw
           (try dsimp only at hSw)
           go_simp
           all_goals with_reducible rfl
          try simp only [List.getElem_toArray, List.getElem_cons_zero, List.getElem_cons_succ, Act.put, List.setIfInBounds_toArray, List.set_cons_zero, List.set_cons_succ]
          refine wpAnyH_take (i := 10) (v := ?_) rfl (by kernel_rfl) (by kernel_rfl) (by kernel_rfl) (fun _ _ _ h => h) (Or.inl ⟨by rfl, ?z9⟩) (by assumption) ?_
          case z9 =>
           intro w hSw
           (try dsimp only at hSw)
           go_simp
           all_goals with_reducible rfl
          try simp only [List.getElem_toArray, List.getElem_cons_zero, List.getElem_cons_succ, Act.put, List.setIfInBounds_toArray, List.set_cons_zero, List.set_cons_succ]
          have C3 := HC.out.count h1 m1 hlen
          clear h1 m1
          refine wpAnyH_ready (rs := [5]) (by kernel_rfl) (by simp) ?_
          refine AllReadyH.cons rfl (fun K hK => ?_) AllReadyH.nil
          go_simp
          with_reducible refine (C3).mono ?_
          rintro e V2 ⟨rfl, B2, h2, m2⟩
          try go_wp2_with fail
          have HB : Hid (Below W.heap.size W V2) := m2.below
          have hHeld2 : (fun V => V.cell? ⟨pm, 0, none⟩ = some (.slice qa xs.length qc)) V2 := HS.out _ _ m2
          refine hK.out _ _ (HS.out _ _ m2) (fun hHeld => ?_)
          clear hK K
          try simp only [List.getElem_toArray, List.getElem_cons_zero, List.getElem_cons_succ, Act.put, List.setIfInBounds_toArray, List.set_cons_zero, List.set_cons_succ]
          refine wpAnyH_take (i := 11) (v := ?_) rfl (by kernel_rfl) (by kernel_rfl) (by kernel_rfl) (fun _ _ _ h => h) (Or.inl ⟨by rfl, ?z10⟩) (by assumption) ?_
          case z10 =>
           intro w hSw
           (try dsimp only at hSw)
           go_simp
           all_goals with_reducible rfl
          try simp only [List.getElem_toArray, List.getElem_cons_zero, List.getElem_cons_succ, Act.put, List.setIfInBounds_toArray, List.set_cons_zero, List.set_cons_succ]
          refine wpAnyH_take (i := 12) (v := ?_) rfl (by kernel_rfl) (by kernel_rfl) (by kernel_rfl) (fun _ _ _ h => h) (Or.inl ⟨by rfl, ?z11⟩) (by assumption) ?_
          case z11 =>
           intro w hSw
           (try dsimp only at hSw)
           go_simp
           all_goals with_reducible rfl
          try simp only [List.getElem_toArray, List.getElem_cons_zero, List.getElem_cons_succ, Act.put, List.setIfInBounds_toArray, List.set_cons_zero, List.set_cons_succ]
          refine wpAnyH_take (i := 13) (v := ?_) rfl (by kernel_rfl) (by kernel_rfl) (by kernel_rfl) (fun _ _ _ h => h) (Or.inl ⟨by rfl, ?z12⟩) (by assumption) ?_
          case z12 =>
           intro w hSw
           (try dsimp only at hSw)
           go_simp
           all_goals with_reducible rfl
          try simp only [List.getElem_toArray, List.getElem_cons_zero, List.getElem_cons_succ, Act.put, List.setIfInBounds_toArray, List.set_cons_zero, List.set_cons_succ]
          refine wpAnyH_done (by kernel_rfl) ?_ _
          go_wp2_with fail
          go_ret
          exact ⟨rfl, HB.out⟩
end
end Wh
end Go.Proofs.Ytfplmefcblkljaa
