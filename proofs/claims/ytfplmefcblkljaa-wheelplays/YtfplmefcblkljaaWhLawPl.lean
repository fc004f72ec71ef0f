/-
  Any script of setting, dropping, ticking: the program's wheel does what the document's own does.
-/
import Derived.Test.YtfplmefcblkljaaWhPl0
import Derived.LoopN
import Derived.Deep.CutBlock
import Derived.BigQuiet
namespace Go.Proofs.Ytfplmefcblkljaa
open Go.RowKit
open Sm
open Po
open Wh
set_option linter.unusedVariables false
set_option linter.unusedSimpArgs false
set_option maxRecDepth 20000

namespace Wh
section
variable {PS : List Du → Int → Nat → List (Nat × Obj) → Prop}
set_option maxHeartbeats 32000000 in
theorem plays18_law (W : World) (hc : WC W PS) (now0 : Int) (hnow0 : 0 ≤ now0 ∧ now0 ≤ 4294967295) (a : Option Addr) (n cap : Nat) (X : Nat → A18) (hX : Acts18 W a n X) :
    Calls Try.prog 3 #[.int .u32 now0, .slice a n cap] W fun e W' => e = .returned (.bool true) ∧ Below W.heap.size W W' := by
  have K1 := known18_any W hc
  have HC : Hid (WC W PS) := hc
  have HX0 : Hid (Acts18 W a n X) := hX
  clear hc hX
  go_enter Try.func3, Try.ntmps3
  go_wp2_with fail
  refine K1.mono ?_
  rintro e W1 ⟨rfl, hb1⟩
  have HB1 : Hid (Below W.heap.size W W1) := hb1
  clear K1 hb1
  by_cases h100 : 100 < n
  · have e1 : (100 : Int) < (n : Int) := by omega
    go_wp2_with fail
    go_ret
    exact ⟨rfl, HB1.out⟩
  have e1 : ¬ ((100 : Int) < (n : Int)) := by omega
  have C2 := HC.out.new W1 HB1.out now0 hnow0
  go_wp2_with fail
  refine C2.mono ?_
  rintro e W2 ⟨p, B, rfl, h2, m2⟩
  obtain ⟨pm, hpm⟩ : ∃ g, W2.heap.size = g := ⟨_, rfl⟩
  have m3 : Mem W W2 (B ++ []) := ((Mem.nil W).after HB1.out |>.join m2 |> fun h => by simpa using h)
  have HS0 : Hid (∃ xs now, xs.length ≤ 0 ∧ (0 ≤ now ∧ now ≤ 4294967295) ∧ Bp PS W p pm xs now (W2.alloc (.cells #[.slice none 0 0, .int .u32 now0] 30))) := by
    refine ⟨[], now0, Nat.le_refl _, hnow0, B, [(pm, .cells #[.slice none 0 0, .int .u32 now0] 30 (0, 0))], h2, ⟨.slice none 0 0, [], SlF.nil _ _ _, rfl⟩, ?_⟩
    have := m3.push pm (.cells #[.slice none 0 0, .int .u32 now0] 30) hpm.symm
    rwa [List.append_nil] at this
  clear C2 h2 m2 m3 HB1
  go_upto_region 6 with fail
  refine wp_letter (fun Y => ∃ xs now, xs.length ≤ 0 ∧ (0 ≤ now ∧ now ≤ 4294967295) ∧ Bp PS W p pm xs now Y) (by exact HS0.out) ?_
  intro V0 hV0
  try simp only [hpm]
  have HS1 : Hid (∃ xs now, xs.length ≤ 0 ∧ (0 ≤ now ∧ now ≤ 4294967295) ∧ Bp PS W p pm xs now V0) := hV0
  clear HS0 hV0 hpm
  go_wp2_with fail
  go_loopw [7] (fun u7 w' => ∃ i : Nat, i ≤ n ∧ u7 = .int .i64 i ∧ Hid (∃ xs now, xs.length ≤ i ∧ (0 ≤ now ∧ now ≤ 4294967295) ∧ Bp PS W p pm xs now w')) (fun u7 w' => n - (intOf u7).toNat)
  case atStart => exact ⟨0, Nat.zero_le _, rfl, HS1.out⟩
  case round =>
    obtain ⟨i, hi, rfl, HS⟩ := hrel
    clear HS1
    by_cases hlt : i < n
    · have k1 : (i : Int) < n := by omega
      obtain ⟨xs, now, hxs, hnow, hbp⟩ := HS.out
      obtain ⟨hrg, b, off, rfl, q0, q1, q2, q3⟩ := HX0.out.at_ hbp.below i hlt
      have hlen : xs.length ≤ 1000 := by omega
      obtain ⟨hid, hah⟩ := hrg
      clear HS HX0
      generalize (X i).what = what at *
      generalize (X i).id = id at *
      generalize (X i).ahead = ahead at *
      generalize (X i).raw = raw at *
      obtain ⟨g, hg⟩ : ∃ g, wr.heap.size = g := ⟨_, rfl⟩
      have HX1 : Hid (Bx PS W p pm (g, .cells #[.int .i64 what, .int .i64 id, .int .u32 ahead, .bool raw] 32 (0, 0)) xs now (wr.alloc (.cells #[.int .i64 what, .int .i64 id, .int .u32 ahead, .bool raw] 32))) := hbp.box hg _
      clear hbp
      go_upto_region 10 with fail
      refine wp_letter (fun Y => Bx PS W p pm (g, .cells #[.int .i64 what, .int .i64 id, .int .u32 ahead, .bool raw] 32 (0, 0)) xs now Y) (by exact HX1.out) ?_
      intro V1 hX1
      try simp only [hg]
      have HX : Hid (Bx PS W p pm (g, .cells #[.int .i64 what, .int .i64 id, .int .u32 ahead, .bool raw] 32 (0, 0)) xs now V1) := hX1
      have c0 : V1.cell? ⟨g, 0, none⟩ = some (.int .i64 what) := hX1.gcell 0
      have c1 : V1.cell? ⟨g, 1, none⟩ = some (.int .i64 id) := hX1.gcell 1
      have c2 : V1.cell? ⟨g, 2, none⟩ = some (.int .u32 ahead) := hX1.gcell 2
      have c3 : V1.cell? ⟨g, 3, none⟩ = some (.bool raw) := hX1.gcell 3
      obtain ⟨qa0, qc0, d0, d1, d2⟩ := hX1.mcell
      clear HX1 hX1 q0 q1 q2 q3 hg d0
      have r1 : Int.tmod ahead 300 = ahead % 300 := Int.tmod_eq_emod_of_nonneg hah.1
      obtain ⟨T0, hT0⟩ : ∃ T, IntKind.u32.wrap (now + ahead % 300) = T := ⟨_, rfl⟩
      have hT1 : 0 ≤ T0 ∧ T0 ≤ 4294967295 := by
        rw [← hT0, IntKind.wrap_u32]
        omega
      have HXn : Hid (∀ n, Bx PS W p pm (g, .cells #[.int .i64 what, .int .i64 id, .int .u32 ahead, .bool raw] 32 (0, 0)) xs now (V1.drewN n)) := fun n => HX.out.drewN n
      go_upto_if 38 with fail
      go_cut [9] from 38 (fun s9 wx => ∃ T : Int, (0 ≤ T ∧ T ≤ 4294967295) ∧ s9 = .int .u32 T ∧ Bx PS W p pm (g, .cells #[.int .i64 what, .int .i64 id, .int .u32 ahead, .bool raw] 32 (0, 0)) xs now wx)
      case first => as_aux_lemma =>
        cases raw with
        | true =>
          go_wp2_with fail
          go_meet
          case rel => exact ⟨ahead, hah, rfl, HX.out⟩
        | false =>
          go_wp2_with fail
          go_quiet (fail)
          go_wp2_with fail
          go_meet
          case rel => exact ⟨T0, hT1, rfl, HXn.out _⟩
      case rest => as_aux_lemma =>
        obtain ⟨T, hT, rfl, hX2⟩ := hcut
        clear HX HXn c0 c1 c2 c3 d1 hT0 hT1 r1
        have HX : Hid (Bx PS W p pm (g, .cells #[.int .i64 what, .int .i64 id, .int .u32 ahead, .bool raw] 32 (0, 0)) xs now wc) := hX2
        have c0 : wc.cell? ⟨g, 0, none⟩ = some (.int .i64 what) := hX2.gcell 0
        have c1 : wc.cell? ⟨g, 1, none⟩ = some (.int .i64 id) := hX2.gcell 1
        clear hX2
        have k18 : tnow now ≤ 4294967295 ∧ 0 ≤ tnow now := by unfold tnow; split <;> omega
        have lset := wset_le xs id T
        have ldel := wdel_le id xs
        have lrest : (trest now xs).length ≤ xs.length := by unfold trest; split; exact wrest_len _ _; exact Nat.le_refl _
        go_upto_block 2 with fail
        go_cut [9] from 47 (fun s9 wx => ∃ (xs2 : List Du) (now2 : Int), xs2.length ≤ i + 1 ∧ (0 ≤ now2 ∧ now2 ≤ 4294967295) ∧ Bx PS W p pm (g, .cells #[.int .i64 what, .int .i64 id, .int .u32 ahead, .bool raw] 32 (0, 0)) xs2 now2 wx)
        case first => as_aux_lemma =>
          by_cases w3 : what = 0 ∨ what = 1 ∨ what = 2
          · have C1 := bx_set HC.out HX.out hlen id T hid hT
            have SET : Hid (∀ V, By PS W p pm (g, .cells #[.int .i64 what, .int .i64 id, .int .u32 ahead, .bool raw] 32 (0, 0)) (wset xs id T) now xs now V → Calls Try.prog 10 #[.pointer (some ⟨pm, 0, none⟩), .int .i64 id, .int .u32 T] V fun e V' => e = .returned (.tuple #[]) ∧ By PS W p pm (g, .cells #[.int .i64 what, .int .i64 id, .int .u32 ahead, .bool raw] 32 (0, 0)) (wset xs id T) now (wset xs id T) now V') := fun V h => bxm_set h hlen id T
            clear HX
            rcases w3 with w3 | w3 | w3
            · have n0 : (what == 0) = true := by simpa using w3
              clear w3
              go_wp2_with fail
              refine C1.mono ?_
              rintro e V2 ⟨rfl, hx2⟩
              have c1' : V2.cell? ⟨g, 1, none⟩ = some (.int .i64 id) := hx2.gcell 1
              have C2 := SET.out V2 hx2
              clear C1 hx2 c0 c1
              go_wp2_with fail
              refine C2.mono ?_
              rintro e V3 ⟨rfl, hx3⟩
              have HX : Hid (Bx PS W p pm (g, .cells #[.int .i64 what, .int .i64 id, .int .u32 ahead, .bool raw] 32 (0, 0)) (wset xs id T) now V3) := hx3
              clear C2 hx3 c1' SET
              go_wp2_with fail
              go_meet
              case rel => exact ⟨wset xs id T, now, by omega, hnow, HX.out⟩
            · have n0 : (what == 0) = false := by simp; omega
              have n1 : (what == 1) = true := by simpa using w3
              clear w3
              go_wp2_with fail
              refine C1.mono ?_
              rintro e V2 ⟨rfl, hx2⟩
              have c1' : V2.cell? ⟨g, 1, none⟩ = some (.int .i64 id) := hx2.gcell 1
              have C2 := SET.out V2 hx2
              clear C1 hx2 c0 c1
              go_wp2_with fail
              refine C2.mono ?_
              rintro e V3 ⟨rfl, hx3⟩
              have HX : Hid (Bx PS W p pm (g, .cells #[.int .i64 what, .int .i64 id, .int .u32 ahead, .bool raw] 32 (0, 0)) (wset xs id T) now V3) := hx3
              clear C2 hx3 c1' SET
              go_wp2_with fail
              go_meet
              case rel => exact ⟨wset xs id T, now, by omega, hnow, HX.out⟩
            · have n0 : (what == 0) = false := by simp; omega
              have n1 : (what == 1) = false := by simp; omega
              have n2 : (what == 2) = true := by simpa using w3
              clear w3
              go_wp2_with fail
              refine C1.mono ?_
              rintro e V2 ⟨rfl, hx2⟩
              have c1' : V2.cell? ⟨g, 1, none⟩ = some (.int .i64 id) := hx2.gcell 1
              have C2 := SET.out V2 hx2
              clear C1 hx2 c0 c1
              go_wp2_with fail
              refine C2.mono ?_
              rintro e V3 ⟨rfl, hx3⟩
              have HX : Hid (Bx PS W p pm (g, .cells #[.int .i64 what, .int .i64 id, .int .u32 ahead, .bool raw] 32 (0, 0)) (wset xs id T) now V3) := hx3
              clear C2 hx3 c1' SET
              go_wp2_with fail
              go_meet
              case rel => exact ⟨wset xs id T, now, by omega, hnow, HX.out⟩
          · have n0 : (what == 0) = false := by simp; omega
            have n1 : (what == 1) = false := by simp; omega
            have n2 : (what == 2) = false := by simp; omega
            by_cases w4 : what = 3
            · have n3 : (what == 3) = true := by simpa using w4
              clear w4 w3
              have HS : Hid (∀ V, Bx PS W p pm (g, .cells #[.int .i64 what, .int .i64 id, .int .u32 ahead, .bool raw] 32 (0, 0)) xs now V → (fun V => V.cell? ⟨g, 1, none⟩ = some (.int .i64 id)) V) := fun V h => h.gcell 1
              have HS1 : Hid (∀ V, By PS W p pm (g, .cells #[.int .i64 what, .int .i64 id, .int .u32 ahead, .bool raw] 32 (0, 0)) (wdel id xs) now xs now V → (fun V => V.cell? ⟨g, 1, none⟩ = some (.int .i64 id)) V) := fun V h => h.gcell 1
              have HS2 : Hid (∀ V, By PS W p pm (g, .cells #[.int .i64 what, .int .i64 id, .int .u32 ahead, .bool raw] 32 (0, 0)) (wdel id xs) now (wdel id xs) now V → (fun V => V.cell? ⟨g, 1, none⟩ = some (.int .i64 id)) V) := fun V h => h.gcell 1
              generalize hR : (wat id xs).isSome = R at *
              go_upto_region 22 with fail
              refine wp_region_held_drew (S := (fun V => V.cell? ⟨g, 1, none⟩ = some (.int .i64 id))) (by kernel_rfl) (HS.out _ HX.out.drew) (fun hHeld => ?_)
              refine wpAnyH_take (i := 0) (v := ?_) rfl (by kernel_rfl) (by kernel_rfl) (by kernel_rfl) (fun _ _ _ h => h) (Or.inl ⟨by rfl, ?z1⟩) (by assumption) ?_
              case z1 =>
               intro w hSw
               (try dsimp only at hSw)
               go_simp
               all_goals with_reducible rfl
              try simp only [List.getElem_toArray, List.getElem_cons_zero, List.getElem_cons_succ, Act.put, List.setIfInBounds_toArray, List.set_cons_zero, List.set_cons_succ]
              refine wpAnyH_take (i := 1) (v := ?_) rfl (by kernel_rfl) (by kernel_rfl) (by kernel_rfl) (fun _ _ _ h => h) (Or.inl ⟨by rfl, ?z2⟩) (by assumption) ?_
              case z2 =>
               intro w hSw
               (try dsimp only at hSw)
               go_simp
               all_goals with_reducible rfl
              try simp only [List.getElem_toArray, List.getElem_cons_zero, List.getElem_cons_succ, Act.put, List.setIfInBounds_toArray, List.set_cons_zero, List.set_cons_succ]
              refine wpAnyH_take (i := 2) (v := ?_) rfl (by kernel_rfl) (by kernel_rfl) (by kernel_rfl) (fun _ _ _ h => h) (Or.inl ⟨by rfl, ?z3⟩) (by assumption) ?_
              case z3 =>
               intro w hSw
               (try dsimp only at hSw)
               go_simp
               all_goals with_reducible rfl
              try simp only [List.getElem_toArray, List.getElem_cons_zero, List.getElem_cons_succ, Act.put, List.setIfInBounds_toArray, List.set_cons_zero, List.set_cons_succ]
              refine wpAnyH_take (i := 4) (v := ?_) rfl (by kernel_rfl) (by kernel_rfl) (by kernel_rfl) (fun _ _ _ h => h) (Or.inl ⟨by rfl, ?z4⟩) (by assumption) ?_
              case z4 =>
               intro w hSw
               (try dsimp only at hSw)
               go_simp
               all_goals with_reducible rfl
              try simp only [List.getElem_toArray, List.getElem_cons_zero, List.getElem_cons_succ, Act.put, List.setIfInBounds_toArray, List.set_cons_zero, List.set_cons_succ]
              refine wpAnyH_take (i := 5) (v := ?_) rfl (by kernel_rfl) (by kernel_rfl) (by kernel_rfl) (fun _ _ _ h => h) (Or.inl ⟨by rfl, ?z5⟩) (by assumption) ?_
              case z5 =>
               intro w hSw
               (try dsimp only at hSw)
               go_simp
               all_goals with_reducible rfl
              try simp only [List.getElem_toArray, List.getElem_cons_zero, List.getElem_cons_succ, Act.put, List.setIfInBounds_toArray, List.set_cons_zero, List.set_cons_succ]
              refine wpAnyH_take (i := 6) (v := ?_) rfl (by kernel_rfl) (by kernel_rfl) (by kernel_rfl) (fun _ _ _ h => h) (Or.inl ⟨by rfl, ?z6⟩) (by assumption) ?_
              case z6 =>
               intro w hSw
               (try dsimp only at hSw)
               go_simp
               all_goals with_reducible rfl
              try simp only [List.getElem_toArray, List.getElem_cons_zero, List.getElem_cons_succ, Act.put, List.setIfInBounds_toArray, List.set_cons_zero, List.set_cons_succ]
              have C1 := bx_drop HC.out HX.out.drew hlen id hid
              refine wpAnyH_ready (rs := [3]) (by kernel_rfl) (by simp) ?_
              refine AllReadyH.cons rfl (fun K hK => ?_) AllReadyH.nil
              go_simp
              with_reducible refine (C1).mono ?_
              rintro e V1 ⟨rfl, hx1⟩
              try go_wp2_with fail
              have C2 := bxm_drop hx1 hlen id
              clear C1
              refine hK.out _ _ (HS1.out _ hx1) (fun hHeld => ?_)
              clear hK K
              try simp only [List.getElem_toArray, List.getElem_cons_zero, List.getElem_cons_succ, Act.put, List.setIfInBounds_toArray, List.set_cons_zero, List.set_cons_succ]
              refine wpAnyH_ready (rs := [7]) (by kernel_rfl) (by simp) ?_
              refine AllReadyH.cons rfl (fun K hK => ?_) AllReadyH.nil
              go_simp
              with_reducible refine (C2).mono ?_
              rintro e V2 ⟨rfl, hx2⟩
              try go_wp2_with fail
              have hHeld2 : (fun V => V.cell? ⟨g, 1, none⟩ = some (.int .i64 id)) V2 := HS2.out _ hx2
              clear C2
              refine hK.out _ _ (HS2.out _ hx2) (fun hHeld => ?_)
              clear hK K
              try simp only [List.getElem_toArray, List.getElem_cons_zero, List.getElem_cons_succ, Act.put, List.setIfInBounds_toArray, List.set_cons_zero, List.set_cons_succ]
              refine wpAnyH_take (i := 8) (v := ?_) rfl (by kernel_rfl) (by kernel_rfl) (by kernel_rfl) (fun _ _ _ h => h) (Or.inl ⟨by rfl, ?z7⟩) (by assumption) ?_
              case z7 =>
               intro w hSw
               (try dsimp only at hSw)
               go_simp
               all_goals with_reducible rfl
              try simp only [List.getElem_toArray, List.getElem_cons_zero, List.getElem_cons_succ, Act.put, List.setIfInBounds_toArray, List.set_cons_zero, List.set_cons_succ]
              refine wpAnyH_done (by kernel_rfl) ?_ _
              have HZ : Hid (By PS W p pm (g, .cells #[.int .i64 what, .int .i64 id, .int .u32 ahead, .bool raw] 32 (0, 0)) (wdel id xs) now (wdel id xs) now V2) := hx2
              clear HS HS1 HS2 hx1 hx2 HX
              go_wp2_with fail
              go_meet
              case rel => exact ⟨wdel id xs, now, by omega, hnow, HZ.out⟩
            · have n3 : (what == 3) = false := by simpa using w4
              have C1 := bx_tick HC.out HX.out hlen hnow
              clear HX
              go_wp2_with fail
              refine C1.mono ?_
              rintro e V2 ⟨v, D, B, Bm, rfl, hv, h1, h2, m2⟩
              have C2 := bxm_tick hv h1 h2 m2 hlen hnow
              clear C1 hv h1 h2 m2 c0 c1
              go_wp2_with fail
              refine C2.mono ?_
              rintro e V3 ⟨v2, rfl, z1, z2, z3⟩
              have C3 := ints_any z1 z2
              rw [decide_eq_true (rfl : tout now xs = tout now xs)] at C3
              have HZ : Hid (∀ V2, Below V3.heap.size V3 V2 → Bx PS W p pm (g, .cells #[.int .i64 what, .int .i64 id, .int .u32 ahead, .bool raw] 32 (0, 0)) (trest now xs) (tnow now) V2) := z3
              clear C2 z1 z2 z3
              go_wp2_with fail
              refine C3.mono ?_
              rintro e V4 ⟨rfl, hb⟩
              have HX : Hid (Bx PS W p pm (g, .cells #[.int .i64 what, .int .i64 id, .int .u32 ahead, .bool raw] 32 (0, 0)) (trest now xs) (tnow now) V4) := HZ.out V4 hb
              clear C3 hb HZ
              go_wp2_with fail
              go_meet
              case rel => exact ⟨trest now xs, tnow now, by omega, ⟨k18.2, k18.1⟩, HX.out⟩
        case rest => as_aux_lemma =>
          obtain ⟨xs3, now3, hxs3, hnow3, hX3⟩ := hcut
          have hlen3 : xs3.length ≤ 1000 := by omega
          have HX3 : Hid (Bx PS W p pm (g, .cells #[.int .i64 what, .int .i64 id, .int .u32 ahead, .bool raw] 32 (0, 0)) xs3 now3 wc) := hX3
          have c1 : wc.cell? ⟨g, 1, none⟩ = some (.int .i64 id) := hX3.gcell 1
          have C5 := bx_at HC.out hX3 hlen3 id hid
          obtain ⟨t3, ht3⟩ : ∃ t, (wat id xs3).getD 0 = t := ⟨_, rfl⟩
          obtain ⟨b3, hb3⟩ : ∃ t, (wat id xs3).isSome = t := ⟨_, rfl⟩
          rw [ht3, hb3] at C5
          clear hX3 HX c0
          go_wp2_with fail
          refine C5.mono ?_
          rintro e V5 ⟨rfl, hX5⟩
          have c1' : V5.cell? ⟨g, 1, none⟩ = some (.int .i64 id) := hX5.gcell 1
          have C6 := bxm_at hX5 id
          rw [ht3, hb3] at C6
          have HX5 : Hid (Bx PS W p pm (g, .cells #[.int .i64 what, .int .i64 id, .int .u32 ahead, .bool raw] 32 (0, 0)) xs3 now3 V5) := hX5
          clear C5 hX5 ht3 hb3 HX3 c1
          go_wp2_with fail
          refine C6.mono ?_
          rintro e V6 ⟨rfl, rfl⟩
          clear C6 c1'
          obtain ⟨B7, Bm7, hP7, hR7, hM7⟩ := HX5.out
          obtain ⟨qa, qc, e0, e1', e2⟩ := HX5.out.mcell
          obtain ⟨v7, Cm7, hsm, rfl⟩ := hR7
          have ev : v7 = .slice qa xs3.length qc := by
            have h : V5.cell? ⟨pm, 0, none⟩ = some v7 := cell_of (hM7.at_ (pm, _) (List.mem_cons_of_mem _ (List.mem_append_right _ (List.mem_cons_self ..)))) 0
            rw [h] at e0
            exact Option.some.inj e0
          subst ev
          have HM : Hid (Mem W V5 (B7 ++ ((pm, .cells #[.slice qa xs3.length qc, .int .u32 now3] 30 (0, 0)) :: (Cm7 ++ [(g, .cells #[.int .i64 what, .int .i64 id, .int .u32 ahead, .bool raw] 32 (0, 0))])))) := hM7.perm (by
            classical
            rw [List.perm_iff_count]
            intro q
            simp only [List.count_append, List.count_cons, List.count_nil]
            omega)
          have HS : Hid (∀ V B' L', Mem W V (B' ++ ((pm, .cells #[.slice qa xs3.length qc, .int .u32 now3] 30 (0, 0)) :: L')) → (fun V => V.cell? ⟨pm, 0, none⟩ = some (.slice qa xs3.length qc) ∧ V.cell? ⟨pm, 1, none⟩ = some (.int .u32 now3)) V) := fun V B' L' h => ⟨cell_of (h.at_ (pm, _) (List.mem_append_right _ (List.mem_cons_self ..))) 0, cell_of (h.at_ (pm, _) (List.mem_append_right _ (List.mem_cons_self ..))) 1⟩
          have HRW : Hid (RW xs3 now3 pm ((pm, .cells #[.slice qa xs3.length qc, .int .u32 now3] 30 (0, 0)) :: Cm7)) := ⟨.slice qa xs3.length qc, Cm7, hsm, rfl⟩
          have bb : (b3 != b3) = false := by simp
          have tt : (t3 != t3) = false := by simp
          have ll : ((xs3.length : Int) != (xs3.length : Int)) = false := by simp
          have nn : (now3 != now3) = false := by simp
          clear hM7 HX5 e0 e1' hsm
          go_upto_region 26 with fail
          refine wp_region_held_drew (S := (fun V => V.cell? ⟨pm, 0, none⟩ = some (.slice qa xs3.length qc) ∧ V.cell? ⟨pm, 1, none⟩ = some (.int .u32 now3))) (by kernel_rfl) (HS.out _ _ _ HM.out.drew) (fun hHeld => ?_)
          refine wpAnyH_take (i := 0) (v := ?_) rfl (by kernel_rfl) (by kernel_rfl) (by kernel_rfl) (fun _ _ _ h => h) (Or.inl ⟨by rfl, ?z8⟩) (by assumption) ?_
          case z8 =>
           intro w hSw
           (try dsimp only at hSw)
           go_simp
           all_goals with_reducible rfl
          try simp only [List.getElem_toArray, List.getElem_cons_zero, List.getElem_cons_succ, Act.put, List.setIfInBounds_toArray, List.set_cons_zero, List.set_cons_succ]
          refine wpAnyH_take (i := 1) (v := ?_) rfl (by kernel_rfl) (by kernel_rfl) (by kernel_rfl) (fun _ _ _ h => h) (Or.inl ⟨by rfl, ?z9⟩) (by assumption) ?_
          case z9 =>
           intro w hSw
           (try dsimp only at hSw)
           go_simp
           all_goals with_reducible rfl
          try simp only [List.getElem_toArray, List.getElem_cons_zero, List.getElem_cons_succ, Act.put, List.setIfInBounds_toArray, List.set_cons_zero, List.set_cons_succ]
          refine wpAnyH_take (i := 2) (v := ?_) rfl (by kernel_rfl) (by kernel_rfl) (by kernel_rfl) (fun _ _ _ h => h) (Or.inl ⟨by rfl, ?z10⟩) (by assumption) ?_
          case z10 =>
           intro w hSw
           (try dsimp only at hSw)
           go_simp
           all_goals with_reducible rfl
          try simp only [List.getElem_toArray, List.getElem_cons_zero, List.getElem_cons_succ, Act.put, List.setIfInBounds_toArray, List.set_cons_zero, List.set_cons_succ]
          refine wpAnyH_take (i := 3) (v := ?_) rfl (by kernel_rfl) (by kernel_rfl) (by kernel_rfl) (fun _ _ _ h => h) (Or.inl ⟨by rfl, ?z11⟩) (by assumption) ?_
          case z11 =>
           intro w hSw
           (try dsimp only at hSw)
           go_simp
           all_goals with_reducible rfl
          try simp only [List.getElem_toArray, List.getElem_cons_zero, List.getElem_cons_succ, Act.put, List.setIfInBounds_toArray, List.set_cons_zero, List.set_cons_succ]
          refine wpAnyH_take (i := 4) (v := ?_) rfl (by kernel_rfl) (by kernel_rfl) (by kernel_rfl) (fun _ _ _ h => h) (Or.inl ⟨by rfl, ?z12⟩) (by assumption) ?_
          case z12 =>
           intro w hSw
           (try dsimp only at hSw)
           go_simp
           all_goals with_reducible rfl
          try simp only [List.getElem_toArray, List.getElem_cons_zero, List.getElem_cons_succ, Act.put, List.setIfInBounds_toArray, List.set_cons_zero, List.set_cons_succ]
          refine wpAnyH_take (i := 5) (v := ?_) rfl (by kernel_rfl) (by kernel_rfl) (by kernel_rfl) (fun _ _ _ h => h) (Or.inl ⟨by rfl, ?z13⟩) (by assumption) ?_
          case z13 =>
           intro w hSw
           (try dsimp only at hSw)
           go_simp
           all_goals with_reducible rfl
          try simp only [List.getElem_toArray, List.getElem_cons_zero, List.getElem_cons_succ, Act.put, List.setIfInBounds_toArray, List.set_cons_zero, List.set_cons_succ]
          refine wpAnyH_take (i := 6) (v := ?_) rfl (by kernel_rfl) (by kernel_rfl) (by kernel_rfl) (fun _ _ _ h => h) (Or.inl ⟨by rfl, ?z14⟩) (by assumption) ?_
          case z14 =>
           intro w hSw
           (try dsimp only at hSw)
           go_simp
           all_goals with_reducible rfl
          try simp only [List.getElem_toArray, List.getElem_cons_zero, List.getElem_cons_succ, Act.put, List.setIfInBounds_toArray, List.set_cons_zero, List.set_cons_succ]
          refine wpAnyH_take (i := 7) (v := ?_) rfl (by kernel_rfl) (by kernel_rfl) (by kernel_rfl) (fun _ _ _ h => h) (Or.inl ⟨by rfl, ?z15⟩) (by assumption) ?_
          case z15 =>
           intro w hSw
           (try dsimp only at hSw)
           go_simp
           all_goals with_reducible rfl
          try simp only [List.getElem_toArray, List.getElem_cons_zero, List.getElem_cons_succ, Act.put, List.setIfInBounds_toArray, List.set_cons_zero, List.set_cons_succ]
          refine wpAnyH_take (i := 8) (v := ?_) rfl (by kernel_rfl) (by kernel_rfl) (by kernel_rfl) (fun _ _ _ h => h) (Or.inl ⟨by rfl, ?z16⟩) (by assumption) ?_
          case z16 =>
           intro w hSw
           (try dsimp only at hSw)
           go_simp
           all_goals with_reducible rfl
          try simp only [List.getElem_toArray, List.getElem_cons_zero, List.getElem_cons_succ, Act.put, List.setIfInBounds_toArray, List.set_cons_zero, List.set_cons_succ]
          refine wpAnyH_take (i := 9) (v := ?_) rfl (by kernel_rfl) (by kernel_rfl) (by kernel_rfl) (fun _ _ _ h => h) (Or.inl ⟨by rfl, ?z17⟩) (by assumption) ?_
          case z17 =>
           intro w hSw
           (try dsimp only at hSw)
           go_simp
           all_goals with_reducible rfl
          try simp only [List.getElem_toArray, List.getElem_cons_zero, List.getElem_cons_succ, Act.put, List.setIfInBounds_toArray, List.set_cons_zero, List.set_cons_succ]
          refine wpAnyH_take (i := 11) (v := ?_) rfl (by kernel_rfl) (by kernel_rfl) (by kernel_rfl) (fun _ _ _ h => h) (Or.inl ⟨by rfl, ?z18⟩) (by assumption) ?_
          case z18 =>
           intro w hSw
           (try dsimp only at hSw)
           go_simp
           all_goals with_reducible rfl
          try simp only [List.getElem_toArray, List.getElem_cons_zero, List.getElem_cons_succ, Act.put, List.setIfInBounds_toArray, List.set_cons_zero, List.set_cons_succ]
          refine wpAnyH_take (i := 12) (v := ?_) rfl (by kernel_rfl) (by kernel_rfl) (by kernel_rfl) (fun _ _ _ h => h) (Or.inl ⟨by rfl, ?z19⟩) (by assumption) ?_
          case z19 =>
           intro w hSw
           (try dsimp only at hSw)
           go_simp
           all_goals with_reducible rfl
          try simp only [List.getElem_toArray, List.getElem_cons_zero, List.getElem_cons_succ, Act.put, List.setIfInBounds_toArray, List.set_cons_zero, List.set_cons_succ]
          refine wpAnyH_take (i := 13) (v := ?_) rfl (by kernel_rfl) (by kernel_rfl) (by kernel_rfl) (fun _ _ _ h => h) (Or.inl ⟨by rfl, ?z20⟩) (by assumption) ?_
          case z20 =>
           intro w hSw
           (try dsimp only at hSw)
           go_simp
           all_goals with_reducible rfl
          try simp only [List.getElem_toArray, List.getElem_cons_zero, List.getElem_cons_succ, Act.put, List.setIfInBounds_toArray, List.set_cons_zero, List.set_cons_succ]
          refine wpAnyH_take (i := 14) (v := ?_) rfl (by kernel_rfl) (by kernel_rfl) (by kernel_rfl) (fun _ _ _ h => h) (Or.inl ⟨by rfl, ?z21⟩) (by assumption) ?_
          case z21 =>
           intro w hSw
           (try dsimp only at hSw)
           go_simp
           all_goals with_reducible rfl
          try simp only [List.getElem_toArray, List.getElem_cons_zero, List.getElem_cons_succ, Act.put, List.setIfInBounds_toArray, List.set_cons_zero, List.set_cons_succ]
          refine wpAnyH_take (i := 15) (v := ?_) rfl (by kernel_rfl) (by kernel_rfl) (by kernel_rfl) (fun _ _ _ h => h) (Or.inl ⟨by rfl, ?z22⟩) (by assumption) ?_
          case z22 =>
           intro w hSw
           (try dsimp only at hSw)
           go_simp
           all_goals with_reducible rfl
          try simp only [List.getElem_toArray, List.getElem_cons_zero, List.getElem_cons_succ, Act.put, List.setIfInBounds_toArray, List.set_cons_zero, List.set_cons_succ]
          have C7 := HC.out.count hP7 HM.out.drew hlen3
          refine wpAnyH_ready (rs := [10]) (by kernel_rfl) (by simp) ?_
          refine AllReadyH.cons rfl (fun K hK => ?_) AllReadyH.nil
          go_simp
          with_reducible refine (C7).mono ?_
          rintro e V7 ⟨rfl, B7, h7, m7⟩
          try go_wp2_with fail
          have hHeld7 : (fun V => V.cell? ⟨pm, 0, none⟩ = some (.slice qa xs3.length qc) ∧ V.cell? ⟨pm, 1, none⟩ = some (.int .u32 now3)) V7 := HS.out _ _ _ m7
          refine hK.out _ _ (HS.out _ _ _ m7) (fun hHeld => ?_)
          clear hK K
          try simp only [List.getElem_toArray, List.getElem_cons_zero, List.getElem_cons_succ, Act.put, List.setIfInBounds_toArray, List.set_cons_zero, List.set_cons_succ]
          refine wpAnyH_take (i := 16) (v := ?_) rfl (by kernel_rfl) (by kernel_rfl) (by kernel_rfl) (fun _ _ _ h => h) (Or.inl ⟨by rfl, ?z23⟩) (by assumption) ?_
          case z23 =>
           intro w hSw
           (try dsimp only at hSw)
           go_simp
           all_goals with_reducible rfl
          try simp only [List.getElem_toArray, List.getElem_cons_zero, List.getElem_cons_succ, Act.put, List.setIfInBounds_toArray, List.set_cons_zero, List.set_cons_succ]
          refine wpAnyH_take (i := 17) (v := ?_) rfl (by kernel_rfl) (by kernel_rfl) (by kernel_rfl) (fun _ _ _ h => h) (Or.inl ⟨by rfl, ?z24⟩) (by assumption) ?_
          case z24 =>
           intro w hSw
           (try dsimp only at hSw)
           go_simp
           all_goals with_reducible rfl
          try simp only [List.getElem_toArray, List.getElem_cons_zero, List.getElem_cons_succ, Act.put, List.setIfInBounds_toArray, List.set_cons_zero, List.set_cons_succ]
          refine wpAnyH_take (i := 18) (v := ?_) rfl (by kernel_rfl) (by kernel_rfl) (by kernel_rfl) (fun _ _ _ h => h) (Or.inl ⟨by rfl, ?z25⟩) (by assumption) ?_
          case z25 =>
           intro w hSw
           (try dsimp only at hSw)
           go_simp
           all_goals with_reducible rfl
          try simp only [List.getElem_toArray, List.getElem_cons_zero, List.getElem_cons_succ, Act.put, List.setIfInBounds_toArray, List.set_cons_zero, List.set_cons_succ]
          refine wpAnyH_take (i := 19) (v := ?_) rfl (by kernel_rfl) (by kernel_rfl) (by kernel_rfl) (fun _ _ _ h => h) (Or.inl ⟨by rfl, ?z26⟩) (by assumption) ?_
          case z26 =>
           intro w hSw
           (try dsimp only at hSw)
           go_simp
           all_goals with_reducible rfl
          try simp only [List.getElem_toArray, List.getElem_cons_zero, List.getElem_cons_succ, Act.put, List.setIfInBounds_toArray, List.set_cons_zero, List.set_cons_succ]
          refine wpAnyH_take (i := 21) (v := ?_) rfl (by kernel_rfl) (by kernel_rfl) (by kernel_rfl) (fun _ _ _ h => h) (Or.inl ⟨by rfl, ?z27⟩) (by assumption) ?_
          case z27 =>
           intro w hSw
           (try dsimp only at hSw)
           go_simp
           all_goals with_reducible rfl
          try simp only [List.getElem_toArray, List.getElem_cons_zero, List.getElem_cons_succ, Act.put, List.setIfInBounds_toArray, List.set_cons_zero, List.set_cons_succ]
          refine wpAnyH_take (i := 22) (v := ?_) rfl (by kernel_rfl) (by kernel_rfl) (by kernel_rfl) (fun _ _ _ h => h) (Or.inl ⟨by rfl, ?z28⟩) (by assumption) ?_
          case z28 =>
           intro w hSw
           (try dsimp only at hSw)
           go_simp
           all_goals with_reducible rfl
          try simp only [List.getElem_toArray, List.getElem_cons_zero, List.getElem_cons_succ, Act.put, List.setIfInBounds_toArray, List.set_cons_zero, List.set_cons_succ]
          refine wpAnyH_take (i := 23) (v := ?_) rfl (by kernel_rfl) (by kernel_rfl) (by kernel_rfl) (fun _ _ _ h => h) (Or.inl ⟨by rfl, ?z29⟩) (by assumption) ?_
          case z29 =>
           intro w hSw
           (try dsimp only at hSw)
           go_simp
           all_goals with_reducible rfl
          try simp only [List.getElem_toArray, List.getElem_cons_zero, List.getElem_cons_succ, Act.put, List.setIfInBounds_toArray, List.set_cons_zero, List.set_cons_succ]
          refine wpAnyH_take (i := 24) (v := ?_) rfl (by kernel_rfl) (by kernel_rfl) (by kernel_rfl) (fun _ _ _ h => h) (Or.inl ⟨by rfl, ?z30⟩) (by assumption) ?_
          case z30 =>
           intro w hSw
           (try dsimp only at hSw)
           go_simp
           all_goals with_reducible rfl
          try simp only [List.getElem_toArray, List.getElem_cons_zero, List.getElem_cons_succ, Act.put, List.setIfInBounds_toArray, List.set_cons_zero, List.set_cons_succ]
          have C8 := HC.out.now h7 m7 hlen3
          refine wpAnyH_ready (rs := [20]) (by kernel_rfl) (by simp) ?_
          refine AllReadyH.cons rfl (fun K hK => ?_) AllReadyH.nil
          go_simp
          with_reducible refine (C8).mono ?_
          rintro e V8 ⟨rfl, B8, h8, m8⟩
          try go_wp2_with fail
          have hHeld8 : (fun V => V.cell? ⟨pm, 0, none⟩ = some (.slice qa xs3.length qc) ∧ V.cell? ⟨pm, 1, none⟩ = some (.int .u32 now3)) V8 := HS.out _ _ _ m8
          refine hK.out _ _ (HS.out _ _ _ m8) (fun hHeld => ?_)
          clear hK K
          try simp only [List.getElem_toArray, List.getElem_cons_zero, List.getElem_cons_succ, Act.put, List.setIfInBounds_toArray, List.set_cons_zero, List.set_cons_succ]
          refine wpAnyH_take (i := 25) (v := ?_) rfl (by kernel_rfl) (by kernel_rfl) (by kernel_rfl) (fun _ _ _ h => h) (Or.inl ⟨by rfl, ?z31⟩) (by assumption) ?_
          case z31 =>
           intro w hSw
           (try dsimp only at hSw)
           go_simp
           all_goals with_reducible rfl
          try simp only [List.getElem_toArray, List.getElem_cons_zero, List.getElem_cons_succ, Act.put, List.setIfInBounds_toArray, List.set_cons_zero, List.set_cons_succ]
          refine wpAnyH_take (i := 26) (v := ?_) rfl (by kernel_rfl) (by kernel_rfl) (by kernel_rfl) (fun _ _ _ h => h) (Or.inl ⟨by rfl, ?z32⟩) (by assumption) ?_
          case z32 =>
           intro w hSw
           (try dsimp only at hSw)
           go_simp
           all_goals with_reducible rfl
          try simp only [List.getElem_toArray, List.getElem_cons_zero, List.getElem_cons_succ, Act.put, List.setIfInBounds_toArray, List.set_cons_zero, List.set_cons_succ]
          refine wpAnyH_done (by kernel_rfl) ?_ _
          have HS9 : Hid (∃ xs now, xs.length ≤ i + 1 ∧ (0 ≤ now ∧ now ≤ 4294967295) ∧ Bp PS W p pm xs now V8) := by
            refine ⟨xs3, now3, hxs3, hnow3, B8, _, h8, HRW.out, ?_⟩
            have m9 := m8.perm (show List.Perm _ ((B8 ++ ((pm, .cells #[.slice qa xs3.length qc, .int .u32 now3] 30 (0, 0)) :: Cm7)) ++ [(g, .cells #[.int .i64 what, .int .i64 id, .int .u32 ahead, .bool raw] 32 (0, 0))]) by
              rw [List.append_assoc]
              exact List.Perm.refl _)
            exact ⟨m9.below, fun q hq => m9.low q (List.mem_append_left _ hq), fun q hq => m9.at_ q (List.mem_append_left _ hq), (List.nodup_append.mp (by have := m9.apart; rw [List.map_append] at this; exact this)).1⟩
          clear HS HM HRW m7 m8 h7 h8 hP7
          go_wp2_with fail
          go_roundw
          case rel => exact ⟨i + 1, by omega, by go_num, HS9.out⟩
          case measure => simp [intOf]; omega
    · obtain rfl : i = n := by omega
      have k1 : ¬ ((i : Int) < i) := by omega
      have HB : Hid (Below W.heap.size W wr) := by
        obtain ⟨xs, now, -, -, hbp⟩ := HS.out
        exact hbp.below
      clear HS HX0
      go_wp2_with fail
      go_ret
      exact ⟨rfl, HB.out⟩
end
end Wh
end Go.Proofs.Ytfplmefcblkljaa
