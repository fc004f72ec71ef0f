/-
  Any script of taking, ticking, setting comes to just the document's levels.
-/
import Derived.Test.YteojfacalkklfaaLiPl0
import Derived.LoopN
import Derived.Deep.CutBlock
import Derived.BigQuiet
namespace Go.Proofs.Yteojfacalkklfaa
open Go.RowKit
open Sm
open Li
set_option linter.unusedVariables false
set_option linter.unusedSimpArgs false
set_option maxRecDepth 20000

namespace Li
set_option maxHeartbeats 16000000 in
theorem plays20_law (W : World) (r0 b0 : Int) (hr : 0 ≤ r0 ∧ r0 ≤ 4294967295) (hb : 0 ≤ b0 ∧ b0 ≤ 4294967295) (a : Option Addr) (n cap : Nat) (X : Nat → A20) (hX : Acts20 W a n X) :
    Calls Try.prog 3 #[.int .u32 r0, .int .u32 b0, .slice a n cap] W fun e W' => e = .returned (.bool true) ∧ Below W.heap.size W W' := by
  have K1 := known20_any W
  have HX0 : Hid (Acts20 W a n X) := hX
  clear hX
  go_enter Try.func3, Try.ntmps3
  go_wp2_with fail
  refine K1.mono ?_
  rintro e W1 ⟨rfl, hb1⟩
  have HB1 : Hid (Below W.heap.size W W1) := hb1
  clear K1 hb1
  by_cases h100 : 100 < n
  · have e1 : (100 : Int) < (n : Int) := by omega
    go_wp2_with fail
    go_ret
    exact ⟨rfl, HB1.out⟩
  have e1 : ¬ ((100 : Int) < (n : Int)) := by omega
  have C1 := new_any r0 b0 W1
  go_wp2_with fail
  refine C1.mono ?_
  rintro e W2 ⟨p, rfl, m2⟩
  obtain ⟨pm, hpm⟩ : ∃ g, W2.heap.size = g := ⟨_, rfl⟩
  have hm2 : Mem W W2 [Bk 43 p r0 b0 b0] := by simpa using ((Mem.nil W).after HB1.out).join m2
  have HS0 : Hid (Mem W (W2.alloc (.cells #[.int .u32 r0, .int .u32 b0, .int .u32 b0] 29)) [Bk 43 p r0 b0 b0, Bk 29 pm r0 b0 b0]) := hm2.push pm _ hpm.symm
  have HN : Hid (Nb.Ok ⟨r0, b0, b0⟩) := ⟨hr, hb, hb.1, Int.le_refl _⟩
  clear C1 m2 hm2 HB1
  go_upto_region 6 with fail
  refine wp_letter (fun Y => Mem W Y [Bk 43 p r0 b0 b0, Bk 29 pm r0 b0 b0]) (by exact HS0.out) ?_
  intro V0 hV0
  try simp only [hpm]
  have HS1 : Hid (∃ x : Nb, x.Ok ∧ Mem W V0 [Bk 43 p x.r x.b x.l, Bk 29 pm x.r x.b x.l]) := ⟨⟨r0, b0, b0⟩, HN.out, hV0⟩
  clear HS0 hV0 hpm HN hr hb
  go_wp2_with fail
  go_loopw [9] (fun u9 w' => ∃ i : Nat, i ≤ n ∧ u9 = .int .i64 i ∧ Hid (∃ x : Nb, x.Ok ∧ Mem W w' [Bk 43 p x.r x.b x.l, Bk 29 pm x.r x.b x.l])) (fun u9 w' => n - (intOf u9).toNat)
  case atStart => exact ⟨0, Nat.zero_le _, rfl, HS1.out⟩
  case round =>
    obtain ⟨i, hi, rfl, HS⟩ := hrel
    clear HS1
    by_cases hlt : i < n
    · have k1 : (i : Int) < n := by omega
      obtain ⟨x, hx, hM⟩ := HS.out
      obtain ⟨hA, bl, off, rfl, q0, q1, q2, q3, q4⟩ := HX0.out.at_ hM.below i hlt
      obtain ⟨hn, hrt, hbt⟩ := hA
      clear HS HX0
      generalize (X i).what = what at *
      generalize (X i).n = m at *
      generalize (X i).rate = rt at *
      generalize (X i).burst = bt at *
      generalize (X i).small = small at *
      obtain ⟨g, hg⟩ : ∃ g, wr.heap.size = g := ⟨_, rfl⟩
      have HX1 : Hid (B3 W p pm (g, .cells #[.int .i64 what, .int .u32 m, .int .u32 rt, .int .u32 bt, .bool small] 31 (0, 0)) x (wr.alloc (.cells #[.int .i64 what, .int .u32 m, .int .u32 rt, .int .u32 bt, .bool small] 31))) := in20 (G := Bk 43 p 0 0 0) hM hg
      clear hM
      go_upto_region 10 with fail
      refine wp_letter (fun Y => B3 W p pm (g, .cells #[.int .i64 what, .int .u32 m, .int .u32 rt, .int .u32 bt, .bool small] 31 (0, 0)) x Y) (by exact HX1.out) ?_
      intro V1 hX1
      try simp only [hg]
      have HX : Hid (B3 W p pm (g, .cells #[.int .i64 what, .int .u32 m, .int .u32 rt, .int .u32 bt, .bool small] 31 (0, 0)) x V1) := hX1
      have c0 : V1.cell? ⟨g, 0, none⟩ = some (.int .i64 what) := Mem.cell hX1 2 rfl 0
      have c1 : V1.cell? ⟨g, 1, none⟩ = some (.int .u32 m) := Mem.cell hX1 2 rfl 1
      have c2 : V1.cell? ⟨g, 2, none⟩ = some (.int .u32 rt) := Mem.cell hX1 2 rfl 2
      have c3 : V1.cell? ⟨g, 3, none⟩ = some (.int .u32 bt) := Mem.cell hX1 2 rfl 3
      have c4 : V1.cell? ⟨g, 4, none⟩ = some (.bool small) := Mem.cell hX1 2 rfl 4
      clear HX1 hX1 q0 q1 q2 q3 q4 hg
      have r1 : Int.tmod m 5 = m % 5 := Int.tmod_eq_emod_of_nonneg hn.1
      have hn5 : U (m % 5) := by unfold U at *; omega
      go_upto_if 38 with fail
      go_cut [11] from 38 to 79 (fun s11 wx => ∃ k : Int, U k ∧ s11 = .int .u32 k ∧ wx = V1)
      case first => as_aux_lemma =>
        cases small with
        | true =>
          go_wp2_with fail
          go_meet
          case rel => exact ⟨m % 5, hn5, rfl, rfl⟩
        | false =>
          go_wp2_with fail
          go_meet
          case rel => exact ⟨m, hn, rfl, rfl⟩
      case rest => as_aux_lemma =>
        obtain ⟨k, hk, rfl, rfl⟩ := hcut
        clear c1 c4 hn hn5 r1
        obtain ⟨hxr, hxb, hxl⟩ := hx
        have hxu : U x.l := by unfold U at *; omega
        go_upto_block 2 with fail
        go_cut [11] from 43 to 79 (fun s11 wx => ∃ y : Nb, Hid (y.Ok) ∧ Hid (B3 W p pm (g, .cells #[.int .i64 what, .int .u32 m, .int .u32 rt, .int .u32 bt, .bool small] 31 (0, 0)) y wx) ∧ s11 = .int .u32 k)
        case first => as_aux_lemma =>
          by_cases w3 : what = 0 ∨ what = 1 ∨ what = 2
          · have C1 := take_any HX.out hxu k hk
            have C2 : Hid (∀ V, Mem W V [Bk 43 p x.r x.b (lef x.l k), Bk 29 pm x.r x.b x.l, (g, .cells #[.int .i64 what, .int .u32 m, .int .u32 rt, .int .u32 bt, .bool small] 31 (0, 0))] → Calls Try.prog 9 #[.pointer (some ⟨pm, 0, none⟩), .int .u32 k] V fun e V' => e = .returned (.bool (decide (k ≤ x.l))) ∧ B3 W p pm (g, .cells #[.int .i64 what, .int .u32 m, .int .u32 rt, .int .u32 bt, .bool small] 31 (0, 0)) ⟨x.r, x.b, lef x.l k⟩ V') := fun V h => (rtake_any (swp20 h) hxu k hk).mono (by rintro e V' ⟨rfl, h⟩; exact ⟨rfl, swp20 h⟩)
            have HN : Hid (Nb.Ok ⟨x.r, x.b, lef x.l k⟩) := ⟨hxr, hxb, lef_in hk hxl⟩
            clear HX c2 c3 hxr hxb hxl hxu
            generalize decide (k ≤ x.l) = yes at *
            rcases w3 with w3 | w3 | w3
            · have n0 : (what == 0) = true := by simpa using w3
              clear w3
              go_wp2_with fail
              refine C1.mono ?_
              rintro e V2 ⟨rfl, m2⟩
              have C3 := C2.out V2 m2
              clear C1 m2 C2
              go_wp2_with fail
              refine C3.mono ?_
              rintro e V3 ⟨rfl, m3⟩
              have HX : Hid (B3 W p pm (g, .cells #[.int .i64 what, .int .u32 m, .int .u32 rt, .int .u32 bt, .bool small] 31 (0, 0)) ⟨x.r, x.b, lef x.l k⟩ V3) := m3
              clear C3 m3
              go_wp2_with fail
              go_meet
              case rel => exact ⟨_, HN, HX, rfl⟩
            · have n0 : (what == 0) = false := by simp; omega
              have n1 : (what == 1) = true := by simpa using w3
              clear w3
              go_wp2_with fail
              refine C1.mono ?_
              rintro e V2 ⟨rfl, m2⟩
              have C3 := C2.out V2 m2
              clear C1 m2 C2
              go_wp2_with fail
              refine C3.mono ?_
              rintro e V3 ⟨rfl, m3⟩
              have HX : Hid (B3 W p pm (g, .cells #[.int .i64 what, .int .u32 m, .int .u32 rt, .int .u32 bt, .bool small] 31 (0, 0)) ⟨x.r, x.b, lef x.l k⟩ V3) := m3
              clear C3 m3
              go_wp2_with fail
              go_meet
              case rel => exact ⟨_, HN, HX, rfl⟩
            · have n0 : (what == 0) = false := by simp; omega
              have n1 : (what == 1) = false := by simp; omega
              have n2 : (what == 2) = true := by simpa using w3
              clear w3
              go_wp2_with fail
              refine C1.mono ?_
              rintro e V2 ⟨rfl, m2⟩
              have C3 := C2.out V2 m2
              clear C1 m2 C2
              go_wp2_with fail
              refine C3.mono ?_
              rintro e V3 ⟨rfl, m3⟩
              have HX : Hid (B3 W p pm (g, .cells #[.int .i64 what, .int .u32 m, .int .u32 rt, .int .u32 bt, .bool small] 31 (0, 0)) ⟨x.r, x.b, lef x.l k⟩ V3) := m3
              clear C3 m3
              go_wp2_with fail
              go_meet
              case rel => exact ⟨_, HN, HX, rfl⟩
          · have n0 : (what == 0) = false := by simp; omega
            have n1 : (what == 1) = false := by simp; omega
            have n2 : (what == 2) = false := by simp; omega
            clear w3
            by_cases w4 : what = 3 ∨ what = 4
            · have C1 := tick_any HX.out hxr hxb hxl
              have C2 : Hid (∀ V, Mem W V [Bk 43 p x.r x.b (tik x.r x.b x.l), Bk 29 pm x.r x.b x.l, (g, .cells #[.int .i64 what, .int .u32 m, .int .u32 rt, .int .u32 bt, .bool small] 31 (0, 0))] → Calls Try.prog 11 #[.pointer (some ⟨pm, 0, none⟩)] V fun e V' => e = .returned (.tuple #[]) ∧ B3 W p pm (g, .cells #[.int .i64 what, .int .u32 m, .int .u32 rt, .int .u32 bt, .bool small] 31 (0, 0)) ⟨x.r, x.b, tik x.r x.b x.l⟩ V') := fun V h => (rtick_any (swp20 h) hxr hxb hxu).mono (by rintro e V' ⟨rfl, h⟩; exact ⟨rfl, swp20 h⟩)
              have HN : Hid (Nb.Ok ⟨x.r, x.b, tik x.r x.b x.l⟩) := ⟨hxr, hxb, tik_in hxr hxb hxl⟩
              clear HX c2 c3 hxr hxb hxl hxu
              rcases w4 with w4 | w4
              · have n3 : (what == 3) = true := by simpa using w4
                clear w4
                go_wp2_with fail
                refine C1.mono ?_
                rintro e V2 ⟨rfl, m2⟩
                have C3 := C2.out V2 m2
                clear C1 m2 C2
                go_wp2_with fail
                refine C3.mono ?_
                rintro e V3 ⟨rfl, m3⟩
                have HX : Hid (B3 W p pm (g, .cells #[.int .i64 what, .int .u32 m, .int .u32 rt, .int .u32 bt, .bool small] 31 (0, 0)) ⟨x.r, x.b, tik x.r x.b x.l⟩ V3) := m3
                clear C3 m3
                go_wp2_with fail
                go_meet
                case rel => exact ⟨_, HN, HX, rfl⟩
              · have n3 : (what == 3) = false := by simp; omega
                have n4 : (what == 4) = true := by simpa using w4
                clear w4
                go_wp2_with fail
                refine C1.mono ?_
                rintro e V2 ⟨rfl, m2⟩
                have C3 := C2.out V2 m2
                clear C1 m2 C2
                go_wp2_with fail
                refine C3.mono ?_
                rintro e V3 ⟨rfl, m3⟩
                have HX : Hid (B3 W p pm (g, .cells #[.int .i64 what, .int .u32 m, .int .u32 rt, .int .u32 bt, .bool small] 31 (0, 0)) ⟨x.r, x.b, tik x.r x.b x.l⟩ V3) := m3
                clear C3 m3
                go_wp2_with fail
                go_meet
                case rel => exact ⟨_, HN, HX, rfl⟩
            · have n3 : (what == 3) = false := by simp; omega
              have n4 : (what == 4) = false := by simp; omega
              clear w4
              have C1 := set_any HX.out rt bt
              have C2 : Hid (∀ V, Mem W V [Bk 43 p rt bt (sml x.l bt), Bk 29 pm x.r x.b x.l, (g, .cells #[.int .i64 what, .int .u32 m, .int .u32 rt, .int .u32 bt, .bool small] 31 (0, 0))] → Calls Try.prog 13 #[.pointer (some ⟨pm, 0, none⟩), .int .u32 rt, .int .u32 bt] V fun e V' => e = .returned (.tuple #[]) ∧ B3 W p pm (g, .cells #[.int .i64 what, .int .u32 m, .int .u32 rt, .int .u32 bt, .bool small] 31 (0, 0)) ⟨rt, bt, sml x.l bt⟩ V') := fun V h => (rset_any (swp20 h) rt bt).mono (by rintro e V' ⟨rfl, h⟩; exact ⟨rfl, swp20 h⟩)
              have HN : Hid (Nb.Ok ⟨rt, bt, sml x.l bt⟩) := ⟨hrt, hbt, sml_in hbt hxl.1⟩
              clear HX hxr hxb hxl hxu
              go_wp2_with fail
              refine C1.mono ?_
              rintro e V2 ⟨rfl, m2⟩
              have C3 := C2.out V2 m2
              have d2 : V2.cell? ⟨g, 2, none⟩ = some (.int .u32 rt) := m2.cell 2 rfl 2
              have d3 : V2.cell? ⟨g, 3, none⟩ = some (.int .u32 bt) := m2.cell 2 rfl 3
              clear C1 m2 C2 c2 c3
              go_wp2_with fail
              refine C3.mono ?_
              rintro e V3 ⟨rfl, m3⟩
              have HX : Hid (B3 W p pm (g, .cells #[.int .i64 what, .int .u32 m, .int .u32 rt, .int .u32 bt, .bool small] 31 (0, 0)) ⟨rt, bt, sml x.l bt⟩ V3) := m3
              clear C3 m3 d2 d3
              go_wp2_with fail
              go_meet
              case rel => exact ⟨_, HN, HX, rfl⟩
        case rest => as_aux_lemma =>
          obtain ⟨y, HN, HY, rfl⟩ := hcut
          clear HX c0 c2 c3 hxr hxb hxl hxu hrt hbt hk
          obtain ⟨r, b, l⟩ := y
          have HS : Hid (∀ V, B3 W p pm (g, .cells #[.int .i64 what, .int .u32 m, .int .u32 rt, .int .u32 bt, .bool small] 31 (0, 0)) ⟨r, b, l⟩ V → (fun V => V.cell? ⟨pm, 2, none⟩ = some (.int .u32 l)) V) := fun V h => Mem.cell h 1 rfl 2
          go_upto_region 25 with fail
          refine wp_region_held_drew (S := (fun V => V.cell? ⟨pm, 2, none⟩ = some (.int .u32 l))) (by kernel_rfl) (HS.out _ (Mem.drew HY.out)) (fun hHeld => ?_)
          refine wpAnyH_take (i := 0) (v := ?_) rfl (by kernel_rfl) (by kernel_rfl) (by kernel_rfl) (fun _ _ _ h => h) (Or.inl ⟨by rfl, ?z0⟩) (by assumption) ?_
          case z0 =>
           intro w hSw
           (try dsimp only at hSw)
           go_simp
           all_goals with_reducible rfl
          try simp only [List.getElem_toArray, List.getElem_cons_zero, List.getElem_cons_succ, Act.put, List.setIfInBounds_toArray, List.set_cons_zero, List.set_cons_succ]
          refine wpAnyH_take (i := 2) (v := ?_) rfl (by kernel_rfl) (by kernel_rfl) (by kernel_rfl) (fun _ _ _ h => h) (Or.inl ⟨by rfl, ?z2⟩) (by assumption) ?_
          case z2 =>
           intro w hSw
           (try dsimp only at hSw)
           go_simp
           all_goals with_reducible rfl
          try simp only [List.getElem_toArray, List.getElem_cons_zero, List.getElem_cons_succ, Act.put, List.setIfInBounds_toArray, List.set_cons_zero, List.set_cons_succ]
          refine wpAnyH_take (i := 3) (v := ?_) rfl (by kernel_rfl) (by kernel_rfl) (by kernel_rfl) (fun _ _ _ h => h) (Or.inl ⟨by rfl, ?z3⟩) (by assumption) ?_
          case z3 =>
           intro w hSw
           (try dsimp only at hSw)
           go_simp
           all_goals with_reducible rfl
          try simp only [List.getElem_toArray, List.getElem_cons_zero, List.getElem_cons_succ, Act.put, List.setIfInBounds_toArray, List.set_cons_zero, List.set_cons_succ]
          refine wpAnyH_take (i := 4) (v := ?_) rfl (by kernel_rfl) (by kernel_rfl) (by kernel_rfl) (fun _ _ _ h => h) (Or.inl ⟨by rfl, ?z4⟩) (by assumption) ?_
          case z4 =>
           intro w hSw
           (try dsimp only at hSw)
           go_simp
           all_goals with_reducible rfl
          try simp only [List.getElem_toArray, List.getElem_cons_zero, List.getElem_cons_succ, Act.put, List.setIfInBounds_toArray, List.set_cons_zero, List.set_cons_succ]
          refine wpAnyH_take (i := 5) (v := ?_) rfl (by kernel_rfl) (by kernel_rfl) (by kernel_rfl) (fun _ _ _ h => h) (Or.inl ⟨by rfl, ?z5⟩) (by assumption) ?_
          case z5 =>
           intro w hSw
           (try dsimp only at hSw)
           go_simp
           all_goals with_reducible rfl
          try simp only [List.getElem_toArray, List.getElem_cons_zero, List.getElem_cons_succ, Act.put, List.setIfInBounds_toArray, List.set_cons_zero, List.set_cons_succ]
          have C1 := level_any (Mem.drew HY.out)
          refine wpAnyH_ready (rs := [1]) (by kernel_rfl) (by simp) ?_
          refine AllReadyH.cons rfl (fun K hK => ?_) AllReadyH.nil
          go_simp
          with_reducible refine (C1).mono ?_
          rintro e V2 ⟨rfl, rfl⟩
          try go_wp2_with fail
          clear C1
          refine hK.out _ _ (HS.out _ (Mem.drew HY.out)) (fun hHeld => ?_)
          clear hK K
          try simp only [List.getElem_toArray, List.getElem_cons_zero, List.getElem_cons_succ, Act.put, List.setIfInBounds_toArray, List.set_cons_zero, List.set_cons_succ]
          refine wpAnyH_take (i := 6) (v := ?_) rfl (by kernel_rfl) (by kernel_rfl) (by kernel_rfl) (fun _ _ _ h => h) (Or.inl ⟨by rfl, ?z6⟩) (by assumption) ?_
          case z6 =>
           intro w hSw
           (try dsimp only at hSw)
           go_simp
           all_goals with_reducible rfl
          try simp only [List.getElem_toArray, List.getElem_cons_zero, List.getElem_cons_succ, Act.put, List.setIfInBounds_toArray, List.set_cons_zero, List.set_cons_succ]
          refine wpAnyH_done (by kernel_rfl) ?_ _
          have HS9 : Hid (∃ x : Nb, x.Ok ∧ Mem W wc.drew [Bk 43 p x.r x.b x.l, Bk 29 pm x.r x.b x.l]) := ⟨_, HN.out, out20 (Mem.drew HY.out)⟩
          clear HS HY HN hHeld
          go_wp2_with fail
          go_roundw
          case rel => exact ⟨i + 1, by omega, by go_num, HS9.out⟩
          case measure => simp [intOf]; omega
    · obtain rfl : i = n := by omega
      have k1 : ¬ ((i : Int) < i) := by omega
      have HB : Hid (Below W.heap.size W wr) := by
        obtain ⟨x, -, hM⟩ := HS.out
        exact hM.below
      clear HS HX0
      go_wp2_with fail
      go_ret
      exact ⟨rfl, HB.out⟩
end Li
end Go.Proofs.Yteojfacalkklfaa
