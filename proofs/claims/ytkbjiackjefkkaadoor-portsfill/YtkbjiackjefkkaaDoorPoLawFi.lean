/-
  P17.1, P17.2: just a class's ports of a pool are given out, each once, the lowest first, address by address; then none.
-/
import Derived.Test.YtkbjiackjefkkaaDoorPoFiM
import Derived.Test.YtkbjiackjefkkaaDoorPoHoM
namespace Go.Proofs.YtkbjiackjefkkaaDoor
open Go.RowKit
open Sm
open Po
set_option linter.unusedVariables false
set_option linter.unusedSimpArgs false
set_option maxRecDepth 20000

namespace Po
section
variable {PS : List Mk → Nat → List (Nat × Obj) → Prop}
theorem infoU4 : (Tryd.prog.info? 33).map (fun i => (i.zero, i.size, i.bytes)) = some (some (.int .u32 0), 1, 4) := by kernel_rfl
set_option maxHeartbeats 8000000 in
theorem fill17_law (W : World) (hc : PC W PS) (n lo sz want : Int) (hn : 0 ≤ n ∧ n ≤ 255) (hlo : 0 ≤ lo ∧ lo ≤ 65535) (hsz : 0 ≤ sz ∧ sz ≤ 65535) (hw : 0 ≤ want ∧ want ≤ 65535) :
    Calls Tryd.prog 4 #[.int .u8 n, .int .u16 lo, .int .u16 sz, .int .u16 want] W fun e W' => e = .returned (.bool true) ∧ Below W.heap.size W W' := by
  have K1 := known17_any W hc
  have HC : Hid (PC W PS) := hc
  obtain ⟨l0, hl0⟩ : ∃ l0 : Int, lo % 1100 = l0 := ⟨_, rfl⟩
  obtain ⟨s0, hs0⟩ : ∃ s0 : Int, sz % 60 = s0 := ⟨_, rfl⟩
  obtain ⟨N, hN⟩ : ∃ N : Nat, n % 4 = (N : Int) := ⟨(n % 4).toNat, by omega⟩
  have hN1 : N ≤ 3 := by omega
  have hl1 : 0 ≤ l0 ∧ l0 ≤ 1099 := by omega
  have hs1 : 0 ≤ s0 ∧ s0 ≤ 59 := by omega
  have r1 : Int.tmod lo 1100 = l0 := by rw [Int.tmod_eq_emod_of_nonneg hlo.1, hl0]
  have r2 : Int.tmod sz 60 = s0 := by rw [Int.tmod_eq_emod_of_nonneg hsz.1, hs0]
  have r3 : Int.tmod n 4 = (N : Int) := by rw [Int.tmod_eq_emod_of_nonneg hn.1, hN]
  have r4 : Int.tmod want 2 = want % 2 := Int.tmod_eq_emod_of_nonneg hw.1
  have w1 : IntKind.u16.wrap l0 = l0 := wrap16_small _ (by omega) (by omega)
  have w2 : IntKind.u16.wrap s0 = s0 := wrap16_small _ (by omega) (by omega)
  have w3 : IntKind.u16.wrap (l0 + s0) = l0 + s0 := wrap16_small _ (by omega) (by omega)
  have w4 : IntKind.u8.wrap (N : Int) = (N : Int) := wrap8_small _ (by omega) (by omega)
  have w5 : IntKind.i64.wrap (N : Int) = (N : Int) := by rw [IntKind.wrap_i64]; omega
  have w6 : IntKind.i64.wrap (l0 + s0) = l0 + s0 := by rw [IntKind.wrap_i64]; omega
  have w7 : IntKind.i64.wrap l0 = l0 := by rw [IntKind.wrap_i64]; omega
  have w8 : IntKind.i64.wrap want = want := by rw [IntKind.wrap_i64]; omega
  clear hl0 hs0 hN hlo hsz hn hc
  go_enter Tryd.func4, Tryd.ntmps4
  go_wp2_with fail
  refine K1.mono ?_
  rintro e W1 ⟨rfl, hb0⟩
  have H0 : Hid (∃ C, SlB 33 1 (.slice none 0 0) 0 (ux (fp 0)).flatten C ∧ Mem W W1 C) := ⟨[], SlB.nil _ _, (Mem.nil W).after hb0⟩
  clear K1 hb0
  go_wp2_with fail
  go_loopw [10, 11] (fun u10 u11 w' => ∃ i : Nat, i ≤ N ∧ u11 = .int .i64 i ∧ Hid (∃ C, SlB 33 1 u10 i (ux (fp i)).flatten C ∧ Mem W w' C)) (fun u10 u11 w' => N - (intOf u11).toNat)
  case atStart => exact ⟨0, Nat.zero_le _, rfl, H0.out⟩
  case round =>
    obtain ⟨i, hi, rfl, HR⟩ := hrel
    clear H0
    by_cases hlt : i < N
    · have h1 : (i : Int) < N := by omega
      obtain ⟨C, hs, hm⟩ := HR.out
      have x1 : IntKind.i64.wrap (9 - (i : Int)) = 9 - (i : Int) := by rw [IntKind.wrap_i64]; omega
      have x2 : IntKind.u32.wrap (9 - (i : Int)) = 9 - (i : Int) := by rw [show IntKind.u32.wrap (9 - (i : Int)) = (9 - (i : Int)) % 4294967296 by simp [IntKind.wrap, IntKind.bits, IntKind.signed]]; omega
      obtain ⟨v', V', C', hrun, hM', hs'⟩ := slb_append (ty := 31) (V := wr.alloc (.cells #[.int .u32 (9 - (i : Int))] 33)) (L := []) Tryd.underlying31 infoU4 (by kernel_rfl) (by decide) hs (by rw [List.append_nil]; exact hm.after ((Below.refl _ _).alloc (Nat.le_refl _) _)) ⟨wr.heap.size, 0, none⟩ 1 1 [.int .u32 (9 - (i : Int))] rfl (fun j u hj => by
        rw [Addr.add_mid, Nat.zero_add, World.cell?_alloc_new]
        simpa using hj) (by intro u hu; rw [List.mem_singleton] at hu; subst hu; rfl) (by unfold maxLen; omega) (by omega)
      obtain ⟨qa, qc, rfl, -, -⟩ := hs'.slice
      have HQ : Hid (∃ C, SlB 33 1 (.slice qa (i + 1) qc) (i + 1) (ux (fp (i + 1))).flatten C ∧ Mem W V' C) := by
        refine ⟨C', ?_, by rwa [List.append_nil] at hM'⟩
        have e : (ux (fp (i + 1))).flatten = (ux (fp i)).flatten ++ [.int .u32 (9 - (i : Int))] := by rw [fp_snoc]; simp [ux]
        rw [e]
        exact hs'
      clear HR hs hm hs' hM'
      go_wp2_with (first | (refine wpList_append_run (.tmp 35) (.tmp 39) 31 31 rfl hrun rfl (by rfl) (by simp [Act.eval]) (by simp [Act.eval]) ?_) | fail)
      go_roundw
      case rel => exact ⟨i + 1, by omega, by go_num, HQ.out⟩
      case measure => simp [intOf]; omega
    · have h1 : ¬ ((i : Int) < N) := by omega
      obtain rfl : i = N := by omega
      obtain ⟨C, hs, hm⟩ := HR.out
      obtain ⟨pa, pc, rfl, hpc1, hpc2⟩ := hs.slice
      have HP : Hid (∀ (X : World) (B : List (Nat × Obj)), Mem W X (B ++ C) → Rw X 1 (.slice pa i pc) (ux (fp i))) := fun X B hX => by
        have e : (ux (fp i)).length = i := by simp [ux, fp_len]
        exact SlB.rw (T := 33) (xs := ux (fp i)) (fun x hx => by simp only [ux, List.mem_map] at hx; obtain ⟨y, -, rfl⟩ := hx; rfl) (by rw [e]; exact hs) (hX.perm List.perm_append_comm)
      have HB : Hid (∀ x ∈ fp i, 0 ≤ x ∧ x ≤ 4294967295) := by
        intro x hx
        simp only [fp, List.mem_map, List.mem_range] at hx
        obtain ⟨a, ha, rfl⟩ := hx
        omega
      have C1 := HC.out.new wr
      have HM : Hid (Mem W wr C) := hm
      clear HR hs hm
      go_wp2_with fail
      refine C1.mono ?_
      rintro e W2 ⟨p, B, rfl, h2, m2⟩
      have H1 : Hid (∃ xs B, PS xs p B ∧ MF l0 (l0 + s0) want 0 l0 xs ∧ xs.length ≤ 60 * 0 ∧ Mem W W2 (B ++ C)) := ⟨[], B, h2, mf_zero _ _ _, by simp, (HM.out.join m2).perm List.perm_append_comm⟩
      clear C1 h2 m2 HM
      go_wp2_with fail
      go_loopw [13] (fun u13 w' => ∃ j : Nat, j ≤ i ∧ u13 = .int .i64 j ∧ Hid (∃ xs B, PS xs p B ∧ MF l0 (l0 + s0) want j l0 xs ∧ xs.length ≤ 60 * j ∧ Mem W w' (B ++ C))) (fun u13 w' => i - (intOf u13).toNat)
      case atStart => exact ⟨0, Nat.zero_le _, rfl, H1.out⟩
      case round =>
        obtain ⟨j, hj, rfl, HR⟩ := hrel
        clear H1
        by_cases hjl : j < i
        · have h2 : (j : Int) < i := by omega
          have H2 : Hid (∃ xs B, PS xs p B ∧ MF l0 (l0 + s0) want j l0 xs ∧ (xs.length : Int) ≤ 60 * j + (l0 - l0) ∧ Mem W wr (B ++ C)) := by
            obtain ⟨xs, B, q1, q2, q3, q4⟩ := HR.out
            exact ⟨xs, B, q1, q2, by omega, q4⟩
          clear HR
          go_wp2_with fail
          go_loopw [14] (fun u14 w' => ∃ k : Int, l0 ≤ k ∧ k ≤ l0 + s0 + 1 ∧ u14 = .int .i64 k ∧ Hid (∃ xs B, PS xs p B ∧ MF l0 (l0 + s0) want j k xs ∧ (xs.length : Int) ≤ 60 * j + (k - l0) ∧ Mem W w' (B ++ C))) (fun u14 w' => (l0 + s0 + 2 - intOf u14).toNat)
          case atStart => exact ⟨l0, Int.le_refl _, by omega, rfl, H2.out⟩
          case round =>
            obtain ⟨k, hk1, hk2, rfl, HR⟩ := hrel
            clear H2
            by_cases hkt : k ≤ l0 + s0
            · obtain ⟨xs, B, hp, hmf, hxl, hm⟩ := HR.out
              have r5 : Int.tmod k 2 = k % 2 := Int.tmod_eq_emod_of_nonneg (by omega)
              by_cases hcl : cls want k
              · have e1 : (k % 2 != want % 2) = false := by simpa using hcl.1
                have e2 : (decide (k < 1024) != decide (want < 1024)) = false := by
                  have := hcl.2
                  by_cases h : want < 1024
                  · simp [this.2 h, h]
                  · simp [h, mt this.1 h]
                have hk9 : (k < 1024 ↔ want < 1024) := hcl.2
                have D := HC.out.take hp hm (by omega) (HP.out wr B hm) (by rw [fp_len]; omega) HB.out 6 l0 (l0 + s0) want (by omega) (by omega) (by omega) hw
                rw [mf_take hmf hjl hcl hk1 hkt] at D
                have hmf2 := mf_more hmf hcl hk1
                have HMF : Hid (MF l0 (l0 + s0) want j (k + 1) (xs ++ [(6, 9 - (j : Int), k)]) ∧ ((xs ++ [((6 : Int), 9 - (j : Int), k)]).length : Int) ≤ 60 * j + (k + 1 - l0)) := ⟨hmf2, by simp; omega⟩
                clear HR hmf hmf2 hxl hp hm
                go_wp2_with fail
                refine D.mono ?_
                intro e W3 hT
                obtain ⟨rfl, B3, h3, m3⟩ := tkq_some hT
                clear hT D
                obtain ⟨g1, hg1⟩ : ∃ g, W3.heap.size = g := ⟨_, rfl⟩
                have HM1 : Hid (Mem W (W3.alloc (.cells #[.int .u32 (9 - (j : Int)), .int .u16 k] 35)) ((B3 ++ C) ++ [(g1, .cells #[.int .u32 (9 - (j : Int)), .int .u16 k] 35 (0, 0))])) := m3.push g1 _ hg1.symm
                have HP3 : Hid (PS (xs ++ [(6, 9 - (j : Int), k)]) p B3) := h3
                clear m3 h3
                go_upto_region 19 with fail
                refine wp_letter (fun X => Mem W X ((B3 ++ C) ++ [(g1, .cells #[.int .u32 (9 - (j : Int)), .int .u16 k] 35 (0, 0))])) (by exact HM1.out) ?_
                intro W4 m4
                try simp only [hg1]
                have m4' := m4.perm List.perm_append_comm
                have a0 : W4.cell? ⟨g1, 0, none⟩ = some (.int .u32 (9 - (j : Int))) := m4'.cell 0 rfl 0
                have a1 : W4.cell? ⟨g1, 1, none⟩ = some (.int .u16 k) := m4'.cell 0 rfl 1
                obtain ⟨pa', pc', ee, -, -, hpp⟩ := pool_at (HP.out W4 B3 m4'.sub)
                rw [fp_len] at ee
                simp only [Value.slice.injEq, true_and] at ee
                obtain ⟨rfl, rfl⟩ := ee
                obtain ⟨mb, off, rfl, hpv⟩ := hpp j (by rw [fp_len]; exact hjl)
                have b0 := hpv W4 (Below.refl _ _)
                have hfj : (fp i)[j]'(by rw [fp_len]; exact hjl) = 9 - (j : Int) := by simp [fp]
                rw [hfj] at b0
                have x1 : (9 - (j : Int) != 9 - (j : Int)) = false := by simp
                have x2 : IntKind.i64.wrap k = k := by rw [IntKind.wrap_i64]; omega
                have x3 : (k != k) = false := by simp
                have HM4 : Hid (Mem W W4 (B3 ++ C)) := m4'.sub
                clear HM1 hg1 m4 m4' hpv hfj hpp HP HC
                go_wp2_with fail
                go_quiet (fail)
                go_wp2_with fail
                go_roundw
                case rel => exact ⟨k + 1, by omega, by omega, by go_num, _, B3, HP3.out, HMF.out.1, HMF.out.2, HM4.out.drewN _⟩
                case measure => simp [intOf]; omega
              · have hmf2 := mf_skip hmf hcl
                have HN : Hid (∃ xs B, PS xs p B ∧ MF l0 (l0 + s0) want j (k + 1) xs ∧ (xs.length : Int) ≤ 60 * j + (k + 1 - l0) ∧ Mem W wr (B ++ C)) := ⟨xs, B, hp, hmf2, by omega, hm⟩
                clear HR hmf hmf2 hxl hp hm
                by_cases h8 : k % 2 = want % 2
                · have e1 : (k % 2 != want % 2) = false := by simpa using h8
                  have h9 : ¬ (k < 1024 ↔ want < 1024) := fun h => hcl ⟨h8, h⟩
                  clear hcl h8
                  by_cases h7 : want < 1024
                  · have h6 : ¬ k < 1024 := fun h => h9 ⟨fun _ => h7, fun _ => h⟩
                    clear h9
                    go_wp2_with fail
                    go_roundw
                    case rel => exact ⟨k + 1, by omega, by omega, by go_num, HN.out⟩
                    case measure => simp [intOf]; omega
                  · have h6 : k < 1024 := Classical.byContradiction fun h => h9 ⟨fun e => absurd e h, fun e => absurd e h7⟩
                    clear h9
                    go_wp2_with fail
                    go_roundw
                    case rel => exact ⟨k + 1, by omega, by omega, by go_num, HN.out⟩
                    case measure => simp [intOf]; omega
                · have e1 : (k % 2 != want % 2) = true := by simpa using h8
                  clear hcl h8
                  go_wp2_with fail
                  go_roundw
                  case rel => exact ⟨k + 1, by omega, by omega, by go_num, HN.out⟩
                  case measure => simp [intOf]; omega
            · have hke : k = l0 + s0 + 1 := by omega
              subst hke
              have HN : Hid (∃ xs B, PS xs p B ∧ MF l0 (l0 + s0) want (j + 1) l0 xs ∧ xs.length ≤ 60 * (j + 1) ∧ Mem W wr (B ++ C)) := by
                obtain ⟨xs, B, q1, q2, q3, q4⟩ := HR.out
                exact ⟨xs, B, q1, mf_next q2, by omega, q4⟩
              clear HR
              go_wp2_with fail
              go_roundw
              case rel => exact ⟨j + 1, by omega, by go_num, HN.out⟩
              case measure => simp [intOf]; omega
        · have h2 : ¬ ((j : Int) < i) := by omega
          obtain rfl : j = i := by omega
          obtain ⟨xs, B, hp, hmf, hxl, hm⟩ := HR.out
          have D := HC.out.take hp hm (by omega) (HP.out wr B hm) (by rw [fp_len]; omega) HB.out 6 l0 (l0 + s0) want (by omega) (by omega) (by omega) hw
          rw [mf_end hmf] at D
          clear HR hp hm hmf hxl HP HC
          go_wp2_with fail
          refine D.mono ?_
          intro e W3 hT
          obtain ⟨rfl, B3, -, m3⟩ := tkq_none hT
          have HQ : Hid (Below W.heap.size W (W3.alloc (.cells #[.int .u32 0, .int .u16 0] 35))) := m3.below.alloc m3.below.size _
          clear D hT m3
          go_wp2_with fail
          go_ret
          exact ⟨rfl, HQ.out⟩
end
end Po
end Go.Proofs.YtkbjiackjefkkaaDoor
