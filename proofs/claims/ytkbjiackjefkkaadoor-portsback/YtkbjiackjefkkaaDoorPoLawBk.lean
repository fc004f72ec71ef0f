/-
  P17.1: a point that is freed is the next one that is given out; protocols hold theirs apart.
-/
import Derived.Test.YtkbjiackjefkkaaDoorPoBackM
namespace Go.Proofs.YtkbjiackjefkkaaDoor
open Go.RowKit
open Sm
open Po
set_option linter.unusedVariables false
set_option linter.unusedSimpArgs false
set_option maxRecDepth 20000

namespace Po
section
variable {PS : List Mk → Nat → List (Nat × Obj) → Prop}
theorem infoPt : (Tryd.prog.info? 35).map (fun i => (i.zero, i.size, i.bytes)) = some (some (.agg #[.int .u32 0, .int .u16 0]), 2, 8) := by kernel_rfl
set_option maxHeartbeats 8000000 in
theorem back17_law (W : World) (hc : PC W PS) (n k want : Int) (hn : 0 ≤ n ∧ n ≤ 255) (hk : 0 ≤ k ∧ k ≤ 255) (hw : 0 ≤ want ∧ want ≤ 65535) :
    Calls Tryd.prog 5 #[.int .u8 n, .int .u8 k, .int .u16 want] W fun e W' => e = .returned (.bool true) ∧ Below W.heap.size W W' := by
  obtain ⟨F, T, hF, hT, hF1, hF2, hFT, hT2⟩ := back_F hw.1
  have K1 := known17_any W hc
  have HC : Hid (PC W PS) := hc
  obtain ⟨N, hN⟩ : ∃ N : Nat, n % 20 + 1 = (N : Int) := ⟨(n % 20 + 1).toNat, by omega⟩
  have hN1 : 1 ≤ N ∧ N ≤ 20 := by omega
  have r1 : Int.tmod n 20 = n % 20 := Int.tmod_eq_emod_of_nonneg hn.1
  have w1 : IntKind.u8.wrap (n % 20) = n % 20 := wrap8_small _ (by omega) (by omega)
  have w2 : IntKind.i64.wrap (n % 20) = n % 20 := by rw [IntKind.wrap_i64]; omega
  have w3 : IntKind.i64.wrap (n % 20 + 1) = n % 20 + 1 := by rw [IntKind.wrap_i64]; omega
  have H6 : Hid (∀ (w1 : World) (i : Nat) (p : Nat) (B C : List (Nat × Obj)), i < N → PS (ms F i) p B → Mem W w1 (B ++ C) → Calls Tryd.prog 11 #[.pointer (some ⟨p, 0, none⟩), .int .u8 6, .slice (some ⟨w1.heap.size, 0, none⟩) 1 1, .int .u16 1, .int .u16 65535, .int .u16 want] (w1.alloc (.cells #[.int .u32 7] 33)) (TkQ PS W (ms F i) 6 p C (some (7, F + 2 * i)))) := by
    intro w1 i p B C hi h1 h2
    have := hc.take h1 (h2.after ((Below.refl _ _).alloc (Nat.le_refl _) (.cells #[.int .u32 7] 33))) (by rw [ms_len]; omega) (rw_one (W := w1.alloc (.cells #[.int .u32 7] 33)) (g := w1.heap.size) (x := 7) (by simp [World.cell?_alloc_new])) (by simp) (by simp) 6 1 65535 want (by omega) (by omega) (by omega) hw
    rw [hF, hT, tk_six (by omega)] at this
    exact this
  have H17 : Hid (∀ (w1 : World) (i : Nat) (p : Nat) (B C : List (Nat × Obj)), i < N → PS (ms F i ++ [(6, 7, F + 2 * i)]) p B → Mem W w1 (B ++ C) → Calls Tryd.prog 11 #[.pointer (some ⟨p, 0, none⟩), .int .u8 17, .slice (some ⟨w1.heap.size, 0, none⟩) 1 1, .int .u16 1, .int .u16 65535, .int .u16 want] (w1.alloc (.cells #[.int .u32 7] 33)) (TkQ PS W (ms F i ++ [(6, 7, F + 2 * i)]) 17 p C (some (7, F + 2 * i)))) := by
    intro w1 i p B C hi h1 h2
    have := hc.take h1 (h2.after ((Below.refl _ _).alloc (Nat.le_refl _) (.cells #[.int .u32 7] 33))) (by rw [List.length_append, ms_len]; simp; omega) (rw_one (W := w1.alloc (.cells #[.int .u32 7] 33)) (g := w1.heap.size) (x := 7) (by simp [World.cell?_alloc_new])) (by simp) (by simp) 17 1 65535 want (by omega) (by omega) (by omega) hw
    rw [hF, hT, tk_sev (by omega)] at this
    exact this
  have HL : Hid (∀ (w1 : World) (j : Nat) (p : Nat) (B C : List (Nat × Obj)), j < N → PS ((ms F N).erase (6, 7, F + 2 * j)) p B → Mem W w1 (B ++ C) → Calls Tryd.prog 11 #[.pointer (some ⟨p, 0, none⟩), .int .u8 6, .slice (some ⟨w1.heap.size, 0, none⟩) 1 1, .int .u16 1, .int .u16 65535, .int .u16 want] (w1.alloc (.cells #[.int .u32 7] 33)) (TkQ PS W ((ms F N).erase (6, 7, F + 2 * j)) 6 p C (some (7, F + 2 * j)))) := by
    intro w1 j p B C hj h1 h2
    have := hc.take h1 (h2.after ((Below.refl _ _).alloc (Nat.le_refl _) (.cells #[.int .u32 7] 33))) (by rw [er_len hj]; omega) (rw_one (W := w1.alloc (.cells #[.int .u32 7] 33)) (g := w1.heap.size) (x := 7) (by simp [World.cell?_alloc_new])) (by simp) (by simp) 6 1 65535 want (by omega) (by omega) (by omega) hw
    rw [hF, hT, tk_er hj (by omega)] at this
    exact this
  clear hF hT hw hc
  go_enter Tryd.func5, Tryd.ntmps5
  go_wp2_with fail
  refine K1.mono ?_
  rintro e W1 ⟨rfl, hb0⟩
  have C1 := HC.out.new W1
  have HB0 : Hid (Below W.heap.size W W1) := hb0
  clear K1 hb0
  go_wp2_with fail
  refine C1.mono ?_
  rintro e W2 ⟨p, B, rfl, h1, m1⟩
  have H0 : Hid (∃ B C, PS (ms F 0) p B ∧ SlB 35 2 (.slice none 0 0) 0 (pz F 0).flatten C ∧ Mem W W2 (B ++ C)) := by
    refine ⟨B, [], h1, SlB.nil _ _, ?_⟩
    have := ((Mem.nil W).after HB0.out).join m1
    simpa using this
  clear C1 h1 m1 HB0
  go_wp2_with fail
  go_loopw [8, 9] (fun u8 u9 w' => ∃ i : Nat, i ≤ N ∧ u9 = .int .i64 i ∧ Hid (∃ B C, PS (ms F i) p B ∧ SlB 35 2 u8 i (pz F i).flatten C ∧ Mem W w' (B ++ C))) (fun u8 u9 w' => N - (intOf u9).toNat)
  case atStart => exact ⟨0, Nat.zero_le _, rfl, H0.out⟩
  case round =>
    obtain ⟨i, hi, rfl, HR⟩ := hrel
    clear H0
    by_cases hlt : i < N
    · have h1 : (i : Int) < n % 20 + 1 := by omega
      obtain ⟨B, C, hp, hs, hm⟩ := HR.out
      have C6 := H6.out wr i p B C hlt hp hm
      have HS : Hid (SlB 35 2 u8 i (pz F i).flatten C) := hs
      clear HR hp hs hm HL
      go_wp2_with fail
      refine C6.mono ?_
      intro e W3 hT
      obtain ⟨rfl, B3, h3, m3⟩ := tkq_some hT
      clear hT C6
      obtain ⟨g1, hg1⟩ : ∃ g, W3.heap.size = g := ⟨_, rfl⟩
      have HM1 : Hid (Mem W (W3.alloc (.cells #[.int .u32 7, .int .u16 (F + 2 * i)] 35)) ((B3 ++ C) ++ [(g1, .cells #[.int .u32 7, .int .u16 (F + 2 * i)] 35 (0, 0))])) := m3.push g1 _ hg1.symm
      clear m3
      go_upto_region 9 with fail
      refine wp_letter (fun X => Mem W X ((B3 ++ C) ++ [(g1, .cells #[.int .u32 7, .int .u16 (F + 2 * i)] 35 (0, 0))])) (by exact HM1.out) ?_
      intro W4 m4
      try simp only [hg1]
      clear HM1 hg1
      rw [List.append_assoc] at m4
      have C17 := H17.out W4 i p B3 _ hlt h3 m4
      clear h3 m4
      go_wp2_with fail
      refine C17.mono ?_
      intro e W5 hT
      obtain ⟨rfl, B5, h5, m5⟩ := tkq_some hT
      clear hT C17
      obtain ⟨g2, hg2⟩ : ∃ g, W5.heap.size = g := ⟨_, rfl⟩
      have HM2 : Hid (Mem W (W5.alloc (.cells #[.int .u32 7, .int .u16 (F + 2 * i)] 35)) ((g2, .cells #[.int .u32 7, .int .u16 (F + 2 * i)] 35 (0, 0)) :: (g1, .cells #[.int .u32 7, .int .u16 (F + 2 * i)] 35 (0, 0)) :: (C ++ B5))) := (m5.push g2 _ hg2.symm).perm (by
        classical
        rw [List.perm_iff_count]
        intro q
        simp only [List.count_append, List.count_cons, List.count_nil]
        omega)
      have HP : Hid (PS (ms F (i + 1)) p B5) := h5
      clear m5 h5
      go_upto_region 10 with fail
      refine wp_letter (fun X => Mem W X ((g2, .cells #[.int .u32 7, .int .u16 (F + 2 * i)] 35 (0, 0)) :: (g1, .cells #[.int .u32 7, .int .u16 (F + 2 * i)] 35 (0, 0)) :: (C ++ B5))) (by exact HM2.out) ?_
      intro W6 m6
      try simp only [hg2]
      clear HM2 hg2
      have b0 : W6.cell? ⟨g2, 0, none⟩ = some (.int .u32 7) := m6.cell 0 rfl 0
      have b1 : W6.cell? ⟨g2, 1, none⟩ = some (.int .u16 (F + 2 * i)) := m6.cell 0 rfl 1
      have a0 : W6.cell? ⟨g1, 0, none⟩ = some (.int .u32 7) := m6.cell 1 rfl 0
      have a1 : W6.cell? ⟨g1, 1, none⟩ = some (.int .u16 (F + 2 * i)) := m6.cell 1 rfl 1
      have q1 := pt_eq 7 (F + 2 * i) 7 (F + 2 * i)
      simp only [BEq.rfl, Bool.and_self] at q1
      obtain ⟨v', V', C', hrun, hM', hs'⟩ := slb_append (ty := 51) (V := W6.alloc (.cells #[.int .u32 7, .int .u16 (F + 2 * i)] 35)) Tryd.underlying51 infoPt (by kernel_rfl) (by decide) HS.out (m6.sub.sub.after ((Below.refl _ _).alloc (Nat.le_refl _) _)) ⟨W6.heap.size, 0, none⟩ 1 1 [.int .u32 7, .int .u16 (F + 2 * i)] rfl (fun j u hj => by
        rw [Addr.add_mid, Nat.zero_add, World.cell?_alloc_new]
        simpa using hj) (by intro u hu; simp only [List.mem_cons, List.not_mem_nil, or_false] at hu; rcases hu with rfl | rfl <;> rfl) (by unfold maxLen; omega) (by omega)
      obtain ⟨qa, qc, rfl, -, -⟩ := hs'.slice
      have HQ : Hid (∃ B C, PS (ms F (i + 1)) p B ∧ SlB 35 2 (.slice qa (i + 1) qc) (i + 1) (pz F (i + 1)).flatten C ∧ Mem W V' (B ++ C)) := by
        refine ⟨B5, C', HP.out, ?_, hM'.perm List.perm_append_comm⟩
        have e : (pz F (i + 1)).flatten = (pz F i).flatten ++ [.int .u32 7, .int .u16 (F + 2 * i)] := by simp [pz]
        rw [e]
        exact hs'
      clear m6 hM' hs' HS HP
      go_wp2_with (first | (refine wpList_append_run (.tmp 51) (.tmp 53) 51 51 rfl hrun rfl (by rfl) (by simp [Act.eval]) (by simp [Act.eval]) ?_) | fail)
      go_roundw
      case rel => exact ⟨i + 1, by omega, by go_num, HQ.out⟩
      case measure => simp [intOf]; omega
    · have h1 : ¬ ((i : Int) < n % 20 + 1) := by omega
      obtain rfl : i = N := by omega
      obtain ⟨B, C, hp, hs, hm⟩ := HR.out
      clear HR H6 H17
      obtain ⟨j, hj⟩ : ∃ j : Nat, k % (i : Int) = (j : Int) := ⟨(k % (i : Int)).toNat, by have := Int.emod_nonneg k (show (i : Int) ≠ 0 by omega); omega⟩
      have hjl : j < i := by have := Int.emod_lt_of_pos k (show (0 : Int) < i by omega); omega
      have r2 : Int.tmod k (i : Int) = (j : Int) := by rw [Int.tmod_eq_emod_of_nonneg hk.1, hj]
      have z1 : ¬ ((i : Int) = 0) := by omega
      have hm2 : Mem W wr (C ++ B) := hm.perm List.perm_append_comm
      have hrw := SlB.rw (T := 35) (xs := pz F i) pz_two (by rw [pz_len]; exact hs) hm2
      obtain ⟨pa, pc, rfl, hpc1, hpc2⟩ := hs.slice
      obtain ⟨a', c', ee, -, -, -, hc4⟩ := hrw
      rw [pz_len] at ee hc4
      simp only [Value.slice.injEq, true_and] at ee
      obtain ⟨rfl, rfl⟩ := ee
      have hne : pz F i ≠ [] := fun e => by have := pz_len F i; rw [e] at this; simp at this; omega
      obtain ⟨mb, off, rfl, hcl⟩ := hc4.resolve_left hne
      have k0 := hcl j hjl 0 (.int .u32 7) (by rw [pz_at hjl]; rfl)
      have k1 := hcl j hjl 1 (.int .u16 (F + 2 * j)) (by rw [pz_at hjl]; rfl)
      rw [Nat.add_zero] at k0
      have hj1 : (j : Int) < i := by omega
      obtain ⟨g4, hg4⟩ : ∃ g, wr.heap.size = g := ⟨_, rfl⟩
      have HM4 : Hid (Mem W (wr.alloc (.cells #[.int .u32 7, .int .u16 (F + 2 * j)] 35)) ((B ++ C) ++ [(g4, .cells #[.int .u32 7, .int .u16 (F + 2 * j)] 35 (0, 0))])) := hm.push g4 _ hg4.symm
      have HP : Hid (PS (ms F i) p B) := hp
      clear hm hm2 hs hcl hne hp hj
      go_upto_region 14 with fail
      refine wp_letter (fun X => Mem W X ((B ++ C) ++ [(g4, .cells #[.int .u32 7, .int .u16 (F + 2 * j)] 35 (0, 0))])) (by exact HM4.out) ?_
      intro V0 m0
      try simp only [hg4]
      clear HM4 hg4 k0 k1 r2 z1
      rw [List.append_assoc] at m0
      obtain ⟨L, hL⟩ : ∃ L, C ++ [(g4, Obj.cells #[.int .u32 7, .int .u16 (F + 2 * j)] 35 (0, 0))] = L := ⟨_, rfl⟩
      have HG : Hid (∀ (X : World) (B : List (Nat × Obj)), Mem W X (B ++ L) → X.cell? ⟨g4, 0, none⟩ = some (.int .u32 7) ∧ X.cell? ⟨g4, 1, none⟩ = some (.int .u16 (F + 2 * j))) := by
        intro X B hX
        rw [← hL] at hX
        have := hX.perm (show List.Perm _ ((g4, Obj.cells #[.int .u32 7, .int .u16 (F + 2 * j)] 35 (0, 0)) :: (B ++ C)) by
          classical
          rw [List.perm_iff_count]
          intro q
          simp only [List.count_append, List.count_cons, List.count_nil]
          omega)
        exact ⟨this.cell 0 rfl 0, this.cell 0 rfl 1⟩
      rw [hL] at m0
      clear hL
      have ok6 : MOk (6, 7, F + 2 * (j : Int)) := by unfold MOk; simp; omega
      have ok17 : MOk (17, 7, F + 2 * (j : Int)) := by unfold MOk; simp; omega
      obtain ⟨c0, c1⟩ := HG.out V0 B m0
      have D1 := HC.out.free HP.out m0 (by rw [ms_len]; omega) 6 7 (F + 2 * j) ok6
      rw [if_pos (er_in hjl)] at D1
      clear HP m0
      go_wp2_with fail
      refine D1.mono ?_
      rintro e V1 ⟨rfl, B1, h1', m1'⟩
      clear D1 c0 c1
      obtain ⟨c0, c1⟩ := HG.out V1 B1 m1'
      have D2 := HC.out.free h1' m1' (by rw [er_len hjl]; omega) 6 7 (F + 2 * j) ok6
      rw [if_neg er_no, List.erase_of_not_mem er_no] at D2
      clear h1' m1'
      go_wp2_with fail
      refine D2.mono ?_
      rintro e V2 ⟨rfl, B2, h2', m2'⟩
      clear D2 c0 c1
      obtain ⟨c0, c1⟩ := HG.out V2 B2 m2'
      have D3 := HC.out.held h2' m2' (by rw [er_len hjl]; omega) 6 7 (F + 2 * j) ok6
      rw [decide_eq_false er_no] at D3
      clear h2' m2'
      go_wp2_with fail
      refine D3.mono ?_
      rintro e V3 ⟨rfl, B3, h3', m3'⟩
      clear D3 c0 c1
      obtain ⟨c0, c1⟩ := HG.out V3 B3 m3'
      have D4 := HC.out.held h3' m3' (by rw [er_len hjl]; omega) 17 7 (F + 2 * j) ok17
      rw [decide_eq_true (er_sev hjl)] at D4
      clear h3' m3'
      go_wp2_with fail
      refine D4.mono ?_
      rintro e V4 ⟨rfl, B4, h4', m4'⟩
      clear D4 c0 c1
      have D5 := HC.out.count h4' m4' (by rw [er_len hjl]; omega)
      rw [er_len hjl, show ((2 * i - 1 : Nat) : Int) = 2 * (i : Int) - 1 by omega] at D5
      have w5 : IntKind.i64.wrap (2 * (i : Int)) = 2 * (i : Int) := by rw [IntKind.wrap_i64]; omega
      have w6 : IntKind.i64.wrap (2 * (i : Int) - 1) = 2 * (i : Int) - 1 := by rw [IntKind.wrap_i64]; omega
      clear h4' m4'
      go_wp2_with fail
      refine D5.mono ?_
      rintro e V5 ⟨rfl, B5, h5', m5'⟩
      clear D5
      have D6 := HL.out V5 j p B5 L hjl h5' m5'
      clear h5' m5'
      go_wp2_with fail
      refine D6.mono ?_
      intro e V6 hT
      obtain ⟨rfl, B6, h6', m6'⟩ := tkq_some hT
      clear hT D6
      obtain ⟨g5, hg5⟩ : ∃ g, V6.heap.size = g := ⟨_, rfl⟩
      have HM5 : Hid (Mem W (V6.alloc (.cells #[.int .u32 7, .int .u16 (F + 2 * j)] 35)) ((B6 ++ L) ++ [(g5, .cells #[.int .u32 7, .int .u16 (F + 2 * j)] 35 (0, 0))])) := m6'.push g5 _ hg5.symm
      clear m6' h6'
      go_upto_region 17 with fail
      refine wp_letter (fun X => Mem W X ((B6 ++ L) ++ [(g5, .cells #[.int .u32 7, .int .u16 (F + 2 * j)] 35 (0, 0))])) (by exact HM5.out) ?_
      intro V7 m7
      try simp only [hg5]
      have m7' := m7.perm List.perm_append_comm
      obtain ⟨c0, c1⟩ := HG.out V7 B6 m7'.sub
      have d0 : V7.cell? ⟨g5, 0, none⟩ = some (.int .u32 7) := m7'.cell 0 rfl 0
      have d1 : V7.cell? ⟨g5, 1, none⟩ = some (.int .u16 (F + 2 * j)) := m7'.cell 0 rfl 1
      have HB : Hid (Below W.heap.size W V7) := m7.below
      have q1 := pt_eq 7 (F + 2 * j) 7 (F + 2 * j)
      simp only [BEq.rfl, Bool.and_self] at q1
      clear HM5 hg5 m7 m7' HG
      go_wp2_with fail
      go_ret
      exact ⟨rfl, HB.out⟩
end
end Po
end Go.Proofs.YtkbjiackjefkkaaDoor
