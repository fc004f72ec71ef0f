/-
  Sessions: SessFull.
-/
import Derived.Test.YtgeeijinhneoiaaSsFullM
namespace Go.Proofs.Ytgeeijinhneoiaa
open Go.RowKit
open Sm
open Po
open Wh
set_option linter.unusedVariables false
set_option linter.unusedSimpArgs false
set_option maxRecDepth 20000

namespace Ss
section
variable {PS : List Sn → Nat → List (Nat × Obj) → Prop}
set_option maxHeartbeats 8000000 in
theorem full19_law (W : World) (hc : SC W PS) (n most k : Int) (hn : 0 ≤ n ∧ n ≤ 255) (hm : 0 ≤ most ∧ most ≤ 255) (hk : 0 ≤ k ∧ k ≤ 255) :
    Calls Try.prog 7 #[.int .u8 n, .int .u8 most, .int .u8 k] W fun e W' => e = .returned (.bool true) ∧ Below W.heap.size W W' := by
  have K1 := known19_any W hc
  have HC : Hid (SC W PS) := hc
  obtain ⟨N, hN⟩ : ∃ N : Nat, n.tmod 50 = N := ⟨(n.tmod 50).toNat, by rw [Int.tmod_eq_emod_of_nonneg hn.1]; omega⟩
  obtain ⟨M, hM⟩ : ∃ M : Nat, most.tmod 40 = M := ⟨(most.tmod 40).toNat, by rw [Int.tmod_eq_emod_of_nonneg hm.1]; omega⟩
  have hN50 : N < 50 := by rw [Int.tmod_eq_emod_of_nonneg hn.1] at hN; omega
  have hM40 : M < 40 := by rw [Int.tmod_eq_emod_of_nonneg hm.1] at hM; omega
  have w1 : IntKind.u8.wrap (N : Int) = N := by rw [IntKind.wrap_u8]; omega
  have w2 : IntKind.u8.wrap (M : Int) = M := by rw [IntKind.wrap_u8]; omega
  have w3 : IntKind.i64.wrap (N : Int) = N := by rw [IntKind.wrap_i64]; omega
  have w4 : IntKind.i64.wrap (M : Int) = M := by rw [IntKind.wrap_i64]; omega
  clear hc
  go_enter Try.func7, Try.ntmps7
  go_wp2_with fail
  refine K1.mono ?_
  rintro e W1 ⟨rfl, hb1⟩
  have C1 := HC.out.new W1 hb1
  have HB1 : Hid (Below W.heap.size W W1) := hb1
  clear K1 hb1
  go_wp2_with fail
  refine C1.mono ?_
  rintro e W2 ⟨p, B, rfl, h1, m1⟩
  have HM : Hid (PS (fl 0) p B ∧ Mem W W2 (B ++ [])) := ⟨h1, by
    rw [List.append_nil]
    exact ⟨HB1.out.trans (m1.below.mono HB1.out.size), fun q hq => Nat.le_trans HB1.out.size (m1.low q hq), m1.at_, m1.apart⟩⟩
  clear C1 h1 m1 HB1
  go_wp2_with fail
  go_loopw [9, 10, 11] (fun u9 u10 u11 w' => ∃ i : Nat, i ≤ N ∧ u9 = .int .i64 i ∧ Hid (∃ B, PS (fl (min i M)) p B ∧ Mem W w' (B ++ []))) (fun u9 u10 u11 w' => N - (intOf u9).toNat)
  case atStart => exact ⟨0, Nat.zero_le _, rfl, B, by rw [Nat.zero_min]; exact HM.out.1, HM.out.2⟩
  case round =>
    obtain ⟨i, hi, rfl, HI⟩ := hrel
    clear HM
    by_cases hlt : i < N
    · have j1 : (i : Int) < N := by omega
      obtain ⟨B2, h2, m2⟩ := HI.out
      have x1 : IntKind.u32.wrap (i : Int) = i := by rw [IntKind.wrap_u32]; omega
      have x2 : IntKind.u16.wrap (i : Int) = i := by rw [IntKind.wrap_u16]; omega
      have hlen : (fl (min i M)).length ≤ 1000 := by rw [fl_length]; omega
      have HA : Hid (∀ V L, Mem W V (B2 ++ L) → Calls Try.prog 13 #[.pointer (some ⟨p, 0, none⟩), .agg #[.int .u8 6, .int .u32 i, .int .u16 0, .int .u32 9, .int .u16 i, .int .u32 0, .slice none 0 0, .int .i64 0, .int .u32 0], .int .i64 M] V (SkQ PS W p L (.int .i64 (if i < M then 0 else 130)) (fl (min (i + 1) M)))) := fun V L hV => by
        have := HC.out.add h2 hV hlen (val := .agg #[.int .u8 6, .int .u32 i, .int .u16 0, .int .u32 9, .int .u16 i, .int .u32 0, .slice none 0 0, .int .i64 0, .int .u32 0]) (s := fs i) ⟨.slice none 0 0, rfl, pr_nil V⟩ (fs_in (by omega)) (by simp [fs]) M (by omega)
        by_cases h : i < M
        · rw [if_pos h, show min (i + 1) M = i + 1 by omega]
          rw [show min i M = i by omega, (fl_room h).1, (fl_room h).2] at this
          exact this
        · rw [if_neg h, show min (i + 1) M = M by omega]
          rw [show min i M = M by omega, (fl_full (by omega)).1, (fl_full (by omega)).2] at this
          exact this
      obtain ⟨g, hg⟩ : ∃ g, wr.heap.size = g := ⟨_, rfl⟩
      have HW : Hid (Mem W (wr.alloc (.cells #[.int .u8 6, .int .u32 i, .int .u16 0, .int .u32 9, .int .u16 i, .int .u32 0, .slice none 0 0, .int .i64 0, .int .u32 0] 39)) (B2 ++ [(g, .cells #[.int .u8 6, .int .u32 i, .int .u16 0, .int .u32 9, .int .u16 i, .int .u32 0, .slice none 0 0, .int .i64 0, .int .u32 0] 39 (0, 0))])) := by
        have := m2.push g (.cells #[.int .u8 6, .int .u32 i, .int .u16 0, .int .u32 9, .int .u16 i, .int .u32 0, .slice none 0 0, .int .i64 0, .int .u32 0] 39) hg.symm
        rw [List.append_nil] at this
        exact this
      clear HI h2 m2 hlen
      go_upto_region 9 with fail
      refine wp_letter (fun X => Mem W X (B2 ++ [(g, .cells #[.int .u8 6, .int .u32 i, .int .u16 0, .int .u32 9, .int .u16 i, .int .u32 0, .slice none 0 0, .int .i64 0, .int .u32 0] 39 (0, 0))])) (by exact HW.out) ?_
      clear HW hg
      intro X hX
      obtain ⟨q0, q1, q2, q3, q4, q5, q6, q7, q8⟩ := bx_of 0 (hX.perm List.perm_append_comm) rfl
      have C2 := HA.out X _ hX
      clear HA hX
      go_wp2_with fail
      refine C2.mono ?_
      rintro e V ⟨rfl, B3, h3, m3⟩
      have HE : Hid (∃ B, PS (fl (min (i + 1) M)) p B ∧ Mem W V (B ++ [])) := ⟨B3, h3, by
        rw [List.append_nil]
        exact (m3.perm List.perm_append_comm).sub⟩
      clear C2 h3 m3 q0 q1 q2 q3 q4 q5 q6 q7 q8
      by_cases hm2 : i < M
      · have j2 : (i : Int) < M := by omega
        simp only [if_pos hm2]
        go_wp2_with fail
        go_roundw
        case rel => exact ⟨i + 1, by omega, by go_num, HE.out⟩
        case measure => simp [intOf]; omega
      · have j2 : ¬ (i : Int) < M := by omega
        simp only [if_neg hm2]
        go_wp2_with fail
        go_roundw
        case rel => exact ⟨i + 1, by omega, by go_num, HE.out⟩
        case measure => simp [intOf]; omega
    · have j1 : ¬ (i : Int) < N := by omega
      obtain rfl : i = N := by omega
      obtain ⟨B2, h2, m2⟩ := HI.out
      have hlen : (fl (min i M)).length ≤ 1000 := by rw [fl_length]; omega
      by_cases hf : M ≤ i ∧ 0 < M
      · have j2 : (M : Int) ≤ i := by omega
        have j3 : (0 : Int) < M := by omega
        have j4 : decide ((M : Int) ≤ i) = true := by simpa using j2
        have j5 : ((M : Int) == 0) = false := by simp; omega
        obtain ⟨J, hJ⟩ : ∃ J : Nat, k.tmod M = J := ⟨(k.tmod M).toNat, by
          rw [Int.tmod_eq_emod_of_nonneg hk.1]
          have := Int.emod_nonneg k (b := (M : Int)) (by omega)
          omega⟩
        have hJM : J < M := by
          rw [Int.tmod_eq_emod_of_nonneg hk.1] at hJ
          have := Int.emod_lt_of_pos k j3
          omega
        have w5 : IntKind.i64.wrap k = k := by rw [IntKind.wrap_i64]; omega
        have w6 : IntKind.i64.wrap (J : Int) = J := by rw [IntKind.wrap_i64]; omega
        have w7 : IntKind.u32.wrap (J : Int) = J := by rw [IntKind.wrap_u32]; omega
        rw [show min i M = M by omega] at h2 hlen
        have C2 := HC.out.drop h2 m2 hlen (6, (J : Int), 0) ⟨⟨by show (0:Int) ≤ 6; omega, by show (6:Int) ≤ 255; omega⟩, ⟨by show (0:Int) ≤ J; omega, by show (J:Int) ≤ 4294967295; omega⟩, ⟨by show (0:Int) ≤ 0; omega, by show (0:Int) ≤ 65535; omega⟩⟩
        rw [fl_goes hJM] at C2
        obtain ⟨g1, g2⟩ := fl_comes hJM
        have hl2 : (dk (6, (J : Int), 0) (fl M)).length ≤ 1000 := by
          have := dk_len (fl_goes hJM)
          rw [fl_length] at this
          omega
        have hmin : min (i : Int) M = M := by omega
        clear HI h2 m2 hlen
        go_wp2_with fail
        refine C2.mono ?_
        rintro e V ⟨rfl, B3, h3, m3⟩
        have C3 := HC.out.add h3 m3 hl2 (val := .agg #[.int .u8 0, .int .u32 0, .int .u16 0, .int .u32 99, .int .u16 0, .int .u32 0, .slice none 0 0, .int .i64 0, .int .u32 0]) (s := fz) ⟨.slice none 0 0, rfl, pr_nil V⟩ fz_in (by simp [fz]) M (by omega)
        rw [g1] at C3
        clear C2 h3 m3
        go_wp2_with fail
        refine C3.mono ?_
        rintro e V2 ⟨rfl, B4, h4, m4⟩
        have C4 := HC.out.len h4 m4 (by rw [g2]; omega)
        rw [g2] at C4
        clear C3 h4 m4
        go_wp2_with fail
        refine C4.mono ?_
        rintro e V3 ⟨rfl, B5, h5, m5⟩
        have HB : Hid (Below W.heap.size W V3) := m5.below
        clear C4 h5 m5
        go_wp2_with fail
        · go_ret
          exact ⟨rfl, HB.out⟩
        · go_ret
          have e9 : ((M : Int) == i) = true := by simp; omega
          exact ⟨by show Ending.returned (Value.bool ((M : Int) == i)) = _; rw [e9], HB.out⟩
      · have C4 := HC.out.len h2 m2 hlen
        rw [fl_length] at C4
        clear HI h2 m2 hlen
        by_cases hMi : M ≤ i
        · obtain rfl : M = 0 := by omega
          have j2 : ((0 : Nat) : Int) ≤ i := by omega
          rw [show min i 0 = 0 by omega] at C4
          by_cases h0 : 0 < i
          · have j6 : ((0 : Nat) : Int) < i := by omega
            simp only [Int.natCast_zero] at *
            go_wp2_with fail
            refine C4.mono ?_
            rintro e V3 ⟨rfl, B5, h5, m5⟩
            have HB : Hid (Below W.heap.size W V3) := m5.below
            clear C4 h5 m5
            go_wp2_with fail
            go_ret
            exact ⟨rfl, HB.out⟩
          · obtain rfl : i = 0 := by omega
            simp only [Int.natCast_zero] at *
            go_wp2_with fail
            refine C4.mono ?_
            rintro e V3 ⟨rfl, B5, h5, m5⟩
            have HB : Hid (Below W.heap.size W V3) := m5.below
            clear C4 h5 m5
            go_wp2_with fail
            go_ret
            exact ⟨rfl, HB.out⟩
        · have j2 : ¬ (M : Int) ≤ i := by omega
          have j4 : decide ((M : Int) ≤ i) = false := decide_eq_false j2
          have j6 : ¬ (M : Int) < i := by omega
          rw [show min i M = i by omega] at C4
          go_wp2_with fail
          refine C4.mono ?_
          rintro e V3 ⟨rfl, B5, h5, m5⟩
          have HB : Hid (Below W.heap.size W V3) := m5.below
          clear C4 h5 m5
          go_wp2_with fail
          go_ret
          exact ⟨rfl, HB.out⟩
end
end Ss
end Go.Proofs.Ytgeeijinhneoiaa
