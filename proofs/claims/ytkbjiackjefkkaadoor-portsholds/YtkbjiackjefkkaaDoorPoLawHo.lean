/-
  P17.1, P17.2: what is held by hand isn't given out, and isn't held twice.
-/
import Derived.Test.YtkbjiackjefkkaaDoorPoHoM
namespace Go.Proofs.YtkbjiackjefkkaaDoor
open Go.RowKit
open Sm
open Po
set_option linter.unusedVariables false
set_option linter.unusedSimpArgs false
set_option maxRecDepth 20000

namespace Po
section
variable {PS : List Mk → Nat → List (Nat × Obj) → Prop}
set_option maxHeartbeats 8000000 in
theorem holds17_law (W : World) (hc : PC W PS) (a : Option Addr) (n cap : Nat) (ks : Nat → Int)
    (hks : ∀ i, i < n → ∃ b off, a = some ⟨b, off, none⟩ ∧ W.cell? ⟨b, off + i, none⟩ = some (.int .u16 (ks i)) ∧ 0 ≤ ks i ∧ ks i ≤ 65535) (lo sz want : Int) (hlo : 0 ≤ lo ∧ lo ≤ 65535) (hsz : 0 ≤ sz ∧ sz ≤ 65535) (hw : 0 ≤ want ∧ want ≤ 65535) :
    Calls Tryd.prog 6 #[.slice a n cap, .int .u16 lo, .int .u16 sz, .int .u16 want] W fun e W' => e = .returned (.bool true) ∧ Below W.heap.size W W' := by
  have K1 := known17_any W hc
  have HC : Hid (PC W PS) := hc
  by_cases hn : (30 : Int) < n
  · clear hks hlo hsz hw
    go_enter Tryd.func6, Tryd.ntmps6
    go_wp2_with fail
    refine K1.mono ?_
    rintro e W1 ⟨rfl, hb0⟩
    have HB0 : Hid (Below W.heap.size W W1) := hb0
    clear K1 hb0
    go_wp2_with fail
    go_ret
    exact ⟨rfl, HB0.out⟩
  · obtain ⟨l0, hl0⟩ : ∃ l0 : Int, 1024 + lo % 20 = l0 := ⟨_, rfl⟩
    obtain ⟨s0, hs0⟩ : ∃ s0 : Int, sz % 30 = s0 := ⟨_, rfl⟩
    have hl1 : 1024 ≤ l0 ∧ l0 ≤ 1043 := by omega
    have hs1 : 0 ≤ s0 ∧ s0 ≤ 29 := by omega
    have r1 : Int.tmod lo 20 = l0 - 1024 := by rw [Int.tmod_eq_emod_of_nonneg hlo.1]; omega
    have r2 : Int.tmod sz 30 = s0 := by rw [Int.tmod_eq_emod_of_nonneg hsz.1, hs0]
    have w1 : IntKind.u16.wrap (l0 - 1024) = l0 - 1024 := wrap16_small _ (by omega) (by omega)
    have w2 : IntKind.u16.wrap (1024 + (l0 - 1024)) = l0 := by rw [wrap16_small _ (by omega) (by omega)]; omega
    have w3 : IntKind.u16.wrap s0 = s0 := wrap16_small _ (by omega) (by omega)
    have HK : Hid (∀ i (hi : i < n), ∃ b off, a = some ⟨b, off, none⟩ ∧ ∀ V, Below W.heap.size W V → V.cell? ⟨b, off + i, none⟩ = some (.int .u16 ((List.range n).map ks)[i]!) ∧ 0 ≤ ((List.range n).map ks)[i]! ∧ ((List.range n).map ks)[i]! ≤ 65535) := by
      intro i hi
      obtain ⟨b, off, h1, h2, h3⟩ := hks i hi
      have e : ((List.range n).map ks)[i]! = ks i := by simp [hi]
      rw [e]
      exact ⟨b, off, h1, fun V hV => ⟨by rw [hV.cell (p := ⟨b, off + i, none⟩) (cell_lt h2)]; exact h2, h3⟩⟩
    obtain ⟨l, hl⟩ : ∃ l, (List.range n).map ks = l := ⟨_, rfl⟩
    have hll : l.length = n := by rw [← hl]; simp
    rw [hl] at HK
    clear hl hks hl0 hs0 hlo hsz
    go_enter Tryd.func6, Tryd.ntmps6
    go_wp2_with fail
    refine K1.mono ?_
    rintro e W1 ⟨rfl, hb0⟩
    have C1 := HC.out.new W1
    have HB0 : Hid (Below W.heap.size W W1) := hb0
    clear K1 hb0 hc
    go_wp2_with fail
    refine C1.mono ?_
    rintro e W2 ⟨p, B, rfl, h1, m1⟩
    have m2 : Mem W W2 B := by
      have := ((Mem.nil W).after HB0.out).join m1
      simpa using this
    obtain ⟨g, hg⟩ : ∃ g, W2.heap.size = g := ⟨_, rfl⟩
    have HP : Hid (PS [] p B) := h1
    have HM : Hid (Mem W (W2.alloc (.cells (ha []) 54)) (B ++ [(g, .cells (ha []) 54 (0, 0))])) := m2.push g _ hg.symm
    clear C1 h1 m1 HB0 m2
    go_upto_region 8 with fail
    refine wp_letter (fun X => Mem W X (B ++ [(g, .cells (ha []) 54 (0, 0))])) (by exact HM.out) ?_
    intro W3 m3
    try simp only [hg]
    have H0 : Hid (∃ B, PS (hm (l.take 0)) p B ∧ Mem W W3 (B ++ [(g, .cells (ha (hm (l.take 0))) 54 (0, 0))])) := ⟨B, HP.out, m3⟩
    clear HM hg m3 HP
    go_wp2_with fail
    go_loopw [11] (fun u11 w' => ∃ i : Nat, i ≤ n ∧ u11 = .int .i64 i ∧ Hid (∃ B, PS (hm (l.take i)) p B ∧ Mem W w' (B ++ [(g, .cells (ha (hm (l.take i))) 54 (0, 0))]))) (fun u11 w' => n - (intOf u11).toNat)
    case atStart => exact ⟨0, Nat.zero_le _, rfl, H0.out⟩
    case round =>
      obtain ⟨i, hi, rfl, HR⟩ := hrel
      clear H0
      by_cases hlt : i < n
      · have h1 : (i : Int) < n := by omega
        obtain ⟨B, hp, hm0⟩ := HR.out
        obtain ⟨mb, off, rfl, hV⟩ := HK.out i hlt
        obtain ⟨c0, c1, c2⟩ := hV _ hm0.below
        have hgi : l[i]! = l[i]'(by omega) := by simp [show i < l.length by omega]
        have ht := hm_take (l := l) (i := i) (by omega)
        rw [← hgi] at ht
        have hxl := hm_len (l := l) i (by omega)
        generalize l[i]! = x at *
        obtain ⟨kk, hkk⟩ : ∃ kk : Nat, x % 100 = (kk : Int) := ⟨(x % 100).toNat, by omega⟩
        have hk1 : kk < 100 := by omega
        have r3 : Int.tmod x 100 = (kk : Int) := by rw [Int.tmod_eq_emod_of_nonneg c1, hkk]
        have w4 : IntKind.u16.wrap (kk : Int) = (kk : Int) := wrap16_small _ (by omega) (by omega)
        have w5 : IntKind.u16.wrap (1020 + (kk : Int)) = 1020 + (kk : Int) := wrap16_small _ (by omega) (by omega)
        rw [hkk] at ht
        have D := HC.out.hold hp hm0 (by omega) 17 5 (1020 + (kk : Int)) (by unfold MOk; simp; omega)
        have HT : Hid (hm (l.take (i + 1)) = hp1 (hm (l.take i)) (17, 5, 1020 + (kk : Int))) := ht
        clear HR hp hm0 hV ht hgi hkk c1 c2 hxl
        generalize hm (l.take i) = xs at *
        by_cases hin : ((17 : Int), (5 : Int), 1020 + (kk : Int)) ∈ xs
        · simp only [if_pos hin] at D
          go_wp2_with fail
          refine D.mono ?_
          rintro e V1 ⟨rfl, B1, h1', m1'⟩
          have m2' := m1'.perm List.perm_append_comm
          have b1 : V1.cell? ⟨g, kk, none⟩ = some (.bool true) := by rw [m2'.cell 0 rfl kk, ha_at xs hk1, decide_eq_true hin]
          have f1 : V1.frozen? ⟨g, kk, none⟩ = false := m2'.free 0 rfl kk
          have hs : Mem W (V1.setCell ⟨g, kk, none⟩ (.bool true)) ([(g, .cells ((ha xs).setIfInBounds kk (.bool true)) 54 (0, 0))] ++ B1) := m2'.set 0 rfl kk (.bool true)
          have HQ : Hid (∃ B, PS (hm (l.take (i + 1))) p B ∧ Mem W (V1.setCell ⟨g, kk, none⟩ (.bool true)) (B ++ [(g, .cells (ha (hm (l.take (i + 1)))) 54 (0, 0))])) := by
            rw [HT.out, ← ha_set xs hk1]
            refine ⟨B1, by unfold hp1; rw [if_pos hin]; exact h1', hs.perm List.perm_append_comm⟩
          have hkk1 : (kk : Int) < 100 := by omega
          clear D h1' m1' m2' hs HT hin
          go_wp2_with fail
          go_roundw
          case rel => exact ⟨i + 1, by omega, by go_num, HQ.out⟩
          case measure => simp [intOf]; omega
        · simp only [if_neg hin] at D
          go_wp2_with fail
          refine D.mono ?_
          rintro e V1 ⟨rfl, B1, h1', m1'⟩
          have m2' := m1'.perm List.perm_append_comm
          have b1 : V1.cell? ⟨g, kk, none⟩ = some (.bool false) := by rw [m2'.cell 0 rfl kk, ha_at xs hk1, decide_eq_false hin]
          have f1 : V1.frozen? ⟨g, kk, none⟩ = false := m2'.free 0 rfl kk
          have hs : Mem W (V1.setCell ⟨g, kk, none⟩ (.bool true)) ([(g, .cells ((ha xs).setIfInBounds kk (.bool true)) 54 (0, 0))] ++ B1) := m2'.set 0 rfl kk (.bool true)
          have HQ : Hid (∃ B, PS (hm (l.take (i + 1))) p B ∧ Mem W (V1.setCell ⟨g, kk, none⟩ (.bool true)) (B ++ [(g, .cells (ha (hm (l.take (i + 1)))) 54 (0, 0))])) := by
            rw [HT.out, ← ha_set xs hk1]
            refine ⟨B1, by unfold hp1; rw [if_neg hin]; exact h1', hs.perm List.perm_append_comm⟩
          have hkk1 : (kk : Int) < 100 := by omega
          clear D h1' m1' m2' hs HT hin
          go_wp2_with fail
          go_roundw
          case rel => exact ⟨i + 1, by omega, by go_num, HQ.out⟩
          case measure => simp [intOf]; omega
      · have h1 : ¬ ((i : Int) < n) := by omega
        obtain ⟨B, hp, hm0⟩ := HR.out
        have hxl := hm_len (l := l) i (by omega)
        have hfs := fs_tk (xs := hm (l.take i)) (lo := l0) (sz := s0) (want := want) hl1.1 hs1.1 hw.1
        have w4 : IntKind.u16.wrap (l0 + s0) = l0 + s0 := wrap16_small _ (by omega) (by omega)
        have w5 : IntKind.i64.wrap (l0 + s0) = l0 + s0 := by rw [IntKind.wrap_i64]; omega
        have w6 : IntKind.i64.wrap l0 = l0 := by rw [IntKind.wrap_i64]; omega
        have w7 : IntKind.i64.wrap want = want := by rw [IntKind.wrap_i64]; omega
        have D := HC.out.take hp (hm0.after ((Below.refl _ _).alloc (Nat.le_refl _) (.cells #[.int .u32 5] 33))) (by omega) (rw_one (W := wr.alloc (.cells #[.int .u32 5] 33)) (g := wr.heap.size) (x := 5) (by simp [World.cell?_alloc_new])) (by simp) (by simp) 17 l0 (l0 + s0) want (by omega) (by omega) (by omega) hw
        have htk : ∀ ip k : Int, tk (hm (l.take i)) 17 (frm l0 want) (upt (l0 + s0) want) [5] = some (ip, k) → ip = 5 ∧ 0 ≤ k ∧ k ≤ 65535 := by
          intro ip k h
          obtain ⟨e1, e2, e3⟩ := tk_ge h
          have := frm_ge (want := want) (show 0 ≤ l0 by omega)
          have := upt_le (want := want) (show l0 + s0 ≤ 65535 by omega)
          exact ⟨e1, by omega, by omega⟩
        have HA : Hid (∀ q : Nat, q < 100 → wr.cell? ⟨g, q, none⟩ = some (.bool (decide (((17 : Int), (5 : Int), 1020 + (q : Int)) ∈ hm (l.take i))))) := fun q hq => by
          rw [(hm0.perm List.perm_append_comm).cell 0 rfl q, ha_at _ hq]
        generalize hm (l.take i) = xs at *
        obtain ⟨O, hO⟩ : ∃ O, tk xs 17 (frm l0 want) (upt (l0 + s0) want) [5] = O := ⟨_, rfl⟩
        rw [hO] at D hfs htk
        have HF : Hid (fs xs want (s0 + 1).toNat l0 = no1 O) := hfs
        have HD : Hid (Calls Tryd.prog 11 #[.pointer (some ⟨p, 0, none⟩), .int .u8 17, .slice (some ⟨wr.heap.size, 0, none⟩) 1 1, .int .u16 l0, .int .u16 (l0 + s0), .int .u16 want] (wr.alloc (.cells #[.int .u32 5] 33)) (TkQ PS W xs 17 p [(g, .cells (ha xs) 54 (0, 0))] O)) := D
        have HO : Hid (∀ ip k : Int, O = some (ip, k) → ip = 5 ∧ 0 ≤ k ∧ k ≤ 65535) := htk
        have HW : Hid (Below W.heap.size W wr) := hm0.below
        clear HR hp hm0 hxl hfs D htk hO HK w1 w2 w3 r1 r2
        go_wp2_with fail
        go_loopw [14, 15] (fun u14 u15 w' => ∃ k f : Int, l0 ≤ k ∧ k ≤ l0 + s0 + 1 ∧ u15 = .int .i64 k ∧ u14 = .int .i64 f ∧ w' = wr ∧ Hid ((f = -1 ∧ fs xs want (l0 + s0 + 1 - k).toNat k = no1 O) ∨ (0 ≤ f ∧ f = no1 O))) (fun u14 u15 w' => if 0 ≤ intOf u14 then 0 else (l0 + s0 + 2 - intOf u15).toNat)
        case atStart => exact ⟨l0, -1, Int.le_refl _, by omega, rfl, rfl, rfl, Or.inl ⟨rfl, by rw [show l0 + s0 + 1 - l0 = s0 + 1 by omega]; exact HF.out⟩⟩
        case round =>
          obtain ⟨k, f, hk1, hk2, rfl, rfl, hwr, HR⟩ := hrel
          subst hwr
          have hq9 : IntKind.i64.wrap (k + 1) = k + 1 := by rw [IntKind.wrap_i64]; omega
          rcases HR.out with ⟨rfl, hf⟩ | ⟨hf0, hf⟩
          · by_cases hkt : k ≤ l0 + s0
            · obtain ⟨m, hm1⟩ : ∃ m, (l0 + s0 + 1 - k).toNat = m + 1 := ⟨(l0 + s0 - k).toNat, by omega⟩
              have hm2 : (l0 + s0 + 1 - (k + 1)).toNat = m := by omega
              rw [hm1, fs] at hf
              obtain ⟨q, hq⟩ : ∃ q : Nat, k - 1020 = (q : Int) := ⟨(k - 1020).toNat, by omega⟩
              have hq1 : q < 100 := by omega
              have hk9 : k = 1020 + (q : Int) := by omega
              have a1 := HA.out q hq1
              rw [← hk9] at a1
              have r1 : Int.tmod k 2 = k % 2 := Int.tmod_eq_emod_of_nonneg (by omega)
              have r2 : Int.tmod want 2 = want % 2 := Int.tmod_eq_emod_of_nonneg hw.1
              have w8 : IntKind.i64.wrap (k - 1020) = k - 1020 := by rw [IntKind.wrap_i64]; omega
              have hqq : (q : Int) < 100 := by omega
              by_cases hc1 : k % 2 = want % 2
              · have e1 : (k % 2 == want % 2) = true := by simpa using hc1
                by_cases hc2 : 1024 ≤ want
                · by_cases hc3 : ((17 : Int), (5 : Int), k) ∈ xs
                  · rw [if_neg (by simp [hc3])] at hf
                    rw [decide_eq_true hc3] at a1
                    have HN : Hid (((-1 : Int) = -1 ∧ fs xs want (l0 + s0 + 1 - (k + 1)).toNat (k + 1) = no1 O) ∨ ((0 : Int) ≤ -1 ∧ (-1 : Int) = no1 O)) := Or.inl ⟨rfl, by rw [hm2]; exact hf⟩
                    clear hf hc3 HF HR hc1 hk9
                    go_wp2_with fail
                    go_roundw
                    case rel => exact ⟨k + 1, -1, by omega, by omega, by go_num, rfl, (by first | rfl | trivial), HN.out⟩
                    case measure =>
                      have hk0 : (0 : Int) ≤ k := by omega
                      simp [intOf, hk0] <;> first | omega | (split <;> omega)
                  · rw [if_pos ⟨hc1, hc2, hc3⟩] at hf
                    rw [decide_eq_false hc3] at a1
                    have HN : Hid ((k = -1 ∧ fs xs want (l0 + s0 + 1 - (k + 1)).toNat (k + 1) = no1 O) ∨ ((0 : Int) ≤ k ∧ k = no1 O)) := Or.inr ⟨by omega, hf⟩
                    clear hf hc3 HF HR hc1 hk9
                    go_wp2_with fail
                    go_roundw
                    case rel => exact ⟨k + 1, k, by omega, by omega, by go_num, rfl, (by first | rfl | trivial), HN.out⟩
                    case measure =>
                      have hk0 : (0 : Int) ≤ k := by omega
                      simp [intOf, hk0] <;> first | omega | (split <;> omega)
                · rw [if_neg (by simp [hc2])] at hf
                  have HN : Hid (((-1 : Int) = -1 ∧ fs xs want (l0 + s0 + 1 - (k + 1)).toNat (k + 1) = no1 O) ∨ ((0 : Int) ≤ -1 ∧ (-1 : Int) = no1 O)) := Or.inl ⟨rfl, by rw [hm2]; exact hf⟩
                  clear hf a1 HF HR hc1 hk9
                  go_wp2_with fail
                  go_roundw
                  case rel => exact ⟨k + 1, -1, by omega, by omega, by go_num, rfl, (by first | rfl | trivial), HN.out⟩
                  case measure =>
                      have hk0 : (0 : Int) ≤ k := by omega
                      simp [intOf, hk0] <;> first | omega | (split <;> omega)
              · have e1 : (k % 2 == want % 2) = false := by simpa using hc1
                rw [if_neg (by simp [hc1])] at hf
                have HN : Hid (((-1 : Int) = -1 ∧ fs xs want (l0 + s0 + 1 - (k + 1)).toNat (k + 1) = no1 O) ∨ ((0 : Int) ≤ -1 ∧ (-1 : Int) = no1 O)) := Or.inl ⟨rfl, by rw [hm2]; exact hf⟩
                clear hf a1 HF HR hc1 hk9
                go_wp2_with fail
                go_roundw
                case rel => exact ⟨k + 1, -1, by omega, by omega, by go_num, rfl, (by first | rfl | trivial), HN.out⟩
                case measure =>
                      have hk0 : (0 : Int) ≤ k := by omega
                      simp [intOf, hk0] <;> first | omega | (split <;> omega)
            · rw [show (l0 + s0 + 1 - k).toNat = 0 by omega, fs] at hf
              have hON : O = none := by
                cases O with
                | none => rfl
                | some x =>
                  have := HO.out x.1 x.2 rfl
                  simp only [no1] at hf
                  omega
              subst hON
              clear hf HR
              have D := HD.out
              clear HD HO HA HF
              go_wp2_with fail
              refine D.mono ?_
              intro e W5 hT
              obtain ⟨rfl, B5, -, m5⟩ := tkq_none hT
              have HB : Hid (Below W.heap.size W (W5.alloc (.cells #[.int .u32 0, .int .u16 0] 35))) := m5.below.alloc m5.below.size _
              clear D hT m5
              go_wp2_with fail
              go_ret
              exact ⟨rfl, HB.out⟩
          · obtain ⟨kq, hkq, hr1, hr2⟩ : ∃ kq : Int, O = some (5, kq) ∧ 0 ≤ kq ∧ kq ≤ 65535 := by
              cases O with
              | none => simp only [no1] at hf; omega
              | some x =>
                obtain ⟨e1, e2, e3⟩ := HO.out x.1 x.2 rfl
                exact ⟨x.2, by rw [← e1], e2, e3⟩
            subst hkq
            simp only [no1] at hf
            subst hf
            clear HR
            by_cases hkt : k ≤ l0 + s0
            · have D := HD.out
              have w8 : IntKind.u16.wrap f = f := wrap16_small _ (by omega) (by omega)
              have q1 := pt_eq 5 f 5 f
              simp only [BEq.rfl, Bool.and_self] at q1
              clear HD HO HA HF
              go_wp2_with fail
              refine D.mono ?_
              intro e W5 hT
              obtain ⟨rfl, B5, -, m5⟩ := tkq_some hT
              have HB : Hid (Below W.heap.size W (W5.alloc (.cells #[.int .u32 5, .int .u16 f] 35))) := m5.below.alloc m5.below.size _
              clear D hT m5
              go_wp2_with fail
              go_ret
              exact ⟨rfl, HB.out⟩
            · have D := HD.out
              have w8 : IntKind.u16.wrap f = f := wrap16_small _ (by omega) (by omega)
              have q1 := pt_eq 5 f 5 f
              simp only [BEq.rfl, Bool.and_self] at q1
              clear HD HO HA HF
              go_wp2_with fail
              refine D.mono ?_
              intro e W5 hT
              obtain ⟨rfl, B5, -, m5⟩ := tkq_some hT
              have HB : Hid (Below W.heap.size W (W5.alloc (.cells #[.int .u32 5, .int .u16 f] 35))) := m5.below.alloc m5.below.size _
              clear D hT m5
              go_wp2_with fail
              go_ret
              exact ⟨rfl, HB.out⟩
end
end Po
end Go.Proofs.YtkbjiackjefkkaaDoor
