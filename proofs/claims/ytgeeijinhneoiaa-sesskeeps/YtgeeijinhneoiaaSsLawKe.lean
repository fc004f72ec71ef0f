/-
  Sessions: SessKeeps.
-/
import Derived.Test.YtgeeijinhneoiaaSsAdd
import Derived.Test.YtgeeijinhneoiaaSsFace
import Derived.Test.YtgeeijinhneoiaaKit
namespace Go.Proofs.Ytgeeijinhneoiaa
open Go.RowKit
open Sm
open Po
open Wh
set_option linter.unusedVariables false
set_option linter.unusedSimpArgs false
set_option maxRecDepth 20000

namespace Ss
/-- The block in which a list lies. -/
theorem slf_blk {T : TypeId} {sz n : Nat} {v : Value} {xs : List Value} {D : List (Nat × Obj)} (h : SlF T sz v n xs D) (h0 : 0 < n) : ∃ b off c cur D0, v = .slice (some ⟨b, off, none⟩) n c ∧ n ≤ c ∧ c ≤ 9223372036854775807 ∧ (∀ j u, xs[j]? = some u → (cur : Array Value)[off + j]? = some u) ∧ D.Perm ((b, .cells cur T (0, 0)) :: D0) := by
  obtain ⟨h1, a, c, rfl, h3, h4, h5, h6⟩ := h
  rcases h6 with h6 | ⟨g, o, cur, rfl, h6, h7⟩
  · omega
  · obtain ⟨C1, C2, rfl⟩ := List.append_of_mem h6
    refine ⟨g, o, c, cur, C1 ++ C2, rfl, h3, by simp only [maxLen] at h4; omega, fun j u hj => ?_, List.perm_middle⟩
    rw [← h7, List.getElem?_take, List.getElem?_drop] at hj
    split at hj
    · rw [← Array.getElem?_toList]
      exact hj
    · cases hj
theorem peer_ne (l : List Pn) (q : Pn) : 0 < (peer l q).length := by
  unfold peer
  rw [List.length_drop, List.length_append]
  simp
  omega
section
variable {PS : List Sn → Nat → List (Nat × Obj) → Prop}
set_option maxHeartbeats 16000000 in
theorem keeps19_law (W : World) (hc : ∀ V, Below W.heap.size W V → SC V PS) (v : Value) (l : List Pn) (hl : PR W v l) (hli : ∀ x ∈ l, PIn x) (p : Pn) (hp : PIn p) :
    Calls Try.prog 8 #[v, .agg #[.int .u32 p.1, .int .u16 p.2]] W fun e W' => e = .returned (.bool true) ∧ Below W.heap.size W W' := by
  obtain ⟨la, lc, rfl, l1, l2, -⟩ := pr_at hl
  have HPP : Hid (PIn p) := hp
  obtain ⟨p', hp'⟩ : ∃ p', p = p' := ⟨_, rfl⟩
  have HP' : Hid (p = p') := hp'
  obtain ⟨p1, p2⟩ := p
  simp only
  have HC0 : Hid (∀ V, Below W.heap.size W V → SC V PS) := hc
  have HC : Hid (SC W PS) := hc W (Below.refl _ _)
  have HL : Hid (PR W (.slice la l.length lc) l ∧ (∀ x ∈ l, PIn x)) := ⟨hl, hli⟩
  obtain ⟨n, hn⟩ : ∃ n, l.length = n := ⟨_, rfl⟩
  have HN : Hid (l.length = n) := hn
  rw [hn] at l1 ⊢
  obtain ⟨g, hg⟩ : ∃ g, W.heap.size = g := ⟨_, rfl⟩
  have HM0 : Hid (Mem W (W.alloc (.cells #[.int .u32 p1, .int .u16 p2] 34)) [(g, .cells #[.int .u32 p1, .int .u16 p2] 34 (0, 0))]) := (Mem.nil W).push1 hg.symm
  clear hl hli hn hc hp hp'
  go_enter Try.func8, Try.ntmps8
  go_upto_region 1 with fail
  refine wp_letter (fun X => Mem W X [(g, .cells #[.int .u32 p1, .int .u16 p2] 34 (0, 0))]) (by exact HM0.out) ?_
  intro X0 hX0
  try simp only [hg]
  have K1 := known19_any X0 (HC0.out X0 hX0.below)
  have HM1 : Hid (Mem W X0 [(g, .cells #[.int .u32 p1, .int .u16 p2] 34 (0, 0))]) := hX0
  clear HM0 hX0
  go_wp2_with fail
  with_reducible refine K1.mono ?_
  rintro e X1 ⟨rfl, hb1⟩
  have HM2 : Hid (Mem W X1 [(g, .cells #[.int .u32 p1, .int .u16 p2] 34 (0, 0))]) := HM1.out.after hb1
  clear K1 hb1 HM1
  by_cases h0 : n = 0
  · subst h0
    have HB : Hid (Below W.heap.size W X1) := HM2.out.below
    clear HM2
    go_wp2_with fail
    go_ret
    exact ⟨rfl, by first | exact HB.out | (rw [← hg]; exact HB.out)⟩
  have z0 : ((n : Int) == 0) = false := by simpa using h0
  by_cases h20 : 20 < n
  · have z1 : (20 : Int) < n := by omega
    have HB : Hid (Below W.heap.size W X1) := HM2.out.below
    clear HM2
    go_wp2_with fail
    go_ret
    exact ⟨rfl, by first | exact HB.out | (rw [← hg]; exact HB.out)⟩
  have z1 : ¬ (20 : Int) < n := by omega
  have z2 : (0 : Int) < n := by omega
  have z3 : 0 < n := by omega
  have hps : l.length ≤ 1000 := by rw [HN.out]; omega
  have HPS : Hid (l.length ≤ 1000) := hps
  obtain ⟨x0, l', hl'⟩ : ∃ x0 l', l = x0 :: l' := by
    cases l with
    | nil => exact absurd HN.out (by simp; omega)
    | cons x r => exact ⟨x, r, rfl⟩
  have HX0 : Hid (∀ T (v : Value) D, SlF T 2 v n (px l).flatten D → ∃ b off c cur D0, v = .slice (some ⟨b, off, none⟩) n c ∧ n ≤ c ∧ c ≤ 9223372036854775807 ∧ (cur : Array Value)[off]? = some (.int .u32 x0.1) ∧ cur[off + 1]? = some (.int .u16 x0.2) ∧ D.Perm ((b, .cells cur T (0, 0)) :: D0)) := fun T v D h => by
    obtain ⟨b, off, c, cur, D0, e, h1, h2, h3, h4⟩ := slf_blk h z3
    exact ⟨b, off, c, cur, D0, e, h1, h2, h3 0 _ (by rw [hl']; rfl), h3 1 _ (by rw [hl']; rfl), h4⟩
  clear hl'
  -- the two copies
  obtain ⟨wa, wc, X2, D1, hap1, hM3, hS1, -⟩ := copy_pt (w := W) (V := X1) (L := [(g, .cells #[.int .u32 p1, .int .u16 p2] 34 (0, 0))]) (by exact HL.out.1.below HM2.out.below (Nat.le_refl _)) HM2.out (by omega)
  rw [HN.out] at hap1 hS1
  obtain ⟨-, wa', wc', ew, w1, w2, -⟩ := id hS1
  simp only [Value.slice.injEq, true_and] at ew
  obtain ⟨rfl, rfl⟩ := ew
  simp only [maxLen] at w2
  have HW : Hid (SlF 34 2 (.slice wa n wc) n (px l).flatten D1) := hS1
  have HM3 : Hid (Mem W X2 (D1 ++ [(g, .cells #[.int .u32 p1, .int .u16 p2] 34 (0, 0))])) := hM3
  clear hM3 hS1 HM2 hps
  go_upto_region 6 with (first | (refine wpList_append_run (.const (.slice none 0 0)) (.tmp 25) 37 37 rfl hap1 rfl (by rfl) (by simp [Act.eval]) (by simp [Act.eval]) ?_) | fail)
  clear hap1
  obtain ⟨ma, mc, X3, D2, hap2, hM4, hS2, -⟩ := copy_pt (w := W) (V := X2) (L := (D1 ++ [(g, .cells #[.int .u32 p1, .int .u16 p2] 34 (0, 0))])) (by exact HL.out.1.below HM3.out.below (Nat.le_refl _)) HM3.out (by have := HPS.out; omega)
  rw [HN.out] at hap2 hS2
  obtain ⟨mb, mo, mc', mcur, D2', em, m1, m2, m3, m4, m5⟩ := HX0.out _ _ _ hS2
  simp only [Value.slice.injEq, true_and] at em
  obtain ⟨rfl, rfl⟩ := em
  have HMS : Hid (SlF 34 2 (.slice (some ⟨mb, mo, none⟩) n mc) n (px l).flatten D2) := hS2
  have HD2 : Hid (D2.Perm ((mb, .cells mcur 34 (0, 0)) :: D2')) := m5
  have HMC : Hid (mcur[mo]? = some (.int .u32 x0.1)) := m3
  have HM4 : Hid (Mem W X3 (D2 ++ (D1 ++ [(g, .cells #[.int .u32 p1, .int .u16 p2] 34 (0, 0))]))) := hM4
  have C1 := HC0.out W (Below.refl _ _) |>.new X3 hM4.below
  clear hM4 hS2 HM3 m3 m4 m5
  go_upto_region 7 with (first | (refine wpList_append_run (.const (.slice none 0 0)) (.tmp 27) 37 37 rfl hap2 rfl (by rfl) (by simp [Act.eval]) (by simp [Act.eval]) ?_) | fail)
  clear hap2
  go_wp2_with fail
  with_reducible refine C1.mono ?_
  rintro e X4 ⟨t, B0, rfl, hP0, hM5⟩
  have hM6 := HM4.out.join hM5
  obtain ⟨gk, hgk⟩ : ∃ gk, X4.heap.size = gk := ⟨_, rfl⟩
  have HM7 : Hid (Mem W (X4.alloc (.cells #[.int .u8 17, .int .u32 0, .int .u16 0] 36)) (B0 ++ (D2 ++ (D1 ++ [(g, .cells #[.int .u32 p1, .int .u16 p2] 34 (0, 0)), (gk, .cells #[.int .u8 17, .int .u32 0, .int .u16 0] 36 (0, 0))])))) := (hM6.push gk _ hgk.symm).perm (by
    classical
    rw [List.perm_iff_count]
    intro q
    simp only [List.count_append, List.count_cons, List.count_nil]
    omega)
  have HP0 : Hid (PS [] t B0) := hP0
  clear C1 hM5 hM6 hP0 HM4
  go_upto_region 9 with fail
  refine wp_letter (fun X => Mem W X (B0 ++ (D2 ++ (D1 ++ [(g, .cells #[.int .u32 p1, .int .u16 p2] 34 (0, 0)), (gk, .cells #[.int .u8 17, .int .u32 0, .int .u16 0] 36 (0, 0))])))) (by exact HM7.out) ?_
  intro X5 hX5
  try simp only [hgk]
  clear HM7
  have hk := hX5.perm (show List.Perm _ ((gk, .cells #[.int .u8 17, .int .u32 0, .int .u16 0] 36 (0, 0)) :: (g, .cells #[.int .u32 p1, .int .u16 p2] 34 (0, 0)) :: (B0 ++ (D2 ++ D1))) from by
    classical
    rw [List.perm_iff_count]
    intro q
    simp only [List.count_append, List.count_cons, List.count_nil]
    omega)
  have q0 : X5.cell? ⟨gk, 0, none⟩ = some (.int .u8 17) := hk.cell 0 rfl 0
  have q1 : X5.cell? ⟨gk, 1, none⟩ = some (.int .u32 0) := hk.cell 0 rfl 1
  have q2 : X5.cell? ⟨gk, 2, none⟩ = some (.int .u16 0) := hk.cell 0 rfl 2
  have hs : SIn (⟨17, 0, 0, 0, 0, 0, l, 0, 0⟩ : Sn) := ⟨by simp [KIn, key], by simp [PIn], by simp, HL.out.2, by simp, by simp⟩
  have C2 := HC.out.add HP0.out hX5 (by simp) (val := .agg #[.int .u8 17, .int .u32 0, .int .u16 0, .int .u32 0, .int .u16 0, .int .u32 0, .slice (some ⟨mb, mo, none⟩) n mc, .int .i64 0, .int .u32 0]) (s := (⟨17, 0, 0, 0, 0, 0, l, 0, 0⟩ : Sn)) ⟨.slice (some ⟨mb, mo, none⟩) n mc, rfl, SlF.rw px_two (by rw [px_len, HN.out]; exact HMS.out) (hX5.perm (show List.Perm _ (D2 ++ (B0 ++ (D1 ++ [(g, .cells #[.int .u32 p1, .int .u16 p2] 34 (0, 0)), (gk, .cells #[.int .u8 17, .int .u32 0, .int .u16 0] 36 (0, 0))]))) from by
    classical
    rw [List.perm_iff_count]
    intro q
    simp only [List.count_append, List.count_cons, List.count_nil]
    omega))⟩ hs HPS.out 5 (by omega)
  have e1 : ac (⟨17, 0, 0, 0, 0, 0, l, 0, 0⟩ : Sn) 5 [] = 0 := rfl
  have e2 : ax (⟨17, 0, 0, 0, 0, 0, l, 0, 0⟩ : Sn) 5 [] = [(⟨17, 0, 0, 0, 0, 0, l, 0, 0⟩ : Sn)] := rfl
  rw [e1, e2] at C2
  clear hk hs hX5 e1 e2
  go_wp2_with fail
  with_reducible refine C2.mono ?_
  rintro e X6 ⟨rfl, B1, hP1, hM8⟩
  have HP1 : Hid (PS [(⟨17, 0, 0, 0, 0, 0, l, 0, 0⟩ : Sn)] t B1) := hP1
  clear C2 q0 q1 q2 HP0 hP1
  -- mine[0].Ip++
  have hM9 := hM8.perm (by
    classical
    rw [List.perm_iff_count]
    intro q
    simp only [List.count_append, List.count_cons, List.count_nil]
    omega) |> fun (h : Mem W X6 (D2 ++ (B1 ++ (D1 ++ [(g, .cells #[.int .u32 p1, .int .u16 p2] 34 (0, 0)), (gk, .cells #[.int .u8 17, .int .u32 0, .int .u16 0] 36 (0, 0))])))) => h.perm (List.Perm.append_right _ HD2.out)
  have m0 : X6.cell? ⟨mb, mo, none⟩ = some (.int .u32 x0.1) := by rw [hM9.cell 0 rfl]; exact HMC.out
  have m6 : X6.frozen? ⟨mb, mo, none⟩ = false := hM9.free 0 rfl _
  obtain ⟨y1, hy1⟩ : ∃ y1, IntKind.u32.wrap (x0.1 + 1) = y1 := ⟨_, rfl⟩
  have hM10 := hM9.set 0 rfl mo (.int .u32 y1)
  have HM10 : Hid (∃ D2, Mem W (X6.setCell ⟨mb, mo, none⟩ (.int .u32 y1)) (B1 ++ (D2 ++ (D1 ++ [(g, .cells #[.int .u32 p1, .int .u16 p2] 34 (0, 0)), (gk, .cells #[.int .u8 17, .int .u32 0, .int .u16 0] 36 (0, 0))])))) := ⟨_, Mem.perm hM10 (show List.Perm ((mb, .cells (mcur.setIfInBounds mo (.int .u32 y1)) 34 (0, 0)) :: (D2' ++ (B1 ++ (D1 ++ [(g, .cells #[.int .u32 p1, .int .u16 p2] 34 (0, 0)), (gk, .cells #[.int .u8 17, .int .u32 0, .int .u16 0] 36 (0, 0))])))) (B1 ++ (((mb, .cells (mcur.setIfInBounds mo (.int .u32 y1)) 34 (0, 0)) :: D2') ++ (D1 ++ [(g, .cells #[.int .u32 p1, .int .u16 p2] 34 (0, 0)), (gk, .cells #[.int .u8 17, .int .u32 0, .int .u16 0] 36 (0, 0))]))) from by
    classical
    rw [List.perm_iff_count]
    intro q
    simp only [List.count_append, List.count_cons, List.count_nil]
    omega)⟩
  clear hM8 hM9 hM10 HMS HD2 HMC
  go_upto_region 11 with fail
  refine wp_letter (fun X => ∃ D2, Mem W X (B1 ++ (D2 ++ (D1 ++ [(g, .cells #[.int .u32 p1, .int .u16 p2] 34 (0, 0)), (gk, .cells #[.int .u8 17, .int .u32 0, .int .u16 0] 36 (0, 0))])))) (by exact HM10.out) ?_
  rintro X7 ⟨D2b, hM11⟩
  clear HM10 m0 m6 hy1
  have hk := hM11.perm (show List.Perm _ ((gk, .cells #[.int .u8 17, .int .u32 0, .int .u16 0] 36 (0, 0)) :: (g, .cells #[.int .u32 p1, .int .u16 p2] 34 (0, 0)) :: (B1 ++ (D2b ++ D1))) from by
    classical
    rw [List.perm_iff_count]
    intro q
    simp only [List.count_append, List.count_cons, List.count_nil]
    omega)
  have q0 : X7.cell? ⟨gk, 0, none⟩ = some (.int .u8 17) := hk.cell 0 rfl 0
  have q1 : X7.cell? ⟨gk, 1, none⟩ = some (.int .u32 0) := hk.cell 0 rfl 1
  have q2 : X7.cell? ⟨gk, 2, none⟩ = some (.int .u16 0) := hk.cell 0 rfl 2
  have C3 := HC.out.find HP1.out hM11 (by simp) (17, 0, 0) (by simp [KIn])
  have e1 : fk (17, 0, 0) [(⟨17, 0, 0, 0, 0, 0, l, 0, 0⟩ : Sn)] = some (⟨17, 0, 0, 0, 0, 0, l, 0, 0⟩ : Sn) := rfl
  rw [e1] at C3
  clear hk hM11 e1
  go_wp2_with fail
  with_reducible refine C3.mono ?_
  rintro e X8 ⟨val, D3, B2, rfl, ⟨pv, rfl, hpv⟩, hP2, hM12⟩
  clear C3 q0 q1 q2 HP1
  have hpv1 : SlF 34 2 pv n (px l).flatten D3 := by rw [← HN.out]; exact hpv
  obtain ⟨ab, ao, ac, acur, D3', rfl, a1, a2, a3, a4, a5⟩ := HX0.out _ _ _ hpv1
  simp only [sc, Option.getD_some, Option.isSome_some]
  have HP2 : Hid (PS [(⟨17, 0, 0, 0, 0, 0, l, 0, 0⟩ : Sn)] t B2) := hP2
  have HA : Hid (SlF 34 2 (.slice (some ⟨ab, ao, none⟩) n ac) n (px l).flatten D3 ∧ D3.Perm ((ab, .cells acur 34 (0, 0)) :: D3') ∧ acur[ao + 1]? = some (.int .u16 x0.2)) := ⟨hpv1, a5, a4⟩
  obtain ⟨ga, hga⟩ : ∃ ga, X8.heap.size = ga := ⟨_, rfl⟩
  have HM13 : Hid (Mem W (X8.alloc (.cells #[.int .u8 17, .int .u32 0, .int .u16 0, .int .u32 0, .int .u16 0, .int .u32 0, .slice (some ⟨ab, ao, none⟩) n ac, .int .i64 0, .int .u32 0] 39)) ((ga, .cells #[.int .u8 17, .int .u32 0, .int .u16 0, .int .u32 0, .int .u16 0, .int .u32 0, .slice (some ⟨ab, ao, none⟩) n ac, .int .i64 0, .int .u32 0] 39 (0, 0)) :: (D3 ++ (B2 ++ (D2b ++ (D1 ++ [(g, .cells #[.int .u32 p1, .int .u16 p2] 34 (0, 0)), (gk, .cells #[.int .u8 17, .int .u32 0, .int .u16 0] 36 (0, 0))])))))) := (hM12.push ga _ hga.symm).perm (by
    classical
    rw [List.perm_iff_count]
    intro q
    simp only [List.count_append, List.count_cons, List.count_nil]
    omega)
  clear hpv hpv1 hP2 hM12 a3 a4 a5
  go_upto_region 12 with fail
  refine wp_letter (fun X => Mem W X ((ga, .cells #[.int .u8 17, .int .u32 0, .int .u16 0, .int .u32 0, .int .u16 0, .int .u32 0, .slice (some ⟨ab, ao, none⟩) n ac, .int .i64 0, .int .u32 0] 39 (0, 0)) :: (D3 ++ (B2 ++ (D2b ++ (D1 ++ [(g, .cells #[.int .u32 p1, .int .u16 p2] 34 (0, 0)), (gk, .cells #[.int .u8 17, .int .u32 0, .int .u16 0] 36 (0, 0))])))))) (by exact HM13.out) ?_
  intro X9 hX9
  try simp only [hga]
  clear HM13
  have g6 : X9.cell? ⟨ga, 6, none⟩ = some (.slice (some ⟨ab, ao, none⟩) n ac) := hX9.cell 0 rfl 6
  have C4 := points_any (W := X9) (va := .slice (some ⟨ab, ao, none⟩) n ac) (vb := .slice wa n wc) (l := l) (l' := l) (SlF.rw px_two (by rw [px_len, HN.out]; exact HA.out.1) (hX9.perm (show List.Perm _ (D3 ++ ((ga, .cells #[.int .u8 17, .int .u32 0, .int .u16 0, .int .u32 0, .int .u16 0, .int .u32 0, .slice (some ⟨ab, ao, none⟩) n ac, .int .i64 0, .int .u32 0] 39 (0, 0)) :: (B2 ++ (D2b ++ (D1 ++ [(g, .cells #[.int .u32 p1, .int .u16 p2] 34 (0, 0)), (gk, .cells #[.int .u8 17, .int .u32 0, .int .u16 0] 36 (0, 0))]))))) from by
    classical
    rw [List.perm_iff_count]
    intro q
    simp only [List.count_append, List.count_cons, List.count_nil]
    omega))) (SlF.rw px_two (by rw [px_len, HN.out]; exact HW.out) (hX9.perm (show List.Perm _ (D1 ++ ((ga, .cells #[.int .u8 17, .int .u32 0, .int .u16 0, .int .u32 0, .int .u16 0, .int .u32 0, .slice (some ⟨ab, ao, none⟩) n ac, .int .i64 0, .int .u32 0] 39 (0, 0)) :: (B2 ++ (D2b ++ (D3 ++ [(g, .cells #[.int .u32 p1, .int .u16 p2] 34 (0, 0)), (gk, .cells #[.int .u8 17, .int .u32 0, .int .u16 0] 36 (0, 0))]))))) from by
    classical
    rw [List.perm_iff_count]
    intro q
    simp only [List.count_append, List.count_cons, List.count_nil]
    omega)))
  rw [show decide (l = l) = true by simp] at C4
  have HM14 : Hid (Mem W X9 ((ga, .cells #[.int .u8 17, .int .u32 0, .int .u16 0, .int .u32 0, .int .u16 0, .int .u32 0, .slice (some ⟨ab, ao, none⟩) n ac, .int .i64 0, .int .u32 0] 39 (0, 0)) :: (D3 ++ (B2 ++ (D2b ++ (D1 ++ [(g, .cells #[.int .u32 p1, .int .u16 p2] 34 (0, 0)), (gk, .cells #[.int .u8 17, .int .u32 0, .int .u16 0] 36 (0, 0))])))))) := hX9
  clear hX9
  go_wp2_with fail
  with_reducible refine C4.mono ?_
  rintro e X10 ⟨rfl, hb⟩
  have hM15 := HM14.out.after hb
  clear C4 HM14 hb g6
  -- a.Peers[0].Port++
  have g6 : X10.cell? ⟨ga, 6, none⟩ = some (.slice (some ⟨ab, ao, none⟩) n ac) := hM15.cell 0 rfl 6
  have hM16 : Mem W X10 ((ab, .cells acur 34 (0, 0)) :: (D3' ++ ((ga, .cells #[.int .u8 17, .int .u32 0, .int .u16 0, .int .u32 0, .int .u16 0, .int .u32 0, .slice (some ⟨ab, ao, none⟩) n ac, .int .i64 0, .int .u32 0] 39 (0, 0)) :: (B2 ++ (D2b ++ (D1 ++ [(g, .cells #[.int .u32 p1, .int .u16 p2] 34 (0, 0)), (gk, .cells #[.int .u8 17, .int .u32 0, .int .u16 0] 36 (0, 0))])))))) := (hM15.perm (show List.Perm _ (D3 ++ ((ga, .cells #[.int .u8 17, .int .u32 0, .int .u16 0, .int .u32 0, .int .u16 0, .int .u32 0, .slice (some ⟨ab, ao, none⟩) n ac, .int .i64 0, .int .u32 0] 39 (0, 0)) :: (B2 ++ (D2b ++ (D1 ++ [(g, .cells #[.int .u32 p1, .int .u16 p2] 34 (0, 0)), (gk, .cells #[.int .u8 17, .int .u32 0, .int .u16 0] 36 (0, 0))]))))) from by
    classical
    rw [List.perm_iff_count]
    intro q
    simp only [List.count_append, List.count_cons, List.count_nil]
    omega)).perm (List.Perm.append_right _ HA.out.2.1)
  have m0 : X10.cell? ⟨ab, ao + 1, none⟩ = some (.int .u16 x0.2) := by rw [hM16.cell 0 rfl]; exact HA.out.2.2
  have m6 : X10.frozen? ⟨ab, ao + 1, none⟩ = false := hM16.free 0 rfl _
  obtain ⟨y2, hy2⟩ : ∃ y2, IntKind.u16.wrap (x0.2 + 1) = y2 := ⟨_, rfl⟩
  have hM17 := hM16.set 0 rfl (ao + 1) (.int .u16 y2)
  have HM18 : Hid (∃ E, Mem W (X10.setCell ⟨ab, ao + 1, none⟩ (.int .u16 y2)) (B2 ++ (E ++ (D1 ++ [(g, .cells #[.int .u32 p1, .int .u16 p2] 34 (0, 0)), (gk, .cells #[.int .u8 17, .int .u32 0, .int .u16 0] 36 (0, 0))])))) := ⟨_, Mem.perm hM17 (show List.Perm ((ab, .cells (acur.setIfInBounds (ao + 1) (.int .u16 y2)) 34 (0, 0)) :: (D3' ++ ((ga, .cells #[.int .u8 17, .int .u32 0, .int .u16 0, .int .u32 0, .int .u16 0, .int .u32 0, .slice (some ⟨ab, ao, none⟩) n ac, .int .i64 0, .int .u32 0] 39 (0, 0)) :: (B2 ++ (D2b ++ (D1 ++ [(g, .cells #[.int .u32 p1, .int .u16 p2] 34 (0, 0)), (gk, .cells #[.int .u8 17, .int .u32 0, .int .u16 0] 36 (0, 0))])))))) (B2 ++ (((ab, .cells (acur.setIfInBounds (ao + 1) (.int .u16 y2)) 34 (0, 0)) :: (D3' ++ ((ga, .cells #[.int .u8 17, .int .u32 0, .int .u16 0, .int .u32 0, .int .u16 0, .int .u32 0, .slice (some ⟨ab, ao, none⟩) n ac, .int .i64 0, .int .u32 0] 39 (0, 0)) :: D2b))) ++ (D1 ++ [(g, .cells #[.int .u32 p1, .int .u16 p2] 34 (0, 0)), (gk, .cells #[.int .u8 17, .int .u32 0, .int .u16 0] 36 (0, 0))]))) from by
    classical
    rw [List.perm_iff_count]
    intro q
    simp only [List.count_append, List.count_cons, List.count_nil]
    omega)⟩
  clear hM15 hM16 hM17
  go_upto_region 15 with fail
  refine wp_letter (fun X => ∃ E, Mem W X (B2 ++ (E ++ (D1 ++ [(g, .cells #[.int .u32 p1, .int .u16 p2] 34 (0, 0)), (gk, .cells #[.int .u8 17, .int .u32 0, .int .u16 0] 36 (0, 0))])))) (by exact HM18.out) ?_
  rintro X11 ⟨E1, hM19⟩
  clear HM18 m0 m6 hy2 g6 HA
  have C5 := HC.out.all HP2.out hM19 (by simp)
  clear hM19
  go_wp2_with fail
  with_reducible refine C5.mono ?_
  rintro e X12 ⟨v, C, D4, B3, rfl, ⟨zs, ez, hsl, hz⟩, hP3, hM20⟩
  clear C5 HP2
  obtain ⟨zp, rfl⟩ : ∃ zp, zs = [((⟨17, 0, 0, 0, 0, 0, l, 0, 0⟩ : Sn), zp)] := by
    match zs, ez with
    | [(z, zp)], ez =>
      simp only [List.map_cons, List.map_nil, List.cons.injEq, and_true] at ez
      exact ⟨zp, by rw [ez]⟩
  have hzp : SlF 34 2 zp n (px l).flatten D4 := by
    have := hz _ (List.mem_singleton.2 rfl)
    rw [← HN.out]
    exact this
  obtain ⟨bb, bo, bc, bcur, D4', rfl, b1, b2, b3, b4, b5⟩ := HX0.out _ _ _ hzp
  obtain ⟨cb, co, cc, ccur, C', rfl, c1, c2, c3, c4⟩ := slf_blk hsl (by simp)
  have c6 : ccur[co + 6]? = some (.slice (some ⟨bb, bo, none⟩) n bc) := c3 6 _ rfl
  simp only [List.length_singleton] at c1 ⊢
  have HP3 : Hid (PS [(⟨17, 0, 0, 0, 0, 0, l, 0, 0⟩ : Sn)] t B3) := hP3
  have HB : Hid (SlF 34 2 (.slice (some ⟨bb, bo, none⟩) n bc) n (px l).flatten D4 ∧ D4.Perm ((bb, .cells bcur 34 (0, 0)) :: D4') ∧ bcur[bo + 1]? = some (.int .u16 x0.2)) := ⟨hzp, b5, b4⟩
  have hM21 : Mem W X12 ((cb, .cells ccur 39 (0, 0)) :: (C' ++ (D4 ++ (B3 ++ (E1 ++ (D1 ++ [(g, .cells #[.int .u32 p1, .int .u16 p2] 34 (0, 0)), (gk, .cells #[.int .u8 17, .int .u32 0, .int .u16 0] 36 (0, 0))])))))) := (hM20.perm (show List.Perm _ (C ++ (D4 ++ (B3 ++ (E1 ++ (D1 ++ [(g, .cells #[.int .u32 p1, .int .u16 p2] 34 (0, 0)), (gk, .cells #[.int .u8 17, .int .u32 0, .int .u16 0] 36 (0, 0))]))))) from by
    classical
    rw [List.perm_iff_count]
    intro q
    simp only [List.count_append, List.count_cons, List.count_nil]
    omega)).perm (List.Perm.append_right _ c4)
  have g6 : X12.cell? ⟨cb, co + 6, none⟩ = some (.slice (some ⟨bb, bo, none⟩) n bc) := by rw [hM21.cell 0 rfl]; exact c6
  have HC6 : Hid (ccur[co + 6]? = some (.slice (some ⟨bb, bo, none⟩) n bc)) := c6
  have C6 := points_any (W := X12) (va := .slice (some ⟨bb, bo, none⟩) n bc) (vb := .slice wa n wc) (l := l) (l' := l) (SlF.rw px_two (by rw [px_len, HN.out]; exact HB.out.1) (hM21.perm (show List.Perm _ (D4 ++ ((cb, .cells ccur 39 (0, 0)) :: (C' ++ (B3 ++ (E1 ++ (D1 ++ [(g, .cells #[.int .u32 p1, .int .u16 p2] 34 (0, 0)), (gk, .cells #[.int .u8 17, .int .u32 0, .int .u16 0] 36 (0, 0))])))))) from by
    classical
    rw [List.perm_iff_count]
    intro q
    simp only [List.count_append, List.count_cons, List.count_nil]
    omega))) (SlF.rw px_two (by rw [px_len, HN.out]; exact HW.out) (hM21.perm (show List.Perm _ (D1 ++ ((cb, .cells ccur 39 (0, 0)) :: (C' ++ (B3 ++ (E1 ++ (D4 ++ [(g, .cells #[.int .u32 p1, .int .u16 p2] 34 (0, 0)), (gk, .cells #[.int .u8 17, .int .u32 0, .int .u16 0] 36 (0, 0))])))))) from by
    classical
    rw [List.perm_iff_count]
    intro q
    simp only [List.count_append, List.count_cons, List.count_nil]
    omega)))
  rw [show decide (l = l) = true by simp] at C6
  have HM22 : Hid (Mem W X12 ((cb, .cells ccur 39 (0, 0)) :: (C' ++ (D4 ++ (B3 ++ (E1 ++ (D1 ++ [(g, .cells #[.int .u32 p1, .int .u16 p2] 34 (0, 0)), (gk, .cells #[.int .u8 17, .int .u32 0, .int .u16 0] 36 (0, 0))]))))))) := hM21
  clear hM20 hM21 hzp b3 b4 b5 hP3 c3 c4 c6 hz hsl ez
  go_wp2_with fail
  with_reducible refine C6.mono ?_
  rintro e X13 ⟨rfl, hb⟩
  have hM23 := HM22.out.after hb
  clear C6 HM22 hb g6
  have g6 : X13.cell? ⟨cb, co + 6, none⟩ = some (.slice (some ⟨bb, bo, none⟩) n bc) := by rw [hM23.cell 0 rfl]; exact HC6.out
  have hM24 : Mem W X13 ((bb, .cells bcur 34 (0, 0)) :: (D4' ++ ((cb, .cells ccur 39 (0, 0)) :: (C' ++ (B3 ++ (E1 ++ (D1 ++ [(g, .cells #[.int .u32 p1, .int .u16 p2] 34 (0, 0)), (gk, .cells #[.int .u8 17, .int .u32 0, .int .u16 0] 36 (0, 0))]))))))) := (hM23.perm (show List.Perm _ (D4 ++ ((cb, .cells ccur 39 (0, 0)) :: (C' ++ (B3 ++ (E1 ++ (D1 ++ [(g, .cells #[.int .u32 p1, .int .u16 p2] 34 (0, 0)), (gk, .cells #[.int .u8 17, .int .u32 0, .int .u16 0] 36 (0, 0))])))))) from by
    classical
    rw [List.perm_iff_count]
    intro q
    simp only [List.count_append, List.count_cons, List.count_nil]
    omega)).perm (List.Perm.append_right _ HB.out.2.1)
  have m0 : X13.cell? ⟨bb, bo + 1, none⟩ = some (.int .u16 x0.2) := by rw [hM24.cell 0 rfl]; exact HB.out.2.2
  have m6 : X13.frozen? ⟨bb, bo + 1, none⟩ = false := hM24.free 0 rfl _
  obtain ⟨y2, hy2⟩ : ∃ y2, IntKind.u16.wrap (x0.2 + 1) = y2 := ⟨_, rfl⟩
  have hM25 := hM24.set 0 rfl (bo + 1) (.int .u16 y2)
  have HM26 : Hid (∃ E, Mem W (X13.setCell ⟨bb, bo + 1, none⟩ (.int .u16 y2)) (B3 ++ (E ++ (D1 ++ [(g, .cells #[.int .u32 p1, .int .u16 p2] 34 (0, 0)), (gk, .cells #[.int .u8 17, .int .u32 0, .int .u16 0] 36 (0, 0))])))) := ⟨_, Mem.perm hM25 (show List.Perm ((bb, .cells (bcur.setIfInBounds (bo + 1) (.int .u16 y2)) 34 (0, 0)) :: (D4' ++ ((cb, .cells ccur 39 (0, 0)) :: (C' ++ (B3 ++ (E1 ++ (D1 ++ [(g, .cells #[.int .u32 p1, .int .u16 p2] 34 (0, 0)), (gk, .cells #[.int .u8 17, .int .u32 0, .int .u16 0] 36 (0, 0))]))))))) (B3 ++ (((bb, .cells (bcur.setIfInBounds (bo + 1) (.int .u16 y2)) 34 (0, 0)) :: (D4' ++ ((cb, .cells ccur 39 (0, 0)) :: (C' ++ E1)))) ++ (D1 ++ [(g, .cells #[.int .u32 p1, .int .u16 p2] 34 (0, 0)), (gk, .cells #[.int .u8 17, .int .u32 0, .int .u16 0] 36 (0, 0))]))) from by
    classical
    rw [List.perm_iff_count]
    intro q
    simp only [List.count_append, List.count_cons, List.count_nil]
    omega)⟩
  clear hM23 hM24 hM25
  go_upto_region 19 with fail
  refine wp_letter (fun X => ∃ E, Mem W X (B3 ++ (E ++ (D1 ++ [(g, .cells #[.int .u32 p1, .int .u16 p2] 34 (0, 0)), (gk, .cells #[.int .u8 17, .int .u32 0, .int .u16 0] 36 (0, 0))])))) (by exact HM26.out) ?_
  rintro X14 ⟨E2, hM27⟩
  clear HM26 m0 m6 hy2 g6 HB HC6
  have C7 := HC.out.out HP3.out hM27 (by simp) 17 (0, 0) (by simp) (by simp [PIn])
  have e1 : fo 17 (0, 0) [(⟨17, 0, 0, 0, 0, 0, l, 0, 0⟩ : Sn)] = some (⟨17, 0, 0, 0, 0, 0, l, 0, 0⟩ : Sn) := rfl
  rw [e1] at C7
  clear hM27 e1
  go_wp2_with fail
  with_reducible refine C7.mono ?_
  rintro e X15 ⟨val, D5, B4, rfl, ⟨pv, rfl, hpv⟩, hP4, hM28⟩
  clear C7 HP3
  have hpv1 : SlF 34 2 pv n (px l).flatten D5 := by rw [← HN.out]; exact hpv
  obtain ⟨db, dO, dc, dcur, D5', rfl, d1, d2, d3, d4, d5⟩ := HX0.out _ _ _ hpv1
  simp only [sc, Option.getD_some, Option.isSome_some]
  have HD : Hid (SlF 34 2 (.slice (some ⟨db, dO, none⟩) n dc) n (px l).flatten D5) := hpv1
  obtain ⟨gc, hgc⟩ : ∃ gc, X15.heap.size = gc := ⟨_, rfl⟩
  have HM29 : Hid (Mem W (X15.alloc (.cells #[.int .u8 17, .int .u32 0, .int .u16 0, .int .u32 0, .int .u16 0, .int .u32 0, .slice (some ⟨db, dO, none⟩) n dc, .int .i64 0, .int .u32 0] 39)) ((gc, .cells #[.int .u8 17, .int .u32 0, .int .u16 0, .int .u32 0, .int .u16 0, .int .u32 0, .slice (some ⟨db, dO, none⟩) n dc, .int .i64 0, .int .u32 0] 39 (0, 0)) :: (D5 ++ (B4 ++ (E2 ++ (D1 ++ [(g, .cells #[.int .u32 p1, .int .u16 p2] 34 (0, 0)), (gk, .cells #[.int .u8 17, .int .u32 0, .int .u16 0] 36 (0, 0))])))))) := (hM28.push gc _ hgc.symm).perm (by
    classical
    rw [List.perm_iff_count]
    intro q
    simp only [List.count_append, List.count_cons, List.count_nil]
    omega)
  clear hpv hpv1 hP4 hM28 d3 d4 d5
  go_upto_region 20 with fail
  refine wp_letter (fun X => Mem W X ((gc, .cells #[.int .u8 17, .int .u32 0, .int .u16 0, .int .u32 0, .int .u16 0, .int .u32 0, .slice (some ⟨db, dO, none⟩) n dc, .int .i64 0, .int .u32 0] 39 (0, 0)) :: (D5 ++ (B4 ++ (E2 ++ (D1 ++ [(g, .cells #[.int .u32 p1, .int .u16 p2] 34 (0, 0)), (gk, .cells #[.int .u8 17, .int .u32 0, .int .u16 0] 36 (0, 0))])))))) (by exact HM29.out) ?_
  intro X16 hX16
  try simp only [hgc]
  clear HM29
  have hk := hX16.perm (show List.Perm _ ((g, .cells #[.int .u32 p1, .int .u16 p2] 34 (0, 0)) :: (gk, .cells #[.int .u8 17, .int .u32 0, .int .u16 0] 36 (0, 0)) :: (gc, .cells #[.int .u8 17, .int .u32 0, .int .u16 0, .int .u32 0, .int .u16 0, .int .u32 0, .slice (some ⟨db, dO, none⟩) n dc, .int .i64 0, .int .u32 0] 39 (0, 0)) :: (D5 ++ (B4 ++ (E2 ++ D1)))) from by
    classical
    rw [List.perm_iff_count]
    intro q
    simp only [List.count_append, List.count_cons, List.count_nil]
    omega)
  have q0 : X16.cell? ⟨g, 0, none⟩ = some (.int .u32 p1) := hk.cell 0 rfl 0
  have q1 : X16.cell? ⟨g, 1, none⟩ = some (.int .u16 p2) := hk.cell 0 rfl 1
  have C8 := HC.out.peer X16 hX16.below (v := .slice wa n wc) (l := l) (SlF.rw px_two (by rw [px_len, HN.out]; exact HW.out) (hX16.perm (show List.Perm _ (D1 ++ ((gc, .cells #[.int .u8 17, .int .u32 0, .int .u16 0, .int .u32 0, .int .u16 0, .int .u32 0, .slice (some ⟨db, dO, none⟩) n dc, .int .i64 0, .int .u32 0] 39 (0, 0)) :: (D5 ++ (B4 ++ (E2 ++ [(g, .cells #[.int .u32 p1, .int .u16 p2] 34 (0, 0)), (gk, .cells #[.int .u8 17, .int .u32 0, .int .u16 0] 36 (0, 0))]))))) from by
    classical
    rw [List.perm_iff_count]
    intro q
    simp only [List.count_append, List.count_cons, List.count_nil]
    omega))) HL.out.2 HPS.out (p1, p2) HPP.out
  have HM30 : Hid (Mem W X16 ((gc, .cells #[.int .u8 17, .int .u32 0, .int .u16 0, .int .u32 0, .int .u16 0, .int .u32 0, .slice (some ⟨db, dO, none⟩) n dc, .int .i64 0, .int .u32 0] 39 (0, 0)) :: (D5 ++ (B4 ++ (E2 ++ (D1 ++ [(g, .cells #[.int .u32 p1, .int .u16 p2] 34 (0, 0)), (gk, .cells #[.int .u8 17, .int .u32 0, .int .u16 0] 36 (0, 0))])))))) := hX16
  clear hk hX16
  go_wp2_with fail
  with_reducible refine C8.mono ?_
  rintro e X17 ⟨v', rfl, D6, hs6, hM31⟩
  clear C8 q0 q1
  obtain ⟨qb, qo, qc, qcur, D6', rfl, f1, f2, f3, f4⟩ := slf_blk hs6 (peer_ne _ _)
  have hpn := peer_ne l (p1, p2)
  obtain ⟨y0, yl, hy0⟩ : ∃ y0 yl, peer l (p1, p2) = y0 :: yl := by
    cases hh : peer l (p1, p2) with
    | nil => rw [hh] at hpn; simp at hpn
    | cons x r => exact ⟨x, r, rfl⟩
  have f5 : qcur[qo]? = some (.int .u32 y0.1) := f3 0 _ (by rw [hy0]; rfl)
  obtain ⟨m, hm⟩ : ∃ m, (peer l (p1, p2)).length = m := ⟨_, rfl⟩
  rw [hm] at hpn f1 ⊢
  have hpi : (0 : Int) < m := by omega
  have hM32 := (HM30.out.join hM31).perm (show List.Perm _ (D6 ++ ((gc, .cells #[.int .u8 17, .int .u32 0, .int .u16 0, .int .u32 0, .int .u16 0, .int .u32 0, .slice (some ⟨db, dO, none⟩) n dc, .int .i64 0, .int .u32 0] 39 (0, 0)) :: (D5 ++ (B4 ++ (E2 ++ (D1 ++ [(g, .cells #[.int .u32 p1, .int .u16 p2] 34 (0, 0)), (gk, .cells #[.int .u8 17, .int .u32 0, .int .u16 0] 36 (0, 0))])))))) from by
    classical
    rw [List.perm_iff_count]
    intro q
    simp only [List.count_append, List.count_cons, List.count_nil]
    omega) |>.perm (List.Perm.append_right _ f4)
  have m0 : X17.cell? ⟨qb, qo, none⟩ = some (.int .u32 y0.1) := by rw [hM32.cell 0 rfl]; exact f5
  have m6 : X17.frozen? ⟨qb, qo, none⟩ = false := hM32.free 0 rfl _
  obtain ⟨y3, hy3⟩ : ∃ y3, IntKind.u32.wrap (y0.1 + 1) = y3 := ⟨_, rfl⟩
  have hM33 := hM32.set 0 rfl qo (.int .u32 y3)
  have HM34 : Hid (∃ E, Mem W (X17.setCell ⟨qb, qo, none⟩ (.int .u32 y3)) ((gc, .cells #[.int .u8 17, .int .u32 0, .int .u16 0, .int .u32 0, .int .u16 0, .int .u32 0, .slice (some ⟨db, dO, none⟩) n dc, .int .i64 0, .int .u32 0] 39 (0, 0)) :: (D5 ++ (D1 ++ E)))) := ⟨_, Mem.perm hM33 (show List.Perm ((qb, .cells (qcur.setIfInBounds qo (.int .u32 y3)) 34 (0, 0)) :: (D6' ++ ((gc, .cells #[.int .u8 17, .int .u32 0, .int .u16 0, .int .u32 0, .int .u16 0, .int .u32 0, .slice (some ⟨db, dO, none⟩) n dc, .int .i64 0, .int .u32 0] 39 (0, 0)) :: (D5 ++ (B4 ++ (E2 ++ (D1 ++ [(g, .cells #[.int .u32 p1, .int .u16 p2] 34 (0, 0)), (gk, .cells #[.int .u8 17, .int .u32 0, .int .u16 0] 36 (0, 0))]))))))) ((gc, .cells #[.int .u8 17, .int .u32 0, .int .u16 0, .int .u32 0, .int .u16 0, .int .u32 0, .slice (some ⟨db, dO, none⟩) n dc, .int .i64 0, .int .u32 0] 39 (0, 0)) :: (D5 ++ (D1 ++ ((qb, .cells (qcur.setIfInBounds qo (.int .u32 y3)) 34 (0, 0)) :: (D6' ++ (B4 ++ (E2 ++ [(g, .cells #[.int .u32 p1, .int .u16 p2] 34 (0, 0)), (gk, .cells #[.int .u8 17, .int .u32 0, .int .u16 0] 36 (0, 0))]))))))) from by
    classical
    rw [List.perm_iff_count]
    intro q
    simp only [List.count_append, List.count_cons, List.count_nil]
    omega)⟩
  clear hM31 hM32 hM33 HM30 hs6 f3 f4 f5 hy0 hm
  go_upto_region 22 with fail
  refine wp_letter (fun X => ∃ E, Mem W X ((gc, .cells #[.int .u8 17, .int .u32 0, .int .u16 0, .int .u32 0, .int .u16 0, .int .u32 0, .slice (some ⟨db, dO, none⟩) n dc, .int .i64 0, .int .u32 0] 39 (0, 0)) :: (D5 ++ (D1 ++ E)))) (by exact HM34.out) ?_
  rintro X18 ⟨E3, hM35⟩
  clear HM34 m0 m6 hy3
  have g6 : X18.cell? ⟨gc, 6, none⟩ = some (.slice (some ⟨db, dO, none⟩) n dc) := hM35.cell 0 rfl 6
  have C9 := points_any (W := X18) (va := .slice (some ⟨db, dO, none⟩) n dc) (vb := .slice wa n wc) (l := l) (l' := l) (SlF.rw px_two (by rw [px_len, HN.out]; exact HD.out) (hM35.perm (show List.Perm _ (D5 ++ ((gc, .cells #[.int .u8 17, .int .u32 0, .int .u16 0, .int .u32 0, .int .u16 0, .int .u32 0, .slice (some ⟨db, dO, none⟩) n dc, .int .i64 0, .int .u32 0] 39 (0, 0)) :: (D1 ++ E3))) from by
    classical
    rw [List.perm_iff_count]
    intro q
    simp only [List.count_append, List.count_cons, List.count_nil]
    omega))) (SlF.rw px_two (by rw [px_len, HN.out]; exact HW.out) (hM35.perm (show List.Perm _ (D1 ++ ((gc, .cells #[.int .u8 17, .int .u32 0, .int .u16 0, .int .u32 0, .int .u16 0, .int .u32 0, .slice (some ⟨db, dO, none⟩) n dc, .int .i64 0, .int .u32 0] 39 (0, 0)) :: (D5 ++ E3))) from by
    classical
    rw [List.perm_iff_count]
    intro q
    simp only [List.count_append, List.count_cons, List.count_nil]
    omega)))
  rw [show decide (l = l) = true by simp] at C9
  have HM36 : Hid (Mem W X18 ((gc, .cells #[.int .u8 17, .int .u32 0, .int .u16 0, .int .u32 0, .int .u16 0, .int .u32 0, .slice (some ⟨db, dO, none⟩) n dc, .int .i64 0, .int .u32 0] 39 (0, 0)) :: (D5 ++ (D1 ++ E3)))) := hM35
  clear hM35
  go_wp2_with fail
  with_reducible refine C9.mono ?_
  rintro e X19 ⟨rfl, hb⟩
  have hM37 := HM36.out.after hb
  have C10 := points_any (W := X19) (va := .slice wa n wc) (vb := .slice la n lc) (l := l) (l' := l) (SlF.rw px_two (by rw [px_len, HN.out]; exact HW.out) (hM37.perm (show List.Perm _ (D1 ++ ((gc, .cells #[.int .u8 17, .int .u32 0, .int .u16 0, .int .u32 0, .int .u16 0, .int .u32 0, .slice (some ⟨db, dO, none⟩) n dc, .int .i64 0, .int .u32 0] 39 (0, 0)) :: (D5 ++ E3))) from by
    classical
    rw [List.perm_iff_count]
    intro q
    simp only [List.count_append, List.count_cons, List.count_nil]
    omega))) (by have := HL.out.1.below hM37.below (Nat.le_refl _); rw [HN.out] at this; exact this)
  rw [show decide (l = l) = true by simp] at C10
  have HB2 : Hid (Below W.heap.size W X19) := hM37.below
  clear C9 HM36 hb g6 hM37
  go_wp2_with fail
  with_reducible refine C10.mono ?_
  rintro e X20 ⟨rfl, hb⟩
  have HB3 : Hid (Below W.heap.size W X20) := HB2.out.trans (hb.mono HB2.out.size)
  clear C10 hb HB2
  go_wp2_with fail
  go_ret
  exact ⟨rfl, by first | exact HB3.out | (rw [← hg]; exact HB3.out)⟩
end
end Ss
end Go.Proofs.Ytgeeijinhneoiaa
