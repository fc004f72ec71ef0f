/-
  Sessions, the program's own: All.
-/
import Derived.Test.YtgeeijinhneoiaaSpSort
namespace Go.Proofs.Ytgeeijinhneoiaa
open Go.RowKit
open Sm
open Po
open Wh
set_option linter.unusedVariables false
set_option linter.unusedSimpArgs false
set_option maxRecDepth 20000

namespace Ss
section
variable {xs : List Sn} {S1 S2 : Ky → Option Value} {D L : List (Nat × Obj)} {p a b : Nat} {w V : World}

theorem bsl_ss (y1 y2 y3 y4 y5 y6 : Int) (qa : Option Addr) (m qc : Nat) (y7 y8 : Int) (X : World) : (Instr.buildSlice 28 1 #[(0, .agg #[.int .u8 y1, .int .u32 y2, .int .u16 y3, .int .u32 y4, .int .u16 y5, .int .u32 y6, .slice qa m qc, .int .i64 y7, .int .u32 y8])]).run Try.prog X = .ok (.slice (some ⟨X.heap.size, 0, none⟩) 1 1) (X.alloc (.cells #[.int .u8 y1, .int .u32 y2, .int .u16 y3, .int .u32 y4, .int .u16 y5, .int .u32 y6, .slice qa m qc, .int .i64 y7, .int .u32 y8] 39)) := by kernel_rfl
theorem cell_new9 (V : World) (g : Nat) (hg : V.heap.size = g) (c : List Value) (T : TypeId) (j : Nat) (u : Value) (hj : c[j]? = some u) : (V.alloc (.cells c.toArray T)).cell? ((⟨g, 0, none⟩ : Addr).add j) = some u := by
  subst hg
  rw [Addr.add_mid, World.cell?_alloc_new]
  simpa using hj
theorem slb_ss {zs : List Hn} {v : Value} {D L : List (Nat × Obj)} (y1 y2 y3 y4 y5 y6 : Int) (qa : Option Addr) (m qc : Nat) (y7 y8 : Int) (ps : List Pn) {g : Nat} (h : SlB 39 9 v zs.length (sx zs).flatten D) (hM : Mem w V (D ++ L)) (hg : V.heap.size = g) (hl : zs.length ≤ 100000) :
    ∃ v' V' D', (Builtin.append_ #[28, 28] 28 #[v, .slice (some ⟨g, 0, none⟩) 1 1]).run Try.prog (V.alloc (.cells #[.int .u8 y1, .int .u32 y2, .int .u16 y3, .int .u32 y4, .int .u16 y5, .int .u32 y6, .slice qa m qc, .int .i64 y7, .int .u32 y8] 39)) = .ok v' V' ∧ Mem w V' (D' ++ L) ∧ SlB 39 9 v' (zs.length + 1) (sx (zs ++ [((⟨y1, y2, y3, y4, y5, y6, ps, y7, y8⟩ : Sn), .slice qa m qc)])).flatten D' := by
  have hA := hM.after ((Below.refl _ _).alloc (Nat.le_refl _) (.cells #[.int .u8 y1, .int .u32 y2, .int .u16 y3, .int .u32 y4, .int .u16 y5, .int .u32 y6, .slice qa m qc, .int .i64 y7, .int .u32 y8] 39))
  obtain ⟨v', V', D', h1, h2, h3⟩ := slb_append (ty := 28) (V := V.alloc (.cells #[.int .u8 y1, .int .u32 y2, .int .u16 y3, .int .u32 y4, .int .u16 y5, .int .u32 y6, .slice qa m qc, .int .i64 y7, .int .u32 y8] 39)) Try.underlying28 infoSs (by kernel_rfl) (by decide) h hA ⟨g, 0, none⟩ 1 1 [.int .u8 y1, .int .u32 y2, .int .u16 y3, .int .u32 y4, .int .u16 y5, .int .u32 y6, .slice qa m qc, .int .i64 y7, .int .u32 y8] rfl (fun j u hj => cell_new9 V g hg _ _ j u hj) (by
    intro u hu
    simp only [List.mem_cons, List.not_mem_nil, or_false] at hu
    rcases hu with rfl | rfl | rfl | rfl | rfl | rfl | rfl | rfl | rfl <;> rfl) (by simp only [maxLen]; omega) (by omega)
  refine ⟨v', V', D', h1, h2, ?_⟩
  have e : (sx (zs ++ [((⟨y1, y2, y3, y4, y5, y6, ps, y7, y8⟩ : Sn), .slice qa m qc)])).flatten = (sx zs).flatten ++ [.int .u8 y1, .int .u32 y2, .int .u16 y3, .int .u32 y4, .int .u16 y5, .int .u32 y6, .slice qa m qc, .int .i64 y7, .int .u32 y8] := by simp [sx, sc]
  rw [e]
  exact h3
/-- A key of a list. -/
theorem ks_at {l : List Ky} {v : Value} {B : List (Nat × Obj)} (h : SlB 36 3 v l.length (kx l).flatten B) {i : Nat} (hi : i < l.length) : ∃ kg kc, v = .slice (some ⟨kg, 0, none⟩) l.length kc ∧ ∀ (W : World) (E : List (Nat × Obj)), Mem w W (B ++ E) → W.cell? ⟨kg, i * 3, none⟩ = some (.int .u8 l[i].1) ∧ W.cell? ⟨kg, i * 3 + 1, none⟩ = some (.int .u32 l[i].2.1) ∧ W.cell? ⟨kg, i * 3 + 2, none⟩ = some (.int .u16 l[i].2.2) := by
  obtain ⟨hx, ⟨rfl, h0, rfl⟩ | ⟨g, cap, cur, rfl, rfl, h1, h2, h3, h4⟩⟩ := h
  · omega
  · refine ⟨g, cap, rfl, fun W E hM => ?_⟩
    obtain ⟨a0, a1, a2⟩ := kf_at hi
    have hc : ∀ j u, (kx l).flatten[j]? = some u → W.cell? ⟨g, j, none⟩ = some u := fun j u hj => by
      rw [hM.cell 0 rfl, ← Array.getElem?_toList]
      rw [← h4, List.getElem?_take] at hj
      split at hj
      · exact hj
      · cases hj
    exact ⟨hc _ _ a0, hc _ _ a1, hc _ _ a2⟩
def AlR (xs : List Sn) (S1 S2 : Ky → Option Value) (p a b : Nat) (w : World) (R : List (Nat × Obj)) (i : Nat) (u : Value) (W : World) : Prop :=
  ∃ (zs : List Hn) (C D1 : List (Nat × Obj)), zs.map (·.1) = xs.take i ∧ SlB 39 9 u zs.length (sx zs).flatten C ∧ (∀ z ∈ zs, SlF 34 2 z.2 z.1.ps.length (px z.1.ps).flatten D1) ∧ TV S1 S2 p a b w W (C ++ (D1 ++ R))
set_option maxHeartbeats 8000000 in
theorem all_any {B : List (Nat × Obj)} (h : PSs xs p B) (hM : Mem w V (B ++ L)) (hl : xs.length ≤ 1000) : Calls Try.prog 25 #[.pointer (some ⟨p, 0, none⟩)] V (SaQ PSs w p L xs) := by
  obtain ⟨a, b, S1, S2, D, hS, hV⟩ := h.open hM
  obtain ⟨k0, -⟩ := hV.keep
  obtain ⟨g, hg⟩ : ∃ g, V.heap.size = g := ⟨_, rfl⟩
  have C1 := keys_any (W := V) a
  rw [hg] at C1
  have hV1 := hV.push [.map (some a)] 66 hg
  have hlk : (xs.map key).length ≤ 1000 := by rw [List.length_map]; exact hl
  have hks : (xs.map key).Pairwise klt := by rw [List.pairwise_map]; exact hS.sorted
  have C2 : Calls Try.prog 39 #[.func (.func 51) #[] #[.pointer (some ⟨g, 0, none⟩)], .func (.func 41) #[] #[]] (V.alloc (.cells #[.map (some a)] 66)) fun e W' => ∃ v KD, e = .returned v ∧ SlB 36 3 v (xs.map key).length (kx (xs.map key)).flatten KD ∧ TV S1 S2 p a b w W' (KD ++ ((g, .cells #[.map (some a)] 66 (0, 0)) :: (D ++ L))) := by
    obtain ⟨es1, c1, es2, c2, h1, h2, hM1⟩ := hV1
    refine (sorted_any (Bm := g) h1 hlk hS.keys.2 hks (hM1.perm (show List.Perm _ ((g, .cells #[.map (some a)] 66 (0, 0)) :: (a, .map es1 c1) :: ((p, .cells #[.map (some a), .map (some b)] 69 (0, 0)) :: (b, .map es2 c2) :: (D ++ L))) from by
    classical
    rw [List.perm_iff_count]
    intro q
    simp only [List.count_append, List.count_cons, List.count_nil]
    omega))).mono ?_
    rintro e W' ⟨v, KD, rfl, hs, hm⟩
    exact ⟨v, KD, rfl, hs, es1, c1, es2, c2, h1, h2, hm.perm (by
    classical
    rw [List.perm_iff_count]
    intro q
    simp only [List.count_append, List.count_cons, List.count_nil]
    omega)⟩
  have HS : Hid (TS xs S1 S2 D ∧ xs.length ≤ 1000) := ⟨hS, hl⟩
  rw [List.length_map] at C2
  obtain ⟨n, hn⟩ : ∃ n, xs.length = n := ⟨_, rfl⟩
  have HN : Hid (xs.length = n) := hn
  rw [hn] at C2
  clear h hM hS hV hV1 hlk hks hl hn
  go_enter Try.func25, Try.ntmps25
  go_wp2_with fail
  with_reducible refine C1.mono ?_
  rintro e W1 ⟨rfl, rfl⟩
  clear C1
  go_wp2_with fail
  with_reducible refine C2.mono ?_
  rintro e W2 ⟨v, KD, rfl, hK, hT⟩
  clear C2 k0
  obtain ⟨ka, kcp, rfl, v1, v2⟩ := hK.slice
  have HK : Hid (SlB 36 3 (.slice ka n kcp) n (kx (xs.map key)).flatten KD) := hK
  have H0 : Hid (AlR xs S1 S2 p a b w (KD ++ ((g, .cells #[.map (some a)] 66 (0, 0)) :: (D ++ L))) 0 (.slice none 0 0) W2) := ⟨[], [], [], rfl, SlB.nil _ _, by simp, hT⟩
  clear hK hT
  go_wp2_with fail
  go_loopw [3, 13] (fun u3 u13 w' => ∃ i : Nat, i ≤ n ∧ u13 = .int .i64 i ∧ Hid (AlR xs S1 S2 p a b w (KD ++ ((g, .cells #[.map (some a)] 66 (0, 0)) :: (D ++ L))) i u3 w')) (fun u3 u13 w' => n - (intOf u13).toNat)
  case atStart => exact ⟨0, Nat.zero_le _, rfl, H0.out⟩
  case round =>
    obtain ⟨i, hi, rfl, HR⟩ := hrel
    clear H0
    by_cases hlt : i < n
    · have j1 : (i : Int) < n := by omega
      have i1 : i < xs.length := by rw [HN.out]; exact hlt
      obtain ⟨zs, C, D1, e1, hC, hP, hT⟩ := HR.out
      have hzl : zs.length = i := by rw [← List.length_map (f := (·.1)), e1, List.length_take]; omega
      have hkl : i < (xs.map key).length := by rw [List.length_map]; exact i1
      have hK := HK.out
      rw [show n = (xs.map key).length by rw [List.length_map, HN.out]] at hK
      obtain ⟨kg, kcp', ek, hkc⟩ := ks_at (w := w) hK hkl
      simp only [Value.slice.injEq] at ek
      obtain ⟨rfl, -, rfl⟩ := ek
      obtain ⟨B1, hM1, hB1⟩ := hT.rest
      obtain ⟨c0, c1, c2⟩ := hkc wr _ (hM1.perm (show List.Perm _ (KD ++ (C ++ (D1 ++ (B1 ++ ((g, .cells #[.map (some a)] 66 (0, 0)) :: (D ++ L)))))) from by
    classical
    rw [List.perm_iff_count]
    intro q
    simp only [List.count_append, List.count_cons, List.count_nil]
    omega))
      rw [List.getElem_map] at c0 c1 c2
      have hx := List.getElem_mem i1
      obtain ⟨pv, hS1, hpv⟩ := HS.out.1.have1 _ hx
      have hxk := HS.out.1.key_in hx
      have hxf := HS.out.1.few _ hx
      have htk : xs.take (i + 1) = xs.take i ++ [xs[i]] := by rw [List.take_succ_eq_append_getElem i1]
      generalize xs[i] = x at *
      obtain ⟨m, hm⟩ : ∃ m, x.ps.length = m := ⟨_, rfl⟩
      rw [hm] at hpv hxf
      obtain ⟨-, qa, qc, rfl, -⟩ := id hpv
      obtain ⟨y1, y2, y3, y4, y5, y6, ps, y7, y8⟩ := x
      simp only [key, sc] at c0 c1 c2 hS1 hxk
      have HX : Hid (S1 (y1, y2, y3) = some (.agg #[.int .u8 y1, .int .u32 y2, .int .u16 y3, .int .u32 y4, .int .u16 y5, .int .u32 y6, .slice qa m qc, .int .i64 y7, .int .u32 y8]) ∧ KIn (y1, y2, y3) ∧ SlF 34 2 (.slice qa m qc) m (px ps).flatten D ∧ m ≤ 1000 ∧ ps.length = m ∧ xs.take (i + 1) = xs.take i ++ [⟨y1, y2, y3, y4, y5, y6, ps, y7, y8⟩]) := ⟨hS1, hxk, hpv, hxf, hm, htk⟩
      obtain ⟨ua, uc, rfl, v3, v4⟩ := hC.slice
      have HZ : Hid (zs.map (·.1) = xs.take i ∧ SlB 39 9 (.slice ua zs.length uc) zs.length (sx zs).flatten C ∧ (∀ z ∈ zs, SlF 34 2 z.2 z.1.ps.length (px z.1.ps).flatten D1)) := ⟨e1, hC, hP⟩
      have HZL : Hid (zs.length = i) := hzl
      rw [hzl] at v3 ⊢
      obtain ⟨h, hh⟩ : ∃ h, wr.heap.size = h := ⟨_, rfl⟩
      have HT : Hid (TV S1 S2 p a b w (wr.alloc (.cells #[.int .u8 y1, .int .u32 y2, .int .u16 y3] 36)) ((h, .cells #[.int .u8 y1, .int .u32 y2, .int .u16 y3] 36 (0, 0)) :: (C ++ (D1 ++ (KD ++ ((g, .cells #[.map (some a)] 66 (0, 0)) :: (D ++ L))))))) := hT.push [.int .u8 y1, .int .u32 y2, .int .u16 y3] 36 hh
      clear HR e1 hC hP hT hzl hkl hK hkc hM1 hB1 hx hS1 hpv hxk hxf htk hm
      go_upto_region 5 with fail
      refine wp_letter (fun X => TV S1 S2 p a b w X ((h, .cells #[.int .u8 y1, .int .u32 y2, .int .u16 y3] 36 (0, 0)) :: (C ++ (D1 ++ (KD ++ ((g, .cells #[.map (some a)] 66 (0, 0)) :: (D ++ L))))))) (by exact HT.out) ?_
      intro X hX
      clear HT c0 c1 c2
      try simp only [hh]
      have HSS : Hid (∀ X L', TV S1 S2 p a b w X L' → (h, .cells #[.int .u8 y1, .int .u32 y2, .int .u16 y3] 36 (0, 0)) ∈ L' → (fun X => X.cell? ⟨p, 0, none⟩ = some (.map (some a)) ∧ X.cell? ⟨h, 0, none⟩ = some (.int .u8 y1) ∧ X.cell? ⟨h, 1, none⟩ = some (.int .u32 y2) ∧ X.cell? ⟨h, 2, none⟩ = some (.int .u16 y3) ∧ (Instr.lookup 66 (.map (some a)) (.agg #[.int .u8 y1, .int .u32 y2, .int .u16 y3]) false).run Try.prog X = .ok (.agg #[.int .u8 y1, .int .u32 y2, .int .u16 y3, .int .u32 y4, .int .u16 y5, .int .u32 y6, .slice qa m qc, .int .i64 y7, .int .u32 y8]) X) X) := fun X L' hX hm => by
        obtain ⟨B, hM, -⟩ := hX.rest
        have hg := hM.at_ _ (List.mem_append_right _ hm)
        have hlk := hX.look1 HX.out.2.1 false
        rw [HX.out.1] at hlk
        exact ⟨hX.keep.1, by rw [cell_of hg]; rfl, by rw [cell_of hg]; rfl, by rw [cell_of hg]; rfl, hlk⟩
      have hXd := hX.drew
      clear hX
      refine wp_region_held_drew (S := (fun X => X.cell? ⟨p, 0, none⟩ = some (.map (some a)) ∧ X.cell? ⟨h, 0, none⟩ = some (.int .u8 y1) ∧ X.cell? ⟨h, 1, none⟩ = some (.int .u32 y2) ∧ X.cell? ⟨h, 2, none⟩ = some (.int .u16 y3) ∧ (Instr.lookup 66 (.map (some a)) (.agg #[.int .u8 y1, .int .u32 y2, .int .u16 y3]) false).run Try.prog X = .ok (.agg #[.int .u8 y1, .int .u32 y2, .int .u16 y3, .int .u32 y4, .int .u16 y5, .int .u32 y6, .slice qa m qc, .int .i64 y7, .int .u32 y8]) X)) (by kernel_rfl) (HSS.out _ _ hXd (by simp)) (fun hHeld => ?_)
      generalize X.drew = X1 at *
      have HXD : Hid (TV S1 S2 p a b w X1 ((h, .cells #[.int .u8 y1, .int .u32 y2, .int .u16 y3] 36 (0, 0)) :: (C ++ (D1 ++ (KD ++ ((g, .cells #[.map (some a)] 66 (0, 0)) :: (D ++ L))))))) := hXd
      obtain ⟨B5, hM5, hB5⟩ := hXd.rest
      have C1 : Calls Try.prog 37 #[.agg #[.int .u8 y1, .int .u32 y2, .int .u16 y3, .int .u32 y4, .int .u16 y5, .int .u32 y6, .slice qa m qc, .int .i64 y7, .int .u32 y8]] X1 (CpQ w (B5 ++ ((h, .cells #[.int .u8 y1, .int .u32 y2, .int .u16 y3] 36 (0, 0)) :: (C ++ (D1 ++ (KD ++ ((g, .cells #[.map (some a)] 66 (0, 0)) :: (D ++ L))))))) ⟨y1, y2, y3, y4, y5, y6, ps, y7, y8⟩) := copied_any (s := ⟨y1, y2, y3, y4, y5, y6, ps, y7, y8⟩) ⟨.slice qa m qc, rfl, SlF.rw px_two (by rw [px_len, HX.out.2.2.2.2.1]; exact HX.out.2.2.1) (hM5.perm (show List.Perm _ (D ++ (B5 ++ ((h, .cells #[.int .u8 y1, .int .u32 y2, .int .u16 y3] 36 (0, 0)) :: (C ++ (D1 ++ (KD ++ ((g, .cells #[.map (some a)] 66 (0, 0)) :: L))))))) from by
          classical
          rw [List.perm_iff_count]
          intro q
          simp only [List.count_append, List.count_cons, List.count_nil]
          omega))⟩ hM5 (by have h1 := HX.out.2.2.2.1; have h2 := HX.out.2.2.2.2.1; simp only at h2 ⊢; omega)
      have HB5 : Hid (∀ V' L', Mem w V' (B5 ++ L') → TV S1 S2 p a b w V' L') := hB5
      clear hXd hM5 hB5
      refine wpAnyH_take (i := 0) (v := ?_) rfl (by kernel_rfl) (by kernel_rfl) (by kernel_rfl) (fun _ _ _ h => h) (Or.inl ⟨by rfl, ?z1⟩) (by assumption) ?_
      case z1 =>
       intro w hSw
       (try dsimp only at hSw)
       go_simp
       all_goals with_reducible rfl
      try simp only [List.getElem_toArray, List.getElem_cons_zero, List.getElem_cons_succ, Act.put, List.setIfInBounds_toArray, List.set_cons_zero, List.set_cons_succ]
      refine wpAnyH_take (i := 1) (v := ?_) rfl (by kernel_rfl) (by kernel_rfl) (by kernel_rfl) (fun _ _ _ h => h) (Or.inl ⟨by rfl, ?z2⟩) (by assumption) ?_
      case z2 =>
       intro w hSw
       (try dsimp only at hSw)
       go_simp
       all_goals with_reducible rfl
      try simp only [List.getElem_toArray, List.getElem_cons_zero, List.getElem_cons_succ, Act.put, List.setIfInBounds_toArray, List.set_cons_zero, List.set_cons_succ]
      refine wpAnyH_take (i := 2) (v := ?_) rfl (by kernel_rfl) (by kernel_rfl) (by kernel_rfl) (fun _ _ _ h => h) (Or.inl ⟨by rfl, ?z3⟩) (by assumption) ?_
      case z3 =>
       intro w hSw
       (try dsimp only at hSw)
       go_simp
       all_goals with_reducible rfl
      try simp only [List.getElem_toArray, List.getElem_cons_zero, List.getElem_cons_succ, Act.put, List.setIfInBounds_toArray, List.set_cons_zero, List.set_cons_succ]
      refine wpAnyH_take (i := 3) (v := ?_) rfl (by kernel_rfl) (by kernel_rfl) (by kernel_rfl) (fun _ _ _ h => h) (Or.inl ⟨by rfl, ?z4⟩) (by assumption) ?_
      case z4 =>
       intro w hSw
       (try dsimp only at hSw)
       go_simp
       all_goals with_reducible rfl
      try simp only [List.getElem_toArray, List.getElem_cons_zero, List.getElem_cons_succ, Act.put, List.setIfInBounds_toArray, List.set_cons_zero, List.set_cons_succ]
      refine wpAnyH_take (i := 4) (v := ?_) rfl (by kernel_rfl) (by kernel_rfl) (by kernel_rfl) (fun _ _ _ h => h) (Or.inl ⟨by rfl, ?z5⟩) (by assumption) ?_
      case z5 =>
       intro w hSw
       (try dsimp only at hSw)
       go_simp
       all_goals with_reducible rfl
      try simp only [List.getElem_toArray, List.getElem_cons_zero, List.getElem_cons_succ, Act.put, List.setIfInBounds_toArray, List.set_cons_zero, List.set_cons_succ]
      refine wpAnyH_take (i := 5) (v := ?_) rfl (by kernel_rfl) (by kernel_rfl) (by kernel_rfl) (fun _ _ _ h => h) (Or.inl ⟨by rfl, ?z6⟩) (by assumption) ?_
      case z6 =>
       intro w hSw
       (try dsimp only at hSw)
       go_simp
       all_goals with_reducible rfl
      try simp only [List.getElem_toArray, List.getElem_cons_zero, List.getElem_cons_succ, Act.put, List.setIfInBounds_toArray, List.set_cons_zero, List.set_cons_succ]
      refine wpAnyH_take (i := 6) (v := ?_) rfl (by kernel_rfl) (by kernel_rfl) (by kernel_rfl) (fun _ _ _ h => h) (Or.inl ⟨by rfl, ?z7⟩) (by assumption) ?_
      case z7 =>
       intro w hSw
       (try dsimp only at hSw)
       go_simp
       all_goals with_reducible rfl
      try simp only [List.getElem_toArray, List.getElem_cons_zero, List.getElem_cons_succ, Act.put, List.setIfInBounds_toArray, List.set_cons_zero, List.set_cons_succ]
      refine wpAnyH_ready (rs := [7]) (by kernel_rfl) (by simp) ?_
      refine AllReadyH.cons rfl (fun K hK => ?_) AllReadyH.nil
      go_simp
      with_reducible refine (C1).mono ?_
      rintro e X2 ⟨val, D2, rfl, ⟨pv, rfl, hsd⟩, hM6⟩
      try go_wp2_with fail
      have hV6 : TV S1 S2 p a b w X2 (C ++ ((h, .cells #[.int .u8 y1, .int .u32 y2, .int .u16 y3] 36 (0, 0)) :: ((D2 ++ D1) ++ (KD ++ ((g, .cells #[.map (some a)] 66 (0, 0)) :: (D ++ L)))))) := HB5.out _ _ (hM6.perm (by
          classical
          rw [List.perm_iff_count]
          intro q
          simp only [List.count_append, List.count_cons, List.count_nil]
          omega))
      have HV6 : Hid (TV S1 S2 p a b w X2 (C ++ ((h, .cells #[.int .u8 y1, .int .u32 y2, .int .u16 y3] 36 (0, 0)) :: ((D2 ++ D1) ++ (KD ++ ((g, .cells #[.map (some a)] 66 (0, 0)) :: (D ++ L))))))) := hV6
      simp only [HX.out.2.2.2.2.1] at hsd
      obtain ⟨-, ra, rc, rfl, -⟩ := id hsd
      have HSD : Hid (SlF 34 2 (.slice ra m rc) m (px ps).flatten D2) := hsd
      clear C1 hM6 hsd
      simp only [sc]
      refine hK.out _ _ (HSS.out _ _ hV6 (by simp)) (fun hHeld => ?_)
      clear hK K
      try simp only [List.getElem_toArray, List.getElem_cons_zero, List.getElem_cons_succ, Act.put, List.setIfInBounds_toArray, List.set_cons_zero, List.set_cons_succ]
      refine wpAnyH_ready (rs := [8]) (by kernel_rfl) (by simp) ?_
      refine AllReadyH.cons rfl (fun K hK => ?_) AllReadyH.nil
      obtain ⟨g2, hg2⟩ : ∃ g2, X2.heap.size = g2 := ⟨_, rfl⟩
      have hbs := bsl_ss y1 y2 y3 y4 y5 y6 ra m rc y7 y8 X2
      rw [hg2] at hbs
      have HV7 : Hid (TV S1 S2 p a b w (X2.alloc (.cells #[.int .u8 y1, .int .u32 y2, .int .u16 y3, .int .u32 y4, .int .u16 y5, .int .u32 y6, .slice ra m rc, .int .i64 y7, .int .u32 y8] 39)) ((g2, .cells #[.int .u8 y1, .int .u32 y2, .int .u16 y3, .int .u32 y4, .int .u16 y5, .int .u32 y6, .slice ra m rc, .int .i64 y7, .int .u32 y8] 39 (0, 0)) :: (C ++ ((h, .cells #[.int .u8 y1, .int .u32 y2, .int .u16 y3] 36 (0, 0)) :: ((D2 ++ D1) ++ (KD ++ ((g, .cells #[.map (some a)] 66 (0, 0)) :: (D ++ L)))))))) := HV6.out.push [.int .u8 y1, .int .u32 y2, .int .u16 y3, .int .u32 y4, .int .u16 y5, .int .u32 y6, .slice ra m rc, .int .i64 y7, .int .u32 y8] 39 hg2
      refine step_bslW rfl 28 1 _ rfl hbs (by simp [Act.eval]) ?_
      refine hK.out _ _ (HSS.out _ _ HV7.out (by simp)) (fun hHeld => ?_)
      clear hK K
      try simp only [List.getElem_toArray, List.getElem_cons_zero, List.getElem_cons_succ, Act.put, List.setIfInBounds_toArray, List.set_cons_zero, List.set_cons_succ]
      refine wpAnyH_ready (rs := [9]) (by kernel_rfl) (by simp) ?_
      refine AllReadyH.cons rfl (fun K hK => ?_) AllReadyH.nil
      obtain ⟨B7, hM7, hB7⟩ := HV6.out.rest
      obtain ⟨v', V', D', hap, hM8, hS8⟩ := slb_ss y1 y2 y3 y4 y5 y6 ra m rc y7 y8 ps HZ.out.2.1 (hM7.perm (show List.Perm _ (C ++ (B7 ++ ((h, .cells #[.int .u8 y1, .int .u32 y2, .int .u16 y3] 36 (0, 0)) :: ((D2 ++ D1) ++ (KD ++ ((g, .cells #[.map (some a)] 66 (0, 0)) :: (D ++ L))))))) from by
          classical
          rw [List.perm_iff_count]
          intro q
          simp only [List.count_append, List.count_cons, List.count_nil]
          omega)) hg2 (by rw [HZL.out]; have h1 := HN.out; have h2 := HS.out.2; omega)
      rw [HZL.out] at hap
      have hV8 : TV S1 S2 p a b w V' (D' ++ ((h, .cells #[.int .u8 y1, .int .u32 y2, .int .u16 y3] 36 (0, 0)) :: ((D2 ++ D1) ++ (KD ++ ((g, .cells #[.map (some a)] 66 (0, 0)) :: (D ++ L)))))) := hB7 _ _ (hM8.perm (by
          classical
          rw [List.perm_iff_count]
          intro q
          simp only [List.count_append, List.count_cons, List.count_nil]
          omega))
      have HV8 : Hid (TV S1 S2 p a b w V' (D' ++ ((h, .cells #[.int .u8 y1, .int .u32 y2, .int .u16 y3] 36 (0, 0)) :: ((D2 ++ D1) ++ (KD ++ ((g, .cells #[.map (some a)] 66 (0, 0)) :: (D ++ L))))))) := hV8
      clear hM7 hB7 hM8
      refine step_app rfl (.tmp 17) (.tmp 25) 28 28 rfl (by simp [Act.eval]) (by simp [Act.eval]) hap rfl ?_
      refine hK.out _ _ (HSS.out _ _ hV8 (by simp)) (fun hHeld => ?_)
      clear hK K
      try simp only [List.getElem_toArray, List.getElem_cons_zero, List.getElem_cons_succ, Act.put, List.setIfInBounds_toArray, List.set_cons_zero, List.set_cons_succ]
      refine wpAnyH_take (i := 10) (v := ?_) rfl (by kernel_rfl) (by kernel_rfl) (by kernel_rfl) (fun _ _ _ h => h) (Or.inl ⟨by rfl, ?z8⟩) (by assumption) ?_
      case z8 =>
       intro w hSw
       (try dsimp only at hSw)
       go_simp
       all_goals with_reducible rfl
      try simp only [List.getElem_toArray, List.getElem_cons_zero, List.getElem_cons_succ, Act.put, List.setIfInBounds_toArray, List.set_cons_zero, List.set_cons_succ]
      refine wpAnyH_done (by kernel_rfl) ?_ _
      have HS8 : Hid (SlB 39 9 v' (i + 1) (sx (zs ++ [((⟨y1, y2, y3, y4, y5, y6, ps, y7, y8⟩ : Sn), .slice ra m rc)])).flatten D') := by rw [← HZL.out]; exact hS8
      clear hV8 hV6 hHeld hap hS8 HSS HV6 HV7 hbs HXD HB5
      go_wp2_with fail
      go_roundw
      case rel =>
        refine ⟨i + 1, by omega, by go_num, zs ++ [((⟨y1, y2, y3, y4, y5, y6, ps, y7, y8⟩ : Sn), .slice ra m rc)], D', (h, .cells #[.int .u8 y1, .int .u32 y2, .int .u16 y3] 36 (0, 0)) :: (D2 ++ D1), ?_, ?_, fun z hz => ?_, HV8.out⟩
        · rw [List.map_append, HZ.out.1, HX.out.2.2.2.2.2]
          rfl
        · rw [List.length_append, HZL.out]
          exact HS8.out
        · rcases List.mem_append.1 hz with hz | hz
          · exact (HZ.out.2.2 z hz).mono fun q hq => by simp [hq]
          · simp at hz
            rw [hz]
            simp only [HX.out.2.2.2.2.1]
            exact HSD.out.mono fun q hq => by simp [hq]
      case measure => simp [intOf]; omega
    · have k1 : ¬ ((i : Int) < n) := by omega
      obtain rfl : i = n := by omega
      go_wp2_with fail
      go_ret
      obtain ⟨zs, C, D1, e1, hC, hP, hT⟩ := HR.out
      rw [show xs.take i = xs by rw [← HN.out, List.take_length]] at e1
      obtain ⟨B', hB', hM9⟩ := (hT.perm (show List.Perm _ ((KD ++ ((g, .cells #[.map (some a)] 66 (0, 0)) :: D)) ++ (D1 ++ (C ++ L))) from by
    classical
    rw [List.perm_iff_count]
    intro q
    simp only [List.count_append, List.count_cons, List.count_nil]
    omega)).shut (HS.out.1.mono fun q hq => by simp [hq])
      exact ⟨_, C, D1, B', rfl, ⟨zs, e1, slb_slf hC, hP⟩, hB', hM9.perm (by
    classical
    rw [List.perm_iff_count]
    intro q
    simp only [List.count_append, List.count_cons, List.count_nil]
    omega)⟩
end
end Ss
end Go.Proofs.Ytgeeijinhneoiaa
