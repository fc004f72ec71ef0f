/-
  Wheel, the program's own: Tick.
-/
import Derived.Test.YtfplmefcblkljaaWpJoin
namespace Go.Proofs.Ytfplmefcblkljaa
open Go.RowKit
open Sm
open Po
open Wh
set_option linter.unusedVariables false
set_option linter.unusedSimpArgs false
set_option maxRecDepth 20000

namespace Wp
variable {now : Int} {A : Int → Option Int} {F : Int → Option Nat} {p mb : Nat} {w V : World} {L : List (Nat × Obj)}
/-- The ends' loop: these told of s, those to come. -/
def EdQ (N : Int) (A : Int → Option Int) (F : Int → Option Nat) (p mb : Nat) (w : World) (L : List (Nat × Obj)) (s : List Du) (v : Value) (u : Value) (wr : World) (j : Nat) : Prop :=
  ∃ D E, SlB 3 1 u (s.take j).length (ic ((s.take j).map (·.1))) E ∧ SlB 64 2 v s.length (ex s).flatten D ∧ WSt N (dela A ((s.take j).map (·.1))) F p mb w wr (E ++ (D ++ L))
theorem one_cells {s : List Du} {a : Option Addr} {n c : Nat} {D : List (Nat × Obj)} (h : SlB 64 2 (.slice a n c) s.length (ex s).flatten D) (hM : Mem w V (D ++ L)) {j : Nat} (hj : j < s.length) : ∃ g, a = some ⟨g, 0, none⟩ ∧ V.cell? ⟨g, j * 2, none⟩ = some (.int .u32 s[j].2) ∧ V.cell? ⟨g, j * 2 + 1, none⟩ = some (.int .i64 s[j].1) := by
  obtain ⟨hx, ⟨e, e0, rfl⟩ | ⟨g, cap, cur, e, rfl, k1, k2, k3, k4⟩⟩ := h
  · omega
  · simp only [Value.slice.injEq] at e
    obtain ⟨rfl, rfl, rfl⟩ := e
    obtain ⟨a0, a1⟩ := ef_at hj
    refine ⟨g, rfl, ?_, ?_⟩
    · rw [hM.cell 0 rfl, ← Array.getElem?_toList]
      rw [← k4, List.getElem?_take] at a0
      split at a0
      · exact a0
      · cases a0
    · rw [hM.cell 0 rfl, ← Array.getElem?_toList]
      rw [← k4, List.getElem?_take] at a1
      split at a1
      · exact a1
      · cases a1
theorem bsl_int (k : Int) (X : World) : (Instr.buildSlice 36 1 #[(0, .int .i64 k)]).run Try.prog X = .ok (.slice (some ⟨X.heap.size, 0, none⟩) 1 1) (X.alloc (.cells #[.int .i64 k] 3)) := by kernel_rfl
def TkQ (N : Int) (A : Int → Option Int) (p mb : Nat) (w : World) (L : List (Nat × Obj)) (e : Ending) (V' : World) : Prop :=
  ∃ v s ds D, e = .returned v ∧ ds.Nodup ∧ (∀ d : Du, d ∈ ds ↔ A d.1 = some d.2 ∧ d.2.toNat ≤ N.toNat) ∧ s = srt ds ∧ SlB 3 1 v s.length (ic (s.map (·.1))) D ∧ WSt N (lft A N.toNat) (plc (lft A N.toNat) N.toNat) p mb w V' (D ++ L)
theorem tick_last (h : WSt now A F p mb w V L) (hl : 2147483647 ≤ now) : Calls Try.prog 14 #[.pointer (some ⟨p, 0, none⟩)] V fun e V' => e = .returned (.slice none 0 0) ∧ V = V' := by
  obtain ⟨c0, -, -, -⟩ := h.keep
  clear h
  go_enter Try.func14, Try.ntmps14
  go_wp2_with fail
  go_ret
  exact ⟨rfl, rfl⟩
set_option maxHeartbeats 8000000 in
theorem tick_any (h : WSt now A (plc A now.toNat) p mb w V L) (hl : now < 2147483647) : Calls Try.prog 14 #[.pointer (some ⟨p, 0, none⟩)] V (TkQ (now + 1) A p mb w L) := by
  obtain ⟨c0, c1, n0, n1⟩ := h.keep
  obtain ⟨f1, f2, f3, -⟩ := h.facts
  obtain ⟨N, hN⟩ : ∃ N, now + 1 = N := ⟨_, rfl⟩
  have hN1 : 0 ≤ N ∧ N ≤ 4294967295 := by omega
  obtain ⟨h2, z0⟩ := h.tick hN1
  have hw1 : IntKind.u32.wrap (now + 1) = N := by rw [IntKind.wrap_u32]; omega
  have hge : ¬ (2147483647 ≤ now) := by omega
  have hNn : N.toNat = now.toNat + 1 := by omega
  have HF : Hid (Fl A (plc A now.toNat) N.toNat 8 = plc (lft A N.toNat) N.toNat ∧ (∀ k t, A k = some t → t.toNat ≤ N.toNat → ∃ m, m < 8 ∧ plc A now.toNat k = some (slo N.toNat m))) := by
    rw [hNn]
    exact ⟨Fl_all A now.toNat (by omega) fun k t hk => by have := f2 k t hk; omega, fun k t hk ht => due_in A now.toNat (by omega) hk ht⟩
  have HA : Hid (∀ k t, A k = some t → t.toNat < 4294967296) := fun k t hk => by have := f2 k t hk; omega
  have HK : Hid (∀ k, A k ≠ none → In64 k) := f1
  generalize plc A now.toNat = F at *
  have HW0 : Hid (WSt N A F p mb w (V.setCell ⟨p, 0, none⟩ (.int .u32 N)) L) := h2
  rw [hN] at hw1 ⊢
  clear h h2 f1 f2 f3 hNn
  go_enter Try.func14, Try.ntmps14
  go_upto_region 4 with fail
  refine wp_letter (fun X => WSt N A F p mb w X L) (by exact HW0.out) ?_
  intro V0 hV0
  have HL0 : Hid (LvQ N A F p mb w L (.slice none 0 0) V0 0 []) := by
    refine ⟨List.nodup_nil, fun d => ⟨fun h => (by cases h), fun ⟨_, _, m, hm, _⟩ => absurd hm (by omega)⟩, [], SlB.nil _ _, ?_⟩
    rw [Fl_zero]
    exact hV0
  clear HW0 hV0 z0 hw1 hge c0 c1
  go_wp2_with fail
  go_loopw [3, 20] (fun u3 u20 wr => ∃ (l : Nat) (ds : List Du), l ≤ 8 ∧ u20 = .int .i64 l ∧ Hid (LvQ N A F p mb w L u3 wr l ds)) (fun u3 u20 wr => 8 - (intOf u20).toNat)
  case atStart => exact ⟨0, [], by omega, rfl, HL0.out⟩
  case round =>
    obtain ⟨l, ds, hl8, rfl, HR⟩ := hrel
    clear HL0
    by_cases hlt : l < 8
    · have h1 : (l : Int) < 8 := by omega
      have hfew := HR.out.few
      obtain ⟨g1, g2, D, hD, hW⟩ := HR.out
      have C1 := open_any hW (l := l) (by omega)
      obtain ⟨ua, uc, rfl, q1, q2⟩ := hD.slice
      have HG : Hid (∀ v wx, OpQ N A (Fl A F N.toNat l) p mb w (D ++ L) (slo N.toNat l) (.returned v) wx → ∃ v' V' ds', (Builtin.append_ #[60, 60] 60 #[.slice ua ds.length uc, v]).run Try.prog wx = .ok v' V' ∧ LvQ N A F p mb w L v' V' (l + 1) ds') := by
        rintro v wx ⟨v1, vs, D2, e1, hv, hvs, hS2, hW2⟩
        obtain rfl : v = v1 := by simpa using e1
        obtain ⟨B, hM, hback⟩ := hW2.rest
        have hvl := hW2.few hv fun k hk => by
          have := (hvs k).1 hk
          exact hW.facts.2.2.2 k (by rw [this]; simp)
        have hdl := dues_len A N.toNat vs
        have hM2 := hM.perm (show List.Perm _ (D ++ (D2 ++ (L ++ B))) by
          classical
          rw [List.perm_iff_count]
          intro q
          simp only [List.count_append]
          omega)
        obtain ⟨v', V', B', hr, hM3, hS3⟩ := slb_join 60 hD hS2 hM2 (by omega)
        obtain ⟨s1, s2⟩ := lv_step (u := v) (wr := wx) (V' := wx) (i := 0) (vis := []) (by omega) HA.out g1 g2 hv hvs
        refine ⟨v', V', ds ++ dues A N.toNat vs, hr, s1, s2, B', hS3, ?_⟩
        rw [← Fl_succ A F N.toNat l (by omega) HA.out]
        have h4 := hback V' (B' ++ (D2 ++ L)) (hM3.perm (by
          classical
          rw [List.perm_iff_count]
          intro q
          simp only [List.count_append]
          omega))
        refine WSt.dropl (B := D2) (h4.perm ?_)
        classical
        rw [List.perm_iff_count]
        intro q
        simp only [List.count_append]
        omega
      have wl : IntKind.i64.wrap ((l : Int) + 1) = ((l + 1 : Nat) : Int) := by rw [IntKind.wrap_i64]; omega
      generalize ds.length = nd at *
      clear hD hW g1 g2 HR
      go_wp2_with fail
      with_reducible refine C1.mono ?_
      rintro e wx hO
      have hO' := hO
      obtain ⟨v, -, -, rfl, -⟩ := hO'
      obtain ⟨v', V', ds', hap, hL⟩ := HG.out v wx hO
      have HL : Hid (LvQ N A F p mb w L v' V' (l + 1) ds') := hL
      obtain ⟨-, -, D3, hD3, -⟩ := hL
      obtain ⟨xa, xc, rfl, -, -⟩ := hD3.slice
      generalize ds'.length = nd' at *
      have hO2 := hO
      obtain ⟨v2, vs2, D4, e4, -, -, hD4, -⟩ := hO2
      obtain rfl : v = v2 := by simpa using e4
      obtain ⟨ya, yc, rfl, -, -⟩ := hD4.slice
      generalize (dues A N.toNat vs2).length = nv at *
      clear hO hD3 HG hD4 e4 C1
      go_wp2_with (first | (refine wpList_append_run (.tmp 23) (.tmp 26) 60 60 rfl hap rfl (by rfl) (by simp [Act.eval]) (by simp [Act.eval]) ?_) | fail)
      exact ⟨⟨l + 1, ds', by omega, by first | rfl | (push_cast; rfl), HL.out⟩, by simp [intOf]; omega⟩
    · obtain rfl : l = 8 := by omega
      have h1 : ¬ ((8 : Nat) : Int) < 8 := by omega
      have hfew := HR.out.few
      obtain ⟨g1, g2, D, hD, hW⟩ := HR.out
      rw [HF.out.1] at hW
      have HS : Hid (∀ d : Du, d ∈ ds ↔ A d.1 = some d.2 ∧ d.2.toNat ≤ N.toNat) := fun d => by
        rw [g2 d]
        exact ⟨fun h => ⟨h.1, h.2.1⟩, fun h => ⟨h.1, h.2, HF.out.2 _ _ h.1 h.2⟩⟩
      have HD : Hid ds.Nodup := g1
      obtain ⟨B, hM, hback⟩ := hW.rest
      have C2 := sort_slb (L := L ++ B) hD (by rw [← List.append_assoc]; exact hM) (by omega)
      obtain ⟨s, hs⟩ : ∃ s, srt ds = s := ⟨_, rfl⟩
      have hsl : s.length = ds.length := by rw [← hs]; exact srt_len ds
      have HSS : Hid (srt ds = s) := hs
      have HSM : Hid (∀ d : Du, d ∈ s ↔ A d.1 = some d.2 ∧ d.2.toNat ≤ N.toNat) := fun d => by
        rw [← hs, (srt_perm ds).mem_iff]
        exact HS.out d
      obtain ⟨ua, uc, rfl, q1, q2⟩ := hD.slice
      rw [hs] at C2
      have HB : Hid (∀ V' D', Mem w V' (D' ++ (L ++ B)) → WSt N A (plc (lft A N.toNat) N.toNat) p mb w V' (D' ++ L)) := fun V' D' h => hback V' (D' ++ L) (by rw [List.append_assoc]; exact h)
      rw [← hsl] at C2 q1 hfew ⊢
      obtain ⟨n, hn⟩ : ∃ n, s.length = n := ⟨_, rfl⟩
      have HN : Hid (s.length = n) := hn
      rw [hn] at q1 hfew ⊢
      clear hD hW g1 g2 HR hM hback hs hsl
      rw [hn] at C2
      clear hn
      go_wp2_with fail
      with_reducible refine C2.mono ?_
      rintro e V1 ⟨rfl, D1, hM1, hD1⟩
      have HE0 : Hid (EdQ N A (plc (lft A N.toNat) N.toNat) p mb w L s (.slice ua n uc) (.slice none 0 0) V1 0) := by
        refine ⟨D1, [], SlB.nil _ _, by rw [HN.out]; exact hD1, ?_⟩
        rw [List.take_zero, List.map_nil, dela_nil]
        exact HB.out _ _ hM1
      clear hM1 hD1 C2 HB
      go_wp2_with fail
      go_loopw [5, 33] (fun u5 u33 wr => ∃ (j : Nat), j ≤ n ∧ u33 = .int .i64 j ∧ Hid (EdQ N A (plc (lft A N.toNat) N.toNat) p mb w L s (.slice ua n uc) u5 wr j)) (fun u5 u33 wr => n - (intOf u33).toNat)
      case atStart => exact ⟨0, by omega, rfl, HE0.out⟩
      case round =>
        obtain ⟨j, hj, rfl, HQ⟩ := hrel
        clear HE0
        by_cases hlt : j < n
        · have h1 : (j : Int) < n := by omega
          have h0 : (0 : Int) ≤ (j : Int) := by omega
          obtain ⟨D2, E, hE, hD2, hW2⟩ := HQ.out
          obtain ⟨B2, hM2, hback2⟩ := hW2.rest
          have hjs : j < s.length := by rw [HN.out]; exact hlt
          have hM3 := hM2.perm (show List.Perm _ (D2 ++ (E ++ (L ++ B2))) by
            classical
            rw [List.perm_iff_count]
            intro q
            simp only [List.count_append]
            omega)
          have hrd := one_cells hD2 hM3 hjs
          obtain ⟨g, rfl, r0, r1⟩ := hrd
          have htk : s.take (j + 1) = s.take j ++ [s[j]] := by rw [List.take_add_one, List.getElem?_eq_getElem hjs]; rfl
          obtain ⟨hAd, hTd⟩ := (HSM.out s[j]).1 (List.getElem_mem hjs)
          generalize s[j] = d at *
          obtain ⟨K, T⟩ := d
          simp only at hAd hTd r0 r1
          have hK := HK.out K (by rw [hAd]; simp)
          have hFn := plc_lft_none hAd hTd
          have htl : (s.take j).length = j := by rw [List.length_take]; omega
          have hsm : (s.take (j + 1)).map (·.1) = (s.take j).map (·.1) ++ [K] := by rw [htk, List.map_append]; rfl
          have hde : upd (dela A ((s.take j).map (·.1))) K none = dela A ((s.take (j + 1)).map (·.1)) := by rw [dela_one, hsm]
          obtain ⟨g7, hg7⟩ : ∃ g7, wr.heap.size = g7 := ⟨_, rfl⟩
          have hW3 := hW2.push (.cells #[.int .u32 T, .int .i64 K] 64) hg7
          obtain ⟨o, hrun, hZ⟩ := hW3.drew.del hK hFn 0
          rw [hde] at hZ
          have HW : Hid (WSt N (dela A ((s.take j).map (·.1))) (plc (lft A N.toNat) N.toNat) p mb w (wr.alloc (.cells #[.int .u32 T, .int .i64 K] 64)) ((g7, .cells #[.int .u32 T, .int .i64 K] 64 (0, 0)) :: (E ++ (D2 ++ L)))) := hW3
          have HZ : Hid (WSt N (dela A ((s.take (j + 1)).map (·.1))) (plc (lft A N.toNat) N.toNat) p mb w (Go.ChangeMaps.setBlock (wr.alloc (.cells #[.int .u32 T, .int .i64 K] 64)).drew mb o) ((g7, .cells #[.int .u32 T, .int .i64 K] 64 (0, 0)) :: (E ++ (D2 ++ L)))) := hZ
          have HS7 : Hid (∀ (X : World) (A' : Int → Option Int) (F' : Int → Option Nat), WSt N A' F' p mb w X ((g7, .cells #[.int .u32 T, .int .i64 K] 64 (0, 0)) :: (E ++ (D2 ++ L))) → (fun X : World => X.cell? ⟨p, 1, none⟩ = some (.map (some mb)) ∧ X.cell? ⟨g7, 1, none⟩ = some (.int .i64 K)) X) := fun X A' F' hX => ⟨hX.keep.2.1, by rw [cell_of (hX.get 0 rfl)]; rfl⟩
          have HED : Hid (SlB 3 1 u5 (s.take j).length (ic ((s.take j).map (·.1))) E ∧ SlB 64 2 (.slice (some ⟨g, 0, none⟩) n uc) s.length (ex s).flatten D2) := ⟨hE, hD2⟩
          have HT : Hid (s.take (j + 1) = s.take j ++ [(K, T)] ∧ (s.take j).length = j) := ⟨htk, htl⟩
          obtain ⟨va, vc, rfl, v1, v2⟩ := hE.slice
          rw [htl] at v1 HED ⊢
          clear hE hD2 hW2 hM2 hM3 hback2 hW3 hZ htk htl hsm hde hAd hTd hK hFn HQ hjs
          go_upto_region 15 with fail

          refine wp_region_held_drew (S := (fun X : World => X.cell? ⟨p, 1, none⟩ = some (.map (some mb)) ∧ X.cell? ⟨g7, 1, none⟩ = some (.int .i64 K))) (by kernel_rfl) (HS7.out _ _ _ HW.out.drew) (fun hHeld => ?_)
          refine wpAnyH_take (i := 0) (v := ?_) rfl (by kernel_rfl) (by kernel_rfl) (by kernel_rfl) (fun _ _ _ h => h) (Or.inl ⟨by rfl, ?z1⟩) (by assumption) ?_
          case z1 =>
           intro w hSw
           (try dsimp only at hSw)
           go_simp
           all_goals with_reducible rfl
          try simp only [List.getElem_toArray, List.getElem_cons_zero, List.getElem_cons_succ, Act.put, List.setIfInBounds_toArray, List.set_cons_zero, List.set_cons_succ]
          refine wpAnyH_take (i := 4) (v := ?_) rfl (by kernel_rfl) (by kernel_rfl) (by kernel_rfl) (fun _ _ _ h => h) (Or.inl ⟨by rfl, ?z2⟩) (by assumption) ?_
          case z2 =>
           intro w hSw
           (try dsimp only at hSw)
           go_simp
           all_goals with_reducible rfl
          try simp only [List.getElem_toArray, List.getElem_cons_zero, List.getElem_cons_succ, Act.put, List.setIfInBounds_toArray, List.set_cons_zero, List.set_cons_succ]
          refine wpAnyH_take (i := 1) (v := ?_) rfl (by kernel_rfl) (by kernel_rfl) (by kernel_rfl) (fun _ _ _ h => h) (Or.inl ⟨by rfl, ?z3⟩) (by assumption) ?_
          case z3 =>
           intro w hSw
           (try dsimp only at hSw)
           go_simp
           all_goals with_reducible rfl
          try simp only [List.getElem_toArray, List.getElem_cons_zero, List.getElem_cons_succ, Act.put, List.setIfInBounds_toArray, List.set_cons_zero, List.set_cons_succ]
          refine wpAnyH_take (i := 2) (v := ?_) rfl (by kernel_rfl) (by kernel_rfl) (by kernel_rfl) (fun _ _ _ h => h) (Or.inl ⟨by rfl, ?z4⟩) (by assumption) ?_
          case z4 =>
           intro w hSw
           (try dsimp only at hSw)
           go_simp
           all_goals with_reducible rfl
          try simp only [List.getElem_toArray, List.getElem_cons_zero, List.getElem_cons_succ, Act.put, List.setIfInBounds_toArray, List.set_cons_zero, List.set_cons_succ]
          refine wpAnyH_take (i := 3) (v := ?_) rfl (by kernel_rfl) (by kernel_rfl) (by kernel_rfl) (fun _ _ _ h => h) (Or.inl ⟨by rfl, ?z5⟩) (by assumption) ?_
          case z5 =>
           intro w hSw
           (try dsimp only at hSw)
           go_simp
           all_goals with_reducible rfl
          try simp only [List.getElem_toArray, List.getElem_cons_zero, List.getElem_cons_succ, Act.put, List.setIfInBounds_toArray, List.set_cons_zero, List.set_cons_succ]
          refine wpAnyH_take (i := 5) (v := ?_) rfl (by kernel_rfl) (by kernel_rfl) (by kernel_rfl) (fun _ _ _ h => h) (Or.inl ⟨by rfl, ?z6⟩) (by assumption) ?_
          case z6 =>
           intro w hSw
           (try dsimp only at hSw)
           go_simp
           all_goals with_reducible rfl
          try simp only [List.getElem_toArray, List.getElem_cons_zero, List.getElem_cons_succ, Act.put, List.setIfInBounds_toArray, List.set_cons_zero, List.set_cons_succ]
          refine wpAnyH_ready (rs := [6]) (by kernel_rfl) (by simp) ?_
          refine AllReadyH.cons rfl (fun K hK => ?_) AllReadyH.nil
          go_simp
          refine hK.out _ _ (HS7.out _ _ _ HZ.out) (fun hHeld => ?_)
          clear hK K
          try simp only [List.getElem_toArray, List.getElem_cons_zero, List.getElem_cons_succ, Act.put, List.setIfInBounds_toArray, List.set_cons_zero, List.set_cons_succ]
          refine wpAnyH_done (by kernel_rfl) ?_ _

          go_upto_region 16 with fail
          refine wp_letter (fun X => WSt N (dela A ((s.take (j + 1)).map (·.1))) (plc (lft A N.toNat) N.toNat) p mb w X ((g7, .cells #[.int .u32 T, .int .i64 K] 64 (0, 0)) :: (E ++ (D2 ++ L)))) (by exact HZ.out) ?_
          intro X hX
          clear HZ HW hrun
          obtain ⟨-, x1⟩ := HS7.out X _ _ hX
          obtain ⟨h, hh⟩ : ∃ h, X.heap.size = h := ⟨_, rfl⟩
          have hbs := bsl_int K X
          rw [hh] at hbs
          obtain ⟨B3, hM4, hback3⟩ := hX.sub.rest
          have hM5 := hM4.perm (show List.Perm _ (E ++ (D2 ++ (L ++ B3))) by
            classical
            rw [List.perm_iff_count]
            intro q
            simp only [List.count_append]
            omega)
          have hA1 := hM5.after ((Below.refl _ _).alloc (Nat.le_refl _) (.cells #[.int .i64 K] 3))
          obtain ⟨v', V2, E', hap, hM6, hE2⟩ := slb_append (ty := 36) (V := X.alloc (.cells #[.int .i64 K] 3)) Try.underlying36 infoI (by kernel_rfl) (by decide) HED.out.1 hA1 ⟨h, 0, none⟩ 1 1 [.int .i64 K] rfl (fun j u hj => by
            subst hh
            match j, hj with
            | 0, hj => simp at hj; subst hj; simp [Addr.add, World.cell?_alloc_new]
            | j + 1, hj => simp at hj) (by simp [Value.oneCell']) (by simp only [maxLen]; omega) (by omega)
          have hQ : EdQ N A (plc (lft A N.toNat) N.toNat) p mb w L s (.slice (some ⟨g, 0, none⟩) n uc) v' V2 (j + 1) := by
            refine ⟨D2, E', ?_, HED.out.2, ?_⟩
            · rw [HT.out.1, List.length_append, HT.out.2, List.map_append]
              simpa [ic] using hE2
            · refine hback3 V2 (E' ++ (D2 ++ L)) (hM6.perm ?_)
              classical
              rw [List.perm_iff_count]
              intro q
              simp only [List.count_append]
              omega
          obtain ⟨ra, rc, rfl, r1', r2'⟩ := hE2.slice
          have HQ2 : Hid (EdQ N A (plc (lft A N.toNat) N.toNat) p mb w L s (.slice (some ⟨g, 0, none⟩) n uc) (.slice ra (j + 1) rc) V2 (j + 1)) := hQ
          have wj : IntKind.i64.wrap ((j : Int) + 1) = ((j + 1 : Nat) : Int) := by rw [IntKind.wrap_i64]; omega
          clear hX hM4 hback3 hM5 hA1 hM6 hE2 hQ HED HT HS7
          go_wp2_with (first | (refine wpList_append_run (.tmp 43) (.tmp 46) 36 36 rfl hap rfl (by rfl) (by simp [Act.eval]) (by simp [Act.eval]) ?_) | fail)
          exact ⟨⟨j + 1, by omega, by first | rfl | (push_cast; rfl), HQ2.out⟩, by simp [intOf]; omega⟩
        · obtain rfl : j = n := by omega
          have h1 : ¬ ((j : Int) < j) := by omega
          have hQ := HQ.out
          obtain ⟨D2, E, hE, -, hW2⟩ := hQ
          have ht : s.take j = s := by rw [← HN.out, List.take_length]
          rw [ht] at hE hW2
          rw [dela_all HSM.out] at hW2
          obtain ⟨va, vc, rfl, v1, v2⟩ := hE.slice
          have HR : Hid (TkQ N A p mb w L (.returned (.slice va s.length vc)) wr) := by
            refine ⟨_, s, ds, E, rfl, HD.out, HS.out, HSS.out.symm, hE, ?_⟩
            refine WSt.dropl (B := D2) (hW2.perm ?_)
            classical
            rw [List.perm_iff_count]
            intro q
            simp only [List.count_append]
            omega
          generalize s.length = ns at *
          clear hE hW2 HQ HSM HS HSS HD ht
          go_wp2_with fail
          go_ret
          exact HR.out
end Wp
end Go.Proofs.Ytfplmefcblkljaa
