/-
  Ports: the program's Take.
-/
import Derived.Test.YtkbjiackjefkkaaDoorPpLp
namespace Go.Proofs.YtkbjiackjefkkaaDoor
open Go.RowKit
open Sm
open Po
set_option linter.unusedVariables false
set_option linter.unusedSimpArgs false
set_option maxRecDepth 20000

namespace Po
theorem pm {α : Type} (B L : List α) (x y z : α) : List.Perm (B ++ (L ++ [x, y, z])) (x :: y :: z :: (B ++ L)) := by
  rw [← List.append_assoc]
  exact List.perm_append_comm
set_option maxHeartbeats 8000000 in
theorem ptake_any {w W : World} (hTab : TabAt 0 Lib.deBruijn64tab w) {p : Nat} {xs : List Mk} {B L : List (Nat × Obj)} (h : PSt xs p B) (hM : Mem w W (B ++ L)) (hn : xs.length ≤ 1000000) {vp : Value} {l : List Int} (hv : Rw W 1 vp (ux l)) (hl : l.length ≤ 1000000) (hlb : ∀ x ∈ l, 0 ≤ x ∧ x ≤ 4294967295) (pr lo hi want : Int) (hpr : 0 ≤ pr ∧ pr ≤ 255) (hlo : 0 ≤ lo ∧ lo ≤ 65535) (hhi : 0 ≤ hi ∧ hi ≤ 65535) (hwt : 0 ≤ want ∧ want ≤ 65535) :
    Calls Tryd.prog 11 #[.pointer (some ⟨p, 0, none⟩), .int .u8 pr, vp, .int .u16 lo, .int .u16 hi, .int .u16 want] W (TkQ PSt w xs pr p L (tk xs pr (frm lo want) (upt hi want) l)) := by
  obtain ⟨R, hR⟩ : ∃ R, tk xs pr (frm lo want) (upt hi want) l = R := ⟨_, rfl⟩
  rw [hR]
  obtain ⟨av, cv, rfl, hlc, hcb, hx⟩ := pool_at hv
  have HX : Hid (∀ i (hi : i < l.length), ∃ b off, av = some ⟨b, off, none⟩ ∧ ∀ V, Below W.heap.size W V → V.cell? ⟨b, off + i, none⟩ = some (.int .u32 l[i])) := hx
  have HR0 : Hid (tk xs pr (frm lo want) (upt hi want) (l.drop 0) = R) := hR
  have HLb : Hid (∀ x ∈ l, 0 ≤ x ∧ x ≤ 4294967295) := hlb
  have HPS : Hid (PSt xs p B) := h
  have HMW : Hid (Mem w W (B ++ L)) := hM
  have hC := classOf_any
  have a1 : 0 ≤ plo lo want ∧ plo lo want ≤ 65535 := by unfold plo; split <;> omega
  have a2 : 0 ≤ upt hi want ∧ upt hi want ≤ 65535 := by unfold upt; split <;> omega
  have HL : Hid (∀ V ip, Below W.heap.size W V → 0 ≤ ip ∧ ip ≤ 4294967295 → Calls Tryd.prog 21 #[.pointer (some ⟨p, 0, none⟩), .int .u8 pr, .int .u32 ip, .agg (clv (plo lo want) (upt hi want) (want % 2))] V fun e W' => (∃ r ok, e = .returned (.tuple #[.int .u16 r, .bool ok]) ∧ LA (Fr (plo lo want) (upt hi want) (want % 2) (hld xs pr ip)) r ok) ∧ Below V.heap.size V W') := fun V ip hV hip => by
    obtain ⟨-, -, mb, es, clock, rfl, hE⟩ := HPS.out
    have hMV := HMW.out.after hV
    exact lowestp_any (tab_below hTab hMV.below) hMV hE hpr hip a1 a2
  have HC : Hid (∀ V, Calls Tryd.prog 20 #[.int .u16 lo, .int .u16 hi, .int .u16 want] V fun e W' => e = .returned (.agg (clv (plo lo want) (upt hi want) (want % 2))) ∧ Below V.heap.size V W') := fun V => classOf_any V lo hi want hlo hhi hwt
  have HLT : Hid (∀ ip r ok, LA (Fr (plo lo want) (upt hi want) (want % 2) (hld xs pr ip)) r ok → t1 xs pr ip (cnt (frm lo want) (upt hi want)) (frm lo want) = (if ok then some r else none) ∧ (ok = true → 0 ≤ r ∧ r ≤ 65535 ∧ (pr, ip, r) ∉ xs)) := fun ip r ok h => by
    refine ⟨la_t1 h, fun hok => ?_⟩
    subst hok
    rcases h with ⟨-, ⟨g1, g2, g3, g4⟩, -⟩ | ⟨h1, -⟩
    · refine ⟨by omega, by omega, ?_⟩
      unfold hld at g4
      simpa using g4
    · cases h1
  obtain ⟨T, hT⟩ : ∃ T, upt hi want = T := ⟨_, rfl⟩
  obtain ⟨F, hF⟩ : ∃ F, frm lo want = F := ⟨_, rfl⟩
  obtain ⟨P, hP⟩ : ∃ P : Int → Int → Bool → Prop, (fun ip => LA (Fr (plo lo want) (upt hi want) (want % 2) (hld xs pr ip))) = P := ⟨_, rfl⟩
  have hP' : ∀ ip, LA (Fr (plo lo want) (upt hi want) (want % 2) (hld xs pr ip)) = P ip := fun ip => congrFun hP ip
  obtain ⟨pw, hpw⟩ : ∃ x, mkw 64 (fun i => decide ((i : Int) % 2 = want % 2)) = x := ⟨_, rfl⟩
  simp only [hP'] at HL HLT
  unfold clv at HL HC
  rw [hpw] at HL HC
  rw [hT] at HL HC HLT HR0
  rw [hF] at HLT HR0
  obtain ⟨lo', hlo'⟩ : ∃ x, plo lo want = x := ⟨_, rfl⟩
  rw [hlo'] at HL HC
  obtain ⟨g, hg⟩ : ∃ g, W.heap.size = g := ⟨_, rfl⟩
  have HM0 : Hid (Mem W (W.alloc (.cells #[.int .u32 0, .int .u16 0] 35)) [(g, .cells #[.int .u32 0, .int .u16 0] 35 (0, 0))]) := (Mem.nil W).push1 hg.symm
  clear hx hR hP hP' hpw hF hlo' hC h hM hv hlb a1 a2 hTab hT
  go_enter Tryd.func11, Tryd.ntmps11
  go_upto_region 1 with fail
  refine wp_letter (fun X => Mem W X [(g, .cells #[.int .u32 0, .int .u16 0] 35 (0, 0))]) (by exact HM0.out) ?_
  intro V0 hM0
  try simp only [hg]
  have H0 : Hid (Mem W V0 [(g, .cells #[.int .u32 0, .int .u16 0] 35 (0, 0))]) := hM0
  clear HM0 hM0
  have C1 := HC.out V0
  clear HC
  go_wp2_with fail
  refine C1.mono ?_
  rintro e V1 ⟨rfl, hV⟩
  have hM1 := H0.out.after hV
  clear C1 hV H0
  obtain ⟨g1, hg1⟩ : ∃ g, V1.heap.size = g := ⟨_, rfl⟩
  have HM1 : Hid (Mem W (V1.alloc (.cells (clw lo' T pw) 61)) [(g1, .cells (clw lo' T pw) 61 (0, 0)), (g, .cells #[.int .u32 0, .int .u16 0] 35 (0, 0))]) := mem_front hM1 hg1 _
  clear hM1
  go_upto_region 2 with fail
  refine wp_letter (fun X => Mem W X [(g1, .cells (clw lo' T pw) 61 (0, 0)), (g, .cells #[.int .u32 0, .int .u16 0] 35 (0, 0))]) (by exact HM1.out) ?_
  intro V2 hM2
  try simp only [hg1]
  have H2 : Hid (Mem W V2 [(g1, .cells (clw lo' T pw) 61 (0, 0)), (g, .cells #[.int .u32 0, .int .u16 0] 35 (0, 0))]) := hM2
  clear HM1 hM2 hg1
  go_wp2_with fail
  go_loopw [26] (fun u26 w' => ∃ i : Nat, i ≤ l.length ∧ u26 = .int .i64 i ∧ Hid (Mem W w' [(g1, .cells (clw lo' T pw) 61 (0, 0)), (g, .cells #[.int .u32 0, .int .u16 0] 35 (0, 0))] ∧ tk xs pr F T (l.drop i) = R)) (fun u26 w' => l.length - (intOf u26).toNat)
  case atStart => exact ⟨0, Nat.zero_le _, rfl, H2.out, HR0.out⟩
  case round =>
    obtain ⟨i, hi', rfl, HR⟩ := hrel
    clear H2 HR0
    by_cases hlt : i < l.length
    · have h1 : (i : Int) < l.length := by omega
      obtain ⟨mb, off, rfl, hV⟩ := HX.out i hlt
      have c0 := hV _ HR.out.1.below
      have hd : l.drop i = l[i] :: l.drop (i + 1) := List.drop_eq_getElem_cons hlt
      have hFF := HR.out.2
      rw [hd, tk_cons] at hFF
      have hip := HLb.out l[i] (List.getElem_mem hlt)
      have HF : Hid (tj l[i] (t1 xs pr l[i] (cnt F T) F) (tk xs pr F T (l.drop (i + 1))) = R) := hFF
      have hMr := HR.out.1
      clear hd hFF HR hV
      generalize l[i] = ip at *
      have k0 : wr.cell? ⟨g1, 0, none⟩ = some (.int .i64 lo') := hMr.cell 0 rfl 0
      have k1 : wr.cell? ⟨g1, 1, none⟩ = some (.int .i64 T) := hMr.cell 0 rfl 1
      have k2 : wr.cell? ⟨g1, 2, none⟩ = some (.int .u64 (pw : Int)) := hMr.cell 0 rfl 2
      have C2 := HL.out wr ip hMr.below hip
      have HMr : Hid (Mem W wr [(g1, .cells (clw lo' T pw) 61 (0, 0)), (g, .cells #[.int .u32 0, .int .u16 0] 35 (0, 0))]) := hMr
      clear hMr
      go_wp2_with fail
      refine C2.mono ?_
      rintro e V3 ⟨⟨r, ok, rfl, hQ⟩, hV⟩
      have HM3 : Hid (Mem W V3 [(g1, .cells (clw lo' T pw) 61 (0, 0)), (g, .cells #[.int .u32 0, .int .u16 0] 35 (0, 0))]) := HMr.out.after hV
      obtain ⟨ht1, hok⟩ := HLT.out ip r ok hQ
      clear C2 hV HMr k0 k1 k2 c0 hQ HLT
      cases ok with
      | false =>
        simp only [Bool.false_eq_true, if_false] at ht1
        have HN : Hid (tk xs pr F T (l.drop (i + 1)) = R) := by
          have := HF.out
          rw [ht1] at this
          exact this
        clear HF ht1 hok
        go_wp2_with fail
        go_roundw
        case rel => exact ⟨i + 1, by omega, by go_num, HM3.out, HN.out⟩
        case measure => simp [intOf]; omega
      | true =>
        obtain ⟨r0, r1, hno⟩ := hok rfl
        simp only [if_true] at ht1
        have HQ : Hid (R = some (ip, r)) := by
          have := HF.out
          rw [ht1] at this
          exact this.symm
        clear HF ht1 hok HX HLb HL
        obtain ⟨g2, hg2⟩ : ∃ g, V3.heap.size = g := ⟨_, rfl⟩
        have HM4 : Hid (Mem W (V3.alloc (.cells #[.int .u32 ip, .int .u16 r] 35)) [(g2, .cells #[.int .u32 ip, .int .u16 r] 35 (0, 0)), (g1, .cells (clw lo' T pw) 61 (0, 0)), (g, .cells #[.int .u32 0, .int .u16 0] 35 (0, 0))]) := mem_front HM3.out hg2 _
        clear HM3
        go_upto_region 8 with fail
        refine wp_letter (fun X => Mem W X [(g2, .cells #[.int .u32 ip, .int .u16 r] 35 (0, 0)), (g1, .cells (clw lo' T pw) 61 (0, 0)), (g, .cells #[.int .u32 0, .int .u16 0] 35 (0, 0))]) (by exact HM4.out) ?_
        intro V4 hM4
        try simp only [hg2]
        have hJ : Mem w V4 ((g2, .cells #[.int .u32 ip, .int .u16 r] 35 (0, 0)) :: (g1, .cells (clw lo' T pw) 61 (0, 0)) :: (g, .cells #[.int .u32 0, .int .u16 0] 35 (0, 0)) :: (B ++ L)) := (HMW.out.join hM4).perm List.perm_append_comm
        have HJ : Hid (Mem w V4 (B ++ (L ++ [(g2, .cells #[.int .u32 ip, .int .u16 r] 35 (0, 0)), (g1, .cells (clw lo' T pw) 61 (0, 0)), (g, .cells #[.int .u32 0, .int .u16 0] 35 (0, 0))]))) := by
          have := HMW.out.join hM4
          rw [List.append_assoc] at this
          exact this
        have HS : Hid (∀ V M, Mem w V ((g2, .cells #[.int .u32 ip, .int .u16 r] 35 (0, 0)) :: (g1, .cells (clw lo' T pw) 61 (0, 0)) :: (g, .cells #[.int .u32 0, .int .u16 0] 35 (0, 0)) :: M) → (fun V => V.cell? ⟨g2, 0, none⟩ = some (.int .u32 ip) ∧ V.cell? ⟨g2, 1, none⟩ = some (.int .u16 r)) V) := fun V M h => ⟨h.cell 0 rfl 0, h.cell 0 rfl 1⟩
        have HS2 : Hid (∀ V M, Mem w V ((g2, .cells #[.int .u32 ip, .int .u16 r] 35 (0, 0)) :: (g1, .cells (clw lo' T pw) 61 (0, 0)) :: (g, .cells #[.int .u32 ip, .int .u16 r] 35 (0, 0)) :: M) → (fun V => V.cell? ⟨g2, 0, none⟩ = some (.int .u32 ip) ∧ V.cell? ⟨g2, 1, none⟩ = some (.int .u16 r)) V) := fun V M h => ⟨h.cell 0 rfl 0, h.cell 0 rfl 1⟩
        have HS0 : Hid ((fun V => V.cell? ⟨g2, 0, none⟩ = some (.int .u32 ip) ∧ V.cell? ⟨g2, 1, none⟩ = some (.int .u16 r)) V4) := HS.out _ _ hJ
        have HH : Hid (∀ V, Mem w V (B ++ (L ++ [(g2, .cells #[.int .u32 ip, .int .u16 r] 35 (0, 0)), (g1, .cells (clw lo' T pw) 61 (0, 0)), (g, .cells #[.int .u32 0, .int .u16 0] 35 (0, 0))])) → Calls Tryd.prog 13 #[.pointer (some ⟨p, 0, none⟩), .int .u8 pr, .agg #[.int .u32 ip, .int .u16 r]] V fun e W' => e = .returned (.int .i64 0) ∧ ∃ B', PSt (xs ++ [(pr, ip, r)]) p B' ∧ Mem w W' (B' ++ (L ++ [(g2, .cells #[.int .u32 ip, .int .u16 r] 35 (0, 0)), (g1, .cells (clw lo' T pw) 61 (0, 0)), (g, .cells #[.int .u32 0, .int .u16 0] 35 (0, 0))]))) := fun V hV => by
          have := phold_any HPS.out hV hn pr ip r ⟨hpr, hip, r0, r1⟩
          rw [if_neg hno, if_neg hno] at this
          exact this
        clear hM4 hJ HM4 HPS HMW
        refine wp_region_held_drew (S := (fun V => V.cell? ⟨g2, 0, none⟩ = some (.int .u32 ip) ∧ V.cell? ⟨g2, 1, none⟩ = some (.int .u16 r))) (by kernel_rfl) (HS.out _ _ (HJ.out.drew.perm (pm B L _ _ _))) (fun hHeld => ?_)
        refine wpAnyH_take (i := 0) (v := ?_) rfl (by kernel_rfl) (by kernel_rfl) (by kernel_rfl) (fun _ _ _ h => h) (Or.inl ⟨by rfl, ?z1⟩) (by assumption) ?_
        case z1 =>
         intro w hSw
         (try dsimp only at hSw)
         go_simp
         all_goals with_reducible rfl
        try simp only [List.getElem_toArray, List.getElem_cons_zero, List.getElem_cons_succ, Act.put, List.setIfInBounds_toArray, List.set_cons_zero, List.set_cons_succ]
        refine wpAnyH_take (i := 1) (v := ?_) rfl (by kernel_rfl) (by kernel_rfl) (by kernel_rfl) (fun _ _ _ h => h) (Or.inl ⟨by rfl, ?z2⟩) (by assumption) ?_
        case z2 =>
         intro w hSw
         (try dsimp only at hSw)
         go_simp
         all_goals with_reducible rfl
        try simp only [List.getElem_toArray, List.getElem_cons_zero, List.getElem_cons_succ, Act.put, List.setIfInBounds_toArray, List.set_cons_zero, List.set_cons_succ]
        refine wpAnyH_take (i := 2) (v := ?_) rfl (by kernel_rfl) (by kernel_rfl) (by kernel_rfl) (fun _ _ _ h => h) (Or.inl ⟨by rfl, ?z3⟩) (by assumption) ?_
        case z3 =>
         intro w hSw
         (try dsimp only at hSw)
         go_simp
         all_goals with_reducible rfl
        try simp only [List.getElem_toArray, List.getElem_cons_zero, List.getElem_cons_succ, Act.put, List.setIfInBounds_toArray, List.set_cons_zero, List.set_cons_succ]
        refine wpAnyH_take (i := 3) (v := ?_) rfl (by kernel_rfl) (by kernel_rfl) (by kernel_rfl) (fun _ _ _ h => h) (Or.inl ⟨by rfl, ?z4⟩) (by assumption) ?_
        case z4 =>
         intro w hSw
         (try dsimp only at hSw)
         go_simp
         all_goals with_reducible rfl
        try simp only [List.getElem_toArray, List.getElem_cons_zero, List.getElem_cons_succ, Act.put, List.setIfInBounds_toArray, List.set_cons_zero, List.set_cons_succ]
        refine wpAnyH_ready (rs := [4]) (by kernel_rfl) (by simp) ?_
        refine AllReadyH.cons rfl (fun K hK => ?_) AllReadyH.nil
        go_simp
        with_reducible refine (HH.out _ HJ.out.drew).mono ?_
        rintro e V5 ⟨rfl, B5, h5, hM5⟩
        try go_wp2_with fail
        have hM6 : Mem w V5 ((g2, .cells #[.int .u32 ip, .int .u16 r] 35 (0, 0)) :: (g1, .cells (clw lo' T pw) 61 (0, 0)) :: (g, .cells #[.int .u32 0, .int .u16 0] 35 (0, 0)) :: (B5 ++ L)) := hM5.perm (pm B5 L _ _ _)
        refine hK.out _ _ (HS.out _ _ hM6) (fun hHeld => ?_)
        clear hK K
        try simp only [List.getElem_toArray, List.getElem_cons_zero, List.getElem_cons_succ, Act.put, List.setIfInBounds_toArray, List.set_cons_zero, List.set_cons_succ]
        refine anyH_letter17 (fun X => Mem w X ((g2, .cells #[.int .u32 ip, .int .u16 r] 35 (0, 0)) :: (g1, .cells (clw lo' T pw) 61 (0, 0)) :: (g, .cells #[.int .u32 0, .int .u16 0] 35 (0, 0)) :: (B5 ++ L))) (by exact hM6) ?_
        intro V6 hM7
        clear hM6 hM5
        have x0 : V6.cell? ⟨g, 0, none⟩ = some (.int .u32 0) := hM7.cell 2 rfl 0
        have x1 : V6.cell? ⟨g, 1, none⟩ = some (.int .u16 0) := hM7.cell 2 rfl 1
        have y0 : V6.frozen? ⟨g, 0, none⟩ = false := hM7.free 2 rfl 0
        have y1 : V6.frozen? ⟨g, 1, none⟩ = false := hM7.free 2 rfl 1
        have hM8 : Mem w ((V6.setCell ⟨g, 0, none⟩ (.int .u32 ip)).setCell ⟨g, 1, none⟩ (.int .u16 r)) ((g2, .cells #[.int .u32 ip, .int .u16 r] 35 (0, 0)) :: (g1, .cells (clw lo' T pw) 61 (0, 0)) :: (g, .cells #[.int .u32 ip, .int .u16 r] 35 (0, 0)) :: (B5 ++ L)) := (hM7.set 2 rfl 0 (.int .u32 ip)).set 2 rfl 1 (.int .u16 r)
        refine wpAnyH_ready (rs := [5]) (by kernel_rfl) (by simp) ?_
        refine AllReadyH.cons rfl (fun K hK => ?_) AllReadyH.nil
        go_simp
        refine hK.out _ _ (HS2.out _ _ hM8) (fun hHeld => ?_)
        clear hK K
        try simp only [List.getElem_toArray, List.getElem_cons_zero, List.getElem_cons_succ, Act.put, List.setIfInBounds_toArray, List.set_cons_zero, List.set_cons_succ]
        refine anyH_letter17 (fun X => Mem w X ((g2, .cells #[.int .u32 ip, .int .u16 r] 35 (0, 0)) :: (g1, .cells (clw lo' T pw) 61 (0, 0)) :: (g, .cells #[.int .u32 ip, .int .u16 r] 35 (0, 0)) :: (B5 ++ L))) (by exact hM8) ?_
        intro V7 hM9
        clear hM8 hM7 x0 x1 y0 y1
        have HM9 : Hid (Mem w V7 ((g2, .cells #[.int .u32 ip, .int .u16 r] 35 (0, 0)) :: (g1, .cells (clw lo' T pw) 61 (0, 0)) :: (g, .cells #[.int .u32 ip, .int .u16 r] 35 (0, 0)) :: (B5 ++ L))) := hM9
        have hHeld7 : (fun V => V.cell? ⟨g2, 0, none⟩ = some (.int .u32 ip) ∧ V.cell? ⟨g2, 1, none⟩ = some (.int .u16 r)) V7 := HS2.out _ _ hM9
        clear hM9
        refine wpAnyH_take (i := 6) (v := ?_) rfl (by kernel_rfl) (by kernel_rfl) (by kernel_rfl) (fun _ _ _ h => h) (Or.inl ⟨by rfl, ?z5⟩) (by assumption) ?_
        case z5 =>
         intro w hSw
         (try dsimp only at hSw)
         go_simp
         all_goals with_reducible rfl
        try simp only [List.getElem_toArray, List.getElem_cons_zero, List.getElem_cons_succ, Act.put, List.setIfInBounds_toArray, List.set_cons_zero, List.set_cons_succ]
        refine wpAnyH_done (by kernel_rfl) ?_ _
        clear HS HS2 HH HJ HS0
        have x0 : V7.cell? ⟨g, 0, none⟩ = some (.int .u32 ip) := HM9.out.cell 2 rfl 0
        have x1 : V7.cell? ⟨g, 1, none⟩ = some (.int .u16 r) := HM9.out.cell 2 rfl 1
        have HZ : Hid (Mem w V7 (B5 ++ L)) := HM9.out.sub.sub.sub
        have H5 : Hid (PSt (xs ++ [(pr, ip, r)]) p B5) := h5
        clear HM9 h5
        go_wp2_with fail
        refine bodyPost_ret (v := .tuple #[.agg #[.int .u32 ip, .int .u16 r], .int .i64 0]) (by simp [results, Tryd.results11, go_sem, x0, x1]) rfl ?_
        rw [HQ.out]
        exact ⟨rfl, B5, H5.out, HZ.out⟩
    · obtain rfl : i = l.length := by omega
      have hFF := HR.out.2
      rw [List.drop_length, tk] at hFF
      have HQ : Hid (R = none) := hFF.symm
      have hM2 := HR.out.1
      have x0 : wr.cell? ⟨g, 0, none⟩ = some (.int .u32 0) := hM2.cell 1 rfl 0
      have x1 : wr.cell? ⟨g, 1, none⟩ = some (.int .u16 0) := hM2.cell 1 rfl 1
      have y0 : wr.frozen? ⟨g, 0, none⟩ = false := hM2.free 1 rfl 0
      have y1 : wr.frozen? ⟨g, 1, none⟩ = false := hM2.free 1 rfl 1
      have hM3 := (hM2.set 1 rfl 0 (.int .u32 0)).set 1 rfl 1 (.int .u16 0)
      have HM3 : Hid (Mem W ((wr.setCell ⟨g, 0, none⟩ (.int .u32 0)).setCell ⟨g, 1, none⟩ (.int .u16 0)) [(g1, .cells (clw lo' T pw) 61 (0, 0)), (g, .cells #[.int .u32 0, .int .u16 0] 35 (0, 0))]) := hM3
      clear HR HX HL HLT HLb hFF hM2 hM3
      go_wp2_with fail
      have z0 := HM3.out.cell 1 rfl 0
      have z1 := HM3.out.cell 1 rfl 1
      simp at z0 z1
      refine bodyPost_ret (v := .tuple #[.agg #[.int .u32 0, .int .u16 0], .int .i64 120]) (by simp [results, Tryd.results11, go_sem, z0, z1]) rfl ?_
      rw [HQ.out]
      exact ⟨rfl, B, HPS.out, HMW.out.after HM3.out.below⟩
end Po
end Go.Proofs.YtkbjiackjefkkaaDoor
