/-
  Ports: the document's own: Take.
-/
import Derived.Test.YtkbjiackjefkkaaDoorPoTake0
import Derived.LoopN
namespace Go.Proofs.YtkbjiackjefkkaaDoor
open Go.RowKit
open Sm
open Po
set_option linter.unusedVariables false
set_option linter.unusedSimpArgs false
set_option maxRecDepth 20000

namespace Po
/-- What Take leaves. -/
def TkP (w : World) (xs : List Mk) (pr : Int) (p : Nat) (L : List (Nat × Obj)) (R : Option (Int × Int)) (e : Ending) (W' : World) : Prop :=
  match R with
  | some (ip, k) => e = .returned (.tuple #[.agg #[.int .u32 ip, .int .u16 k], .int .i64 0]) ∧ ∃ B', RPs (xs ++ [(pr, ip, k)]) p B' ∧ Mem w W' (B' ++ L)
  | none => e = .returned (.tuple #[.agg #[.int .u32 0, .int .u16 0], .int .i64 120]) ∧ ∃ B', RPs xs p B' ∧ Mem w W' (B' ++ L)
/-- The rest of a search: at this address, then at the others. -/
def tj (ip : Int) (o : Option Int) (r : Option (Int × Int)) : Option (Int × Int) :=
  match o with
  | some k => some (ip, k)
  | none => r
theorem tk_cons (xs : List Mk) (pr f t ip : Int) (r : List Int) : tk xs pr f t (ip :: r) = tj ip (t1 xs pr ip (cnt f t) f) (tk xs pr f t r) := by
  rw [tk]
  rfl
theorem pool_at {V : World} {v : Value} {l : List Int} (h : Rw V 1 v (ux l)) : ∃ a c, v = .slice a l.length c ∧ l.length ≤ c ∧ c ≤ 9223372036854775807 ∧ ∀ i (hi : i < l.length), ∃ b off, a = some ⟨b, off, none⟩ ∧ ∀ W, Below V.heap.size V W → W.cell? ⟨b, off + i, none⟩ = some (.int .u32 l[i]) := by
  obtain ⟨a, c, rfl, h1, h2, -, h4⟩ := h
  have hl : (ux l).length = l.length := by simp [ux]
  rw [hl] at h1 h4 ⊢
  refine ⟨a, c, rfl, h1, h2, fun i hi => ?_⟩
  rcases h4 with e | ⟨b, off, rfl, hc⟩
  · have : l = [] := by simpa [ux] using e
    subst this
    cases hi
  · refine ⟨b, off, rfl, fun W hW => ?_⟩
    have e : (ux l).getD i [] = [.int .u32 l[i]] := by simp [ux, List.getD, List.getElem?_eq_getElem hi]
    have k := hc i hi
    rw [e] at k
    have k0 := k 0 _ rfl
    rw [Nat.add_zero, Nat.mul_one] at k0
    rw [hW.cell (p := ⟨b, _, none⟩) (cell_lt k0)]
    exact k0
set_option maxHeartbeats 8000000 in
theorem rtake17_any {w W : World} {p : Nat} {xs : List Mk} {B L : List (Nat × Obj)} (h : RPs xs p B) (hM : Mem w W (B ++ L)) (hn : xs.length ≤ 100000) {vp : Value} {l : List Int} (hp : Rw W 1 vp (ux l)) (hpl : l.length ≤ 100000) (pr lo hi want : Int) (hlo : 0 ≤ lo ∧ lo ≤ 65535) (hhi : 0 ≤ hi ∧ hi ≤ 65535) (hwt : 0 ≤ want ∧ want ≤ 65535) :
    Calls Tryd.prog 12 #[.pointer (some ⟨p, 0, none⟩), .int .u8 pr, vp, .int .u16 lo, .int .u16 hi, .int .u16 want] W (TkP w xs pr p L (tk xs pr (frm lo want) (upt hi want) l)) := by
  obtain ⟨F, hF⟩ : ∃ F, frm lo want = F := ⟨_, rfl⟩
  obtain ⟨T, hT⟩ : ∃ T, upt hi want = T := ⟨_, rfl⟩
  rw [hF, hT]
  obtain ⟨R, hR⟩ : ∃ R, tk xs pr F T l = R := ⟨_, rfl⟩
  rw [hR]
  have hF0 : 0 ≤ F := by rw [← hF]; exact frm_ge hlo.1
  have hF1 : F ≤ 65537 := by rw [← hF]; unfold frm; split <;> split <;> omega
  have hT0 : T ≤ 65535 := by rw [← hT]; exact upt_le hhi.2
  obtain ⟨av, cv, rfl, hlc, hcb, hx⟩ := pool_at hp
  have HX : Hid (∀ i (hi : i < l.length), ∃ b off, av = some ⟨b, off, none⟩ ∧ ∀ V, Below W.heap.size W V → V.cell? ⟨b, off + i, none⟩ = some (.int .u32 l[i])) := hx
  have HR0 : Hid (tk xs pr F T (l.drop 0) = R) := hR
  have HS : Hid (RPs xs p B ∧ Mem w W (B ++ L) ∧ xs.length ≤ 100000) := ⟨h, hM, hn⟩
  clear hx hR h hM hn hp hpl
  obtain ⟨g, hg⟩ : ∃ g, W.heap.size = g := ⟨_, rfl⟩
  have w1 : IntKind.i64.wrap lo = lo := by rw [IntKind.wrap_i64]; omega
  have w2 : IntKind.i64.wrap hi = hi := by rw [IntKind.wrap_i64]; omega
  have w3 : IntKind.i64.wrap want = want := by rw [IntKind.wrap_i64]; omega
  go_enter Tryd.func12, Tryd.ntmps12
  have HM0 : Hid (Mem W (W.alloc (.cells #[.int .u32 0, .int .u16 0] 35)) [(g, .cells #[.int .u32 0, .int .u16 0] 35 (0, 0))]) := (Mem.nil W).push1 hg.symm
  go_upto_region 1 with fail
  refine wp_letter (fun X => Mem W X [(g, .cells #[.int .u32 0, .int .u16 0] 35 (0, 0))]) (by exact HM0.out) ?_
  intro V0 hM0
  try simp only [hg]
  have H0 : Hid (Mem W V0 [(g, .cells #[.int .u32 0, .int .u16 0] 35 (0, 0))]) := hM0
  clear HM0 hM0
  go_upto_if 24 with fail
  have HT : Hid (upt hi want = T) := hT
  clear hT
  go_cut [14, 15] from 24 (fun s14 s15 wx => s14 = .int .i64 (if want < 1024 then lo else max lo 1024) ∧ s15 = .int .i64 T ∧ V0 = wx)
  case first =>
    by_cases h1 : want < 1024
    · simp only [h1, if_true]
      by_cases h2 : hi ≤ 1023
      · go_wp2_with fail
        go_meet
        case rel => exact ⟨by congr 1; split <;> omega, by rw [← HT.out]; unfold upt; congr 1; split <;> omega, rfl⟩
      · go_wp2_with fail
        go_meet
        case rel => exact ⟨by congr 1; split <;> omega, by rw [← HT.out]; unfold upt; congr 1; split <;> omega, rfl⟩
    · simp only [h1, if_false]
      by_cases h2 : lo < 1024
      · go_wp2_with fail
        go_meet
        case rel => exact ⟨by congr 1; split <;> omega, by rw [← HT.out]; unfold upt; congr 1; split <;> omega, rfl⟩
      · go_wp2_with fail
        go_meet
        case rel => exact ⟨by congr 1; split <;> omega, by rw [← HT.out]; unfold upt; congr 1; split <;> omega, rfl⟩
  case rest =>
    obtain ⟨rfl, rfl, rfl⟩ := hcut
    obtain ⟨f0, hf0⟩ : ∃ f0 : Int, (if want < 1024 then lo else max lo 1024) = f0 := ⟨_, rfl⟩
    have hf1 : 0 ≤ f0 ∧ f0 ≤ 65535 := by rw [← hf0]; split <;> omega
    have HF : Hid ((if f0 % 2 = want % 2 then f0 else f0 + 1) = F) := by rw [← hf0]; exact hF
    have w4 : IntKind.i64.wrap (f0 + 1) = f0 + 1 := by rw [IntKind.wrap_i64]; omega
    have r1 : Int.tmod f0 2 = f0 % 2 := Int.tmod_eq_emod_of_nonneg hf1.1
    have r2 : Int.tmod want 2 = want % 2 := Int.tmod_eq_emod_of_nonneg hwt.1
    rw [hf0]
    clear hF hf0
    go_upto_if 34 with fail
    go_cut [14] from 34 (fun s14 wx => s14 = .int .i64 F ∧ V0 = wx)
    case first =>
      by_cases hpar : f0 % 2 = want % 2
      · have hb : (f0 % 2 != want % 2) = false := by simpa using hpar
        have HE : Hid (f0 = F) := by show _ = _; rw [← HF.out, if_pos hpar]
        clear hpar
        go_wp2_with fail
        go_meet
        case rel => exact ⟨by rw [HE.out], rfl⟩
      · have hb : (f0 % 2 != want % 2) = true := by simpa using hpar
        have HE : Hid (f0 + 1 = F) := by show _ = _; rw [← HF.out, if_neg hpar]
        clear hpar
        go_wp2_with fail
        go_meet
        case rel => exact ⟨by rw [HE.out], rfl⟩
    case rest =>
      obtain ⟨rfl, rfl⟩ := hcut
      clear HF hf1 w4 r1 r2 w1 w2 w3 hlo hhi hwt HT
      go_wp2_with fail
      go_loopw [16] (fun u16 w' => ∃ i : Nat, i ≤ l.length ∧ u16 = .int .i64 i ∧ Hid (Mem W w' [(g, .cells #[.int .u32 0, .int .u16 0] 35 (0, 0))] ∧ tk xs pr F T (l.drop i) = R)) (fun u16 w' => l.length - (intOf u16).toNat)
      case atStart => exact ⟨0, Nat.zero_le _, rfl, H0.out, HR0.out⟩
      case round =>
        obtain ⟨i, hi, rfl, HR⟩ := hrel
        clear H0 HR0
        by_cases hlt : i < l.length
        · have h1 : (i : Int) < l.length := by omega
          obtain ⟨mb, off, rfl, hV⟩ := HX.out i hlt
          have hd : l.drop i = l[i] :: l.drop (i + 1) := List.drop_eq_getElem_cons hlt
          have hF := HR.out.2
          rw [hd, tk_cons] at hF
          have HV : Hid (∀ V, Below W.heap.size W V → V.cell? ⟨mb, off + i, none⟩ = some (.int .u32 l[i])) := hV
          have HA : Hid (Mem W wr [(g, .cells #[.int .u32 0, .int .u16 0] 35 (0, 0))]) := HR.out.1
          have HJ : Hid (tj l[i] (t1 xs pr l[i] (cnt F T) F) (tk xs pr F T (l.drop (i + 1))) = R) := hF
          clear hd hF HR hV HX
          generalize l[i] = ip at *
          obtain ⟨Rr, hRr⟩ : ∃ Rr, tk xs pr F T (l.drop (i + 1)) = Rr := ⟨_, rfl⟩
          rw [hRr] at HJ
          have HRr : Hid (tk xs pr F T (l.drop (i + 1)) = Rr) := hRr
          clear hRr
          go_wp2_with fail
          go_loopw [17] (fun u17 w' => ∃ k : Int, F ≤ k ∧ k ≤ 65537 ∧ u17 = .int .i64 k ∧ Hid (Mem W w' [(g, .cells #[.int .u32 0, .int .u16 0] 35 (0, 0))] ∧ tj ip (t1 xs pr ip (cnt k T) k) Rr = R)) (fun u17 w' => (T + 2 - intOf u17).toNat)
          case atStart => exact ⟨F, Int.le_refl _, hF1, rfl, HA.out, HJ.out⟩
          case round =>
            obtain ⟨k, hk1, hk2, rfl, HK⟩ := hrel
            clear HA HJ
            by_cases hkt : k ≤ T
            · have hw : IntKind.u16.wrap k = k := wrap16_small k (by omega) (by omega)
              have c1 := HV.out _ HK.out.1.below
              have hJ := HK.out.2
              rw [cnt_more hkt, t1] at hJ
              have HC : Hid (∀ V, Below W.heap.size W V → Calls Tryd.prog 19 #[.pointer (some ⟨p, 0, none⟩), .int .u8 pr, .agg #[.int .u32 ip, .int .u16 k]] V fun e W' => e = .returned (.bool (decide ((pr, ip, k) ∈ xs))) ∧ Below V.heap.size V W') := fun V hV => by
                obtain ⟨v, q1, q2⟩ := HS.out.1.cell (HS.out.2.1.after hV)
                exact rhas17_any q1 q2 pr ip k
              have HM1 : Hid (Mem W wr [(g, .cells #[.int .u32 0, .int .u16 0] 35 (0, 0))]) := HK.out.1
              have HJ : Hid (tj ip (if (pr, ip, k) ∈ xs then t1 xs pr ip (cnt (k + 2) T) (k + 2) else some k) Rr = R) := hJ
              clear hJ HK
              obtain ⟨g2, hg2⟩ : ∃ g2, wr.heap.size = g2 := ⟨_, rfl⟩
              have HM2 : Hid (Mem W (wr.alloc (.cells #[.int .u32 ip, .int .u16 k] 35)) [(g, .cells #[.int .u32 0, .int .u16 0] 35 (0, 0)), (g2, .cells #[.int .u32 ip, .int .u16 k] 35 (0, 0))]) := HM1.out.push g2 _ hg2.symm
              go_upto_region 14 with fail
              refine wp_letter (fun X => Mem W X [(g, .cells #[.int .u32 0, .int .u16 0] 35 (0, 0)), (g2, .cells #[.int .u32 ip, .int .u16 k] 35 (0, 0))]) (by exact HM2.out) ?_
              intro V1 hM1
              try simp only [hg2]
              have q0 : V1.cell? ⟨g2, 0, none⟩ = some (.int .u32 ip) := hM1.cell 1 rfl 0
              have q1 : V1.cell? ⟨g2, 1, none⟩ = some (.int .u16 k) := hM1.cell 1 rfl 1
              have C := HC.out V1 hM1.below
              have HM3 : Hid (Mem W V1 [(g, .cells #[.int .u32 0, .int .u16 0] 35 (0, 0)), (g2, .cells #[.int .u32 ip, .int .u16 k] 35 (0, 0))]) := hM1
              clear HM2 HM1 HC hM1 c1 hg2
              by_cases hin : (pr, ip, k) ∈ xs
              · rw [decide_eq_true hin] at C
                have HJ2 : Hid (tj ip (t1 xs pr ip (cnt (k + 2) T) (k + 2)) Rr = R) := by
                  have := HJ.out
                  rw [if_pos hin] at this
                  exact this
                clear HJ hin
                go_wp2_with fail
                refine C.mono ?_
                rintro e V2 ⟨rfl, hb⟩
                have HM4 : Hid (Mem W V2 [(g, .cells #[.int .u32 0, .int .u16 0] 35 (0, 0))]) := ((HM3.out.after hb).perm (List.Perm.swap _ _ _)).sub
                clear C hb HM3 q0 q1
                go_wp2_with fail
                go_roundw
                case rel => exact ⟨k + 2, by omega, by omega, by go_num, HM4.out, HJ2.out⟩
                case measure => simp [intOf]; omega
              · rw [decide_eq_false hin] at C
                have hRR : R = some (ip, k) := by
                  have := HJ.out
                  rw [if_neg hin] at this
                  exact this.symm
                subst hRR
                clear HJ hin
                go_wp2_with fail
                refine C.mono ?_
                rintro e V2 ⟨rfl, hb⟩
                have hM4 := HM3.out.after hb
                obtain ⟨hRP, hMB, hn⟩ := HS.out
                have hM5 := hMB.join hM4
                obtain ⟨v, C0, hs, rfl⟩ := hRP
                clear C hb HM3 q0 q1 HS hMB
                have hM1 : Mem w V2 ((g2, .cells #[.int .u32 ip, .int .u16 k] 35 (0, 0)) :: (p, .cells #[v] 30 (0, 0)) :: (g, .cells #[.int .u32 0, .int .u16 0] 35 (0, 0)) :: (C0 ++ L)) := hM5.perm (by
                  classical
                  rw [List.perm_iff_count]
                  intro q
                  simp only [List.cons_append, List.count_append, List.count_cons, List.count_nil]
                  omega)
                clear hM5 hM4
                have HSS : Hid (∀ V, Below V2.heap.size V2 V → V.cell? ⟨g2, 0, none⟩ = some (.int .u32 ip) ∧ V.cell? ⟨g2, 1, none⟩ = some (.int .u16 k)) := fun V hV => ⟨(hM1.after hV).cell 0 rfl 0, (hM1.after hV).cell 0 rfl 1⟩
                have hb1 : Below V2.heap.size V2 V2.drew := (Below.refl _ _).drew
                have p1 : V2.cell? ⟨p, 0, none⟩ = some v := hM1.cell 1 rfl 0
                have hb2 : Below V2.heap.size V2 (V2.alloc (.cells #[.int .u8 pr, .int .u32 ip, .int .u16 k] 40)).drew := ((Below.refl _ _).alloc (Nat.le_refl _) _).drew
                have hM3 := hM1.after hb2
                have p2 : (V2.alloc (.cells #[.int .u8 pr, .int .u32 ip, .int .u16 k] 40)).cell? ⟨p, 0, none⟩ = some v := hM3.cell 1 rfl 0
                obtain ⟨v', V4, C', hrun, hM4, hs4⟩ := slb_append (ty := 28) (V := (V2.alloc (.cells #[.int .u8 pr, .int .u32 ip, .int .u16 k] 40)).drew) Tryd.underlying28 infoMk (by kernel_rfl) (by decide) hs (hM3.perm (show List.Perm _ (C0 ++ ((g2, .cells #[.int .u32 ip, .int .u16 k] 35 (0, 0)) :: (p, .cells #[v] 30 (0, 0)) :: (g, .cells #[.int .u32 0, .int .u16 0] 35 (0, 0)) :: L)) by
                  classical
                  rw [List.perm_iff_count]
                  intro q
                  simp only [List.cons_append, List.count_append, List.count_cons]
                  omega)) ⟨V2.heap.size, 0, none⟩ 1 1 (mc (pr, ip, k)) rfl (fun j u hj => by
                    rw [Addr.add_mid, Nat.zero_add]
                    have e := World.cell?_alloc_new V2 (mc (pr, ip, k)).toArray 40 j
                    refine Eq.trans e ?_
                    simpa using hj) (by intro u hu; simp only [mc, List.mem_cons, List.not_mem_nil, or_false] at hu; rcases hu with rfl | rfl | rfl <;> rfl) (by unfold maxLen; omega) (by omega)
                obtain ⟨qa, qc, rfl, -, -⟩ := hs4.slice
                have hM5 : Mem w V4 ((p, .cells #[v] 30 (0, 0)) :: (g2, .cells #[.int .u32 ip, .int .u16 k] 35 (0, 0)) :: (g, .cells #[.int .u32 0, .int .u16 0] 35 (0, 0)) :: (C' ++ L)) := hM4.perm (by
                  classical
                  rw [List.perm_iff_count]
                  intro q
                  simp only [List.count_append, List.count_cons]
                  omega)
                have hM6 := hM5.set 0 rfl 0 (.slice qa (xs.length + 1) qc)
                have c4 : V4.cell? ⟨p, 0, none⟩ = some v := hM5.cell 0 rfl 0
                have f4 : V4.frozen? ⟨p, 0, none⟩ = false := hM5.free 0 rfl 0
                have d0 : V4.cell? ⟨g2, 0, none⟩ = some (.int .u32 ip) := hM5.cell 1 rfl 0
                have d1 : V4.cell? ⟨g2, 1, none⟩ = some (.int .u16 k) := hM5.cell 1 rfl 1
                obtain ⟨V5, hV5⟩ : ∃ V5, V4.setCell ⟨p, 0, none⟩ (.slice qa (xs.length + 1) qc) = V5 := ⟨_, rfl⟩
                rw [hV5] at hM6
                have e0 : V5.cell? ⟨g2, 0, none⟩ = some (.int .u32 ip) := hM6.cell 1 rfl 0
                have e1 : V5.cell? ⟨g2, 1, none⟩ = some (.int .u16 k) := hM6.cell 1 rfl 1
                have i0 : V5.cell? ⟨g, 0, none⟩ = some (.int .u32 0) := hM6.cell 2 rfl 0
                have i1 : V5.cell? ⟨g, 1, none⟩ = some (.int .u16 0) := hM6.cell 2 rfl 1
                have i2 : ∀ j, V5.frozen? ⟨g, j, none⟩ = false := hM6.free 2 rfl
                have i3 := i2 0
                have i4 := i2 1
                have HM6 : Hid (Mem w V5 ((p, .cells #[.slice qa (xs.length + 1) qc] 30 (0, 0)) :: (g2, .cells #[.int .u32 ip, .int .u16 k] 35 (0, 0)) :: (g, .cells #[.int .u32 0, .int .u16 0] 35 (0, 0)) :: (C' ++ L))) := hM6
                have HQ : Hid (RPs (xs ++ [(pr, ip, k)]) p ((p, .cells #[.slice qa (xs.length + 1) qc] 30 (0, 0)) :: C')) := by
                  refine ⟨.slice qa (xs.length + 1) qc, C', ?_, rfl⟩
                  have e : (xs ++ [(pr, ip, k)]).length = xs.length + 1 := by simp
                  have e' : (mx (xs ++ [(pr, ip, k)])).flatten = (mx xs).flatten ++ mc (pr, ip, k) := by simp [mx]
                  rw [e, e']
                  exact hs4
                clear hM1 hM3 hM4 hM5 hM6 hs hs4 hn i2
                go_upto_region 15 with fail
                refine wp_region_held_drew (S := fun V => V.cell? ⟨g2, 0, none⟩ = some (.int .u32 ip) ∧ V.cell? ⟨g2, 1, none⟩ = some (.int .u16 k)) (by kernel_rfl) (HSS.out _ hb1) (fun hHeld => ?_)
                refine wpAnyH_take (i := 0) (v := ?_) rfl (by kernel_rfl) (by kernel_rfl) (by kernel_rfl) (fun _ _ _ h => h) (Or.inl ⟨by rfl, ?aay0⟩) (by assumption) ?aar0
                case aay0 =>
                  intro w hSw
                  (try dsimp only at hSw)
                  go_simp
                  all_goals with_reducible rfl
                try simp only [List.getElem_toArray, List.getElem_cons_zero, List.getElem_cons_succ, Act.put, List.setIfInBounds_toArray, List.set_cons_zero, List.set_cons_succ]
                refine wpAnyH_take (i := 1) (v := ?_) rfl (by kernel_rfl) (by kernel_rfl) (by kernel_rfl) (fun _ _ _ h => h) (Or.inl ⟨by rfl, ?aay1⟩) (by assumption) ?aar1
                case aay1 =>
                  intro w hSw
                  (try dsimp only at hSw)
                  go_simp
                  all_goals with_reducible rfl
                try simp only [List.getElem_toArray, List.getElem_cons_zero, List.getElem_cons_succ, Act.put, List.setIfInBounds_toArray, List.set_cons_zero, List.set_cons_succ]
                refine wpAnyH_take (i := 2) (v := ?_) rfl (by kernel_rfl) (by kernel_rfl) (by kernel_rfl) (fun _ _ _ h => h) (Or.inl ⟨by rfl, ?aay2⟩) (by assumption) ?aar2
                case aay2 =>
                  intro w hSw
                  (try dsimp only at hSw)
                  go_simp
                  all_goals with_reducible rfl
                try simp only [List.getElem_toArray, List.getElem_cons_zero, List.getElem_cons_succ, Act.put, List.setIfInBounds_toArray, List.set_cons_zero, List.set_cons_succ]
                refine wpAnyH_take (i := 3) (v := ?_) rfl (by kernel_rfl) (by kernel_rfl) (by kernel_rfl) (fun _ _ _ h => h) (Or.inl ⟨by rfl, ?aay3⟩) (by assumption) ?aar3
                case aay3 =>
                  intro w hSw
                  (try dsimp only at hSw)
                  go_simp
                  all_goals with_reducible rfl
                try simp only [List.getElem_toArray, List.getElem_cons_zero, List.getElem_cons_succ, Act.put, List.setIfInBounds_toArray, List.set_cons_zero, List.set_cons_succ]
                refine wpAnyH_take (i := 5) (v := ?_) rfl (by kernel_rfl) (by kernel_rfl) (by kernel_rfl) (fun _ _ _ h => h) (Or.inl ⟨by rfl, ?aay5⟩) (by assumption) ?aar5
                case aay5 =>
                  intro w hSw
                  (try dsimp only at hSw)
                  go_simp
                  all_goals with_reducible rfl
                try simp only [List.getElem_toArray, List.getElem_cons_zero, List.getElem_cons_succ, Act.put, List.setIfInBounds_toArray, List.set_cons_zero, List.set_cons_succ]
                refine wpAnyH_take (i := 6) (v := ?_) rfl (by kernel_rfl) (by kernel_rfl) (by kernel_rfl) (fun _ _ _ h => h) (Or.inl ⟨by rfl, ?aay6⟩) (by assumption) ?aar6
                case aay6 =>
                  intro w hSw
                  (try dsimp only at hSw)
                  go_simp
                  all_goals with_reducible rfl
                try simp only [List.getElem_toArray, List.getElem_cons_zero, List.getElem_cons_succ, Act.put, List.setIfInBounds_toArray, List.set_cons_zero, List.set_cons_succ]
                refine wpAnyH_take (i := 7) (v := ?_) rfl (by kernel_rfl) (by kernel_rfl) (by kernel_rfl) (fun _ _ _ h => h) (Or.inl ⟨by rfl, ?aay7⟩) (by assumption) ?aar7
                case aay7 =>
                  intro w hSw
                  (try dsimp only at hSw)
                  go_simp
                  all_goals with_reducible rfl
                try simp only [List.getElem_toArray, List.getElem_cons_zero, List.getElem_cons_succ, Act.put, List.setIfInBounds_toArray, List.set_cons_zero, List.set_cons_succ]
                refine wpAnyH_ready (rs := [4, 8]) (by kernel_rfl) (by simp) ?_
                refine AllReadyH.cons rfl (fun KK hK => ?_) (AllReadyH.cons rfl (fun KK hK => ?_) AllReadyH.nil)
                · go_simp
                  refine hK.out _ _ (by first | exact HSS.out _ hb1 | exact HSS.out _ hb2 | exact ⟨d0, d1⟩ | exact ⟨e0, e1⟩) (fun hHeld => ?_)
                  clear hK KK
                  try simp only [List.getElem_toArray, List.getElem_cons_zero, List.getElem_cons_succ, Act.put, List.setIfInBounds_toArray, List.set_cons_zero, List.set_cons_succ]
                  refine wpAnyH_ready (rs := [8]) (by kernel_rfl) (by simp) ?_
                  refine AllReadyH.cons rfl (fun KK hK => ?_) AllReadyH.nil
                  go_simp
                  refine hK.out _ _ (by first | exact HSS.out _ hb1 | exact HSS.out _ hb2 | exact ⟨d0, d1⟩ | exact ⟨e0, e1⟩) (fun hHeld => ?_)
                  clear hK KK
                  try simp only [List.getElem_toArray, List.getElem_cons_zero, List.getElem_cons_succ, Act.put, List.setIfInBounds_toArray, List.set_cons_zero, List.set_cons_succ]
                  refine wpAnyH_ready (rs := [9]) (by kernel_rfl) (by simp) ?_
                  refine AllReadyH.cons rfl (fun KK hK => ?_) AllReadyH.nil
                  refine step_app (ty := 28) rfl (.tmp 65) (.tmp 69) 28 28 rfl (by simp [Act.eval]) (by simp [Act.eval]) hrun rfl ?_
                  refine hK.out _ _ (by first | exact HSS.out _ hb1 | exact HSS.out _ hb2 | exact ⟨d0, d1⟩ | exact ⟨e0, e1⟩) (fun hHeld => ?_)
                  clear hK KK
                  try simp only [List.getElem_toArray, List.getElem_cons_zero, List.getElem_cons_succ, Act.put, List.setIfInBounds_toArray, List.set_cons_zero, List.set_cons_succ]
                  refine wpAnyH_take (i := 10) (v := ?_) rfl (by kernel_rfl) (by kernel_rfl) (by kernel_rfl) (fun _ _ _ h => h) (Or.inl ⟨by rfl, ?abzy10⟩) (by assumption) ?abzr10
                  case abzy10 =>
                    intro w hSw
                    (try dsimp only at hSw)
                    go_simp
                    all_goals with_reducible rfl
                  try simp only [List.getElem_toArray, List.getElem_cons_zero, List.getElem_cons_succ, Act.put, List.setIfInBounds_toArray, List.set_cons_zero, List.set_cons_succ]
                  refine wpAnyH_take (i := 11) (v := ?_) rfl (by kernel_rfl) (by kernel_rfl) (by kernel_rfl) (fun _ _ _ h => h) (Or.inl ⟨by rfl, ?abzy11⟩) (by assumption) ?abzr11
                  case abzy11 =>
                    intro w hSw
                    (try dsimp only at hSw)
                    go_simp
                    all_goals with_reducible rfl
                  try simp only [List.getElem_toArray, List.getElem_cons_zero, List.getElem_cons_succ, Act.put, List.setIfInBounds_toArray, List.set_cons_zero, List.set_cons_succ]
                  refine wpAnyH_ready (rs := [12]) (by kernel_rfl) (by simp) ?_
                  refine AllReadyH.cons rfl (fun KK hK => ?_) AllReadyH.nil
                  go_simp
                  refine hK.out _ _ (by first | exact HSS.out _ hb1 | exact HSS.out _ hb2 | exact ⟨d0, d1⟩ | exact ⟨e0, e1⟩) (fun hHeld => ?_)
                  clear hK KK
                  try simp only [List.getElem_toArray, List.getElem_cons_zero, List.getElem_cons_succ, Act.put, List.setIfInBounds_toArray, List.set_cons_zero, List.set_cons_succ]
                  refine wpAnyH_done (by kernel_rfl) ?_ _
                  try simp only [hV5]
                  go_wp2_with fail
                  have hX := ((HM6.out.set 2 rfl 0 (.int .u32 ip)).set 2 rfl 1 (.int .u16 k))
                  have x0 := hX.cell 2 rfl 0
                  have x1 := hX.cell 2 rfl 1
                  simp at x0 x1
                  have HX : Hid (Mem w ((V5.setCell ⟨g, 0, none⟩ (.int .u32 ip)).setCell ⟨g, 1, none⟩ (.int .u16 k)) (((p, .cells #[.slice qa (xs.length + 1) qc] 30 (0, 0)) :: C') ++ L)) := (hX.perm (by
                    classical
                    rw [List.perm_iff_count]
                    intro q
                    simp [List.count_append, List.count_cons]
                    omega : List.Perm _ ((g2, .cells #[.int .u32 ip, .int .u16 k] 35 (0, 0)) :: (g, .cells #[.int .u32 ip, .int .u16 k] 35 (0, 0)) :: (((p, .cells #[.slice qa (xs.length + 1) qc] 30 (0, 0)) :: C') ++ L)))).sub.sub
                  clear hX
                  exact bodyPost_ret (v := .tuple #[.agg #[.int .u32 ip, .int .u16 k], .int .i64 0]) (by simp [results, Tryd.results12, go_sem, x0, x1]) rfl ⟨rfl, _, HQ.out, HX.out⟩
                · go_simp
                  refine hK.out _ _ (by first | exact HSS.out _ hb1 | exact HSS.out _ hb2 | exact ⟨d0, d1⟩ | exact ⟨e0, e1⟩) (fun hHeld => ?_)
                  clear hK KK
                  try simp only [List.getElem_toArray, List.getElem_cons_zero, List.getElem_cons_succ, Act.put, List.setIfInBounds_toArray, List.set_cons_zero, List.set_cons_succ]
                  refine wpAnyH_ready (rs := [4]) (by kernel_rfl) (by simp) ?_
                  refine AllReadyH.cons rfl (fun KK hK => ?_) AllReadyH.nil
                  go_simp
                  refine hK.out _ _ (by first | exact HSS.out _ hb1 | exact HSS.out _ hb2 | exact ⟨d0, d1⟩ | exact ⟨e0, e1⟩) (fun hHeld => ?_)
                  clear hK KK
                  try simp only [List.getElem_toArray, List.getElem_cons_zero, List.getElem_cons_succ, Act.put, List.setIfInBounds_toArray, List.set_cons_zero, List.set_cons_succ]
                  refine wpAnyH_ready (rs := [9]) (by kernel_rfl) (by simp) ?_
                  refine AllReadyH.cons rfl (fun KK hK => ?_) AllReadyH.nil
                  refine step_app (ty := 28) rfl (.tmp 65) (.tmp 69) 28 28 rfl (by simp [Act.eval]) (by simp [Act.eval]) hrun rfl ?_
                  refine hK.out _ _ (by first | exact HSS.out _ hb1 | exact HSS.out _ hb2 | exact ⟨d0, d1⟩ | exact ⟨e0, e1⟩) (fun hHeld => ?_)
                  clear hK KK
                  try simp only [List.getElem_toArray, List.getElem_cons_zero, List.getElem_cons_succ, Act.put, List.setIfInBounds_toArray, List.set_cons_zero, List.set_cons_succ]
                  refine wpAnyH_take (i := 10) (v := ?_) rfl (by kernel_rfl) (by kernel_rfl) (by kernel_rfl) (fun _ _ _ h => h) (Or.inl ⟨by rfl, ?aczy10⟩) (by assumption) ?aczr10
                  case aczy10 =>
                    intro w hSw
                    (try dsimp only at hSw)
                    go_simp
                    all_goals with_reducible rfl
                  try simp only [List.getElem_toArray, List.getElem_cons_zero, List.getElem_cons_succ, Act.put, List.setIfInBounds_toArray, List.set_cons_zero, List.set_cons_succ]
                  refine wpAnyH_take (i := 11) (v := ?_) rfl (by kernel_rfl) (by kernel_rfl) (by kernel_rfl) (fun _ _ _ h => h) (Or.inl ⟨by rfl, ?aczy11⟩) (by assumption) ?aczr11
                  case aczy11 =>
                    intro w hSw
                    (try dsimp only at hSw)
                    go_simp
                    all_goals with_reducible rfl
                  try simp only [List.getElem_toArray, List.getElem_cons_zero, List.getElem_cons_succ, Act.put, List.setIfInBounds_toArray, List.set_cons_zero, List.set_cons_succ]
                  refine wpAnyH_ready (rs := [12]) (by kernel_rfl) (by simp) ?_
                  refine AllReadyH.cons rfl (fun KK hK => ?_) AllReadyH.nil
                  go_simp
                  refine hK.out _ _ (by first | exact HSS.out _ hb1 | exact HSS.out _ hb2 | exact ⟨d0, d1⟩ | exact ⟨e0, e1⟩) (fun hHeld => ?_)
                  clear hK KK
                  try simp only [List.getElem_toArray, List.getElem_cons_zero, List.getElem_cons_succ, Act.put, List.setIfInBounds_toArray, List.set_cons_zero, List.set_cons_succ]
                  refine wpAnyH_done (by kernel_rfl) ?_ _
                  try simp only [hV5]
                  go_wp2_with fail
                  have hX := ((HM6.out.set 2 rfl 0 (.int .u32 ip)).set 2 rfl 1 (.int .u16 k))
                  have x0 := hX.cell 2 rfl 0
                  have x1 := hX.cell 2 rfl 1
                  simp at x0 x1
                  have HX : Hid (Mem w ((V5.setCell ⟨g, 0, none⟩ (.int .u32 ip)).setCell ⟨g, 1, none⟩ (.int .u16 k)) (((p, .cells #[.slice qa (xs.length + 1) qc] 30 (0, 0)) :: C') ++ L)) := (hX.perm (by
                    classical
                    rw [List.perm_iff_count]
                    intro q
                    simp [List.count_append, List.count_cons]
                    omega : List.Perm _ ((g2, .cells #[.int .u32 ip, .int .u16 k] 35 (0, 0)) :: (g, .cells #[.int .u32 ip, .int .u16 k] 35 (0, 0)) :: (((p, .cells #[.slice qa (xs.length + 1) qc] 30 (0, 0)) :: C') ++ L)))).sub.sub
                  clear hX
                  exact bodyPost_ret (v := .tuple #[.agg #[.int .u32 ip, .int .u16 k], .int .i64 0]) (by simp [results, Tryd.results12, go_sem, x0, x1]) rfl ⟨rfl, _, HQ.out, HX.out⟩

            · have hJ := HK.out.2
              rw [cnt_none (by omega), t1] at hJ
              have HA2 : Hid (Mem W wr [(g, .cells #[.int .u32 0, .int .u16 0] 35 (0, 0))] ∧ tk xs pr F T (l.drop (i + 1)) = R) := ⟨HK.out.1, by rw [HRr.out]; exact hJ⟩
              clear hJ HK
              go_wp2_with fail
              go_roundw
              case rel => exact ⟨i + 1, by omega, by go_num, HA2.out.1, HA2.out.2⟩
              case measure => simp [intOf]; omega
        · have h1 : ¬ ((i : Int) < l.length) := by omega
          obtain rfl : i = l.length := by omega
          have hF := HR.out.2
          rw [List.drop_length, tk] at hF
          subst hF
          have hM := HR.out.1
          have i0 : wr.cell? ⟨g, 0, none⟩ = some (.int .u32 0) := hM.cell 0 rfl 0
          have i1 : wr.cell? ⟨g, 1, none⟩ = some (.int .u16 0) := hM.cell 0 rfl 1
          have i3 : wr.frozen? ⟨g, 0, none⟩ = false := hM.free 0 rfl 0
          have i4 : wr.frozen? ⟨g, 1, none⟩ = false := hM.free 0 rfl 1
          have HM : Hid (Mem W wr [(g, .cells #[.int .u32 0, .int .u16 0] 35 (0, 0))]) := hM
          clear HR HX hM
          go_wp2_with fail
          have hX := ((HM.out.set 0 rfl 0 (.int .u32 0)).set 0 rfl 1 (.int .u16 0))
          have x0 := hX.cell 0 rfl 0
          have x1 := hX.cell 0 rfl 1
          simp at x0 x1
          have HX : Hid (Mem w ((wr.setCell ⟨g, 0, none⟩ (.int .u32 0)).setCell ⟨g, 1, none⟩ (.int .u16 0)) (B ++ L)) := HS.out.2.1.after hX.below
          clear hX
          exact bodyPost_ret (v := .tuple #[.agg #[.int .u32 0, .int .u16 0], .int .i64 120]) (by simp [results, Tryd.results12, go_sem, x0, x1]) rfl ⟨rfl, B, HS.out.1, HX.out⟩
end Po
end Go.Proofs.YtkbjiackjefkkaaDoor
