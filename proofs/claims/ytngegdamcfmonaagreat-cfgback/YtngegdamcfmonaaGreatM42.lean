/-
  Settings as bytes: the program's whole (lych/api.Config): what all bytes are.
  Settings as bytes: the program's OpenChange where a tenant is put: its walk.
  Settings held against one another: lychhelp.Tenant and the program's Same tell the same.
-/
import Derived.Test.YtngegdamcfmonaaGreatM32
import Derived.Test.YtngegdamcfmonaaGreatM41
import Derived.Test.YtngegdamcfmonaaGreatM38
import Derived.Test.YtngegdamcfmonaaGreatM39
import Derived.Test.YtngegdamcfmonaaGreatM37
import Derived.Test.YtngegdamcfmonaaGreatM40
namespace Go.Proofs.YtngegdamcfmonaaGreat
open Go.RowKit
open Sm
open Cf
set_option linter.unusedVariables false
set_option maxRecDepth 20000

set_option maxHeartbeats 8000000 in
theorem whole_C {α ρ : Type} {w W : World} {E L : List (Nat × Obj)} {I : Rp α ρ} {J : St' α} {f : Fv} {s : Sp α} {a : Option Addr} {l : List Int} {c : Nat} (h : Mem w W (E ++ L)) (er : Ent f.kr)
    (hrd : ∀ K, Sub E K → ∀ x g T pre post a l c V, J w x g T pre post V K → Sl w a l c → Calls Tryz.prog f.kr (#[.slice a l.length c, .pointer (some ⟨g, pre.length, none⟩)] ++ f.cr) V (RPost w K (fun y V' => J w y g T pre post V' K) (s.dec l x)))
    (hS : Sl w a l c) (x0 : α) (hz : ∀ g V K, Mem w V ((g, .cells cz 28 (0, 0)) :: K) → J w x0 g 28 [] [] V K) (Q : α → World → Value → Prop) (hJM : ∀ x V K, J w x (W.heap.size + 1 + 1) 28 [] [] V K → Mem w V K)
    (hfin : ∀ x g rb z V K, Sub (E ++ L) K → J w x g 28 [] [] V ((rb, .cells z 28 (0, 0)) :: K) → ∃ tl, V.heap[g]? = some (.cells tl 28 (0, 0)) ∧ tl.size = 29 ∧ tl.all (·.oneCell') = true ∧ V.heap[rb]? = some (.cells z 28 (0, 0)) ∧ Mem w (V.setRow rb tl) ((rb, .cells tl 28 (0, 0)) :: K) ∧ Q x (V.setRow rb tl) (.agg tl)) :
    Calls Tryz.prog 38 #[f.val, .slice a l.length c] W fun e W' => Mem w W' (E ++ L) ∧ match s.dec l x0 with
      | some (x, []) => ∃ v, e = .returned (.tuple #[v, .int .i64 0]) ∧ Q x W' v
      | _ => e = .returned (.tuple #[.agg cz, .int .i64 70]) := by
  obtain ⟨k1, k2, k3, c1, c2, c3⟩ := f
  obtain ⟨bf, hbf⟩ : ∃ bf, W.heap.size = bf := ⟨_, rfl⟩
  rw [hbf] at hJM
  have hM0 : Mem w ((((W.alloc (.cells #[.func (.func k1) #[] c1, .func (.func k2) #[] c2, .func (.func k3) #[] c3] 71)).alloc (.cells cz 28)).alloc (.cells cz 28)).alloc (.cells cz 28))
      ((bf + 1 + 1, .cells cz 28 (0, 0)) :: (bf + 1, .cells cz 28 (0, 0)) :: (bf + 1 + 1 + 1, .cells cz 28 (0, 0)) :: (bf, .cells #[.func (.func k1) #[] c1, .func (.func k2) #[] c2, .func (.func k3) #[] c3] 71 (0, 0)) :: (E ++ L)) := by
    have h1 := (((h.push bf (.cells #[.func (.func k1) #[] c1, .func (.func k2) #[] c2, .func (.func k3) #[] c3] 71 (0, 0)) hbf.symm).push (bf + 1) (.cells cz 28 (0, 0)) (by simp; omega)).push (bf + 1 + 1) (.cells cz 28 (0, 0)) (by simp; omega)).push (bf + 1 + 1 + 1) (.cells cz 28 (0, 0)) (by simp; omega)
    refine h1.perm ?_
    classical
    rw [List.perm_iff_count]
    intro q
    simp only [List.count_append, List.count_cons, List.count_nil]
    omega
  have hJ0 := hz (bf + 1 + 1) _ _ hM0
  have CR := hrd ((bf + 1, .cells cz 28 (0, 0)) :: (bf + 1 + 1 + 1, .cells cz 28 (0, 0)) :: (bf, .cells #[.func (.func k1) #[] c1, .func (.func k2) #[] c2, .func (.func k3) #[] c3] 71 (0, 0)) :: (E ++ L)) (fun q hq => List.mem_cons_of_mem _ (List.mem_cons_of_mem _ (List.mem_cons_of_mem _ (List.mem_append_left _ hq)))) x0 (bf + 1 + 1) 28 [] [] a l c _ hJ0 hS
  have eg : ∀ args V, (callFunc k2 args).run Tryz.prog V = .ok (.enter k2 args) V := er
  simp only [List.length_nil] at CR
  obtain ⟨R, hR⟩ : ∃ R, s.dec l x0 = R := ⟨_, rfl⟩
  rw [hR] at CR ⊢
  simp only [Fv.val]
  have HFIN := hfin
  have HF : Hid (∀ x g rb z V K, Sub (E ++ L) K → J w x g 28 [] [] V ((rb, .cells z 28 (0, 0)) :: K) → ∃ tl, V.heap[g]? = some (.cells tl 28 (0, 0)) ∧ tl.size = 29 ∧ tl.all (·.oneCell') = true ∧ V.heap[rb]? = some (.cells z 28 (0, 0)) ∧ Mem w (V.setRow rb tl) ((rb, .cells tl 28 (0, 0)) :: K) ∧ Q x (V.setRow rb tl) (.agg tl)) := hfin
  clear hrd hfin HFIN hz hJ0 hM0 hR h er
  have hsz : (Tryz.prog.info? 28).map (·.size) = some (cz).size := by kernel_rfl
  generalize l.length = n at *
  have key : ∀ V M, Mem w V ((bf + 1, .cells cz 28 (0, 0)) :: (bf + 1 + 1 + 1, .cells cz 28 (0, 0)) :: M) → V.heap[bf + 1]? = some (.cells cz 28 (0, 0)) ∧ V.heap[bf + 1 + 1 + 1]? = some (.cells cz 28 (0, 0)) ∧ Mem w (V.setRow (bf + 1) cz) ((bf + 1, .cells cz 28 (0, 0)) :: (bf + 1 + 1 + 1, .cells cz 28 (0, 0)) :: M) := by
    intro V M hV
    exact ⟨hV.get 0 rfl, hV.get 1 rfl, hV.wrote 0 rfl (wrote_setRow V (bf + 1) _ _ _ (hV.get 0 rfl))⟩
  have KY : Hid (∀ V M, Mem w V ((bf + 1, .cells cz 28 (0, 0)) :: (bf + 1 + 1 + 1, .cells cz 28 (0, 0)) :: M) → V.heap[bf + 1]? = some (.cells cz 28 (0, 0)) ∧ V.heap[bf + 1 + 1 + 1]? = some (.cells cz 28 (0, 0)) ∧ Mem w (V.setRow (bf + 1) cz) ((bf + 1, .cells cz 28 (0, 0)) :: (bf + 1 + 1 + 1, .cells cz 28 (0, 0)) :: M)) := key
  clear key
  have hzone : (cz : Array Value).all (·.oneCell') = true := by kernel_rfl
  have hsub : ∀ V A, Mem w V ((bf + 1, A) :: (bf + 1 + 1 + 1, .cells cz 28 (0, 0)) :: (bf, .cells #[.func (.func k1) #[] c1, .func (.func k2) #[] c2, .func (.func k3) #[] c3] 71 (0, 0)) :: (E ++ L)) → Mem w V (E ++ L) := fun V A h => h.sub.sub.sub
  have HS : Hid (∀ V A, Mem w V ((bf + 1, A) :: (bf + 1 + 1 + 1, .cells cz 28 (0, 0)) :: (bf, .cells #[.func (.func k1) #[] c1, .func (.func k2) #[] c2, .func (.func k3) #[] c3] 71 (0, 0)) :: (E ++ L)) → Mem w V (E ++ L)) := hsub
  clear hsub
  cases R with
  | none =>
    go_enter Tryz.func38, Tryz.ntmps38
    go_wp2_with fail
    refine CR.mono ?_
    rintro e V ⟨rfl, hM⟩
    obtain ⟨g1, g2, hM4⟩ := KY.out V _ hM
    clear CR
    go_wp2_with (first | (refine wpList_load_row rfl 28 (.tmp 7) (by with_reducible rfl) (bf + 1 + 1 + 1) rfl 28 _ (0, 0) _ g2 Tryz.underlying28 rfl hsz ?_) | (refine wpList_store_row rfl 28 (.tmp 4) (.tmp 24) (by with_reducible rfl) (bf + 1) cz rfl rfl 28 _ g1 hsz rfl hzone ?_))
    refine bodyPost_ret (v := .tuple #[.agg cz, .int .i64 70]) ?_ rfl ⟨HS.out _ _ hM4, rfl⟩
    exact results_two' (p := 4) (q := 5) (ty := 28) rfl _ _ (bf + 1) _ rfl (run_loadVar_row _ _ 28 28 _ (0, 0) _ (hM4.get 0 rfl) Tryz.underlying28 rfl hsz)
  | some y =>
    obtain ⟨x, l'⟩ := y
    cases l' with
    | nil =>
      go_enter Tryz.func38, Tryz.ntmps38
      go_wp2_with fail
      refine CR.mono ?_
      rintro e V ⟨a2, c2', rfl, hS2, hJ⟩
      obtain ⟨tl, hg, htl, hone, hgr, hM4, hQ⟩ := HF.out _ _ _ _ _ _ (fun q hq => List.mem_cons_of_mem _ (List.mem_cons_of_mem _ hq)) hJ
      have hi33 : (Tryz.prog.info? 28).map (·.size) = some tl.size := by rw [htl]; kernel_rfl
      have HQ : Hid (Q x (V.setRow (bf + 1) tl) (.agg tl)) := hQ
      clear CR hJ hS2 HF hQ KY
      go_wp2_with (first | (refine wpList_load_row rfl 28 (.tmp 6) (by with_reducible rfl) (bf + 1 + 1) rfl 28 tl (0, 0) _ hg Tryz.underlying28 rfl hi33 ?_) | (refine wpList_store_row rfl 28 (.tmp 4) (.tmp 25) (by with_reducible rfl) (bf + 1) tl rfl rfl 28 _ hgr hi33 (by rw [htl]; rfl) hone ?_))
      refine bodyPost_ret (v := .tuple #[.agg tl, .int .i64 0]) ?_ rfl ⟨HS.out _ _ hM4, _, rfl, HQ.out⟩
      exact results_two' (p := 4) (q := 5) (ty := 28) rfl _ _ (bf + 1) _ rfl (run_loadVar_row _ _ 28 28 _ (0, 0) _ (hM4.get 0 rfl) Tryz.underlying28 rfl hi33)
    | cons b r =>
      go_enter Tryz.func38, Tryz.ntmps38
      go_wp2_with fail
      refine CR.mono ?_
      rintro e V ⟨a2, c2', rfl, hS2, hJ⟩
      have hM := hJM _ _ _ hJ
      obtain ⟨g1, g2, hM4⟩ := KY.out V _ hM
      have hpos : (0 : Int) < ((b :: r).length : Int) := by simp only [List.length_cons]; omega
      clear CR hJ hS2 HF hM
      generalize (b :: r).length = m at *
      go_wp2_with (first | (refine wpList_load_row rfl 28 (.tmp 7) (by with_reducible rfl) (bf + 1 + 1 + 1) rfl 28 _ (0, 0) _ g2 Tryz.underlying28 rfl hsz ?_) | (refine wpList_store_row rfl 28 (.tmp 4) (.tmp 24) (by with_reducible rfl) (bf + 1) cz rfl rfl 28 _ g1 hsz rfl hzone ?_))
      refine bodyPost_ret (v := .tuple #[.agg cz, .int .i64 70]) ?_ rfl ⟨HS.out _ _ hM4, rfl⟩
      exact results_two' (p := 4) (q := 5) (ty := 28) rfl _ _ (bf + 1) _ rfl (run_loadVar_row _ _ 28 28 _ (0, 0) _ (hM4.get 0 rfl) Tryz.underlying28 rfl hsz)
end Go.Proofs.YtngegdamcfmonaaGreat

namespace Go.Proofs.YtngegdamcfmonaaGreat
open Go.RowKit
open Sm
open Cf
set_option linter.unusedVariables false
set_option maxRecDepth 20000

set_option maxHeartbeats 16000000 in
theorem openChange_put {w : World} {a : Option Addr} {r : List Int} {c : Nat} (hS : Sl w a (1 :: r) c) :
    Calls Tryz.prog 23 #[.slice a (1 :: r).length c] w (OCP w (hdec (1 :: r))) := by
  obtain ⟨g, hg⟩ : ∃ g, w.heap.size = g := ⟨_, rfl⟩
  have hM0 : Mem w (w.alloc (.cells hz0 35)) [(g, .cells hz0 35 (0, 0))] := (Mem.nil w).push1 hg.symm
  have hbt := build_H
  have hsz : (Tryz.prog.info? 35).map (·.size) = some (hz0 : Array Value).size := by kernel_rfl
  have hone := hz0_one
  obtain ⟨a1, c1, hsl, hS1⟩ := sl_tail hS
  have hl := hS.row.len
  simp only [List.length_cons] at hl
  have hc0 : ∃ b0 off, a = some ⟨b0, off, none⟩ ∧ ∀ V, Below w.heap.size w V → V.cell? ⟨b0, off, none⟩ = some (.int .u8 1) := by
    rcases hS.row.cells with e | ⟨b0, off, e, hc⟩
    · simp at e
    · refine ⟨b0, off, e, fun V hV => ?_⟩
      have h1 := hc 0 (by simp)
      rw [hV.cell (p := ⟨b0, off, none⟩) (cell_lt h1)]
      simpa using h1
  obtain ⟨b0, off, rfl, hc0⟩ := hc0
  have hn : ((1 :: r).length : Int) = (r.length : Int) + 1 := by simp
  generalize (1 :: r).length = n at *
  have hn0 : ¬ ((n : Int) = 0) := by omega
  have hn1 : (0 : Int) < n := by omega
  have hn2 : 0 < n := by omega
  have hn3 : ¬ (n = 0) := by omega
  have hn4 : ((n : Int) == 0) = false := by simp; omega
  clear hn
  have HCW : Hid (∀ (k1 k2 k3 : Nat) (c1' c2 c3 : Array Value) (E L : List (Nat × Obj)) (V : World), Mem w V (E ++ L) → Fd w E IT JT ⟨k1, k2, k3, c1', c2, c3⟩ spT →
      Calls Tryz.prog 44 #[.agg #[.func (.func k1) #[] c1', .func (.func k2) #[] c2, .func (.func k3) #[] c3], .slice a1 r.length c1] V fun e W' => ∃ tl er, e = .returned (.tuple #[.agg tl, .int .i64 er]) ∧ tl.size = 33 ∧ tl.all (·.oneCell') = true ∧ Mem w W' (E ++ L) ∧ RT w.heap.size ((E ++ L).map Prod.fst) r tl er W') := fun k1 k2 k3 c1' c2 c3 E L V hM hF => whole_put hM hF hS1
  obtain ⟨R, hR0⟩ : ∃ R, hdec (1 :: r) = R := ⟨_, rfl⟩
  rw [hR0]
  clear hS hS1
  go_enter Tryz.func23, Tryz.ntmps23
  go_upto_region 1 with fail
  refine wp_letter (fun V => Mem w V [(g, .cells hz0 35 (0, 0))]) hM0 ?_
  intro V0 hV0
  have d0 := hc0 _ hV0.below
  have C := hV0.drew
  have HAL : Hid (∀ o, Mem w (V0.drew.alloc o) ((V0.heap.size, o) :: [(g, .cells hz0 35 (0, 0))])) := fun o => al_push C o
  clear hM0 hc0 hV0
  go_upto_region 7 with fail
  go_region_held3 (fun _ => True) (trivial)
    (first | (go_at_call 33; refine (tenant_any (by first | exact C | exact HAL.out _)).mono ?_; rintro e V ⟨⟨k1, k2, k3, q1, q2, q3⟩, E, rfl, hM, hF⟩; simp only [Fv.val]) | (go_at_call 44; refine (HCW.out _ _ _ _ _ _ _ _ _ (by first | exact hM | exact al_mid hM _) hF).mono ?_; rintro e V2 ⟨tl, er, rfl, htl, hto, hM2, hR⟩; have hst := fun V => st_lit V tl htl hto; try have hg2 := storeCells_row V2 _ _ tl _ (hM2.at_ (_, .cells #[.string ⟨#[]⟩, .int .u32 0, .int .u8 0, .int .u8 0, .int .u8 0, .int .u8 0, .int .u8 0, .int .u8 0, .int .u8 0, .int .u8 0, .int .u32 0, .int .u8 0, .int .u8 0, .int .u8 0, .int .u8 0, .int .u8 0, .int .u8 0, .int .u8 0, .int .u8 0, .int .u8 0, .int .u8 0, .int .u8 0, .int .u8 0, .slice none 0 0, .int .u16 0, .int .u16 0, .int .i64 0, .slice none 0 0, .slice none 0 0, .int .i64 0, .int .i64 0, .int .u32 0, .int .u32 0] 33 (0, 0)) (List.mem_append_right _ List.mem_cons_self)) (by rw [htl]; rfl) hto))
  rotate_right
  · go_upto_region 8 with fail
    refine wp_letter (fun X => Mem w X [(V0.heap.size, .cells tl 33 (0, 0)), (g, .cells hz0 35 (0, 0))] ∧ RT w.heap.size [V0.heap.size, g] r tl er X) (put_ab hM2 hR) ?_
    generalize V0.heap.size = bt
    rintro V5 ⟨hM5, hR5⟩
    clear hM hF hM2 hR hst C
    try clear hg2
    have k4 := hM5.get 0 rfl
    have k5 := hM5.get 1 rfl
    have hi33 : (Tryz.prog.info? 33).map (·.size) = some tl.size := by rw [htl]; kernel_rfl
    rcases hR5 with ⟨t, e1, rfl, hl, p, s, q, etl, B, hB, hBM, hBl⟩ | ⟨e1, rfl⟩
    · obtain rfl : tl = (tc t p s q).toArray := by simpa using etl
      obtain ⟨r1, r2, r3⟩ := hB V5 (fun _ _ => rfl)
      have hbp := build_put t hl p s q t.name
      have d1 : V5.cell? ⟨bt, 0, none⟩ = some (.string t.name) := (hM5.cell 0 rfl 0).trans rfl
      have hho : (hc ⟨true, t.name, t⟩ p s q).toArray.all (·.oneCell') = true := by
        apply all_oneCell_toArray
        intro v hv
        simp only [hc, List.mem_cons] at hv
        rcases hv with rfl | rfl | hv
        · rfl
        · rfl
        · have := tc_one2 t (rw_one r1) (rw_one r2) (rw_one r3)
          rw [Array.all_eq_true_iff_forall_mem] at this
          exact this v (by simpa using hv)
      have hhs : (hc ⟨true, t.name, t⟩ p s q).toArray.size = 35 := by
        have := tc_len hl p s q
        simp only [hc, List.size_toArray, List.length_cons]
        omega
      have FIN : Hid (∀ H, Value.agg H = .agg (hc ⟨true, t.name, t⟩ p s q).toArray → OCP w R (.returned (.tuple #[.agg H, .int .i64 0])) (V5.setRow g H)) := by
        intro H hH
        have hM6 := hM5.wrote 1 rfl (wrote_setRow V5 g _ H _ k5)
        refine ⟨hM6.below, ?_⟩
        rw [← hR0, show hdec (1 :: r) = some ⟨true, t.name, t⟩ by simp [hdec, e1]]
        refine ⟨_, rfl, fun V' hV' => ?_⟩
        obtain ⟨q1, q2, q3⟩ := hB V' (fun c hc => (hV' c (hBl c hc).1 (by simpa [World.setRow] using (hBl c hc).2)).trans (setRow_other V5 g c _ (fun e => hBM g (by simp) (e ▸ hc))))
        exact ⟨hl, p, s, q, hH, q1, q2, q3⟩
      have hM6 := fun H => hM5.wrote 1 rfl (wrote_setRow V5 g _ H _ k5)
      generalize (hc ⟨true, t.name, t⟩ p s q).toArray = H at hbp hho hhs FIN
      generalize (tc t p s q).toArray = tl at *
      have hi35 : (Tryz.prog.info? 35).map (·.size) = some H.size := by rw [hhs]; kernel_rfl
      have hM7 := hM6 H
      clear hM6 hB hBl r1 r2 r3 hM5
      go_wp2_with ((refine wpList_load_row rfl 33 (.tmp 4) (by with_reducible rfl) bt rfl 33 tl (0, 0) _ k4 Tryz.underlying33 rfl hi33 ?_); (refine wpList_build_run rfl 35 _ (by with_reducible rfl) (hbp _) (by first | (simp [Act.eval, Act.put]; done) | kernel_rfl) ?_); (refine wpList_store_row rfl 35 (.tmp 2) (.tmp 37) (by with_reducible rfl) g H rfl rfl 35 hz0 k5 hi35 (by rw [hhs]; rfl) hho ?_))
      refine bodyPost_ret (v := .tuple #[.agg H, .int .i64 0]) ?_ rfl (FIN.out H rfl)
      exact results_two' (p := 2) (q := 3) (ty := 35) rfl _ _ g _ rfl (run_loadVar_row _ _ 35 35 _ (0, 0) _ (hM7.get 1 rfl) Tryz.underlying35 rfl hi35)
    · have FIN : Hid (∀ V, Below w.heap.size w V → OCP w R (.returned (.tuple #[.agg hz0, .int .i64 70])) V) := by
        intro V hV
        refine ⟨hV, ?_⟩
        have : hdec (1 :: r) = none := by
          cases hd : tdec r with
          | none => simp [hdec, hd]
          | some y =>
            obtain ⟨t, l'⟩ := y
            cases l' with
            | nil => exact absurd hd (e1 t)
            | cons b l2 => simp [hdec, hd]
        rw [← hR0, this]
      have hM7 := hM5.wrote 1 rfl (wrote_setRow V5 g _ hz0 _ k5)
      clear hM5
      go_wp2_with (refine wpList_store_row rfl 35 (.tmp 2) (.tmp 32) (by with_reducible rfl) g hz0 rfl rfl 35 hz0 k5 hsz rfl hone ?_)
      refine bodyPost_ret (v := .tuple #[.agg hz0, .int .i64 70]) ?_ rfl (FIN.out _ hM7.below)
      exact results_two' (p := 2) (q := 3) (ty := 35) rfl _ _ g _ rfl (run_loadVar_row _ _ 35 35 _ (0, 0) _ (hM7.get 1 rfl) Tryz.underlying35 rfl hsz)
  · go_upto_region 8 with fail
    refine wp_letter (fun X => Mem w X [(V2.heap.size, .cells tl 33 (0, 0)), (g, .cells hz0 35 (0, 0))] ∧ RT w.heap.size [V2.heap.size, g] r tl er X) (put_c hM2 hR _) ?_
    generalize V2.heap.size = bt
    rintro V5 ⟨hM5, hR5⟩
    clear hM hF hM2 hR hst C
    try clear hg2
    have k4 := hM5.get 0 rfl
    have k5 := hM5.get 1 rfl
    have hi33 : (Tryz.prog.info? 33).map (·.size) = some tl.size := by rw [htl]; kernel_rfl
    rcases hR5 with ⟨t, e1, rfl, hl, p, s, q, etl, B, hB, hBM, hBl⟩ | ⟨e1, rfl⟩
    · obtain rfl : tl = (tc t p s q).toArray := by simpa using etl
      obtain ⟨r1, r2, r3⟩ := hB V5 (fun _ _ => rfl)
      have hbp := build_put t hl p s q t.name
      have d1 : V5.cell? ⟨bt, 0, none⟩ = some (.string t.name) := (hM5.cell 0 rfl 0).trans rfl
      have hho : (hc ⟨true, t.name, t⟩ p s q).toArray.all (·.oneCell') = true := by
        apply all_oneCell_toArray
        intro v hv
        simp only [hc, List.mem_cons] at hv
        rcases hv with rfl | rfl | hv
        · rfl
        · rfl
        · have := tc_one2 t (rw_one r1) (rw_one r2) (rw_one r3)
          rw [Array.all_eq_true_iff_forall_mem] at this
          exact this v (by simpa using hv)
      have hhs : (hc ⟨true, t.name, t⟩ p s q).toArray.size = 35 := by
        have := tc_len hl p s q
        simp only [hc, List.size_toArray, List.length_cons]
        omega
      have FIN : Hid (∀ H, Value.agg H = .agg (hc ⟨true, t.name, t⟩ p s q).toArray → OCP w R (.returned (.tuple #[.agg H, .int .i64 0])) (V5.setRow g H)) := by
        intro H hH
        have hM6 := hM5.wrote 1 rfl (wrote_setRow V5 g _ H _ k5)
        refine ⟨hM6.below, ?_⟩
        rw [← hR0, show hdec (1 :: r) = some ⟨true, t.name, t⟩ by simp [hdec, e1]]
        refine ⟨_, rfl, fun V' hV' => ?_⟩
        obtain ⟨q1, q2, q3⟩ := hB V' (fun c hc => (hV' c (hBl c hc).1 (by simpa [World.setRow] using (hBl c hc).2)).trans (setRow_other V5 g c _ (fun e => hBM g (by simp) (e ▸ hc))))
        exact ⟨hl, p, s, q, hH, q1, q2, q3⟩
      have hM6 := fun H => hM5.wrote 1 rfl (wrote_setRow V5 g _ H _ k5)
      generalize (hc ⟨true, t.name, t⟩ p s q).toArray = H at hbp hho hhs FIN
      generalize (tc t p s q).toArray = tl at *
      have hi35 : (Tryz.prog.info? 35).map (·.size) = some H.size := by rw [hhs]; kernel_rfl
      have hM7 := hM6 H
      clear hM6 hB hBl r1 r2 r3 hM5
      go_wp2_with ((refine wpList_load_row rfl 33 (.tmp 4) (by with_reducible rfl) bt rfl 33 tl (0, 0) _ k4 Tryz.underlying33 rfl hi33 ?_); (refine wpList_build_run rfl 35 _ (by with_reducible rfl) (hbp _) (by first | (simp [Act.eval, Act.put]; done) | kernel_rfl) ?_); (refine wpList_store_row rfl 35 (.tmp 2) (.tmp 37) (by with_reducible rfl) g H rfl rfl 35 hz0 k5 hi35 (by rw [hhs]; rfl) hho ?_))
      refine bodyPost_ret (v := .tuple #[.agg H, .int .i64 0]) ?_ rfl (FIN.out H rfl)
      exact results_two' (p := 2) (q := 3) (ty := 35) rfl _ _ g _ rfl (run_loadVar_row _ _ 35 35 _ (0, 0) _ (hM7.get 1 rfl) Tryz.underlying35 rfl hi35)
    · have FIN : Hid (∀ V, Below w.heap.size w V → OCP w R (.returned (.tuple #[.agg hz0, .int .i64 70])) V) := by
        intro V hV
        refine ⟨hV, ?_⟩
        have : hdec (1 :: r) = none := by
          cases hd : tdec r with
          | none => simp [hdec, hd]
          | some y =>
            obtain ⟨t, l'⟩ := y
            cases l' with
            | nil => exact absurd hd (e1 t)
            | cons b l2 => simp [hdec, hd]
        rw [← hR0, this]
      have hM7 := hM5.wrote 1 rfl (wrote_setRow V5 g _ hz0 _ k5)
      clear hM5
      go_wp2_with (refine wpList_store_row rfl 35 (.tmp 2) (.tmp 32) (by with_reducible rfl) g hz0 rfl rfl 35 hz0 k5 hsz rfl hone ?_)
      refine bodyPost_ret (v := .tuple #[.agg hz0, .int .i64 70]) ?_ rfl (FIN.out _ hM7.below)
      exact results_two' (p := 2) (q := 3) (ty := 35) rfl _ _ g _ rfl (run_loadVar_row _ _ 35 35 _ (0, 0) _ (hM7.get 1 rfl) Tryz.underlying35 rfl hsz)
  · go_upto_region 8 with fail
    refine wp_letter (fun X => Mem w X [(V.heap.size, .cells tl 33 (0, 0)), (g, .cells hz0 35 (0, 0))] ∧ RT w.heap.size [V.heap.size, g] r tl er X) (put_ab hM2 hR) ?_
    generalize V.heap.size = bt
    rintro V5 ⟨hM5, hR5⟩
    clear hM hF hM2 hR hst C
    try clear hg2
    have k4 := hM5.get 0 rfl
    have k5 := hM5.get 1 rfl
    have hi33 : (Tryz.prog.info? 33).map (·.size) = some tl.size := by rw [htl]; kernel_rfl
    rcases hR5 with ⟨t, e1, rfl, hl, p, s, q, etl, B, hB, hBM, hBl⟩ | ⟨e1, rfl⟩
    · obtain rfl : tl = (tc t p s q).toArray := by simpa using etl
      obtain ⟨r1, r2, r3⟩ := hB V5 (fun _ _ => rfl)
      have hbp := build_put t hl p s q t.name
      have d1 : V5.cell? ⟨bt, 0, none⟩ = some (.string t.name) := (hM5.cell 0 rfl 0).trans rfl
      have hho : (hc ⟨true, t.name, t⟩ p s q).toArray.all (·.oneCell') = true := by
        apply all_oneCell_toArray
        intro v hv
        simp only [hc, List.mem_cons] at hv
        rcases hv with rfl | rfl | hv
        · rfl
        · rfl
        · have := tc_one2 t (rw_one r1) (rw_one r2) (rw_one r3)
          rw [Array.all_eq_true_iff_forall_mem] at this
          exact this v (by simpa using hv)
      have hhs : (hc ⟨true, t.name, t⟩ p s q).toArray.size = 35 := by
        have := tc_len hl p s q
        simp only [hc, List.size_toArray, List.length_cons]
        omega
      have FIN : Hid (∀ H, Value.agg H = .agg (hc ⟨true, t.name, t⟩ p s q).toArray → OCP w R (.returned (.tuple #[.agg H, .int .i64 0])) (V5.setRow g H)) := by
        intro H hH
        have hM6 := hM5.wrote 1 rfl (wrote_setRow V5 g _ H _ k5)
        refine ⟨hM6.below, ?_⟩
        rw [← hR0, show hdec (1 :: r) = some ⟨true, t.name, t⟩ by simp [hdec, e1]]
        refine ⟨_, rfl, fun V' hV' => ?_⟩
        obtain ⟨q1, q2, q3⟩ := hB V' (fun c hc => (hV' c (hBl c hc).1 (by simpa [World.setRow] using (hBl c hc).2)).trans (setRow_other V5 g c _ (fun e => hBM g (by simp) (e ▸ hc))))
        exact ⟨hl, p, s, q, hH, q1, q2, q3⟩
      have hM6 := fun H => hM5.wrote 1 rfl (wrote_setRow V5 g _ H _ k5)
      generalize (hc ⟨true, t.name, t⟩ p s q).toArray = H at hbp hho hhs FIN
      generalize (tc t p s q).toArray = tl at *
      have hi35 : (Tryz.prog.info? 35).map (·.size) = some H.size := by rw [hhs]; kernel_rfl
      have hM7 := hM6 H
      clear hM6 hB hBl r1 r2 r3 hM5
      go_wp2_with ((refine wpList_load_row rfl 33 (.tmp 4) (by with_reducible rfl) bt rfl 33 tl (0, 0) _ k4 Tryz.underlying33 rfl hi33 ?_); (refine wpList_build_run rfl 35 _ (by with_reducible rfl) (hbp _) (by first | (simp [Act.eval, Act.put]; done) | kernel_rfl) ?_); (refine wpList_store_row rfl 35 (.tmp 2) (.tmp 37) (by with_reducible rfl) g H rfl rfl 35 hz0 k5 hi35 (by rw [hhs]; rfl) hho ?_))
      refine bodyPost_ret (v := .tuple #[.agg H, .int .i64 0]) ?_ rfl (FIN.out H rfl)
      exact results_two' (p := 2) (q := 3) (ty := 35) rfl _ _ g _ rfl (run_loadVar_row _ _ 35 35 _ (0, 0) _ (hM7.get 1 rfl) Tryz.underlying35 rfl hi35)
    · have FIN : Hid (∀ V, Below w.heap.size w V → OCP w R (.returned (.tuple #[.agg hz0, .int .i64 70])) V) := by
        intro V hV
        refine ⟨hV, ?_⟩
        have : hdec (1 :: r) = none := by
          cases hd : tdec r with
          | none => simp [hdec, hd]
          | some y =>
            obtain ⟨t, l'⟩ := y
            cases l' with
            | nil => exact absurd hd (e1 t)
            | cons b l2 => simp [hdec, hd]
        rw [← hR0, this]
      have hM7 := hM5.wrote 1 rfl (wrote_setRow V5 g _ hz0 _ k5)
      clear hM5
      go_wp2_with (refine wpList_store_row rfl 35 (.tmp 2) (.tmp 32) (by with_reducible rfl) g hz0 rfl rfl 35 hz0 k5 hsz rfl hone ?_)
      refine bodyPost_ret (v := .tuple #[.agg hz0, .int .i64 70]) ?_ rfl (FIN.out _ hM7.below)
      exact results_two' (p := 2) (q := 3) (ty := 35) rfl _ _ g _ rfl (run_loadVar_row _ _ 35 35 _ (0, 0) _ (hM7.get 1 rfl) Tryz.underlying35 rfl hsz)
end Go.Proofs.YtngegdamcfmonaaGreat

namespace Go.Proofs.YtngegdamcfmonaaGreat
open Go.RowKit
open Sm
open Cf
set_option linter.unusedVariables false
set_option maxRecDepth 20000

instance (t z : Ten) : Decidable (TSame t z) := by unfold TSame; infer_instance
theorem eq_same (t z : Ten) : spT.eq t z = decide (TSame t z) := by
  by_cases h : TSame t z
  · rw [decide_eq_true h]
    obtain ⟨h0, h1, h2, h3, h4, h5, h6, h7, h8, h9, h10, h11, h12, h13, h14, h15⟩ := h
    apply decide_eq_true
    intro i hi
    match i, hi with
    | 0, _ => exact decide_eq_true h0
    | 1, _ => exact decide_eq_true h1
    | 2, _ => exact decide_eq_true h2
    | 3, _ => exact decide_eq_true h3
    | 4, _ => exact decide_eq_true h4
    | 5, _ => exact decide_eq_true h5
    | 6, _ => exact decide_eq_true h7
    | 7, _ => exact decide_eq_true h8
    | 8, _ => exact decide_eq_true h9
    | 9, _ => exact decide_eq_true h12
    | 10, _ => exact decide_eq_true h13
    | 11, _ => exact decide_eq_true h14
    | 12, _ => exact decide_eq_true h15
    | 13, _ => exact decide_eq_true (congrArg List.length h6)
    | 14, _ => exact decide_eq_true (congrArg List.length h10)
    | 15, _ => exact decide_eq_true (congrArg List.length h11)
    | 16, _ => exact decide_eq_true h6
    | 17, _ => exact decide_eq_true h10
    | 18, _ => exact decide_eq_true h11
    | n + 19, h => exact absurd (show n + 19 < 19 from h) (by omega)
  · rw [decide_eq_false h]
    apply decide_eq_false
    intro hc
    apply h
    exact ⟨of_decide_eq_true (hc 0 (by decide)), of_decide_eq_true (hc 1 (by decide)), of_decide_eq_true (hc 2 (by decide)), of_decide_eq_true (hc 3 (by decide)), of_decide_eq_true (hc 4 (by decide)), of_decide_eq_true (hc 5 (by decide)), of_decide_eq_true (hc 16 (by decide)), of_decide_eq_true (hc 6 (by decide)), of_decide_eq_true (hc 7 (by decide)), of_decide_eq_true (hc 8 (by decide)), of_decide_eq_true (hc 17 (by decide)), of_decide_eq_true (hc 18 (by decide)), of_decide_eq_true (hc 9 (by decide)), of_decide_eq_true (hc 10 (by decide)), of_decide_eq_true (hc 11 (by decide)), of_decide_eq_true (hc 12 (by decide))⟩
theorem Rw.at_ {w V : World} {n : Nat} {v : Value} {xs : List (List Value)} (h : Rw w n v xs) (hne : ∀ x ∈ xs, x ≠ []) (hb : Below w.heap.size w V) : Rw V n v xs := h.below hne hb (Nat.le_refl _)
set_option maxHeartbeats 8000000 in
theorem htenant_any {w : World} {va vb : Value} {t z : Ten} (ha : TV w va t) (hb : TV w vb z) (hp : t.pool.length ≤ 1000000) (hs : t.stat.length ≤ 1000000) (hq : t.twi.length ≤ 1000000) :
    Calls Tryz.prog 26 #[va, vb] w fun e w' => e = .returned (.bool (decide (TSame t z))) ∧ Below w.heap.size w w' := by
  obtain ⟨hl, p, s, q, rfl, r1, r2, r3⟩ := ha
  obtain ⟨hl', p', s', q', rfl, r1', r2', r3'⟩ := hb
  have CN := fun V (hV : Below w.heap.size w V) => nums_any p p' t.pool z.pool (r1.at_ ux_ne hV) (r1'.at_ ux_ne hV) hp
  have CP := fun V (hV : Below w.heap.size w V) => pairs_any s s' t.stat z.stat (r2.at_ px_ne hV) (r2'.at_ px_ne hV) hs
  have CQ := fun V (hV : Below w.heap.size w V) => pairs_any q q' t.twi z.twi (r3.at_ px_ne hV) (r3'.at_ px_ne hV) hq
  obtain ⟨pa, pc, rfl, -⟩ := r1
  obtain ⟨sa, sc, rfl, -⟩ := r2
  obtain ⟨qa, qc, rfl, -⟩ := r3
  obtain ⟨pa', pc', rfl, -⟩ := r1'
  obtain ⟨sa', sc', rfl, -⟩ := r2'
  obtain ⟨qa', qc', rfl, -⟩ := r3'
  generalize (ux t.pool).length = pn at *
  generalize (px t.stat).length = sn at *
  generalize (px t.twi).length = qn at *
  generalize (ux z.pool).length = pn' at *
  generalize (px z.stat).length = sn' at *
  generalize (px z.twi).length = qn' at *
  obtain ⟨n, vn, key, vt, vm, ho, po, lo, hi, fi, st, tw, se, qu, ra, bu⟩ := t
  obtain ⟨n', vn', key', vt', vm', ho', po', lo', hi', fi', st', tw', se', qu', ra', bu'⟩ := z
  obtain ⟨h1, h2, h3⟩ := hl
  obtain ⟨a, b, c, d, f, g, x, y, rfl⟩ := eight8 h1
  obtain ⟨a1, b1, c1, d1, f1, g1, rfl⟩ := six6 h2
  obtain ⟨a2, b2, c2, d2, f2, g2, rfl⟩ := six6 h3
  obtain ⟨h1', h2', h3'⟩ := hl'
  obtain ⟨a', b', c', d', f', g', x', y', rfl⟩ := eight8 h1'
  obtain ⟨a1', b1', c1', d1', f1', g1', rfl⟩ := six6 h2'
  obtain ⟨a2', b2', c2', d2', f2', g2', rfl⟩ := six6 h3'
  simp only at CN CP CQ
  by_cases h10 : (sb n = sb n')
  rotate_left
  · rw [decide_eq_false (fun e => h10 e.1)]
    exact ht_0 h10 CN CP CQ
  by_cases h11 : (vn = vn')
  rotate_left
  · rw [decide_eq_false (fun e => h11 e.2.1)]
    exact ht_1 h10 h11 CN CP CQ
  by_cases h12 : ([a, b, c, d, f, g, x, y] = [a', b', c', d', f', g', x', y'])
  rotate_left
  · rw [decide_eq_false (fun e => h12 e.2.2.1)]
    exact ht_2 h10 h11 h12 CN CP CQ
  by_cases h13 : (vt = vt')
  rotate_left
  · rw [decide_eq_false (fun e => h13 e.2.2.2.1)]
    exact ht_3 h10 h11 h12 h13 CN CP CQ
  by_cases h14 : ([a1, b1, c1, d1, f1, g1] = [a1', b1', c1', d1', f1', g1'])
  rotate_left
  · rw [decide_eq_false (fun e => h14 e.2.2.2.2.1)]
    exact ht_4 h10 h11 h12 h13 h14 CN CP CQ
  by_cases h15 : ([a2, b2, c2, d2, f2, g2] = [a2', b2', c2', d2', f2', g2'])
  rotate_left
  · rw [decide_eq_false (fun e => h15 e.2.2.2.2.2.1)]
    exact ht_5 h10 h11 h12 h13 h14 h15 CN CP CQ
  by_cases h16 : (po = po')
  rotate_left
  · rw [decide_eq_false (fun e => h16 e.2.2.2.2.2.2.1)]
    exact ht_6 h10 h11 h12 h13 h14 h15 h16 CN CP CQ
  by_cases h17 : (lo = lo')
  rotate_left
  · rw [decide_eq_false (fun e => h17 e.2.2.2.2.2.2.2.1)]
    exact ht_7 h10 h11 h12 h13 h14 h15 h16 h17 CN CP CQ
  by_cases h18 : (hi = hi')
  rotate_left
  · rw [decide_eq_false (fun e => h18 e.2.2.2.2.2.2.2.2.1)]
    exact ht_8 h10 h11 h12 h13 h14 h15 h16 h17 h18 CN CP CQ
  by_cases h19 : (fi = fi')
  rotate_left
  · rw [decide_eq_false (fun e => h19 e.2.2.2.2.2.2.2.2.2.1)]
    exact ht_9 h10 h11 h12 h13 h14 h15 h16 h17 h18 h19 CN CP CQ
  by_cases h20 : (st = st')
  rotate_left
  · rw [decide_eq_false (fun e => h20 e.2.2.2.2.2.2.2.2.2.2.1)]
    exact ht_10 h10 h11 h12 h13 h14 h15 h16 h17 h18 h19 h20 CN CP CQ
  by_cases h21 : (tw = tw')
  rotate_left
  · rw [decide_eq_false (fun e => h21 e.2.2.2.2.2.2.2.2.2.2.2.1)]
    exact ht_11 h10 h11 h12 h13 h14 h15 h16 h17 h18 h19 h20 h21 CN CP CQ
  by_cases h22 : (se = se')
  rotate_left
  · rw [decide_eq_false (fun e => h22 e.2.2.2.2.2.2.2.2.2.2.2.2.1)]
    exact ht_12 h10 h11 h12 h13 h14 h15 h16 h17 h18 h19 h20 h21 h22 CN CP CQ
  by_cases h23 : (qu = qu')
  rotate_left
  · rw [decide_eq_false (fun e => h23 e.2.2.2.2.2.2.2.2.2.2.2.2.2.1)]
    exact ht_13 h10 h11 h12 h13 h14 h15 h16 h17 h18 h19 h20 h21 h22 h23 CN CP CQ
  by_cases h24 : (ra = ra')
  rotate_left
  · rw [decide_eq_false (fun e => h24 e.2.2.2.2.2.2.2.2.2.2.2.2.2.2.1)]
    exact ht_14 h10 h11 h12 h13 h14 h15 h16 h17 h18 h19 h20 h21 h22 h23 h24 CN CP CQ
  by_cases h25 : (bu = bu')
  rotate_left
  · rw [decide_eq_false (fun e => h25 e.2.2.2.2.2.2.2.2.2.2.2.2.2.2.2)]
    exact ht_15 h10 h11 h12 h13 h14 h15 h16 h17 h18 h19 h20 h21 h22 h23 h24 h25 CN CP CQ
  rw [decide_eq_true ⟨h10, h11, h12, h13, h14, h15, h16, h17, h18, h19, h20, h21, h22, h23, h24, h25⟩]
  exact ht_16 h10 h11 h12 h13 h14 h15 h16 h17 h18 h19 h20 h21 h22 h23 h24 h25 CN CP CQ
end Go.Proofs.YtngegdamcfmonaaGreat

