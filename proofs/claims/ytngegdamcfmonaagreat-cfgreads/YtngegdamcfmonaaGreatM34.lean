/-
  Settings as bytes: the program's whole (lych/api.Config): what all bytes are.
-/
import Derived.Test.YtngegdamcfmonaaGreatM23
import Derived.Test.YtngegdamcfmonaaGreatM33
namespace Go.Proofs.YtngegdamcfmonaaGreat
open Go.RowKit
open Sm
open Cf
set_option linter.unusedVariables false
set_option maxRecDepth 20000

set_option maxHeartbeats 8000000 in
theorem whole_C {α ρ : Type} {w W : World} {E L : List (Nat × Obj)} {I : Rp α ρ} {J : St' α} {f : Fv} {s : Sp α} {a : Option Addr} {l : List Int} {c : Nat} (h : Mem w W (E ++ L)) (er : Ent f.kr)
    (hrd : ∀ K, Sub E K → ∀ x g T pre post a l c V, J w x g T pre post V K → Sl w a l c → Calls Tryz.prog f.kr (#[.slice a l.length c, .pointer (some ⟨g, pre.length, none⟩)] ++ f.cr) V (RPost w K (fun y V' => J w y g T pre post V' K) (s.dec l x)))
    (hS : Sl w a l c) (x0 : α) (hz : ∀ g V K, Mem w V ((g, .cells cz 28 (0, 0)) :: K) → J w x0 g 28 [] [] V K) (Q : α → World → Value → Prop) (hJM : ∀ x V K, J w x (W.heap.size + 1 + 1) 28 [] [] V K → Mem w V K)
    (hfin : ∀ x g rb z V K, Sub (E ++ L) K → J w x g 28 [] [] V ((rb, .cells z 28 (0, 0)) :: K) → ∃ tl, V.heap[g]? = some (.cells tl 28 (0, 0)) ∧ tl.size = 29 ∧ tl.all (·.oneCell') = true ∧ V.heap[rb]? = some (.cells z 28 (0, 0)) ∧ Mem w (V.setRow rb tl) ((rb, .cells tl 28 (0, 0)) :: K) ∧ Q x (V.setRow rb tl) (.agg tl)) :
    Calls Tryz.prog 38 #[f.val, .slice a l.length c] W fun e W' => Mem w W' (E ++ L) ∧ match s.dec l x0 with
      | some (x, []) => ∃ v, e = .returned (.tuple #[v, .int .i64 0]) ∧ Q x W' v
      | _ => e = .returned (.tuple #[.agg cz, .int .i64 70]) := by
  obtain ⟨k1, k2, k3, c1, c2, c3⟩ := f
  obtain ⟨bf, hbf⟩ : ∃ bf, W.heap.size = bf := ⟨_, rfl⟩
  rw [hbf] at hJM
  have hM0 : Mem w ((((W.alloc (.cells #[.func (.func k1) #[] c1, .func (.func k2) #[] c2, .func (.func k3) #[] c3] 71)).alloc (.cells cz 28)).alloc (.cells cz 28)).alloc (.cells cz 28))
      ((bf + 1 + 1, .cells cz 28 (0, 0)) :: (bf + 1, .cells cz 28 (0, 0)) :: (bf + 1 + 1 + 1, .cells cz 28 (0, 0)) :: (bf, .cells #[.func (.func k1) #[] c1, .func (.func k2) #[] c2, .func (.func k3) #[] c3] 71 (0, 0)) :: (E ++ L)) := by
    have h1 := (((h.push bf (.cells #[.func (.func k1) #[] c1, .func (.func k2) #[] c2, .func (.func k3) #[] c3] 71 (0, 0)) hbf.symm).push (bf + 1) (.cells cz 28 (0, 0)) (by simp; omega)).push (bf + 1 + 1) (.cells cz 28 (0, 0)) (by simp; omega)).push (bf + 1 + 1 + 1) (.cells cz 28 (0, 0)) (by simp; omega)
    refine h1.perm ?_
    classical
    rw [List.perm_iff_count]
    intro q
    simp only [List.count_append, List.count_cons, List.count_nil]
    omega
  have hJ0 := hz (bf + 1 + 1) _ _ hM0
  have CR := hrd ((bf + 1, .cells cz 28 (0, 0)) :: (bf + 1 + 1 + 1, .cells cz 28 (0, 0)) :: (bf, .cells #[.func (.func k1) #[] c1, .func (.func k2) #[] c2, .func (.func k3) #[] c3] 71 (0, 0)) :: (E ++ L)) (fun q hq => List.mem_cons_of_mem _ (List.mem_cons_of_mem _ (List.mem_cons_of_mem _ (List.mem_append_left _ hq)))) x0 (bf + 1 + 1) 28 [] [] a l c _ hJ0 hS
  have eg : ∀ args V, (callFunc k2 args).run Tryz.prog V = .ok (.enter k2 args) V := er
  simp only [List.length_nil] at CR
  obtain ⟨R, hR⟩ : ∃ R, s.dec l x0 = R := ⟨_, rfl⟩
  rw [hR] at CR ⊢
  simp only [Fv.val]
  have HFIN := hfin
  have HF : Hid (∀ x g rb z V K, Sub (E ++ L) K → J w x g 28 [] [] V ((rb, .cells z 28 (0, 0)) :: K) → ∃ tl, V.heap[g]? = some (.cells tl 28 (0, 0)) ∧ tl.size = 29 ∧ tl.all (·.oneCell') = true ∧ V.heap[rb]? = some (.cells z 28 (0, 0)) ∧ Mem w (V.setRow rb tl) ((rb, .cells tl 28 (0, 0)) :: K) ∧ Q x (V.setRow rb tl) (.agg tl)) := hfin
  clear hrd hfin HFIN hz hJ0 hM0 hR h er
  have hsz : (Tryz.prog.info? 28).map (·.size) = some (cz).size := by kernel_rfl
  generalize l.length = n at *
  have key : ∀ V M, Mem w V ((bf + 1, .cells cz 28 (0, 0)) :: (bf + 1 + 1 + 1, .cells cz 28 (0, 0)) :: M) → V.heap[bf + 1]? = some (.cells cz 28 (0, 0)) ∧ V.heap[bf + 1 + 1 + 1]? = some (.cells cz 28 (0, 0)) ∧ Mem w (V.setRow (bf + 1) cz) ((bf + 1, .cells cz 28 (0, 0)) :: (bf + 1 + 1 + 1, .cells cz 28 (0, 0)) :: M) := by
    intro V M hV
    exact ⟨hV.get 0 rfl, hV.get 1 rfl, hV.wrote 0 rfl (wrote_setRow V (bf + 1) _ _ _ (hV.get 0 rfl))⟩
  have KY : Hid (∀ V M, Mem w V ((bf + 1, .cells cz 28 (0, 0)) :: (bf + 1 + 1 + 1, .cells cz 28 (0, 0)) :: M) → V.heap[bf + 1]? = some (.cells cz 28 (0, 0)) ∧ V.heap[bf + 1 + 1 + 1]? = some (.cells cz 28 (0, 0)) ∧ Mem w (V.setRow (bf + 1) cz) ((bf + 1, .cells cz 28 (0, 0)) :: (bf + 1 + 1 + 1, .cells cz 28 (0, 0)) :: M)) := key
  clear key
  have hzone : (cz : Array Value).all (·.oneCell') = true := by kernel_rfl
  have hsub : ∀ V A, Mem w V ((bf + 1, A) :: (bf + 1 + 1 + 1, .cells cz 28 (0, 0)) :: (bf, .cells #[.func (.func k1) #[] c1, .func (.func k2) #[] c2, .func (.func k3) #[] c3] 71 (0, 0)) :: (E ++ L)) → Mem w V (E ++ L) := fun V A h => h.sub.sub.sub
  have HS : Hid (∀ V A, Mem w V ((bf + 1, A) :: (bf + 1 + 1 + 1, .cells cz 28 (0, 0)) :: (bf, .cells #[.func (.func k1) #[] c1, .func (.func k2) #[] c2, .func (.func k3) #[] c3] 71 (0, 0)) :: (E ++ L)) → Mem w V (E ++ L)) := hsub
  clear hsub
  cases R with
  | none =>
    go_enter Tryz.func38, Tryz.ntmps38
    go_wp2_with fail
    refine CR.mono ?_
    rintro e V ⟨rfl, hM⟩
    obtain ⟨g1, g2, hM4⟩ := KY.out V _ hM
    clear CR
    go_wp2_with (first | (refine wpList_load_row rfl 28 (.tmp 7) (by with_reducible rfl) (bf + 1 + 1 + 1) rfl 28 _ (0, 0) _ g2 Tryz.underlying28 rfl hsz ?_) | (refine wpList_store_row rfl 28 (.tmp 4) (.tmp 24) (by with_reducible rfl) (bf + 1) cz rfl rfl 28 _ g1 hsz rfl hzone ?_))
    refine bodyPost_ret (v := .tuple #[.agg cz, .int .i64 70]) ?_ rfl ⟨HS.out _ _ hM4, rfl⟩
    exact results_two' (p := 4) (q := 5) (ty := 28) rfl _ _ (bf + 1) _ rfl (run_loadVar_row _ _ 28 28 _ (0, 0) _ (hM4.get 0 rfl) Tryz.underlying28 rfl hsz)
  | some y =>
    obtain ⟨x, l'⟩ := y
    cases l' with
    | nil =>
      go_enter Tryz.func38, Tryz.ntmps38
      go_wp2_with fail
      refine CR.mono ?_
      rintro e V ⟨a2, c2', rfl, hS2, hJ⟩
      obtain ⟨tl, hg, htl, hone, hgr, hM4, hQ⟩ := HF.out _ _ _ _ _ _ (fun q hq => List.mem_cons_of_mem _ (List.mem_cons_of_mem _ hq)) hJ
      have hi33 : (Tryz.prog.info? 28).map (·.size) = some tl.size := by rw [htl]; kernel_rfl
      have HQ : Hid (Q x (V.setRow (bf + 1) tl) (.agg tl)) := hQ
      clear CR hJ hS2 HF hQ KY
      go_wp2_with (first | (refine wpList_load_row rfl 28 (.tmp 6) (by with_reducible rfl) (bf + 1 + 1) rfl 28 tl (0, 0) _ hg Tryz.underlying28 rfl hi33 ?_) | (refine wpList_store_row rfl 28 (.tmp 4) (.tmp 25) (by with_reducible rfl) (bf + 1) tl rfl rfl 28 _ hgr hi33 (by rw [htl]; rfl) hone ?_))
      refine bodyPost_ret (v := .tuple #[.agg tl, .int .i64 0]) ?_ rfl ⟨HS.out _ _ hM4, _, rfl, HQ.out⟩
      exact results_two' (p := 4) (q := 5) (ty := 28) rfl _ _ (bf + 1) _ rfl (run_loadVar_row _ _ 28 28 _ (0, 0) _ (hM4.get 0 rfl) Tryz.underlying28 rfl hi33)
    | cons b r =>
      go_enter Tryz.func38, Tryz.ntmps38
      go_wp2_with fail
      refine CR.mono ?_
      rintro e V ⟨a2, c2', rfl, hS2, hJ⟩
      have hM := hJM _ _ _ hJ
      obtain ⟨g1, g2, hM4⟩ := KY.out V _ hM
      have hpos : (0 : Int) < ((b :: r).length : Int) := by simp only [List.length_cons]; omega
      clear CR hJ hS2 HF hM
      generalize (b :: r).length = m at *
      go_wp2_with (first | (refine wpList_load_row rfl 28 (.tmp 7) (by with_reducible rfl) (bf + 1 + 1 + 1) rfl 28 _ (0, 0) _ g2 Tryz.underlying28 rfl hsz ?_) | (refine wpList_store_row rfl 28 (.tmp 4) (.tmp 24) (by with_reducible rfl) (bf + 1) cz rfl rfl 28 _ g1 hsz rfl hzone ?_))
      refine bodyPost_ret (v := .tuple #[.agg cz, .int .i64 70]) ?_ rfl ⟨HS.out _ _ hM4, rfl⟩
      exact results_two' (p := 4) (q := 5) (ty := 28) rfl _ _ (bf + 1) _ rfl (run_loadVar_row _ _ 28 28 _ (0, 0) _ (hM4.get 0 rfl) Tryz.underlying28 rfl hsz)
end Go.Proofs.YtngegdamcfmonaaGreat

