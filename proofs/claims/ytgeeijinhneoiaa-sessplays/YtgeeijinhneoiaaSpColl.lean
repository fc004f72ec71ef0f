/-
  Sessions, the program's own: slices.AppendSeq, slices.Collect over maps.Keys: all keys, each once.
-/
import Derived.Test.YtgeeijinhneoiaaSpIter
namespace Go.Proofs.Ytgeeijinhneoiaa
open Go.RowKit
open Sm
open Po
open Wh
set_option linter.unusedVariables false
set_option linter.unusedSimpArgs false
set_option maxRecDepth 20000

namespace Ss
/-- All the keys, in some order, in a list of the call's own. -/
def ClQ (w : World) (S : Ky → Option Value) (L : List (Nat × Obj)) (e : Ending) (W' : World) : Prop :=
  ∃ v vis D, e = .returned v ∧ vis.Nodup ∧ (∀ k, S k ≠ none ↔ k ∈ vis) ∧ (∀ k ∈ vis, KIn k) ∧ SlB 36 3 v vis.length (kx vis).flatten D ∧ Mem w W' (D ++ L)
set_option maxHeartbeats 4000000 in
theorem apseq_any {w W : World} {L : List (Nat × Obj)} {Bm a : Nat} {S : Ky → Option Value} {es : Array MapEntry} {c : Nat} (hI : MI 36 S es c) (dom : List Ky) (hdl : dom.length ≤ 1000) (hd : ∀ k, S k ≠ none → k ∈ dom) (hM : Mem w W ((Bm, .cells #[.map (some a)] 66 (0, 0)) :: (a, .map es c) :: L)) :
    Calls Try.prog 58 #[.slice none 0 0, .func (.func 51) #[] #[.pointer (some ⟨Bm, 0, none⟩)]] W (ClQ w S ((Bm, .cells #[.map (some a)] 66 (0, 0)) :: (a, .map es c) :: L)) := by
  refine (callsIn_wide (n := 5)).1 ?_
  have eg : ∀ args w, (callFunc 51 args).run Try.prog w = .ok (.enter 51 args) w := enters_of Try.func51 (by kernel_rfl) rfl
  refine callsIn_of_wp_marks Try.func58 rfl trivial ?_ rfl
  simp only [Try.ntmps58, List.size_toArray, List.length_cons, List.length_nil, Nat.reduceAdd, Nat.reduceSub, Array.replicate_succ, Array.replicate_zero, List.push_toArray, List.append_toArray, List.nil_append, List.cons_append]
  gi_wp2
  refine wpIn_rangeFunc ?_
  intro fn hfn
  obtain ⟨g, hg⟩ : ∃ g, W.heap.size = g := ⟨_, rfl⟩
  have hM0 := hM.push g (.cells #[.slice none 0 0] 76) hg.symm
  obtain ⟨W0, hW0⟩ : ∃ W0, W.alloc (.cells #[.slice none 0 0] 76) = W0 := ⟨_, rfl⟩
  have hs0 : W0.heap.size = g + 1 := by rw [← hW0, World.size_alloc, hg]
  rw [hW0] at hM0 ⊢
  have hM1 := (hM0.push (g + 1) (.deferred (some [])) hs0.symm).push (g + 2) (.loop (apRec fn (.func (.func 51) #[] #[.pointer (some ⟨Bm, 0, none⟩)]) g (g + 1) .ready none)) (by rw [World.size_alloc, hs0])
  obtain ⟨W1, hW1⟩ : ∃ W1, (W0.alloc (.deferred (some []))).alloc (.loop (apRec fn (.func (.func 51) #[] #[.pointer (some ⟨Bm, 0, none⟩)]) g (g + 1) .ready none)) = W1 := ⟨_, rfl⟩
  have hent := run_enterLoop_outer (P := Try.prog) (w := W0) fn #[.slice none 0 0, .func (.func 51) #[] #[.pointer (some ⟨Bm, 0, none⟩)], .pointer (some ⟨g, 0, none⟩), undef, .slice none 0 0, undef, .func (.func 51) #[] #[.pointer (some ⟨Bm, 0, none⟩)], undef, undef, undef, undef, undef, undef] #[7] apAssign apBody
  rw [hs0] at hent
  have hA : ApJ w fn (.func (.func 51) #[] #[.pointer (some ⟨Bm, 0, none⟩)]) g (g + 2) (g + 1) [] W1 ((Bm, .cells #[.map (some a)] 66 (0, 0)) :: (a, .map es c) :: L) := by
    refine ⟨.slice none 0 0, [], SlB.nil _ _, ?_⟩
    rw [← hW1]
    exact hM1.perm (by
    classical
    rw [List.perm_iff_count]
    intro q
    simp only [List.count_append, List.count_cons, List.count_nil]
    omega)
  simp only [hg]
  refine ⟨g + 2, [{ target := .collected (g + 1), args := #[] }], W1, { target := .fn (.func 51) #[.pointer (some ⟨Bm, 0, none⟩)], args := #[.func (.yield (g + 2)) #[] #[]] }, W1, 51,
    #[.func (.yield (g + 2)) #[] #[]] ++ #[.pointer (some ⟨Bm, 0, none⟩)], W1, ?_, ?_, ?_, ?_, fun _ => by omega, ?_⟩
  · rw [← hW1]; exact hent
  · simp [resolve, go_sem]
  · intro f' hf'; simp [Target.leads] at hf'; subst hf'; trivial
  · simp [invoke, go_sem, eg]
  · refine (keys1_any (F := Fence.wide) (n := 4) trivial rfl (by omega) hfn hI dom hdl hd hA).mono ?_
    rintro e W2 ⟨⟨v0, rfl⟩, vis, hn, hall, hvk, u, D, hu, hM2⟩
    have hend := run_endLoop (P := Try.prog) (hM2.get 1 rfl) (by simp [apRec])
    rw [put_blk] at hend
    have hM3 := mem_blk (o' := .loop { apRec fn (.func (.func 51) #[] #[.pointer (some ⟨Bm, 0, none⟩)]) g (g + 1) .ready none with state := .exhausted }) (hM2.perm (List.Perm.swap ..))
    obtain ⟨W3, hW3⟩ : ∃ W3, Go.ChangeMaps.setBlock W2 (g + 2) (.loop { apRec fn (.func (.func 51) #[] #[.pointer (some ⟨Bm, 0, none⟩)]) g (g + 1) .ready none with state := .exhausted }) = W3 := ⟨_, rfl⟩
    rw [hW3] at hend hM3
    obtain ⟨ua, uc, rfl, v1, v2⟩ := hu.slice
    have c0 : W3.cell? ⟨g, 0, none⟩ = some (.slice ua vis.length uc) := hM3.cell 1 rfl 0
    have hK3 : W3.heap[g + 1]? = some (.deferred (some [])) := hM3.get 2 rfl
    have HZ : Hid (ClQ w S ((Bm, .cells #[.map (some a)] 66 (0, 0)) :: (a, .map es c) :: L) (.returned (.slice ua vis.length uc)) (W3.putObj (g + 1) (.deferred none))) := by
      have hM4 := mem_blk (o' := .deferred none) (hM3.perm (show List.Perm _ ((g + 1, .deferred (some [])) :: (g, .cells #[.slice ua vis.length uc] 76 (0, 0)) :: (g + 2, .loop { apRec fn (.func (.func 51) #[] #[.pointer (some ⟨Bm, 0, none⟩)]) g (g + 1) .ready none with state := .exhausted }) :: (D ++ ((Bm, .cells #[.map (some a)] 66 (0, 0)) :: (a, .map es c) :: L))) from by
    classical
    rw [List.perm_iff_count]
    intro q
    simp only [List.count_append, List.count_cons, List.count_nil]
    omega))
      exact ⟨_, vis, D, rfl, hn, hall, hvk, hu, by rw [put_blk]; exact hM4.sub.sub.sub⟩
    refine ⟨none, W3, hend, ?_⟩
    clear hM2 hM3 hend hW3 hA hM1 hM0 hM hu hall hvk hn
    gi_wp2
    refine ⟨by simp, .inl ⟨_, _, rfl, run_takeDeferred hK3, ?_⟩⟩
    refine ⟨.slice ua vis.length uc, ?_, HZ.out⟩
    exact results_tmp (fn := Try.f58) (t := 4) rfl _ _ _
theorem collect_any {w W : World} {L : List (Nat × Obj)} {Bm a : Nat} {S : Ky → Option Value} {es : Array MapEntry} {c : Nat} (hI : MI 36 S es c) (dom : List Ky) (hdl : dom.length ≤ 1000) (hd : ∀ k, S k ≠ none → k ∈ dom) (hM : Mem w W ((Bm, .cells #[.map (some a)] 66 (0, 0)) :: (a, .map es c) :: L)) :
    Calls Try.prog 49 #[.func (.func 51) #[] #[.pointer (some ⟨Bm, 0, none⟩)]] W (ClQ w S ((Bm, .cells #[.map (some a)] 66 (0, 0)) :: (a, .map es c) :: L)) := by
  have C1 := apseq_any hI dom hdl hd hM
  clear hI hd hM
  go_enter Try.func49, Try.ntmps49
  go_wp2_with fail
  with_reducible refine C1.mono ?_
  intro e W2 h
  obtain ⟨v, vis, D, rfl, h1, h2, h3, h4, h5⟩ := h
  have HZ : Hid (ClQ w S ((Bm, .cells #[.map (some a)] 66 (0, 0)) :: (a, .map es c) :: L) (.returned v) W2) := ⟨v, vis, D, rfl, h1, h2, h3, h4, h5⟩
  clear C1 h1 h2 h3 h4 h5
  go_wp2_with fail
  go_ret
  exact HZ.out
theorem keys_any {W : World} (a : Nat) : Calls Try.prog 40 #[.map (some a)] W fun e W' => e = .returned (.func (.func 51) #[] #[.pointer (some ⟨W.heap.size, 0, none⟩)]) ∧ W' = W.alloc (.cells #[.map (some a)] 66) := by
  go_enter Try.func40, Try.ntmps40
  go_wp2_with fail
  go_ret
  exact ⟨rfl, rfl⟩
end Ss
end Go.Proofs.Ytgeeijinhneoiaa
