/-
  Wheel, the program's own: a list of what is due, sorted in its block.
-/
import Derived.Test.YtfplmefcblkljaaWpCmp
namespace Go.Proofs.Ytfplmefcblkljaa
open Go.RowKit
open Sm
open Po
open Wh
open Go.Sort Go.Shelf
set_option linter.unusedVariables false
set_option linter.unusedSimpArgs false
set_option maxRecDepth 20000

namespace Wp
theorem mem_blk {w V : World} {L : List (Nat × Obj)} {b : Nat} {o o' : Obj} (h : Mem w V ((b, o) :: L)) : Mem w (Go.ChangeMaps.setBlock V b o') ((b, o') :: L) := by
  have hlt : b < V.heap.size := h.lt (List.mem_cons_self ..)
  have hlow : w.heap.size ≤ b := h.low _ (List.mem_cons_self ..)
  have hat : ∀ k, (Go.ChangeMaps.setBlock V b o').heap[k]? = if k = b then some o' else V.heap[k]? := fun k => by
    show (V.heap.setIfInBounds b o')[k]? = _
    rw [Array.getElem?_setIfInBounds]
    by_cases e : b = k
    · subst e; simp [hlt]
    · simp [e, Ne.symm e]
  have hap := h.apart
  simp only [List.map_cons, List.nodup_cons] at hap
  refine ⟨⟨h.below.os, h.below.tape, h.below.output, ?_, fun k hk => ?_⟩, fun q hq => ?_, fun q hq => ?_, by simpa using hap⟩
  · show _ ≤ (V.heap.setIfInBounds b o').size
    rw [Array.size_setIfInBounds]
    exact h.below.size
  · rw [hat, if_neg (by omega)]
    exact h.below.block k hk
  · rcases List.mem_cons.1 hq with rfl | hq
    · exact hlow
    · exact h.low q (List.mem_cons_of_mem _ hq)
  · rcases List.mem_cons.1 hq with rfl | hq
    · rw [hat, if_pos rfl]
    · have hne : q.1 ≠ b := fun e => hap.1 (e ▸ List.mem_map_of_mem hq)
      rw [hat, if_neg hne]
      exact h.at_ q (List.mem_cons_of_mem _ hq)
/-- A list of what is due, as its cells. -/
def ex (l : List Du) : List (List Value) := l.map encD
theorem ex_len {l : List Du} : ∀ x ∈ ex l, x.length = 2 := by
  intro x hx
  obtain ⟨d, -, rfl⟩ := List.mem_map.1 hx
  rfl
theorem ex_size (l : List Du) : (ex l).length = l.length := by simp [ex]
theorem ef_len : ∀ (xs : List Du), (ex xs).flatten.length = xs.length * 2
  | [] => rfl
  | x :: xs => by
    have := ef_len xs
    show (encD x ++ (ex xs).flatten).length = _
    rw [List.length_append, this, List.length_cons]
    show 2 + _ = _
    omega
theorem ef_app (xs ys : List Du) : (ex (xs ++ ys)).flatten = (ex xs).flatten ++ (ex ys).flatten := by simp [ex]
theorem ef_one {xs : List Du} : ∀ u ∈ (ex xs).flatten, u.oneCell' = true := by
  intro u hu
  rw [List.mem_flatten] at hu
  obtain ⟨l, hl, hu⟩ := hu
  obtain ⟨m, -, rfl⟩ := List.mem_map.1 hl
  simp only [encD, List.mem_cons, List.not_mem_nil, or_false] at hu
  rcases hu with rfl | rfl <;> rfl
theorem ef_at {xs : List Du} {i : Nat} (hi : i < xs.length) : (ex xs).flatten[i * 2]? = some (.int .u32 xs[i].2) ∧ (ex xs).flatten[i * 2 + 1]? = some (.int .i64 xs[i].1) := by
  have e : (ex xs).getD i [] = encD xs[i] := by simp [ex, List.getD, List.getElem?_eq_getElem hi]
  exact ⟨flat_at (ex xs) i 0 _ ex_len (by rw [e]; rfl), flat_at (ex xs) i 1 _ ex_len (by rw [e]; rfl)⟩
theorem flat_ex (l : List Du) : (flatK encD 2 l.toArray).toList = (ex l).flatten := by
  apply List.ext_getElem?
  intro t
  have hs : (flatK encD 2 l.toArray).size = l.length * 2 := by simp
  by_cases ht : t < l.length * 2
  · have hi : t / 2 < l.length := by omega
    have h1 := get_flatK encD 2 l.toArray t (by simpa using ht)
    rw [Array.getElem?_toList, Array.getElem?_eq_getElem (by rw [hs]; exact ht)]
    have h2 : (flatK encD 2 l.toArray)[t]'(by rw [hs]; exact ht) = (flatK encD 2 l.toArray)[t]! := (getElem!_pos _ t (by rw [hs]; exact ht)).symm
    rw [h2, h1]
    have h3 : l.toArray[t / 2]! = l[t / 2] := by simp [hi]
    rw [h3]
    obtain ⟨a0, a1⟩ := ef_at hi
    generalize l[t / 2] = d at a0 a1 ⊢
    rcases Nat.mod_two_eq_zero_or_one t with hm | hm
    · rw [show t / 2 * 2 = t by omega] at a0
      rw [hm, a0]
      rfl
    · rw [show t / 2 * 2 + 1 = t by omega] at a1
      rw [hm, a1]
      rfl
  · rw [Array.getElem?_toList, Array.getElem?_eq_none (by rw [hs]; omega), List.getElem?_eq_none (by rw [ef_len]; omega)]
theorem put_set {V : World} {g : Nat} {cur : Array Value} {T : TypeId} {F : Array Value} (hg : V.heap[g]? = some (.cells cur T (0, 0))) : putRow id V g 0 F = V.setRow g (putCells id 0 F cur) := by
  unfold putRow mapBlock World.setRow
  congr 1
  apply Array.ext_getElem?
  intro k
  rw [Array.getElem?_modify, Array.getElem?_modify]
  by_cases e : g = k
  · subst e
    simp [hg, onCells]
  · simp [e]
theorem putc_take (cur F : Array Value) (h : F.size ≤ cur.size) : (putCells id 0 F cur).toList.take F.size = F.toList := by
  apply List.ext_getElem?
  intro j
  by_cases hj : j < F.size
  · rw [List.getElem?_take_of_lt hj, Array.getElem?_toList]
    simp [putCells, hj, show j < cur.size by omega]
  · rw [List.getElem?_take_eq_none (by omega), List.getElem?_eq_none (by simp; omega)]
theorem below_grow (w : World) (os : Array Obj) : Go.RowKit.Below w.heap.size w (grow w os) := by
  refine ⟨rfl, rfl, rfl, by simp [grow], fun k hk => ?_⟩
  show (w.heap ++ os)[k]? = _
  rw [Array.getElem?_append_left hk]
def srt (l : List Du) : List Du := l.mergeSort fun x y => !(ltOf cfo) y x
theorem srt_perm (l : List Du) : (srt l).Perm l := List.mergeSort_perm ..
theorem srt_len (l : List Du) : (srt l).length = l.length := (srt_perm l).length_eq
theorem srt_eq {l m : List Du} (hp : m.Perm l) (hs : m.Pairwise dlt) : srt l = m := by
  refine List.Perm.eq_of_pairwise (le := fun x y => (!(ltOf cfo) y x) = true) ?_ ?_ ?_ ((srt_perm l).trans hp.symm)
  · intro x y _ _ h1 h2
    exact cfo_tot x y (by simpa using h2) (by simpa using h1)
  · refine List.pairwise_mergeSort ?_ ?_ _
    · intro x y z h1 h2
      simp only [Bool.not_eq_true', cfo_lt, decide_eq_false_iff_not] at *
      unfold dlt at *
      omega
    · intro x y
      simp only [Bool.or_eq_true, Bool.not_eq_true', cfo_lt, decide_eq_false_iff_not]
      unfold dlt
      omega
  · refine hs.imp fun {x y} h => ?_
    simp only [Bool.not_eq_true', cfo_lt, decide_eq_false_iff_not]
    unfold dlt at *
    omega
theorem sort_slb {w V : World} {v : Value} {l : List Du} {B L : List (Nat × Obj)} (h : SlB 64 2 v l.length (ex l).flatten B) (hM : Mem w V (B ++ L)) (hl : l.length ≤ 1000000) :
    Calls Try.prog 24 #[v, .func (.func 25) #[] #[]] V fun e V' => e = .returned (.tuple #[]) ∧ ∃ B', Mem w V' (B' ++ L) ∧ SlB 64 2 v (srt l).length (ex (srt l)).flatten B' := by
  obtain ⟨hx, ⟨rfl, h0, rfl⟩ | ⟨g, cap, cur, rfl, rfl, h1, h2, h3, h4⟩⟩ := h
  · have : l = [] := List.eq_nil_of_length_eq_zero h0
    subst this
    refine (AnyF.slices_SortFunc_none Try.sortOne none 0 _ V).mono ?_
    rintro e V' ⟨rfl, rfl⟩
    have e0 : srt [] = [] := List.eq_nil_of_length_eq_zero (srt_len [])
    rw [e0]
    exact ⟨rfl, [], hM, SlB.nil _ _⟩
  · have hg := hM.get 0 rfl
    have hH : HoldsK encD 2 V g 0 l.toArray := by
      intro j hj
      have hF := flat_ex l
      have hj' : j < (ex l).flatten.length := by rw [← hF]; simpa using hj
      refine ⟨?_, hM.free 0 rfl _⟩
      rw [hM.cell 0 rfl, Nat.zero_add, ← Array.getElem?_toList]
      have e1 : cur.toList[j]? = (ex l).flatten[j]? := by
        rw [← h4, List.getElem?_take_of_lt (by rw [hx] at hj'; exact hj')]
      rw [e1, ← hF, Array.getElem?_toList, Array.getElem?_eq_getElem hj]
      exact congrArg some (getElem!_pos (flatK encD 2 l.toArray) j hj).symm
    have eg : ∀ args w, (callFunc 25 args).run Try.prog w = .ok (.enter 25 args) w := enters_of Try.func25 (by kernel_rfl) rfl
    have hc : CmpLays Try.prog 25 #[] encD 2 cfo g 0 l.toArray.size V := fun _ _ _ _ x y => inOrder_any x y _
    have hcon := AnyQ.slices_SortFunc_total Try.sortOne 2 Try.isAgg64 Try.sizeOf64 encD (fun _ => rfl) (fun x v hv => by simp [encD] at hv; rcases hv with rfl | rfl <;> rfl) cfo cfo_swo 25 #[] g 0 cap l.toArray V eg hc hH (hM.lt (List.mem_cons_self ..)) (by simp; omega) cfo_tot
    change Calls Try.prog 24 _ _ _ at hcon
    have hsz : l.toArray.size = l.length := List.size_toArray
    rw [hsz] at hcon
    refine hcon.mono ?_
    rintro e V' ⟨rfl, n, os, rfl⟩
    refine ⟨rfl, _, ?_, ?_, Or.inr ⟨g, cap, putCells id 0 (flatK encD 2 (srt l).toArray) cur, by rw [srt_len], rfl, by rw [srt_len]; exact h1, h2, by simpa [putCells] using h3, ?_⟩⟩
    · unfold sortWorldK putRowK
      have hM1 : Mem w (Sort.ahead V n) ([(g, .cells cur 64 (0, 0))] ++ L) := hM.drewN n
      have hg1 := hM1.get 0 rfl
      rw [put_set hg1]
      exact (hM1.wrote 0 rfl (wrote_setRow _ g cur _ _ hg1)).after (below_grow _ _)
    · rw [ef_len]
    · have hs : (flatK encD 2 (srt l).toArray).size = (srt l).length * 2 := by simp
      have := putc_take cur (flatK encD 2 (srt l).toArray) (by rw [hs, srt_len]; omega)
      rw [hs] at this
      rw [this, flat_ex]
end Wp
end Go.Proofs.Ytfplmefcblkljaa
