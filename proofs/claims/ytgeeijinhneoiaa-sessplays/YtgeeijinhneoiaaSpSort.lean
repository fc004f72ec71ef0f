/-
  Sessions, the program's own: a list of keys, sorted in its block; slices.SortedFunc of maps.Keys.
-/
import Derived.Test.YtgeeijinhneoiaaSpCmp
namespace Go.Proofs.Ytgeeijinhneoiaa
open Go.RowKit
open Sm
open Po
open Wh
open Go.Sort Go.Shelf
set_option linter.unusedVariables false
set_option linter.unusedSimpArgs false
set_option maxRecDepth 20000

namespace Ss
theorem kf_len : ∀ (xs : List Ky), (kx xs).flatten.length = xs.length * 3
  | [] => rfl
  | x :: xs => by
    have := kf_len xs
    show (kc x ++ (kx xs).flatten).length = _
    rw [List.length_append, this, List.length_cons]
    show 3 + _ = _
    omega
theorem kf_at {xs : List Ky} {i : Nat} (hi : i < xs.length) : (kx xs).flatten[i * 3]? = some (.int .u8 xs[i].1) ∧ (kx xs).flatten[i * 3 + 1]? = some (.int .u32 xs[i].2.1) ∧ (kx xs).flatten[i * 3 + 2]? = some (.int .u16 xs[i].2.2) := by
  have e : (kx xs).getD i [] = kc xs[i] := by simp [kx, List.getD, List.getElem?_eq_getElem hi]
  exact ⟨flat_at (kx xs) i 0 _ kx_three (by rw [e]; rfl), flat_at (kx xs) i 1 _ kx_three (by rw [e]; rfl), flat_at (kx xs) i 2 _ kx_three (by rw [e]; rfl)⟩
theorem flat_kx (l : List Ky) : (flatK kc 3 l.toArray).toList = (kx l).flatten := by
  apply List.ext_getElem?
  intro t
  have hs : (flatK kc 3 l.toArray).size = l.length * 3 := by simp
  by_cases ht : t < l.length * 3
  · have hi : t / 3 < l.length := by omega
    have h1 := get_flatK kc 3 l.toArray t (by simpa using ht)
    rw [Array.getElem?_toList, Array.getElem?_eq_getElem (by rw [hs]; exact ht)]
    have h2 : (flatK kc 3 l.toArray)[t]'(by rw [hs]; exact ht) = (flatK kc 3 l.toArray)[t]! := (getElem!_pos _ t (by rw [hs]; exact ht)).symm
    rw [h2, h1]
    have h3 : l.toArray[t / 3]! = l[t / 3] := by simp [hi]
    rw [h3]
    obtain ⟨a0, a1, a2⟩ := kf_at hi
    generalize l[t / 3] = d at a0 a1 a2 ⊢
    rcases show t % 3 = 0 ∨ t % 3 = 1 ∨ t % 3 = 2 by omega with hm | hm | hm
    · rw [show t / 3 * 3 = t by omega] at a0
      rw [hm, a0]
      rfl
    · rw [show t / 3 * 3 + 1 = t by omega] at a1
      rw [hm, a1]
      rfl
    · rw [show t / 3 * 3 + 2 = t by omega] at a2
      rw [hm, a2]
      rfl
  · rw [Array.getElem?_toList, Array.getElem?_eq_none (by rw [hs]; omega), List.getElem?_eq_none (by rw [kf_len]; omega)]
theorem put_set {V : World} {g : Nat} {cur : Array Value} {T : TypeId} {F : Array Value} (hg : V.heap[g]? = some (.cells cur T (0, 0))) : putRow id V g 0 F = V.setRow g (putCells id 0 F cur) := by
  unfold putRow mapBlock World.setRow
  congr 1
  apply Array.ext_getElem?
  intro k
  rw [Array.getElem?_modify, Array.getElem?_modify]
  by_cases e : g = k
  · subst e
    simp [hg, onCells]
  · simp [e]
theorem putc_take (cur F : Array Value) (h : F.size ≤ cur.size) : (putCells id 0 F cur).toList.take F.size = F.toList := by
  apply List.ext_getElem?
  intro j
  by_cases hj : j < F.size
  · rw [List.getElem?_take_of_lt hj, Array.getElem?_toList]
    simp [putCells, hj, show j < cur.size by omega]
  · rw [List.getElem?_take_eq_none (by omega), List.getElem?_eq_none (by simp; omega)]
theorem below_grow (w : World) (os : Array Obj) : Go.RowKit.Below w.heap.size w (grow w os) := by
  refine ⟨rfl, rfl, rfl, by simp [grow], fun k hk => ?_⟩
  show (w.heap ++ os)[k]? = _
  rw [Array.getElem?_append_left hk]
def srt (l : List Ky) : List Ky := l.mergeSort fun x y => !(ltOf cfk) y x
theorem srt_perm (l : List Ky) : (srt l).Perm l := List.mergeSort_perm ..
theorem srt_len (l : List Ky) : (srt l).length = l.length := (srt_perm l).length_eq
theorem srt_eq {l m : List Ky} (hp : m.Perm l) (hs : m.Pairwise klt) : srt l = m := by
  refine List.Perm.eq_of_pairwise (le := fun x y => (!(ltOf cfk) y x) = true) ?_ ?_ ?_ ((srt_perm l).trans hp.symm)
  · intro x y _ _ h1 h2
    exact cfk_tot x y (by simpa using h2) (by simpa using h1)
  · refine List.pairwise_mergeSort ?_ ?_ _
    · intro x y z h1 h2
      simp only [Bool.not_eq_true', cfk_lt, decide_eq_false_iff_not] at *
      unfold klt at *
      omega
    · intro x y
      simp only [Bool.or_eq_true, Bool.not_eq_true', cfk_lt, decide_eq_false_iff_not]
      unfold klt
      omega
  · refine hs.imp fun {x y} h => ?_
    simp only [Bool.not_eq_true', cfk_lt, decide_eq_false_iff_not]
    unfold klt at *
    omega
theorem sort_slb {w V : World} {v : Value} {l : List Ky} {B L : List (Nat × Obj)} (h : SlB 36 3 v l.length (kx l).flatten B) (hM : Mem w V (B ++ L)) (hl : l.length ≤ 1000000) :
    Calls Try.prog 50 #[v, .func (.func 41) #[] #[]] V fun e V' => e = .returned (.tuple #[]) ∧ ∃ B', Mem w V' (B' ++ L) ∧ SlB 36 3 v (srt l).length (kx (srt l)).flatten B' := by
  obtain ⟨hx, ⟨rfl, h0, rfl⟩ | ⟨g, cap, cur, rfl, rfl, h1, h2, h3, h4⟩⟩ := h
  · have : l = [] := List.eq_nil_of_length_eq_zero h0
    subst this
    refine (AnyF.slices_SortFunc_none Try.sortKey none 0 _ V).mono ?_
    rintro e V' ⟨rfl, rfl⟩
    have e0 : srt [] = [] := List.eq_nil_of_length_eq_zero (srt_len [])
    rw [e0]
    exact ⟨rfl, [], hM, SlB.nil _ _⟩
  · have hg := hM.get 0 rfl
    have hH : HoldsK kc 3 V g 0 l.toArray := by
      intro j hj
      have hF := flat_kx l
      have hj' : j < (kx l).flatten.length := by rw [← hF]; simpa using hj
      refine ⟨?_, hM.free 0 rfl _⟩
      rw [hM.cell 0 rfl, Nat.zero_add, ← Array.getElem?_toList]
      have e1 : cur.toList[j]? = (kx l).flatten[j]? := by
        rw [← h4, List.getElem?_take_of_lt (by rw [hx] at hj'; exact hj')]
      rw [e1, ← hF, Array.getElem?_toList, Array.getElem?_eq_getElem hj]
      exact congrArg some (getElem!_pos (flatK kc 3 l.toArray) j hj).symm
    have eg : ∀ args w, (callFunc 41 args).run Try.prog w = .ok (.enter 41 args) w := enters_of Try.func41 (by kernel_rfl) rfl
    have hc : CmpLays Try.prog 41 #[] kc 3 cfk g 0 l.toArray.size V := fun _ _ _ _ x y => inOrder_any x y _
    have hcon := AnyQ.slices_SortFunc_total Try.sortKey 3 Try.isAgg36 Try.sizeOf36 kc (fun _ => rfl) (fun x v hv => by simp [kc] at hv; rcases hv with rfl | rfl | rfl <;> rfl) cfk cfk_swo 41 #[] g 0 cap l.toArray V eg hc hH (hM.lt (List.mem_cons_self ..)) (by simp; omega) cfk_tot
    change Calls Try.prog 50 _ _ _ at hcon
    have hsz : l.toArray.size = l.length := List.size_toArray
    rw [hsz] at hcon
    refine hcon.mono ?_
    rintro e V' ⟨rfl, n, os, rfl⟩
    refine ⟨rfl, _, ?_, ?_, Or.inr ⟨g, cap, putCells id 0 (flatK kc 3 (srt l).toArray) cur, by rw [srt_len], rfl, by rw [srt_len]; exact h1, h2, by simpa [putCells] using h3, ?_⟩⟩
    · unfold sortWorldK putRowK
      have hM1 : Mem w (Sort.ahead V n) ([(g, .cells cur 36 (0, 0))] ++ L) := hM.drewN n
      have hg1 := hM1.get 0 rfl
      rw [put_set hg1]
      exact (hM1.wrote 0 rfl (wrote_setRow _ g cur _ _ hg1)).after (below_grow _ _)
    · rw [kf_len]
    · have hs : (flatK kc 3 (srt l).toArray).size = (srt l).length * 3 := by simp
      have := putc_take cur (flatK kc 3 (srt l).toArray) (by rw [hs, srt_len]; omega)
      rw [hs] at this
      rw [this, flat_kx]
/-- The keys, sorted. -/
def SoQ (w : World) (ks : List Ky) (L : List (Nat × Obj)) (e : Ending) (W' : World) : Prop :=
  ∃ v D, e = .returned v ∧ SlB 36 3 v ks.length (kx ks).flatten D ∧ Mem w W' (D ++ L)
set_option maxHeartbeats 4000000 in
theorem sorted_any {w W : World} {L : List (Nat × Obj)} {Bm a : Nat} {S : Ky → Option Value} {es : Array MapEntry} {c : Nat} (hI : MI 36 S es c) {ks : List Ky} (hkl : ks.length ≤ 1000) (hd : ∀ k, S k ≠ none ↔ k ∈ ks) (hks : ks.Pairwise klt) (hM : Mem w W ((Bm, .cells #[.map (some a)] 66 (0, 0)) :: (a, .map es c) :: L)) :
    Calls Try.prog 39 #[.func (.func 51) #[] #[.pointer (some ⟨Bm, 0, none⟩)], .func (.func 41) #[] #[]] W (SoQ w ks ((Bm, .cells #[.map (some a)] 66 (0, 0)) :: (a, .map es c) :: L)) := by
  have C1 := collect_any hI ks hkl (fun k hk => (hd k).1 hk) hM
  have HD : Hid (∀ k, S k ≠ none ↔ k ∈ ks) := hd
  have HK : Hid (ks.Pairwise klt ∧ ks.length ≤ 1000) := ⟨hks, hkl⟩
  clear hI hd hM hks hkl
  go_enter Try.func39, Try.ntmps39
  go_wp2_with fail
  with_reducible refine C1.mono ?_
  intro e W2 h
  obtain ⟨v, vis, D, rfl, h1, h2, h3, h4, h5⟩ := h
  clear C1
  have hp : ks.Perm vis := by
    classical
    have hn : ks.Nodup := HK.out.1.imp fun {x y} h => klt_ne h
    exact (List.perm_ext_iff_of_nodup hn h1).2 fun q => by rw [← HD.out q, h2 q]
  have hl : vis.length = ks.length := hp.length_eq.symm
  have C2 := sort_slb h4 h5 (by rw [hl]; have := HK.out.2; omega)
  have he : srt vis = ks := srt_eq hp HK.out.1
  rw [he] at C2
  obtain ⟨ua, uc, rfl, v1, v2⟩ := h4.slice
  rw [hl] at C2 ⊢
  obtain ⟨n, hn⟩ : ∃ n, ks.length = n := ⟨_, rfl⟩
  have HN : Hid (ks.length = n) := hn
  rw [hn] at C2 ⊢
  clear h1 h2 h3 h4 h5 hp hl he hn v1
  go_wp2_with fail
  with_reducible refine C2.mono ?_
  rintro e W3 ⟨rfl, D', hM', hS'⟩
  have HZ : Hid (SoQ w ks ((Bm, .cells #[.map (some a)] 66 (0, 0)) :: (a, .map es c) :: L) (.returned (.slice ua n uc)) W3) := ⟨_, D', rfl, by rw [HN.out]; exact hS', hM'⟩
  clear C2 hM' hS'
  go_wp2_with fail
  go_ret
  exact HZ.out
end Ss
end Go.Proofs.Ytgeeijinhneoiaa
