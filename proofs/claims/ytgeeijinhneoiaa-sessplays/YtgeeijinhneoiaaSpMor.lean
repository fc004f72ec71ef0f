/-
  Sessions, the program's own: what a table's maps hold behind an add, a put, a drop.
-/
import Derived.Test.YtgeeijinhneoiaaSpOut
namespace Go.Proofs.Ytgeeijinhneoiaa
open Go.RowKit
open Sm
open Po
open Wh
set_option linter.unusedVariables false
set_option linter.unusedSimpArgs false
set_option maxRecDepth 20000

namespace Ss
section
variable {xs : List Sn} {S1 S2 : Ky → Option Value} {D D' L : List (Nat × Obj)}
/-- One session changed to s, its outside point as it was. -/
def ptf (s x : Sn) : Sn := if key x = key s then { s with oip := x.oip, op := x.op } else x
theorem ptf_key (s x : Sn) : key (ptf s x) = key x := by
  unfold ptf
  split
  · rename_i h; rw [h]; rfl
  · rfl
theorem ptf_okey (s x : Sn) : okey (ptf s x) = okey x := by
  unfold ptf
  split
  · rename_i h
    have : x.pr = s.pr := congrArg Prod.fst h
    unfold okey
    rw [this]
  · rfl
theorem pt_map {s : Sn} : ∀ {xs : List Sn}, (xs.Pairwise fun x y => klt (key x) (key y)) → pt s xs = xs.map (ptf s)
  | [], _ => rfl
  | x :: r, h => by
    obtain ⟨h1, h2⟩ := List.pairwise_cons.1 h
    unfold pt
    by_cases hk : key x = key s
    · rw [if_pos hk, List.map_cons]
      have e1 : ptf s x = { s with oip := x.oip, op := x.op } := by unfold ptf; rw [if_pos hk]
      have e2 : r.map (ptf s) = r := by
        conv => rhs; rw [← List.map_id r]
        refine List.map_congr_left fun y hy => ?_
        unfold ptf
        rw [if_neg fun e => klt_ne (h1 y hy) (hk.trans e.symm)]
        rfl
      rw [e1, e2]
    · rw [if_neg hk, List.map_cons, pt_map h2]
      unfold ptf
      rw [if_neg hk]
theorem TS.put (h : TS xs S1 S2 D) {s x : Sn} (hx : x ∈ xs) (hk : key x = key s) (hs : SIn s) (hn : s.ps.length ≤ 1000) {pv : Value} (hp : SlF 34 2 pv s.ps.length (px s.ps).flatten D') (hD : ∀ q ∈ D, q ∈ D') : TS (pt s xs) (upd S1 (key s) (some (sv { s with oip := x.oip, op := x.op } pv))) S2 D' := by
  rw [pt_map h.sorted]
  have hm : ∀ y ∈ xs.map (ptf s), ∃ y0 ∈ xs, ptf s y0 = y := fun y hy => List.mem_map.1 hy
  have hz : ∀ y ∈ xs, key y = key s → ptf s y = { s with oip := x.oip, op := x.op } := fun y hy e => by
    rw [h.inj1 hy hx (e.trans hk.symm)]
    unfold ptf
    rw [if_pos hk]
  refine ⟨fun y hy => ?_, fun k hn => ?_, fun y hy => ?_, fun k hn => ?_, ?_, ?_, fun y hy => ?_, fun y hy => ?_⟩
  · obtain ⟨y0, h0, rfl⟩ := hm y hy
    rw [ptf_key]
    by_cases e : key y0 = key s
    · rw [e, upd_at, hz y0 h0 e]
      exact ⟨pv, rfl, hp⟩
    · rw [upd_off _ _ e]
      have : ptf s y0 = y0 := by unfold ptf; rw [if_neg e]
      rw [this]
      obtain ⟨qv, h1, h2⟩ := h.have1 y0 h0
      exact ⟨qv, h1, h2.mono hD⟩
  · have e : k ≠ key s := fun e => hn (ptf s x) (List.mem_map_of_mem hx) (by rw [ptf_key, hk, e])
    rw [upd_off _ _ e]
    exact h.none1 k fun y hy e1 => hn (ptf s y) (List.mem_map_of_mem hy) (by rw [ptf_key, e1])
  · obtain ⟨y0, h0, rfl⟩ := hm y hy
    rw [ptf_okey, ptf_key]
    exact h.have2 y0 h0
  · exact h.none2 k fun y hy e1 => hn (ptf s y) (List.mem_map_of_mem hy) (by rw [ptf_okey, e1])
  · rw [List.pairwise_map]
    simp only [ptf_key]
    exact h.sorted
  · rw [List.pairwise_map]
    simp only [ptf_okey]
    exact h.apart
  · obtain ⟨y0, h0, rfl⟩ := hm y hy
    by_cases e : key y0 = key s
    · rw [hz y0 h0 e]
      exact ⟨hs.1, (h.fits x hx).2.1, hs.2.2⟩
    · have : ptf s y0 = y0 := by unfold ptf; rw [if_neg e]
      rw [this]
      exact h.fits y0 h0
  · obtain ⟨y0, h0, rfl⟩ := hm y hy
    by_cases e : key y0 = key s
    · rw [hz y0 h0 e]
      exact hn
    · have : ptf s y0 = y0 := by unfold ptf; rw [if_neg e]
      rw [this]
      exact h.few y0 h0
theorem dk_filter {k : Ky} : ∀ {xs : List Sn}, (xs.Pairwise fun x y => klt (key x) (key y)) → dk k xs = xs.filter fun x => decide (key x ≠ k)
  | [], _ => rfl
  | x :: r, h => by
    obtain ⟨h1, h2⟩ := List.pairwise_cons.1 h
    unfold dk
    by_cases hk : key x = k
    · rw [if_pos hk, List.filter_cons_of_neg (by simp [hk])]
      refine (List.filter_eq_self.2 fun y hy => ?_).symm
      simp only [decide_eq_true_eq]
      exact fun e => klt_ne (h1 y hy) (hk.trans e.symm)
    · rw [if_neg hk, List.filter_cons_of_pos (by simp [hk]), dk_filter h2]
theorem TS.drop (h : TS xs S1 S2 D) {x : Sn} (hx : x ∈ xs) : TS (dk (key x) xs) (upd S1 (key x) none) (upd S2 (okey x) none) D := by
  rw [dk_filter h.sorted]
  have hm : ∀ y, y ∈ (xs.filter fun y => decide (key y ≠ key x)) ↔ y ∈ xs ∧ key y ≠ key x := fun y => by simp
  refine ⟨fun y hy => ?_, fun k hn => ?_, fun y hy => ?_, fun k hn => ?_, h.sorted.filter _, h.apart.filter _, fun y hy => h.fits y ((hm y).1 hy).1, fun y hy => h.few y ((hm y).1 hy).1⟩
  · obtain ⟨h1, h2⟩ := (hm y).1 hy
    rw [upd_off _ _ h2]
    exact h.have1 y h1
  · by_cases e : k = key x
    · rw [e, upd_at]
    · rw [upd_off _ _ e]
      exact h.none1 k fun y hy e1 => hn y ((hm y).2 ⟨hy, by rw [e1]; exact e⟩) e1
  · obtain ⟨h1, h2⟩ := (hm y).1 hy
    rw [upd_off _ _ fun e => h2 (by rw [h.inj2 h1 hx e])]
    exact h.have2 y h1
  · by_cases e : k = okey x
    · rw [e, upd_at]
    · rw [upd_off _ _ e]
      refine h.none2 k fun y hy e1 => hn y ((hm y).2 ⟨hy, fun e2 => e ?_⟩) e1
      rw [← e1, h.inj1 hy hx e2]
theorem ins_perm (s : Sn) : ∀ xs : List Sn, (ins s xs).Perm (s :: xs)
  | [] => List.Perm.refl _
  | x :: r => by
    unfold ins
    split
    · exact (List.Perm.cons x (ins_perm s r)).trans (List.Perm.swap ..)
    · exact List.Perm.refl _
theorem ins_sorted {s : Sn} : ∀ {xs : List Sn}, (xs.Pairwise fun x y => klt (key x) (key y)) → (∀ x ∈ xs, key x ≠ key s) → (ins s xs).Pairwise fun x y => klt (key x) (key y)
  | [], _, _ => List.pairwise_singleton ..
  | x :: r, h, hn => by
    obtain ⟨h1, h2⟩ := List.pairwise_cons.1 h
    unfold ins
    split
    · rename_i hk
      refine List.pairwise_cons.2 ⟨fun y hy => ?_, ins_sorted h2 fun y hy => hn y (List.mem_cons_of_mem _ hy)⟩
      rcases List.mem_cons.1 ((ins_perm s r).mem_iff.1 hy) with rfl | hy
      · exact hk
      · exact h1 y hy
    · rename_i hk
      have hlt : klt (key s) (key x) := by
        apply Classical.byContradiction
        intro hc
        exact hn x (List.mem_cons_self ..) (klt_tot hk hc)
      refine List.pairwise_cons.2 ⟨fun y hy => ?_, h⟩
      rcases List.mem_cons.1 hy with rfl | hy
      · exact hlt
      · exact klt_trans hlt (h1 y hy)
theorem TS.add (h : TS xs S1 S2 D) {s : Sn} (h1 : ∀ x ∈ xs, key x ≠ key s) (h2 : ∀ x ∈ xs, okey x ≠ okey s) (hs : SIn s) (hn : s.ps.length ≤ 1000) {pv : Value} (hp : SlF 34 2 pv s.ps.length (px s.ps).flatten D') (hD : ∀ q ∈ D, q ∈ D') : TS (ins s xs) (upd S1 (key s) (some (sv s pv))) (upd S2 (okey s) (some (kv (key s)))) D' := by
  have hm : ∀ y, y ∈ ins s xs ↔ y = s ∨ y ∈ xs := fun y => by rw [(ins_perm s xs).mem_iff, List.mem_cons]
  refine ⟨fun y hy => ?_, fun k hk => ?_, fun y hy => ?_, fun k hk => ?_, ins_sorted h.sorted h1, ?_, fun y hy => ?_, fun y hy => ?_⟩
  · rcases (hm y).1 hy with rfl | hy
    · rw [upd_at]
      exact ⟨pv, rfl, hp⟩
    · rw [upd_off _ _ (h1 y hy)]
      obtain ⟨qv, e1, e2⟩ := h.have1 y hy
      exact ⟨qv, e1, e2.mono hD⟩
  · rw [upd_off _ _ fun e => hk s ((hm s).2 (Or.inl rfl)) e.symm]
    exact h.none1 k fun y hy => hk y ((hm y).2 (Or.inr hy))
  · rcases (hm y).1 hy with rfl | hy
    · rw [upd_at]
    · rw [upd_off _ _ (h2 y hy)]
      exact h.have2 y hy
  · rw [upd_off _ _ fun e => hk s ((hm s).2 (Or.inl rfl)) e.symm]
    exact h.none2 k fun y hy => hk y ((hm y).2 (Or.inr hy))
  · rw [(ins_perm s xs).pairwise_iff fun {a b} hab => Ne.symm hab]
    exact List.pairwise_cons.2 ⟨fun y hy => (h2 y hy).symm, h.apart⟩
  · rcases (hm y).1 hy with rfl | hy
    · exact hs
    · exact h.fits y hy
  · rcases (hm y).1 hy with rfl | hy
    · exact hn
    · exact h.few y hy
end
end Ss
end Go.Proofs.Ytgeeijinhneoiaa
