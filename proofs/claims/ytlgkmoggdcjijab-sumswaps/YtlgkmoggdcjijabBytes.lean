/-
  Rows of bytes that the call itself made: what is read of them, what a store turns, and what changing one word does to the sums.
-/
import Derived.Test.YtlgkmoggdcjijabKnown
namespace Go.Proofs.Ytlgkmoggdcjijab
open Go.RowKit
open Sm
set_option linter.unusedVariables false

theorem row_nil (w : World) : Row w none [] := ⟨fun i => by simp, by simp, Or.inl rfl⟩

theorem take_getD (zs : List Int) (len i : Nat) (h : i < len) : (zs.take len).getD i 0 = zs.getD i 0 := by
  simp [List.getD, h]

theorem bytes_take {zs : List Int} (h : ∀ n ∈ zs, 0 ≤ n ∧ n ≤ 255) (len : Nat) : IsBytes (zs.take len) := by
  intro i
  by_cases hi : i < (zs.take len).length
  · have : (zs.take len).getD i 0 = (zs.take len)[i] := by simp [List.getD, List.getElem?_eq_getElem hi]
    rw [this]
    exact h _ (List.mem_of_mem_take (List.getElem_mem hi))
  · have : (zs.take len).getD i 0 = 0 := by simp [List.getD, List.getElem?_eq_none (Nat.le_of_not_lt hi)]
    rw [this]; omega

theorem row_of {w : World} {x : Addr} {len cap : Nat} {zs : List Int} (hl : len ≤ cap) (hz : zs.length = cap) (hcell : ∀ i, i < zs.length → w.cell? (x.add i) = some (.int .u8 (zs.getD i 0)))
    (hb : ∀ n ∈ zs, 0 ≤ n ∧ n ≤ 255) (hm : len ≤ 140737488351232) : Row w (some x) (zs.take len) ∧ (zs.take len).length = len := by
  have hlen : (zs.take len).length = len := by simp; omega
  refine ⟨⟨bytes_take hb len, by omega, ?_⟩, hlen⟩
  by_cases h0 : len = 0
  · exact Or.inl (by subst h0; simp)
  · obtain ⟨b, off, spot⟩ := x
    have hc := hcell 0 (by omega)
    have hspot : spot = none := by simpa [Addr.add] using World.cell?_spot hc
    subst hspot
    refine Or.inr ⟨b, off, rfl, fun i hi => ?_⟩
    rw [take_getD _ _ _ (by omega)]
    have hci := hcell i (by omega)
    by_cases e : i = 0
    · subst e; simpa [Addr.add] using hci
    · simpa [Addr.add, e] using hci

/-- A slice of the call's own that holds the bytes l. -/
def OwnB (w : World) (B g cap : Nat) (l : List Int) : Prop := w.ownsRow B 5 1 (.slice (some ⟨g, 0, none⟩) l.length cap) l.length (l.map (Value.int .u8))

theorem getD_eq {l : List Int} {i : Nat} (h : i < l.length) : l.getD i 0 = l[i] := by simp [List.getD, List.getElem?_eq_getElem h]

theorem OwnB.cell {w : World} {B g cap : Nat} {l : List Int} (h : OwnB w B g cap l) (i : Nat) (hi : i < l.length) : w.cell? ⟨g, i, none⟩ = some (.int .u8 (l.getD i 0)) := by
  rw [World.ownsRow.cellAt h i (by omega), getD_eq hi]
  simp [hi]

theorem OwnB.row {w : World} {B g cap : Nat} {l : List Int} (h : OwnB w B g cap l) (hb : IsBytes l) (hl : l.length ≤ 140737488351232) : Row w (some ⟨g, 0, none⟩) l :=
  ⟨hb, hl, Or.inr ⟨g, 0, rfl, fun i hi => by rw [Nat.zero_add]; exact h.cell i hi⟩⟩

theorem OwnB.store {w : World} {B g cap : Nat} {l : List Int} (h : OwnB w B g cap l) (j : Nat) (x : Int) : OwnB (w.setCell ⟨g, j, none⟩ (.int .u8 x)) B g cap (l.set j x) := by
  have := (World.ownsRow.stored h j (.int .u8 x)).1
  unfold OwnB
  rw [List.length_set, List.map_set]
  exact this

theorem OwnB.free {w : World} {B g cap : Nat} {l : List Int} (h : OwnB w B g cap l) (j : Nat) : w.frozen? ⟨g, j, none⟩ = false := World.ownsRow.frozenAt h j

/-- What an append onto nothing hands back. -/
theorem own_shape {w : World} {B : Nat} {v : Value} {l : List Int} {n : Nat} (hn : n = l.length) (h : w.ownsRow B 5 1 v (0 + n) ([] ++ l.map (Value.int .u8))) (hl : 0 < l.length) :
    ∃ g cap, v = .slice (some ⟨g, 0, none⟩) l.length cap ∧ B ≤ g ∧ OwnB w B g cap l := by
  subst hn
  rw [Nat.zero_add, List.nil_append] at h
  obtain ⟨h1, h2⟩ := h
  rcases h2 with ⟨rfl, h3⟩ | ⟨g, cap, cur, rfl, hg, r⟩
  · omega
  · exact ⟨g, cap, rfl, hg, h1, Or.inr ⟨g, cap, cur, rfl, hg, r⟩⟩

theorem Row.news {w : World} {b off : Nat} {l : List Int} (h : Row w (some ⟨b, off, none⟩) l) :
    ∀ (j : Nat) (u : Value), (l.map (Value.int .u8))[j]? = some u → w.cell? ((⟨b, off, none⟩ : Addr).add j) = some u := by
  intro j u hj
  have hjl : j < l.length := by
    have := (List.getElem?_eq_some_iff.mp hj).1
    simpa using this
  have e : ((⟨b, off, none⟩ : Addr).add j) = ⟨b, off + j, none⟩ := by
    by_cases e : j = 0
    · subst e; simp [Addr.add]
    · simp [Addr.add, e]
  rcases h.cells with e' | ⟨b', off', e', hc⟩
  · subst e'; simp at hjl
  · simp only [Option.some.injEq, Addr.mk.injEq] at e'
    obtain ⟨rfl, rfl, -⟩ := e'
    rw [e, hc j hjl]
    rw [getD_eq hjl]
    simpa [hjl] using hj

namespace Sm
/-- One word set. -/
def setw (l : List Int) (p : Nat) (x y : Int) : List Int := (l.set (2 * p) x).set (2 * p + 1) y
theorem setw_len (l : List Int) (p : Nat) (x y : Int) : (setw l p x y).length = l.length := by simp [setw]
theorem getD_set (l : List Int) (j i : Nat) (x : Int) (hj : j < l.length) : (l.set j x).getD i 0 = if i = j then x else l.getD i 0 := by
  by_cases e : i = j
  · subst e; simp [List.getD, hj]
  · rw [if_neg e]; simp [List.getD, List.getElem?_set_ne (Ne.symm e)]
theorem setw_getD (l : List Int) (p i : Nat) (x y : Int) (hp : 2 * p + 1 < l.length) : (setw l p x y).getD i 0 = if i = 2 * p + 1 then y else if i = 2 * p then x else l.getD i 0 := by
  unfold setw
  rw [getD_set _ _ _ _ (by simpa using hp), getD_set _ _ _ _ (by omega)]
theorem setw_bytes {l : List Int} (h : IsBytes l) (p : Nat) (x y : Int) (hp : 2 * p + 1 < l.length) (hx : 0 ≤ x ∧ x ≤ 255) (hy : 0 ≤ y ∧ y ≤ 255) : IsBytes (setw l p x y) := by
  intro i
  rw [setw_getD l p i x y hp]
  have := h i
  split
  · exact hy
  · split
    · exact hx
    · exact this
theorem wd_setw (l : List Int) (p i : Nat) (x y : Int) (hp : 2 * p + 1 < l.length) : wd (setw l p x y) i = if i = p then x * 256 + y else wd l i := by
  unfold wd
  rw [setw_getD l p _ x y hp, setw_getD l p _ x y hp]
  by_cases e : i = p
  · subst e; rw [if_neg (by omega), if_pos rfl, if_pos rfl, if_pos rfl]
  · rw [if_neg (by omega), if_neg (by omega), if_neg (by omega), if_neg (by omega), if_neg e]
theorem tot_setw (l : List Int) (p k : Nat) (x y : Int) (hp : 2 * p + 1 < l.length) : tot (setw l p x y) k = if p < k then tot l k - wd l p + (x * 256 + y) else tot l k := by
  induction k with
  | zero => simp [tot]
  | succ k ih =>
    rw [tot_succ, tot_succ, ih, wd_setw l p k x y hp]
    by_cases e : k = p
    · subst e; rw [if_neg (by omega), if_pos rfl, if_pos (by omega)]; omega
    · rw [if_neg e]
      by_cases c : p < k
      · rw [if_pos c, if_pos (by omega)]; omega
      · rw [if_neg c, if_neg (by omega)]
theorem wd_le_tot {l : List Int} (h : IsBytes l) (p k : Nat) (hp : p < k) : wd l p ≤ tot l k := by
  induction k with
  | zero => omega
  | succ k ih =>
    have a := wd_range h k; have b := tot_nonneg h k
    rw [tot_succ]
    by_cases e : p = k
    · subst e; omega
    · have := ih (by omega); omega
theorem stands {l : List Int} (h : IsBytes l) (p : Nat) (hp : 2 * p + 1 < l.length) :
    foldv (acc (setw (setw l p 0 0) p (ofv (setw l p 0 0) / 256) (ofv (setw l p 0 0) % 256)) 0 (cnt l.length)) = 65535 := by
  have hk : p < cnt l.length := by unfold cnt; omega
  have h1 := setw_bytes h p 0 0 hp ⟨by omega, by omega⟩ ⟨by omega, by omega⟩
  have hr := ofv_range (setw l p 0 0)
  have hp1 : 2 * p + 1 < (setw l p 0 0).length := by rw [setw_len]; exact hp
  have h2 := setw_bytes h1 p (ofv (setw l p 0 0) / 256) (ofv (setw l p 0 0) % 256) hp1 (by omega) (by omega)
  rw [foldv_acc h2 0 (by omega) (by omega), tot_setw _ _ _ _ _ hp1, if_pos hk, wd_setw l p p 0 0 hp, if_pos rfl]
  have hn := tot_nonneg h1 (cnt l.length)
  have e : ofv (setw l p 0 0) = 65535 - foldv (tot (setw l p 0 0) (cnt l.length)) := by unfold ofv; rw [setw_len]
  rw [e] at hr ⊢
  generalize tot (setw l p 0 0) (cnt l.length) = T at *
  clear hr e h2 h1
  unfold foldv
  split <;> split <;> omega
end Sm
end Go.Proofs.Ytlgkmoggdcjijab
