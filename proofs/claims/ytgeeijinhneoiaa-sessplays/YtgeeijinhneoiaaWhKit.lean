/-
  Lists of structs that lie somewhere in blocks of the call's own, written once and for all; appended to where they are full.
-/
import Derived.Test.YtgeeijinhneoiaaPoKit
namespace Go.Proofs.Ytgeeijinhneoiaa
open Go.RowKit
open Sm
open Po
set_option linter.unusedVariables false
set_option linter.unusedSimpArgs false
set_option maxRecDepth 20000

namespace Wh
/-- v is a list of n elements of sz cells each (xs in all) that lies in one of the blocks B. -/
def SlF (T : TypeId) (sz : Nat) (v : Value) (n : Nat) (xs : List Value) (B : List (Nat × Obj)) : Prop :=
  xs.length = n * sz ∧ ∃ a cap, v = .slice a n cap ∧ n ≤ cap ∧ cap ≤ maxLen ∧ (a = none → cap = 0) ∧ (n = 0 ∨ ∃ g off cur, a = some ⟨g, off, none⟩ ∧ (g, Obj.cells cur T (0, 0)) ∈ B ∧ (cur.toList.drop off).take (n * sz) = xs)
theorem SlF.nil (T : TypeId) (sz : Nat) (B : List (Nat × Obj)) : SlF T sz (.slice none 0 0) 0 [] B := ⟨by simp, none, 0, rfl, Nat.le_refl _, by simp [maxLen], fun _ => rfl, Or.inl rfl⟩
theorem SlF.mono {T : TypeId} {sz n : Nat} {v : Value} {xs : List Value} {B B' : List (Nat × Obj)} (h : SlF T sz v n xs B) (hs : ∀ q ∈ B, q ∈ B') : SlF T sz v n xs B' := by
  obtain ⟨h1, a, cap, h2, h3, h4, h5, h6⟩ := h
  refine ⟨h1, a, cap, h2, h3, h4, h5, ?_⟩
  rcases h6 with h6 | ⟨g, off, cur, e1, e2, e3⟩
  · exact Or.inl h6
  · exact Or.inr ⟨g, off, cur, e1, hs _ e2, e3⟩
/-- How it reads. -/
theorem SlF.read {w V : World} {T : TypeId} {sz n : Nat} {v : Value} {xs : List Value} {B L : List (Nat × Obj)} (h : SlF T sz v n xs B) (hM : Mem w V (B ++ L)) :
    ∃ a cap, v = .slice a n cap ∧ n ≤ cap ∧ cap ≤ maxLen ∧ (a = none → cap = 0) ∧ (n = 0 ∨ ∃ g off, a = some ⟨g, off, none⟩ ∧ ∀ j u, xs[j]? = some u → V.cell? ⟨g, off + j, none⟩ = some u) := by
  obtain ⟨h1, a, cap, h2, h3, h4, h5, h6⟩ := h
  refine ⟨a, cap, h2, h3, h4, h5, ?_⟩
  rcases h6 with h6 | ⟨g, off, cur, e1, e2, e3⟩
  · exact Or.inl h6
  · refine Or.inr ⟨g, off, e1, fun j u hj => ?_⟩
    have hg : V.heap[g]? = some (.cells cur T (0, 0)) := hM.at_ _ (List.mem_append_left _ e2)
    rw [cell_of hg, ← Array.getElem?_toList]
    rw [← e3, List.getElem?_take, List.getElem?_drop] at hj
    split at hj
    · exact hj
    · cases hj
theorem SlF.rw {w V : World} {T : TypeId} {sz : Nat} {v : Value} {xs : List (List Value)} {B L : List (Nat × Obj)} (hx : ∀ x ∈ xs, x.length = sz) (h : SlF T sz v xs.length xs.flatten B) (hM : Mem w V (B ++ L)) : Rw V sz v xs := by
  obtain ⟨a, cap, e, h1, h2, h3, h4⟩ := h.read hM
  refine ⟨a, cap, e, h1, by simpa [maxLen] using h2, h3, ?_⟩
  rcases h4 with h4 | ⟨g, off, rfl, hc⟩
  · exact Or.inl (List.eq_nil_of_length_eq_zero h4)
  · refine Or.inr ⟨g, off, rfl, fun i hi j u hj => ?_⟩
    rw [Nat.add_assoc]
    exact hc _ _ (flat_at xs i j u hx hj)
/-- Nothing more. -/
theorem run_append_zero (V : World) {t e ty : TypeId} {i : TypeInfo} (ht : Try.prog.underlying t = some (.slice e)) (hI : Try.prog.info? e = some i) (a a2 : Option Addr) (n c c2 : Nat) (hn : n ≤ c) (ha : a = none → c = 0) :
    (Builtin.append_ #[t, t] ty #[.slice a n c, .slice a2 0 c2]).run Try.prog V = .ok (.slice a n c) V := by
  cases a with
  | none =>
    have hc := ha rfl
    subst hc
    obtain rfl : n = 0 := by omega
    cases a2 <;> simp [Builtin.append_, run_underlying ht, sizeOf, typeInfo, hI, Builtin.lenOf, Builtin.firstCells, loadCells, loadCellsFrom]
  | some a => cases a2 <;> simp [Builtin.append_, run_underlying ht, sizeOf, typeInfo, hI, Builtin.lenOf, Builtin.firstCells, loadCells, loadCellsFrom, hn, storeCells]
/-- m elements more behind a list that is full. -/
theorem slf_append {w V : World} {B L : List (Nat × Obj)} {t e ty : TypeId} {sz bytes n : Nat} {z : Value} {a : Option Addr} {xs : List Value} (ht : Try.prog.underlying t = some (.slice e)) (hi : (Try.prog.info? e).map (fun i => (i.zero, i.size, i.bytes)) = some (some z, sz, bytes)) (hzs : z.cells.size = sz)
    (h : SlF e sz (.slice a n n) n xs B) (hM : Mem w V (B ++ L)) (ad : Addr) (m c : Nat) (hm : 0 < m) (news : List Value) (hl : news.length = m * sz) (hnews : ∀ j u, news[j]? = some u → V.cell? (ad.add j) = some u) (h63 : n + m ≤ maxLen) (hb : (n + m) * bytes ≤ 140737488355328) :
    ∃ g cap cur, (Builtin.append_ #[t, t] ty #[.slice a n n, .slice (some ad) m c]).run Try.prog V = .ok (.slice (some ⟨g, 0, none⟩) (n + m) cap) (V.drew.alloc (.cells cur e)) ∧ g = V.heap.size ∧ SlF e sz (.slice (some ⟨g, 0, none⟩) (n + m) cap) (n + m) (xs ++ news) [(g, .cells cur e (0, 0))] := by
  obtain ⟨i, hI, hz, hs1, hby⟩ := info_parts hi
  clear hi
  subst hs1
  subst hby
  obtain ⟨hx, a', cap', e1, -, -, h5, h6⟩ := h
  simp only [Value.slice.injEq, true_and] at e1
  obtain ⟨rfl, rfl⟩ := e1
  have grown : ∀ (old : Nat), SlF e i.size (.slice (some ⟨V.heap.size, 0, none⟩) (n + m) (grownCap V (n + m) old e)) (n + m) (xs ++ news) [(V.heap.size, .cells (xs.toArray ++ news.toArray ++ Builtin.zeroCells z.cells (grownCap V (n + m) old e - (n + m))) e (0, 0))] := by
    intro old
    have hge := grownCap_ge V (n + m) old e
    have hcm : grownCap V (n + m) old e ≤ maxLen := grownCap_le_maxLen V (n + m) old e h63
    have hlen : (xs ++ news).length = (n + m) * i.size := by rw [List.length_append, hx, hl, Nat.add_mul]
    refine ⟨hlen, _, _, rfl, hge, hcm, nofun, Or.inr ⟨_, 0, _, rfl, List.mem_singleton.2 rfl, ?_⟩⟩
    simp only [Array.toList_append, List.append_assoc, List.drop_zero]
    rw [← List.append_assoc, ← hlen]
    exact List.take_left
  have hsmall : n + m ≤ 9223372036854775807 := by simp only [maxLen] at h63; omega
  cases a with
  | none =>
    have hn0 := h5 rfl
    subst hn0
    have hx0 : xs = [] := List.eq_nil_of_length_eq_zero (by simpa using hx)
    subst hx0
    have hr := run_append_nil (P := Try.prog) V t ty e i z ht hI hz ad m c news hl hnews hm (by omega) (by simp only [Nat.zero_add] at hb; omega)
    have hg := grown 0
    simp only [Nat.zero_add, List.nil_append, Array.empty_append] at hr hg ⊢
    exact ⟨_, _, _, hr, rfl, hg⟩
  | some a =>
    have holds : ∀ j u, xs[j]? = some u → V.cell? (a.add j) = some u := by
      intro j u hj
      rcases h6 with h0 | ⟨g, off, cur, e1, e2, e3⟩
      · subst h0
        have hx0 : xs = [] := List.eq_nil_of_length_eq_zero (by simpa using hx)
        subst hx0
        cases hj
      · obtain rfl := Option.some.inj e1
        have hg : V.heap[g]? = some (.cells cur e (0, 0)) := hM.at_ _ (List.mem_append_left _ e2)
        rw [Addr.add_mid, cell_of hg, ← Array.getElem?_toList]
        rw [← e3, List.getElem?_take, List.getElem?_drop] at hj
        split at hj
        · exact hj
        · cases hj
    have hr := run_append_grow (P := Try.prog) V t ty e i z ht hI hz a n n xs hx holds ad m c news hl hnews (by omega) (by omega) (growslice_fits (by omega) hb)
    exact ⟨_, _, _, hr, rfl, grown n⟩
end Wh
end Go.Proofs.Ytgeeijinhneoiaa
