/-
  Wheel, the program's own: lists joined; the levels of a tick.
-/
import Derived.Test.YtfplmefcblkljaaWpOpen
namespace Go.Proofs.Ytfplmefcblkljaa
open Go.RowKit
open Sm
open Po
open Wh
set_option linter.unusedVariables false
set_option linter.unusedSimpArgs false
set_option maxRecDepth 20000

namespace Wp
theorem slb_join {w V : World} {xs ys : List Du} {v1 v2 : Value} {B1 B2 L : List (Nat × Obj)} (ty : TypeId) (h1 : SlB 64 2 v1 xs.length (ex xs).flatten B1) (h2 : SlB 64 2 v2 ys.length (ex ys).flatten B2) (hM : Mem w V (B1 ++ (B2 ++ L))) (hn : xs.length + ys.length ≤ 1000000) :
    ∃ v' V' B', (Builtin.append_ #[60, 60] ty #[v1, v2]).run Try.prog V = .ok v' V' ∧ Mem w V' (B' ++ (B2 ++ L)) ∧ SlB 64 2 v' (xs ++ ys).length (ex (xs ++ ys)).flatten B' := by
  obtain ⟨hy, ⟨rfl, e0, rfl⟩ | ⟨g, cap, cur, rfl, rfl, k1, k2, k3, k4⟩⟩ := h2
  · obtain rfl : ys = [] := List.eq_nil_of_length_eq_zero e0
    obtain ⟨i, hI, -⟩ := info_parts infoOne
    have h1' := h1
    obtain ⟨a, c, rfl, q1, q2⟩ := h1.slice
    refine ⟨_, V, B1, run_append_zero V Try.underlying60 hI a none xs.length c 0 q1 ?_, hM, by rw [List.append_nil]; exact h1⟩
    intro ha
    subst ha
    rcases h1'.2 with ⟨e, -, -⟩ | ⟨g, cap, cur, e, -⟩
    · have e' : xs.length = 0 ∧ c = 0 := by simpa using e
      exact e'.2
    · simp at e
  · obtain ⟨v', V', B', hr, hM', hS⟩ := slb_append (ty := ty) (w := w) (L := [(g, .cells cur 64 (0, 0))] ++ L) Try.underlying60 infoOne (by kernel_rfl) (by decide) h1 hM ⟨g, 0, none⟩ ys.length cap (ex ys).flatten (ef_len ys) (fun j u hj => by
      have hg : V.heap[g]? = some (.cells cur 64 (0, 0)) := hM.at_ (g, .cells cur 64 (0, 0)) (by simp)
      rw [Addr.add_mid, Nat.zero_add, cell_of hg, ← Array.getElem?_toList]
      rw [← k4, List.getElem?_take] at hj
      split at hj
      · exact hj
      · cases hj) ef_one (by simp only [maxLen]; omega) (by omega)
    refine ⟨v', V', B', hr, hM', ?_⟩
    rw [List.length_append, ef_app]
    exact hS
theorem fl_at {A : Int → Option Int} {F : Int → Option Nat} {n l : Nat} (hn : n < 4294967296) (hA : ∀ k t, A k = some t → t.toNat < 4294967296) (k : Int) : Fl A F n l k = some (slo n l) ↔ F k = some (slo n l) := by
  unfold Fl
  cases hF : F k with
  | none => simp
  | some i =>
    simp only
    by_cases h1 : ∃ m, m < l ∧ i = slo n m
    · rw [if_pos h1]
      obtain ⟨m, hm, rfl⟩ := h1
      constructor
      · intro h
        cases hk : A k with
        | none => rw [hk] at h; cases h
        | some t =>
          rw [hk] at h
          simp only at h
          by_cases ht : t.toNat ≤ n
          · rw [if_pos ht] at h; cases h
          · rw [if_neg ht] at h
            exact absurd (Option.some.inj h) (pl_off (hA k t hk) hn (by omega) l)
      · intro h
        have := (slo_inj (Option.some.inj h)).1
        omega
    · rw [if_neg h1]
variable {now : Int} {A : Int → Option Int} {F : Int → Option Nat} {p mb : Nat} {w V : World} {L : List (Nat × Obj)}
theorem WSt.dropl : ∀ {B : List (Nat × Obj)}, WSt now A F p mb w V (B ++ L) → WSt now A F p mb w V L
  | [], h => h
  | q :: B, h => WSt.dropl (B := B) (WSt.sub h)
/-- The tick turned. -/
theorem WSt.tick (h : WSt now A F p mb w V L) {N : Int} (hN : 0 ≤ N ∧ N ≤ 4294967295) : WSt N A F p mb w (V.setCell ⟨p, 0, none⟩ (.int .u32 N)) L ∧ V.frozen? ⟨p, 0, none⟩ = false := by
  obtain ⟨C, es, clock, sl, hS, hM⟩ := h
  have hs := hS.size
  refine ⟨⟨C.setIfInBounds 0 (.int .u32 N), es, clock, sl, ⟨by rw [Array.size_setIfInBounds]; exact hs, ?_, ?_, fun i hi => ?_, hS.when, hS.slots, hS.dom, hS.inA, hS.keys, hS.vals, hS.low, hN⟩, hM.set 0 rfl 0 _⟩, hM.free 0 rfl 0⟩
  · rw [Array.getElem?_setIfInBounds, if_pos rfl, if_pos (by omega)]
  · rw [Array.getElem?_setIfInBounds, if_neg (by omega)]; exact hS.c1
  · rw [Array.getElem?_setIfInBounds, if_neg (by omega)]; exact hS.cs i hi
/-- These taken away. -/
def dela (A : Int → Option Int) (l : List Int) : Int → Option Int := fun q => if q ∈ l then none else A q
theorem dela_nil (A : Int → Option Int) : dela A [] = A := by
  funext q
  simp [dela]
theorem dela_one (A : Int → Option Int) (l : List Int) (k : Int) : upd (dela A l) k none = dela A (l ++ [k]) := by
  funext q
  unfold upd dela
  by_cases h : q = k <;> simp [h]
theorem dela_all {A : Int → Option Int} {n : Nat} {s : List Du} (hs : ∀ d, d ∈ s ↔ A d.1 = some d.2 ∧ d.2.toNat ≤ n) : dela A (s.map (·.1)) = lft A n := by
  funext q
  unfold dela lft
  by_cases h : q ∈ s.map (·.1)
  · rw [if_pos h]
    obtain ⟨d, hd, rfl⟩ := List.mem_map.1 h
    obtain ⟨h1, h2⟩ := (hs d).1 hd
    rw [h1]
    simp only
    rw [if_pos h2]
  · rw [if_neg h]
    cases hq : A q with
    | none => rfl
    | some t =>
      simp only
      rw [if_neg fun ht => h (List.mem_map.2 ⟨(q, t), (hs (q, t)).2 ⟨hq, ht⟩, rfl⟩)]
theorem plc_lft_none {A : Int → Option Int} {n : Nat} {k t : Int} (hA : A k = some t) (ht : t.toNat ≤ n) : plc (lft A n) n k = none := by
  unfold plc lft
  rw [hA]
  simp only
  rw [if_pos ht]
  rfl
/-- The levels' loop. -/
def LvQ (N : Int) (A : Int → Option Int) (F : Int → Option Nat) (p mb : Nat) (w : World) (L : List (Nat × Obj)) (u : Value) (wr : World) (l : Nat) (ds : List Du) : Prop :=
  ds.Nodup ∧ (∀ d, d ∈ ds ↔ A d.1 = some d.2 ∧ d.2.toNat ≤ N.toNat ∧ ∃ m, m < l ∧ F d.1 = some (slo N.toNat m)) ∧ ∃ D, SlB 64 2 u ds.length (ex ds).flatten D ∧ WSt N A (Fl A F N.toNat l) p mb w wr (D ++ L)
theorem nodup_fst {A : Int → Option Int} : ∀ {ds : List Du}, ds.Nodup → (∀ d ∈ ds, A d.1 = some d.2) → (ds.map (·.1)).Nodup
  | [], _, _ => List.nodup_nil
  | d :: ds, h, hA => by
    obtain ⟨h1, h2⟩ := List.nodup_cons.1 h
    rw [List.map_cons, List.nodup_cons]
    refine ⟨fun hm => ?_, nodup_fst h2 fun e he => hA e (List.mem_cons_of_mem _ he)⟩
    obtain ⟨e, he, hed⟩ := List.mem_map.1 hm
    have a1 := hA d (List.mem_cons_self ..)
    have a2 := hA e (List.mem_cons_of_mem _ he)
    rw [hed, a1] at a2
    have : e = d := Prod.ext hed (Option.some.inj a2).symm
    exact h1 (this ▸ he)
theorem LvQ.few {N : Int} {u : Value} {wr : World} {l : Nat} {ds : List Du} (h : LvQ N A F p mb w L u wr l ds) : ds.length ≤ 2000 := by
  obtain ⟨h1, h2, D, -, h4⟩ := h
  have := h4.few (vis := ds.map (·.1)) (nodup_fst h1 fun d hd => ((h2 d).1 hd).1) fun k hk => by
    obtain ⟨d, hd, rfl⟩ := List.mem_map.1 hk
    rw [((h2 d).1 hd).1]
    simp
  simpa using this
/-- One level more. -/
theorem lv_step {N : Int} {u : Value} {wr V' : World} {l i : Nat} {ds vis : List Du} {vs : List Int} (hN : N.toNat < 4294967296) (hA : ∀ k t, A k = some t → t.toNat < 4294967296) (h1 : ds.Nodup) (h2 : ∀ d, d ∈ ds ↔ A d.1 = some d.2 ∧ d.2.toNat ≤ N.toNat ∧ ∃ m, m < l ∧ F d.1 = some (slo N.toNat m))
    (hv : vs.Nodup) (hvs : ∀ k, k ∈ vs ↔ Fl A F N.toNat l k = some (slo N.toNat l)) : (ds ++ dues A N.toNat vs).Nodup ∧ ∀ d, d ∈ ds ++ dues A N.toNat vs ↔ A d.1 = some d.2 ∧ d.2.toNat ≤ N.toNat ∧ ∃ m, m < l + 1 ∧ F d.1 = some (slo N.toNat m) := by
  have hvs' : ∀ k, k ∈ vs ↔ F k = some (slo N.toNat l) := fun k => (hvs k).trans (fl_at hN hA k)
  constructor
  · rw [List.nodup_append]
    refine ⟨h1, dues_nodup hv, fun x hx y hy e => ?_⟩
    subst e
    obtain ⟨-, -, m, hm, hF⟩ := (h2 x).1 hx
    have := (hvs' x.1).1 (dues_mem.1 hy).1
    rw [hF] at this
    have := (slo_inj (Option.some.inj this)).1
    omega
  · intro d
    rw [List.mem_append, h2 d, dues_mem, hvs']
    constructor
    · rintro (⟨a, b, m, hm, c⟩ | ⟨a, b, c⟩)
      · exact ⟨a, b, m, by omega, c⟩
      · exact ⟨b, c, l, by omega, a⟩
    · rintro ⟨a, b, m, hm, c⟩
      by_cases e : m = l
      · subst e; exact Or.inr ⟨c, a, b⟩
      · exact Or.inl ⟨a, b, m, by omega, c⟩
end Wp
end Go.Proofs.Ytfplmefcblkljaa
