/-
  Settings as bytes: the program's Config and OpenConfig, at all settings and all bytes.
  Settings as bytes: the document's tenants, one behind the other: numbers.
  Settings as bytes: the document's own OpenTenant.
  P12.3 at every two tenants that are light.
-/
import Derived.Test.YtbccadbnaggkhaaGreatKE24
import Derived.Test.YtbccadbnaggkhaaGreatKE21
import Derived.Test.YtbccadbnaggkhaaGreatKE16
import Derived.Test.YtbccadbnaggkhaaGreatKE23
import Derived.Deep.MidRow
import Derived.Test.YtbccadbnaggkhaaGreatKE17
namespace Go.Proofs.YtbccadbnaggkhaaGreat
open Go.RowKit
open Sm
open Cf
set_option linter.unusedVariables false
set_option maxRecDepth 20000

/-- A slice of tenants. -/
def TSV (V : World) (v : Value) (ts : List Ten) : Prop := ∃ zs : List Tv, zs.map Prod.fst = ts ∧ Rw V 33 v (zs.map zc) ∧ ∀ z ∈ zs, TLen z.1 ∧ Rws V z
/-- A value that is settings. -/
def CV (V : World) (v : Value) (c : Cgf) : Prop := CLen c ∧ ∃ u, v = .agg (cc c u).toArray ∧ TSV V u c.ten
theorem zc_ne {zs : List Tv} : ∀ x ∈ zs.map zc, x ≠ [] := by
  intro x hx
  obtain ⟨z, -, rfl⟩ := List.mem_map.mp hx
  simp [zc, tc]
theorem Rws.below {V V' : World} {z : Tv} (h : Rws V z) {B : Nat} (hb : Below B V V') (hB : V.heap.size ≤ B) : Rws V' z := ⟨h.1.below ux_ne hb hB, h.2.1.below px_ne hb hB, h.2.2.below px_ne hb hB⟩
theorem TSV.at_ {w V : World} {v : Value} {ts : List Ten} (h : TSV w v ts) {B : Nat} (hb : Below B w V) (hB : w.heap.size ≤ B) : TSV V v ts := by
  obtain ⟨zs, h1, h2, h3⟩ := h
  exact ⟨zs, h1, h2.below zc_ne hb hB, fun z hz => ⟨(h3 z hz).1, (h3 z hz).2.below hb hB⟩⟩
theorem CV.at_ {w V : World} {v : Value} {c : Cgf} (h : CV w v c) {B : Nat} (hb : Below B w V) (hB : w.heap.size ≤ B) : CV V v c := by
  obtain ⟨h1, u, h2, h3⟩ := h
  exact ⟨h1, u, h2, h3.at_ hb hB⟩
theorem TSV.one {w : World} {v : Value} {ts : List Ten} (h : TSV w v ts) : v.oneCell' = true := by
  obtain ⟨zs, -, h, -⟩ := h
  exact rw_slice h
theorem cc_one (c : Cgf) {v : Value} (h : v.oneCell' = true) : (cc c v).toArray.all (·.oneCell') = true := by
  apply all_oneCell_toArray
  intro u hu
  simp only [cc, List.mem_cons, List.mem_append, List.mem_map, List.not_mem_nil, or_false] at hu
  rcases hu with rfl | ⟨x, _, rfl⟩ | ⟨x, _, rfl⟩ | ⟨x, _, rfl⟩ | ⟨x, _, rfl⟩ | rfl | rfl <;> first | rfl | exact h
theorem Mem.move {w V w1 V' : World} {L : List (Nat × Obj)} (h : Mem w V L) (h1 : w1.heap.size ≤ w.heap.size) (hb : Below w1.heap.size w1 V') (ha : ∀ b, w.heap.size ≤ b → b < V.heap.size → V'.heap[b]? = V.heap[b]?) : Mem w1 V' L :=
  ⟨hb, fun p hp => Nat.le_trans h1 (h.low p hp), fun p hp => (ha _ (h.low p hp) (h.lt hp)).trans (h.at_ p hp), h.apart⟩
theorem CV.row {w : World} {v : Value} {c : Cgf} (h : CV w v c) : ∃ tl : Array Value, v = .agg tl ∧ tl.size = 29 ∧ tl.all (·.oneCell') = true := by
  obtain ⟨h1, u, rfl, h2⟩ := h
  exact ⟨_, rfl, by rw [List.size_toArray]; exact cc_len h1 _, cc_one c h2.one⟩
end Go.Proofs.YtbccadbnaggkhaaGreat

namespace Go.Proofs.YtbccadbnaggkhaaGreat
open Go.RowKit
open Sm
open Cf
set_option linter.unusedVariables false
set_option linter.unusedSimpArgs false
set_option maxRecDepth 20000

end Go.Proofs.YtbccadbnaggkhaaGreat

namespace Go.Proofs.YtbccadbnaggkhaaGreat
open Go.RowKit
open Sm
open Cf
set_option linter.unusedVariables false
set_option linter.unusedSimpArgs false
set_option maxRecDepth 20000

theorem flat_at {α : Type} {sz : Nat} : ∀ (xs : List (List α)) (i j : Nat) (u : α), (∀ x ∈ xs, x.length = sz) → (xs.getD i [])[j]? = some u → xs.flatten[i * sz + j]? = some u
  | [], i, j, u, _, h => by simp [List.getD] at h
  | x :: xs, 0, j, u, hx, h => by
    rw [Nat.zero_mul, Nat.zero_add, List.flatten_cons]
    have h' : x[j]? = some u := h
    obtain ⟨hj, -⟩ := List.getElem?_eq_some_iff.mp h'
    rw [List.getElem?_append_left hj]; exact h'
  | x :: xs, i + 1, j, u, hx, h => by
    have h' : (xs.getD i [])[j]? = some u := by simpa [List.getD] using h
    have e := hx x (List.mem_cons_self ..)
    rw [List.flatten_cons, List.getElem?_append_right (by rw [e, Nat.succ_mul]; omega), show (i + 1) * sz + j - x.length = i * sz + j by rw [e, Nat.succ_mul]; omega]
    exact flat_at xs i j u (fun y hy => hx y (List.mem_cons_of_mem _ hy)) h'
end Go.Proofs.YtbccadbnaggkhaaGreat

namespace Go.Proofs.YtbccadbnaggkhaaGreat
open Go.RowKit
open Sm
open Cf
set_option linter.unusedVariables false
set_option maxRecDepth 20000
set_option linter.unusedSimpArgs false

theorem TV.at_ {w V : World} {v : Value} {t : Ten} (h : TV w v t) {B : Nat} (hb : Below B w V) (hB : w.heap.size ≤ B) : TV V v t := by
  obtain ⟨hl, p, s, q, rfl, h1, h2, h3⟩ := h
  exact ⟨hl, p, s, q, rfl, h1.below ux_ne hb hB, h2.below px_ne hb hB, h3.below px_ne hb hB⟩
theorem TV.row {w : World} {v : Value} {t : Ten} (h : TV w v t) : ∃ tl : List Value, v = .agg tl.toArray ∧ tl.length = 33 ∧ ∀ v ∈ tl, v.oneCell' = true := by
  obtain ⟨hl, p, s, q, rfl, h1, h2, h3⟩ := h
  refine ⟨_, rfl, tc_len hl p s q, fun v hv => ?_⟩
  have := tc_one2 t (rw_one h1) (rw_one h2) (rw_one h3)
  rw [Array.all_eq_true_iff_forall_mem] at this
  exact this v (by simpa using hv)
theorem lgt_in {t : Ten} (h : Lgt t) (hl : TLen t) (h1 : IsBytes t.key) (h2 : IsBytes t.vmac) (h3 : IsBytes t.host) : TIn t := by
  obtain ⟨a, b, c, d⟩ := h
  exact ⟨hl, h1, h2, h3, by omega, by omega, by omega, by omega⟩
theorem wpList_load_row_g {ops : Array Oper} {rest : List Oper} {o : Oper} {a : Act} {w : World} {Q : Exit → Act → World → Prop} (hw : Region.wanted o (yielded ops a.tmps) = true) (ty : TypeId) (x : Operand) (ho : o.op = .load ty x)
    (g : Nat) (hx : a.eval x = .pointer (some ⟨g, 0, none⟩)) (t : TypeId) (cs : Array Value) (fr : Nat × Nat) (fs : Array Field) (hg : w.heap[g]? = some (.cells cs t fr))
    (hu : Tryz.prog.underlying ty = some (.struct fs)) (hi : (Tryz.prog.info? ty).map (·.size) = some cs.size)
    (h : wpList Tryz.prog ops Q rest (a.put o.dst (.agg cs)) w) : wpList Tryz.prog ops Q (o :: rest) a w := by
  unfold wpList
  rw [if_pos hw]
  exact Or.inl (wp_load_row ty x ho g hx t cs fr _ hg hu rfl hi h)
end Go.Proofs.YtbccadbnaggkhaaGreat

