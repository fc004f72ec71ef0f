/-
  Settings as text: a builder of Go's library that the program's writer holds: its four functions, and a line of words.
  Settings as bytes: the program's Config and OpenConfig, at all settings and all bytes.
  P12.3 at every two tenants that are light.
  Settings as bytes: the document's own OpenTenant.
  Settings as bytes: the document's tenants, one behind the other: numbers.
-/
import Derived.Test.YtneciccdiledfaaGreatDoorMw29
import Derived.Test.YtneciccdiledfaaGreatDoorMw21
import Derived.Test.YtneciccdiledfaaGreatDoorMw03
import Derived.Lib.Builder
import Derived.Lib.UnsafeStr
import Derived.Lib.FrozenHead
import Derived.Laws.Externs
import Derived.Test.YtneciccdiledfaaGreatDoorMw26
import Derived.Test.YtneciccdiledfaaGreatDoorMw20
import Derived.Test.YtneciccdiledfaaGreatDoorMw28
import Derived.Deep.MidRow
namespace Go.Proofs.YtneciccdiledfaaGreatDoor
open Go.RowKit
open La
open Ad
set_option linter.unusedVariables false
set_option linter.unusedSimpArgs false
set_option maxRecDepth 20000

/-- A text's bytes as numbers. -/
def nb (l : List UInt8) : List Int := l.map (fun b => (b.toNat : Int))
theorem nb_len (l : List UInt8) : (nb l).length = l.length := by simp [nb]
theorem nb_app (a b : List UInt8) : nb (a ++ b) = nb a ++ nb b := by simp [nb]
theorem Out.set0 {w V : World} {v : Value} {l : List Int} {g : Nat} {A : Array Value} {t : TypeId} {K : List (Nat × Obj)} (h : Out w V v l ((g, .cells A t (0, 0)) :: K)) (j : Nat) (x : Value) : Out w (V.setCell ⟨g, j, Option.none⟩ x) v l ((g, .cells (A.setIfInBounds j x) t (0, 0)) :: K) := by
  refine ⟨h.1, h.2.1, ?_⟩
  rcases h.2.2 with ⟨rfl, e, hm⟩ | ⟨k, cap, cur, rfl, hm, r⟩
  · exact Or.inl ⟨rfl, e, hm.set 0 rfl j x⟩
  · exact Or.inr ⟨k, cap, cur, rfl, hm.set 1 rfl j x, r⟩
/-- A builder in block g, what its first cell holds, its bytes. -/
def Bp (w V : World) (g : Nat) (p : Value) (l : List UInt8) (K : List (Nat × Obj)) : Prop := ∃ v, Out w V v (nb l) ((g, .cells #[p, v] 86 (0, 0)) :: K)
/-- .. fresh or used. -/
def Bu (w V : World) (g : Nat) (l : List UInt8) (K : List (Nat × Obj)) : Prop := Bp w V g (.pointer none) l K ∨ Bp w V g (.pointer (some ⟨g, 0, none⟩)) l K
section
variable {w V V' : World} {g : Nat} {p : Value} {l : List UInt8} {K : List (Nat × Obj)}
theorem Bp.mem (h : Bp w V g p l K) : Mem w V K := by obtain ⟨v, h⟩ := h; exact h.mem.sub
theorem Bu.mem (h : Bu w V g l K) : Mem w V K := by rcases h with h | h <;> exact h.mem
theorem Bp.after (h : Bp w V g p l K) (hb : Below V.heap.size V V') : Bp w V' g p l K := by obtain ⟨v, h⟩ := h; exact ⟨v, h.after hb⟩
theorem Bu.after (h : Bu w V g l K) (hb : Below V.heap.size V V') : Bu w V' g l K := by
  rcases h with h | h
  · exact Or.inl (h.after hb)
  · exact Or.inr (h.after hb)
theorem Bp.push (h : Bp w V g p l K) (o : Obj) {n : Nat} (hn : n = V.heap.size) : Bp w (V.alloc o) g p l ((n, o) :: K) := by
  obtain ⟨v, h⟩ := h
  exact ⟨v, (h.add (o := o) hn).perm (List.Perm.swap _ _ _)⟩
theorem Bu.push (h : Bu w V g l K) (o : Obj) {n : Nat} (hn : n = V.heap.size) : Bu w (V.alloc o) g l ((n, o) :: K) := by
  rcases h with h | h
  · exact Or.inl (h.push o hn)
  · exact Or.inr (h.push o hn)
theorem Bp.drop1 {q : Nat × Obj} (h : Bp w V g p l (q :: K)) : Bp w V g p l K := by
  obtain ⟨v, h⟩ := h
  exact ⟨v, (h.perm (List.Perm.swap _ _ _)).drop⟩
theorem Bu.drop1 {q : Nat × Obj} (h : Bu w V g l (q :: K)) : Bu w V g l K := by
  rcases h with h | h
  · exact Or.inl h.drop1
  · exact Or.inr h.drop1
theorem Bp.perm {K' : List (Nat × Obj)} (h : Bp w V g p l K) (hp : K.Perm K') : Bp w V g p l K' := by
  obtain ⟨v, h⟩ := h
  exact ⟨v, h.perm (hp.cons _)⟩
theorem Bu.perm {K' : List (Nat × Obj)} (h : Bu w V g l K) (hp : K.Perm K') : Bu w V g l K' := by
  rcases h with h | h
  · exact Or.inl (h.perm hp)
  · exact Or.inr (h.perm hp)
end
theorem bsize : ∃ j, Tryz.prog.info? 84 = some j ∧ j.size = 2 := Option.map_eq_some_iff.1 (show (Tryz.prog.info? 84).map (·.size) = some 2 by kernel_rfl)
set_option maxHeartbeats 1000000 in
theorem bcheck_used {V : World} {g : Nat} (h0 : V.cell? ⟨g, 0, none⟩ = some (.pointer (some ⟨g, 0, none⟩))) :
    Calls Tryz.prog 110 #[.pointer (some ⟨g, 0, none⟩)] V fun e V' => e = .returned (.tuple #[]) ∧ V' = V := by
  obtain ⟨j, hj, _⟩ := bsize
  go_enter Tryz.func110, Tryz.ntmps110
  go_wp2
  rw [Lib.run_neq_ptr_same V _ Tryz.underlying82 hj]
  go_wp2
  go_end0
  exact ⟨rfl, rfl⟩
set_option maxHeartbeats 1000000 in
theorem bcheck_fresh {V : World} {g : Nat} (h0 : V.cell? ⟨g, 0, none⟩ = some (.pointer none)) (hsh : V.shape? g = some (86, 2)) (hfz : V.frozen? ⟨g, 0, none⟩ = false) :
    Calls Tryz.prog 110 #[.pointer (some ⟨g, 0, none⟩)] V fun e V' => e = .returned (.tuple #[]) ∧ V' = V.setCell ⟨g, 0, none⟩ (.pointer (some ⟨g, 0, none⟩)) := by
  obtain ⟨j, hj, hjs⟩ := bsize
  have hl : liesAt Tryz.prog Tryz.prog.depth 86 (2 / Tryz.prog.cellsOf 86) 0 84 1 = true := by kernel_rfl
  go_enter Tryz.func110, Tryz.ntmps110
  go_wp2
  rw [Lib.run_to_unsafe V ⟨g, 0, none⟩ Tryz.underlying82 Tryz.underlying107 hj (by rw [hjs]; decide) hsh (Nat.zero_lt_succ 1)]
  simp only [Result.andThen]
  rw [Oper.upon_value]
  go_wp2
  rw [run_callFunc_extern Tryz.func119 (by kernel_rfl) (by kernel_rfl) (by kernel_rfl) (e := Extern.AbiNoEscape.same) (by kernel_rfl)]
  rw [Lib.run_noEscape]
  simp only [Result.andThen]
  rw [Oper.upon_value]
  go_wp2
  rw [Lib.run_from_unsafe V ⟨g, 0, none⟩ Tryz.underlying107 Tryz.underlying82 hj hsh hl]
  simp only [Result.andThen]
  rw [Oper.upon_value]
  go_wp2
  go_end0
  exact ⟨rfl, rfl⟩
theorem bcheck_any {w V : World} {g : Nat} {l : List UInt8} {K : List (Nat × Obj)} (h : Bu w V g l K) :
    Calls Tryz.prog 110 #[.pointer (some ⟨g, 0, none⟩)] V fun e V' => e = .returned (.tuple #[]) ∧ Bp w V' g (.pointer (some ⟨g, 0, none⟩)) l K := by
  rcases h with ⟨v, h⟩ | ⟨v, h⟩
  · have hM := h.mem
    have hh := hM.get 0 rfl
    refine (bcheck_fresh (g := g) (hM.cell 0 rfl 0) (by simp [World.shape?, hh]) (hM.free 0 rfl 0)).mono ?_
    rintro e V' ⟨rfl, rfl⟩
    exact ⟨rfl, v, h.set0 0 _⟩
  · refine (bcheck_used (g := g) (h.mem.cell 0 rfl 0)).mono ?_
    rintro e V' ⟨rfl, rfl⟩
    exact ⟨rfl, v, h⟩
theorem out_sl {w V : World} {v : Value} {l : List Int} {K : List (Nat × Obj)} (h : Out w V v l K) : ∃ a n c, v = .slice a n c := by
  rcases h.2.2 with ⟨rfl, _⟩ | ⟨g, cap, cur, rfl, _⟩
  · exact ⟨_, _, _, rfl⟩
  · exact ⟨_, _, _, rfl⟩
set_option maxHeartbeats 2000000 in
theorem bstr_any {w V : World} {g : Nat} {l : List UInt8} {K : List (Nat × Obj)} (h : Bu w V g l K) (s : ByteArray) (hb : l.length + s.size ≤ 1000000000) :
    Calls Tryz.prog 92 #[.pointer (some ⟨g, 0, none⟩), .string s] V fun e V' => (∃ v, e = .returned v) ∧ Bu w V' g (l ++ s.data.toList) K := by
  have C := bcheck_any h
  clear h
  go_enter Tryz.func92, Tryz.ntmps92
  go_wp2_with fail
  refine C.mono ?_
  rintro e V1 ⟨rfl, v, hO⟩
  obtain ⟨v2, V2, hr, hO2⟩ := out_str hO s (by rw [nb_len]; exact hb) 49
  have c1 : V1.cell? ⟨g, 1, none⟩ = some v := hO.mem.cell 0 rfl 1
  have d1 : V2.cell? ⟨g, 1, none⟩ = some v := hO2.mem.cell 0 rfl 1
  have f1 : V2.frozen? ⟨g, 1, none⟩ = false := hO2.mem.free 0 rfl 1
  have HB : Hid (Bu w (V2.setCell ⟨g, 1, none⟩ v2) g (l ++ s.data.toList) K) := Or.inr ⟨v2, by rw [nb_app]; exact hO2.set0 1 v2⟩
  obtain ⟨a, n, c, rfl⟩ := out_sl hO2
  clear hO hO2 C
  go_wp2_with (at_builtin; refine wpList_append_run (.tmp 12) (.tmp 13) 49 9 (by with_reducible rfl) hr rfl rfl (by simp [Act.eval]) (by simp [Act.eval]) ?_)
  go_ret2
  exact ⟨⟨_, rfl⟩, HB.out⟩
set_option maxHeartbeats 2000000 in
theorem bbyte_any {w V : World} {g : Nat} {l : List UInt8} {K : List (Nat × Obj)} (h : Bu w V g l K) (b : UInt8) (hb : l.length + 1 ≤ 1000000000) :
    Calls Tryz.prog 94 #[.pointer (some ⟨g, 0, none⟩), .int .u8 (b.toNat : Int)] V fun e V' => (∃ v, e = .returned v) ∧ Bu w V' g (l ++ [b]) K := by
  have C := bcheck_any h
  have hbb : (b.toNat : Int) ≤ 255 := by have := b.toNat_lt; omega
  clear h
  go_enter Tryz.func94, Tryz.ntmps94
  go_wp2_with fail
  refine C.mono ?_
  rintro e V1 ⟨rfl, v, hO⟩
  obtain ⟨v2, V2, hr, hO2⟩ := out_one hO (b.toNat : Int) ⟨by omega, hbb⟩ (by rw [nb_len]; exact hb) 49
  have c1 : V1.cell? ⟨g, 1, none⟩ = some v := hO.mem.cell 0 rfl 1
  have d1 : V2.cell? ⟨g, 1, none⟩ = some v := hO2.mem.cell 0 rfl 1
  have f1 : V2.frozen? ⟨g, 1, none⟩ = false := hO2.mem.free 0 rfl 1
  have HB : Hid (Bu w (V2.setCell ⟨g, 1, none⟩ v2) g (l ++ [b]) K) := Or.inr ⟨v2, by rw [nb_app]; exact hO2.set0 1 v2⟩
  obtain ⟨a, n, c, rfl⟩ := out_sl hO2
  clear hO hO2 C
  go_wp2_with (at_builtin; refine wpList_append_run (.tmp 11) (.tmp 13) 49 49 (by with_reducible rfl) hr rfl rfl (by simp [Act.eval]) (by simp [Act.eval]) ?_)
  go_ret
  exact ⟨⟨_, rfl⟩, HB.out⟩
end Go.Proofs.YtneciccdiledfaaGreatDoor

namespace Go.Proofs.YtneciccdiledfaaGreatDoor
open Go.RowKit
open Sm
open Cf
set_option linter.unusedVariables false
set_option maxRecDepth 20000

/-- A slice of tenants. -/
def TSV (V : World) (v : Value) (ts : List Ten) : Prop := ∃ zs : List Tv, zs.map Prod.fst = ts ∧ Rw V 33 v (zs.map zc) ∧ ∀ z ∈ zs, TLen z.1 ∧ Rws V z
/-- A value that is settings. -/
def CV (V : World) (v : Value) (c : Cgf) : Prop := CLen c ∧ ∃ u, v = .agg (cc c u).toArray ∧ TSV V u c.ten
theorem zc_ne {zs : List Tv} : ∀ x ∈ zs.map zc, x ≠ [] := by
  intro x hx
  obtain ⟨z, -, rfl⟩ := List.mem_map.mp hx
  simp [zc, tc]
theorem Rws.below {V V' : World} {z : Tv} (h : Rws V z) {B : Nat} (hb : Below B V V') (hB : V.heap.size ≤ B) : Rws V' z := ⟨h.1.below ux_ne hb hB, h.2.1.below px_ne hb hB, h.2.2.below px_ne hb hB⟩
theorem TSV.at_ {w V : World} {v : Value} {ts : List Ten} (h : TSV w v ts) {B : Nat} (hb : Below B w V) (hB : w.heap.size ≤ B) : TSV V v ts := by
  obtain ⟨zs, h1, h2, h3⟩ := h
  exact ⟨zs, h1, h2.below zc_ne hb hB, fun z hz => ⟨(h3 z hz).1, (h3 z hz).2.below hb hB⟩⟩
theorem CV.at_ {w V : World} {v : Value} {c : Cgf} (h : CV w v c) {B : Nat} (hb : Below B w V) (hB : w.heap.size ≤ B) : CV V v c := by
  obtain ⟨h1, u, h2, h3⟩ := h
  exact ⟨h1, u, h2, h3.at_ hb hB⟩
theorem TSV.one {w : World} {v : Value} {ts : List Ten} (h : TSV w v ts) : v.oneCell' = true := by
  obtain ⟨zs, -, h, -⟩ := h
  exact rw_slice h
theorem cc_one (c : Cgf) {v : Value} (h : v.oneCell' = true) : (cc c v).toArray.all (·.oneCell') = true := by
  apply all_oneCell_toArray
  intro u hu
  simp only [cc, List.mem_cons, List.mem_append, List.mem_map, List.not_mem_nil, or_false] at hu
  rcases hu with rfl | ⟨x, _, rfl⟩ | ⟨x, _, rfl⟩ | ⟨x, _, rfl⟩ | ⟨x, _, rfl⟩ | rfl | rfl <;> first | rfl | exact h
/-- Settings that stand on blocks from n on. -/
def CVs (n : Nat) (V : World) (v : Value) (c : Cgf) : Prop := ∀ w1 V' : World, w1.heap.size ≤ n → Below w1.heap.size w1 V' → (∀ b, n ≤ b → b < V.heap.size → V'.heap[b]? = V.heap[b]?) → CV V' v c
theorem CV.row {w : World} {v : Value} {c : Cgf} (h : CV w v c) : ∃ tl : Array Value, v = .agg tl ∧ tl.size = 29 ∧ tl.all (·.oneCell') = true := by
  obtain ⟨h1, u, rfl, h2⟩ := h
  exact ⟨_, rfl, by rw [List.size_toArray]; exact cc_len h1 _, cc_one c h2.one⟩
end Go.Proofs.YtneciccdiledfaaGreatDoor

namespace Go.Proofs.YtneciccdiledfaaGreatDoor
open Go.RowKit
open Sm
open Cf
set_option linter.unusedVariables false
set_option maxRecDepth 20000
set_option linter.unusedSimpArgs false

theorem TV.at_ {w V : World} {v : Value} {t : Ten} (h : TV w v t) {B : Nat} (hb : Below B w V) (hB : w.heap.size ≤ B) : TV V v t := by
  obtain ⟨hl, p, s, q, rfl, h1, h2, h3⟩ := h
  exact ⟨hl, p, s, q, rfl, h1.below ux_ne hb hB, h2.below px_ne hb hB, h3.below px_ne hb hB⟩
theorem TV.row {w : World} {v : Value} {t : Ten} (h : TV w v t) : ∃ tl : List Value, v = .agg tl.toArray ∧ tl.length = 33 ∧ ∀ v ∈ tl, v.oneCell' = true := by
  obtain ⟨hl, p, s, q, rfl, h1, h2, h3⟩ := h
  refine ⟨_, rfl, tc_len hl p s q, fun v hv => ?_⟩
  have := tc_one2 t (rw_one h1) (rw_one h2) (rw_one h3)
  rw [Array.all_eq_true_iff_forall_mem] at this
  exact this v (by simpa using hv)
theorem wpList_load_row_g {ops : Array Oper} {rest : List Oper} {o : Oper} {a : Act} {w : World} {Q : Exit → Act → World → Prop} (hw : Region.wanted o (yielded ops a.tmps) = true) (ty : TypeId) (x : Operand) (ho : o.op = .load ty x)
    (g : Nat) (hx : a.eval x = .pointer (some ⟨g, 0, none⟩)) (t : TypeId) (cs : Array Value) (fr : Nat × Nat) (fs : Array Field) (hg : w.heap[g]? = some (.cells cs t fr))
    (hu : Tryz.prog.underlying ty = some (.struct fs)) (hi : (Tryz.prog.info? ty).map (·.size) = some cs.size)
    (h : wpList Tryz.prog ops Q rest (a.put o.dst (.agg cs)) w) : wpList Tryz.prog ops Q (o :: rest) a w := by
  unfold wpList
  rw [if_pos hw]
  exact Or.inl (wp_load_row ty x ho g hx t cs fr _ hg hu rfl hi h)
end Go.Proofs.YtneciccdiledfaaGreatDoor

namespace Go.Proofs.YtneciccdiledfaaGreatDoor
open Go.RowKit
open Sm
open Cf
set_option linter.unusedVariables false
set_option linter.unusedSimpArgs false
set_option maxRecDepth 20000

theorem flat_at {α : Type} {sz : Nat} : ∀ (xs : List (List α)) (i j : Nat) (u : α), (∀ x ∈ xs, x.length = sz) → (xs.getD i [])[j]? = some u → xs.flatten[i * sz + j]? = some u
  | [], i, j, u, _, h => by simp [List.getD] at h
  | x :: xs, 0, j, u, hx, h => by
    rw [Nat.zero_mul, Nat.zero_add, List.flatten_cons]
    have h' : x[j]? = some u := h
    obtain ⟨hj, -⟩ := List.getElem?_eq_some_iff.mp h'
    rw [List.getElem?_append_left hj]; exact h'
  | x :: xs, i + 1, j, u, hx, h => by
    have h' : (xs.getD i [])[j]? = some u := by simpa [List.getD] using h
    have e := hx x (List.mem_cons_self ..)
    rw [List.flatten_cons, List.getElem?_append_right (by rw [e, Nat.succ_mul]; omega), show (i + 1) * sz + j - x.length = i * sz + j by rw [e, Nat.succ_mul]; omega]
    exact flat_at xs i j u (fun y hy => hx y (List.mem_cons_of_mem _ hy)) h'
end Go.Proofs.YtneciccdiledfaaGreatDoor

namespace Go.Proofs.YtneciccdiledfaaGreatDoor
open Go.RowKit
open Sm
open Cf
set_option linter.unusedVariables false
set_option linter.unusedSimpArgs false
set_option maxRecDepth 20000

end Go.Proofs.YtneciccdiledfaaGreatDoor

