/-
  Settings as bytes: the document's OpenConfig: tenants of the call's own, in blocks.
  Settings as bytes: the document's OpenConfig: stores into its box.
  What is changed: lists in order of names: what is put in, taken out, found; names in order, each once.
  The library's contracts that this program uses, at its own numbers.
-/
import Derived.Test.YtbccadbnaggkhaaGreatKE27
import Derived.Test.YtbccadbnaggkhaaGreatKE28
import Derived.Test.YtbccadbnaggkhaaGreatKE25
import Derived.Sort.Walk0
import Derived.Lib.SlicesCompact
import Derived.Test.YtbccadbnaggkhaaGreatKE01
import Derived.Sort.EveryDepth
import Derived.Shelf.Slices.CompactS
import Derived.Shelf.Slices.In.SortNone
import Derived.Shelf.Sort.AssemblysIn
import Derived.Test.YtbccadbnaggkhaaGreatProg
namespace Go.Proofs.YtbccadbnaggkhaaGreat
open Go.RowKit
open Sm
open Cf
set_option linter.unusedVariables false
set_option linter.unusedSimpArgs false
set_option maxRecDepth 20000

/-- A tenant's lists in blocks C. -/
def ZB (z : Tv) (C : List (Nat × Obj)) : Prop := TLen z.1 ∧ ∃ B1 B2 B3, (∀ x ∈ B3 ++ (B2 ++ B1), x ∈ C) ∧ OwB 26 1 z.2.1 z.1.pool.length (ux z.1.pool).flatten B1 ∧ OwB 62 2 z.2.2.1 z.1.stat.length (px z.1.stat).flatten B2 ∧ OwB 62 2 z.2.2.2 z.1.twi.length (px z.1.twi).flatten B3
/-- A slice of tenants of the call's own: its cells in blocks B, their lists in blocks C. -/
def TsB (u : Value) (ts : List Ten) (B C : List (Nat × Obj)) : Prop := ∃ zs : List Tv, zs.map Prod.fst = ts ∧ OwB 34 33 u zs.length (zs.map zc).flatten B ∧ ∀ z ∈ zs, ZB z C
theorem ZB.more {z : Tv} {C D : List (Nat × Obj)} (h : ZB z C) (hs : ∀ x ∈ C, x ∈ D) : ZB z D := by
  obtain ⟨h1, B1, B2, B3, h2, h3⟩ := h
  exact ⟨h1, B1, B2, B3, fun x hx => hs x (h2 x hx), h3⟩
theorem zb_rws {V : World} {z : Tv} {C : List (Nat × Obj)} (h : ZB z C) (hC : ∀ x ∈ C, V.heap[x.1]? = some x.2) : TLen z.1 ∧ Rws V z := by
  obtain ⟨hl, B1, B2, B3, hs, h1, h2, h3⟩ := h
  refine ⟨hl, owb_rw' (fun x hx => ?_) (by simpa [ux] using h1) (fun x hx => hC x (hs x (by simp [hx]))), owb_rw' (fun x hx => ?_) (by simpa [px] using h2) (fun x hx => hC x (hs x (by simp [hx]))), owb_rw' (fun x hx => ?_) (by simpa [px] using h3) (fun x hx => hC x (hs x (by simp [hx])))⟩
  · simp only [ux, List.mem_map] at hx; obtain ⟨y, -, rfl⟩ := hx; rfl
  · simp only [px, List.mem_map] at hx; obtain ⟨y, -, rfl⟩ := hx; rfl
  · simp only [px, List.mem_map] at hx; obtain ⟨y, -, rfl⟩ := hx; rfl
theorem tsb_tsv {V : World} {u : Value} {ts : List Ten} {B C : List (Nat × Obj)} (h : TsB u ts B C) (hB : ∀ x ∈ B ++ C, V.heap[x.1]? = some x.2) : TSV V u ts := by
  obtain ⟨zs, e, h1, h2⟩ := h
  refine ⟨zs, e, owb_rw' (fun x hx => ?_) (by rw [List.length_map]; exact h1) (fun x hx => hB x (by simp [hx])), fun z hz => zb_rws (h2 z hz) (fun x hx => hB x (by simp [hx]))⟩
  obtain ⟨z, hz, rfl⟩ := List.mem_map.mp hx
  exact tc_len (h2 z hz).1 _ _ _
theorem zb_one {z : Tv} {C : List (Nat × Obj)} (h : ZB z C) : ∀ u ∈ zc z, u.oneCell' = true := by
  obtain ⟨hl, B1, B2, B3, hs, h1, h2, h3⟩ := h
  have := tc_one3 z.1 (owb_one h1) (owb_one h2) (owb_one h3)
  intro u hu
  rw [Array.all_eq_true_iff_forall_mem] at this
  exact this u (by simpa [zc] using hu)
end Go.Proofs.YtbccadbnaggkhaaGreat

namespace Go.Proofs.YtbccadbnaggkhaaGreat
open Go.RowKit
open Sm
open Cf
set_option linter.unusedVariables false
set_option linter.unusedSimpArgs false
set_option maxRecDepth 20000

theorem bsliceT (z : Tv) (hl : TLen z.1) (V : World) : (Instr.buildSlice 22 1 #[(0, .agg (zc z).toArray)]).run Tryz.prog V = .ok (.slice (some ⟨V.heap.size, 0, none⟩) 1 1) (V.alloc (.cells (zc z).toArray 34)) := by
  obtain ⟨⟨n, vn, key, vt, vm, ho, po, lo, hi, fi, st, tw, se, qu, ra, bu⟩, p, s, q⟩ := z
  obtain ⟨h1, h2, h3⟩ := hl
  obtain ⟨a, b, c, d, f, g, x, y, rfl⟩ := eight8 h1
  obtain ⟨a1, b1, c1, d1, f1, g1, rfl⟩ := six6 h2
  obtain ⟨a2, b2, c2, d2, f2, g2, rfl⟩ := six6 h3
  obtain ⟨os, tape, heap⟩ := V
  kernel_rfl
theorem wpList_bsl {ops : Array Oper} {rest : List Oper} {o : Oper} {a : Act} {w w' : World} {Q : Exit → Act → World → Prop} (hw : Region.wanted o (yielded ops a.tmps) = true) (ty : TypeId) (n : Nat) (parts : Array (Nat × Operand)) (ho : o.op = .buildSlice ty n parts) {vs : Array (Nat × Value)} {v : Value}
    (hr : (Instr.buildSlice ty n vs).run Tryz.prog w = .ok v w') (hv : (parts.map fun (i, x) => (i, a.eval x)) = vs) (h : wpList Tryz.prog ops Q rest (a.put o.dst v) w') : wpList Tryz.prog ops Q (o :: rest) a w :=
  wpList_wanted hw fun _ hK => by
    subst hv
    unfold Oper.wp execOp
    simp only [ho, Sem.run_bind, hr, Result.andThen_ok, Sem.run_pure]
    exact hK _ _ h
end Go.Proofs.YtbccadbnaggkhaaGreat

namespace Go.Proofs.YtbccadbnaggkhaaGreat
set_option linter.unusedVariables false
set_option linter.unusedSimpArgs false
namespace Df
section
variable {α : Type} (f : α → List UInt8)
/-- A list, with one more in its name's place. -/
def put (t : α) (again : Bool) : List α → List α
  | [] => [t]
  | y :: r => if f y < f t then y :: put t again r else if f y = f t then (if again then t :: r else y :: r) else t :: y :: r
def del (n : List UInt8) (M : List α) : List α := M.filter (fun y => decide (f y ≠ n))
def look (n : List UInt8) (M : List α) : Option α := M.find? (fun y => decide (f y = n))
def Srt (M : List α) : Prop := M.Pairwise (fun a b => f a < f b)
def byn (l : List α) : List α := l.foldl (fun M t => put f t false M) []
end
theorem lt_irr (a : List UInt8) : ¬ a < a := List.lt_irrefl a
theorem lt_tr {a b c : List UInt8} (h : a < b) (h' : b < c) : a < c := List.lt_trans h h'
theorem lt_or {a b : List UInt8} (h : ¬ a < b) (hn : a ≠ b) : b < a := by
  rcases List.le_total a b with h1 | h1
  · exact absurd (List.le_antisymm h1 (List.not_lt.1 h)) hn
  · exact Classical.byContradiction fun h2 => hn (List.le_antisymm (List.not_lt.1 h2) h1)
theorem lt_ne {a b : List UInt8} (h : a < b) : a ≠ b := fun e => lt_irr b (e ▸ h)
section
variable {α : Type} {f : α → List UInt8}
theorem mem_put {t : α} {again : Bool} : ∀ {M : List α} {x : α}, x ∈ put f t again M → x = t ∨ x ∈ M
  | [], x, h => by simp [put] at h; exact Or.inl h
  | y :: r, x, h => by
    unfold put at h
    split at h
    · rcases List.mem_cons.1 h with rfl | h
      · exact Or.inr (by simp)
      · rcases mem_put h with h | h
        · exact Or.inl h
        · exact Or.inr (by simp [h])
    · split at h
      · split at h
        · rcases List.mem_cons.1 h with rfl | h
          · exact Or.inl rfl
          · exact Or.inr (by simp [h])
        · exact Or.inr h
      · rcases List.mem_cons.1 h with rfl | h
        · exact Or.inl rfl
        · exact Or.inr h
theorem srt_put {t : α} {again : Bool} : ∀ {M : List α}, Srt f M → Srt f (put f t again M)
  | [], _ => by simp [put, Srt]
  | y :: r, h => by
    obtain ⟨h1, h2⟩ := List.pairwise_cons.1 h
    unfold put
    split
    · rename_i hy
      refine List.pairwise_cons.2 ⟨fun x hx => ?_, srt_put h2⟩
      rcases mem_put hx with rfl | hx
      · exact hy
      · exact h1 x hx
    · rename_i hy
      split
      · rename_i he
        split
        · exact List.pairwise_cons.2 ⟨fun x hx => he ▸ h1 x hx, h2⟩
        · exact h
      · rename_i he
        have hlt := lt_or hy he
        refine List.pairwise_cons.2 ⟨fun x hx => ?_, h⟩
        rcases List.mem_cons.1 hx with rfl | hx
        · exact hlt
        · exact lt_tr hlt (h1 x hx)
theorem srt_del {n : List UInt8} {M : List α} (h : Srt f M) : Srt f (del f n M) := h.filter _
theorem mem_del {n : List UInt8} {M : List α} {x : α} : x ∈ del f n M ↔ x ∈ M ∧ f x ≠ n := by simp [del]
theorem look_some {n : List UInt8} {M : List α} {x : α} (h : look f n M = some x) : x ∈ M ∧ f x = n := by
  have h1 := List.mem_of_find?_eq_some h
  have h2 := List.find?_some h
  exact ⟨h1, by simpa using h2⟩
theorem look_none {n : List UInt8} {M : List α} : look f n M = none ↔ ∀ x ∈ M, f x ≠ n := by
  simp [look, List.find?_eq_none]
theorem srt_inj {M : List α} (h : Srt f M) {x y : α} (hx : x ∈ M) (hy : y ∈ M) (e : f x = f y) : x = y := by
  induction M with
  | nil => cases hx
  | cons z r ih =>
    obtain ⟨h1, h2⟩ := List.pairwise_cons.1 h
    rcases List.mem_cons.1 hx with ex | hx' <;> rcases List.mem_cons.1 hy with ey | hy'
    · rw [ex, ey]
    · subst ex; exact absurd e (lt_ne (h1 y hy'))
    · subst ey; exact absurd e.symm (lt_ne (h1 x hx'))
    · exact ih h2 hx' hy'
theorem look_mem {M : List α} (h : Srt f M) {x : α} (hx : x ∈ M) : look f (f x) M = some x := by
  cases hl : look f (f x) M with
  | none => exact absurd rfl (look_none.1 hl x hx)
  | some y =>
    obtain ⟨h1, h2⟩ := look_some hl
    rw [srt_inj h h1 hx h2]
theorem mem_iff_look {M : List α} (h : Srt f M) {x : α} : x ∈ M ↔ look f (f x) M = some x := ⟨look_mem h, fun h => (look_some h).1⟩
theorem srt_ext : ∀ {A B : List α}, Srt f A → Srt f B → (∀ x, x ∈ A ↔ x ∈ B) → A = B
  | [], [], _, _, _ => rfl
  | [], b :: B, _, _, h => absurd ((h b).2 (by simp)) (by simp)
  | a :: A, [], _, _, h => absurd ((h a).1 (by simp)) (by simp)
  | a :: A, b :: B, hA, hB, h => by
    obtain ⟨a1, a2⟩ := List.pairwise_cons.1 hA
    obtain ⟨b1, b2⟩ := List.pairwise_cons.1 hB
    have e : a = b := by
      rcases List.mem_cons.1 ((h a).1 (by simp)) with e | h1
      · exact e
      · rcases List.mem_cons.1 ((h b).2 (by simp)) with e | h2
        · exact e.symm
        · exact absurd (lt_tr (a1 b h2) (b1 a h1)) (lt_irr _)
    subst e
    rw [srt_ext a2 b2 fun x => ?_]
    constructor
    · intro hx
      rcases List.mem_cons.1 ((h x).1 (by simp [hx])) with e | h1
      · subst e; exact absurd (a1 x hx) (lt_irr _)
      · exact h1
    · intro hx
      rcases List.mem_cons.1 ((h x).2 (by simp [hx])) with e | h1
      · subst e; exact absurd (b1 x hx) (lt_irr _)
      · exact h1
theorem look_ext {A B : List α} (hA : Srt f A) (hB : Srt f B) (h : ∀ n, look f n A = look f n B) : A = B :=
  srt_ext hA hB fun x => by rw [mem_iff_look hA, mem_iff_look hB, h]
theorem look_put_other {t : α} {again : Bool} {n : List UInt8} (hn : f t ≠ n) : ∀ M : List α, look f n (put f t again M) = look f n M
  | [] => by simp [put, look, hn]
  | y :: r => by
    have ih := look_put_other (again := again) hn r
    unfold put
    split
    · unfold look at ih ⊢
      simp only [List.find?_cons]
      rw [ih]
    · split
      · rename_i he
        split
        · have hy : f y ≠ n := he ▸ hn
          simp [look, List.find?_cons, hn, hy]
        · rfl
      · simp [look, List.find?_cons, hn]
theorem look_put_same {t : α} {again : Bool} : ∀ {M : List α}, Srt f M → look f (f t) (put f t again M) = some (if again then t else (look f (f t) M).getD t)
  | [], _ => by simp [put, look]
  | y :: r, h => by
    obtain ⟨h1, h2⟩ := List.pairwise_cons.1 h
    have ih := look_put_same (again := again) (t := t) h2
    unfold put
    split
    · rename_i hy
      have e : f y ≠ f t := lt_ne hy
      unfold look at ih ⊢
      simp only [List.find?_cons, e, decide_false]
      exact ih
    · rename_i hy
      split
      · rename_i he
        cases again <;> simp [look, List.find?_cons, he]
      · rename_i he
        have hlt := lt_or hy he
        have hno : look f (f t) (y :: r) = none := look_none.2 fun x hx => by
          rcases List.mem_cons.1 hx with rfl | hx
          · exact he
          · exact (lt_ne (lt_tr hlt (h1 x hx))).symm
        rw [hno]
        simp [look]
theorem srt_foldl {M : List α} (h : Srt f M) (l : List α) : Srt f (l.foldl (fun M t => put f t false M) M) := by
  induction l generalizing M with
  | nil => exact h
  | cons t l ih => exact ih (srt_put h)
theorem srt_byn (l : List α) : Srt f (byn f l) := srt_foldl List.Pairwise.nil l
theorem look_foldl {M : List α} (h : Srt f M) (n : List UInt8) : ∀ l : List α, look f n (l.foldl (fun M t => put f t false M) M) = (look f n M).or (look f n l)
  | [] => by simp [look]
  | t :: l => by
    have ih := look_foldl (srt_put (t := t) (again := false) h) n l
    rw [List.foldl_cons, ih]
    by_cases hn : f t = n
    · subst hn
      rw [look_put_same h]
      cases hl : look f (f t) M <;> simp [look, List.find?_cons]
    · rw [look_put_other hn]
      have e1 : look f n (t :: l) = look f n l := by simp [look, List.find?_cons, hn]
      rw [e1]
theorem look_byn (l : List α) (n : List UInt8) : look f n (byn f l) = look f n l := by
  rw [byn, look_foldl List.Pairwise.nil]
  simp [look]
theorem byn_srt {M : List α} (h : Srt f M) : byn f M = M := look_ext (srt_byn M) h (look_byn M)
theorem byn_snoc (l : List α) (t : α) : byn f (l ++ [t]) = put f t false (byn f l) := by simp [byn]
theorem mem_byn {l : List α} {x : α} (h : x ∈ byn f l) : x ∈ l := by
  have := (mem_iff_look (srt_byn l)).1 h
  rw [look_byn] at this
  exact (look_some this).1
theorem put_length (t : α) (again : Bool) : ∀ M : List α, (put f t again M).length ≤ M.length + 1
  | [] => by simp [put]
  | y :: r => by
    have := put_length t again r
    unfold put
    split
    · simp; omega
    · split
      · split <;> simp
      · simp
theorem byn_length (l : List α) : (byn f l).length ≤ l.length := by
  have key : ∀ (l M : List α), (l.foldl (fun M t => put f t false M) M).length ≤ M.length + l.length := by
    intro l
    induction l with
    | nil => simp
    | cons t l ih => intro M; have := ih (put f t false M); have := put_length (f := f) t false M; simp only [List.foldl_cons, List.length_cons]; omega
  simpa [byn] using key l []
theorem put_at {t : α} {again : Bool} : ∀ M : List α, ∃ at_, at_ ≤ M.length ∧ (∀ i (h : i < M.length), i < at_ → f M[i] < f t) ∧
    ((∃ h : at_ < M.length, f M[at_] = f t ∧ put f t again M = if again then M.set at_ t else M) ∨ ((∀ h : at_ < M.length, ¬ f M[at_] < f t ∧ f M[at_] ≠ f t) ∧ put f t again M = M.take at_ ++ t :: M.drop at_))
  | [] => ⟨0, by simp, by simp, Or.inr ⟨by simp, by simp [put]⟩⟩
  | y :: r => by
    unfold put
    by_cases hy : f y < f t
    · obtain ⟨k, h1, h2, h3⟩ := put_at (t := t) (again := again) r
      refine ⟨k + 1, by simp; omega, ?_, ?_⟩
      · intro i hi hik
        cases i with
        | zero => exact hy
        | succ i => simpa using h2 i (by simpa using hi) (by omega)
      · rw [if_pos hy]
        rcases h3 with ⟨h, he, e⟩ | ⟨he, e⟩
        · refine Or.inl ⟨by simp; omega, by simpa using he, ?_⟩
          rw [e]
          cases again <;> simp
        · refine Or.inr ⟨fun h => by simpa using he (by simpa using h), ?_⟩
          rw [e]
          simp
    · refine ⟨0, by simp, by simp, ?_⟩
      rw [if_neg hy]
      by_cases he : f y = f t
      · rw [if_pos he]
        refine Or.inl ⟨by simp, by simpa using he, ?_⟩
        cases again <;> simp
      · rw [if_neg he]
        exact Or.inr ⟨fun _ => by simpa using ⟨hy, he⟩, by simp⟩
theorem del_at {M : List α} (h : Srt f M) {k : Nat} (hk : k < M.length) : del f (f M[k]) M = M.take k ++ M.drop (k + 1) := by
  have e : M = M.take k ++ M[k] :: M.drop (k + 1) := by rw [List.getElem_cons_drop, List.take_append_drop]
  have hp : Srt f (M.take k ++ M[k] :: M.drop (k + 1)) := e ▸ h
  generalize hz : M[k] = z at *
  obtain ⟨h1, h2, h3⟩ := List.pairwise_append.1 hp
  obtain ⟨h4, h5⟩ := List.pairwise_cons.1 h2
  conv => lhs; rw [e]
  unfold del
  rw [List.filter_append, List.filter_cons]
  have a1 : (M.take k).filter (fun y => decide (f y ≠ f z)) = M.take k := List.filter_eq_self.2 fun x hx => by
    have := h3 x hx z (by simp)
    simpa using lt_ne this
  have a2 : (M.drop (k + 1)).filter (fun y => decide (f y ≠ f z)) = M.drop (k + 1) := List.filter_eq_self.2 fun x hx => by
    have := h4 x hx
    simpa using (lt_ne this).symm
  rw [a1, a2]
  simp
theorem del_no {M : List α} {n : List UInt8} (h : ∀ k (hk : k < M.length), f M[k] ≠ n) : del f n M = M :=
  List.filter_eq_self.2 fun x hx => by
    obtain ⟨k, hk, rfl⟩ := List.mem_iff_getElem.1 hx
    simpa using h k hk
theorem del_length (n : List UInt8) (M : List α) : (del f n M).length ≤ M.length := List.length_filter_le _ _
end
section
variable {α β : Type} {f : α → List UInt8} {g : β → List UInt8} {h : α → β} (hg : ∀ x, g (h x) = f x)
include hg
theorem map_put (t : α) (again : Bool) : ∀ M : List α, (put f t again M).map h = put g (h t) again (M.map h)
  | [] => rfl
  | y :: r => by
    simp only [put, List.map_cons, hg]
    split
    · simp [map_put t again r]
    · split
      · cases again <;> simp
      · simp
theorem map_del (n : List UInt8) (M : List α) : (del f n M).map h = del g n (M.map h) := by
  unfold del
  rw [List.filter_map]
  congr 1
  apply List.filter_congr
  intro x _
  simp [hg]
theorem map_look (n : List UInt8) : ∀ M : List α, (look f n M).map h = look g n (M.map h)
  | [] => rfl
  | y :: r => by
    have ih := map_look n r
    unfold look at ih ⊢
    by_cases hy : f y = n
    · simp [List.find?_cons, hg, hy]
    · simp [List.find?_cons, hg, hy]
      simpa using ih
theorem map_byn (l : List α) : (byn f l).map h = byn g (l.map h) := by
  have key : ∀ (l M : List α), (l.foldl (fun M t => put f t false M) M).map h = (l.map h).foldl (fun M t => put g t false M) (M.map h) := by
    intro l
    induction l with
    | nil => simp
    | cons t l ih => intro M; simp only [List.foldl_cons, List.map_cons]; rw [ih, map_put hg]
  simpa [byn] using key l []
end
theorem srt_compact {l : List (List UInt8)} (h : l.Pairwise (· ≤ ·)) : (Lib.compact l).Pairwise (· < ·) ∧ ∀ x, x ∈ Lib.compact l ↔ x ∈ l := by
  have hget : ∀ i j, i ≤ j → j < l.length → l.toArray[i]! ≤ l.toArray[j]! := by
    intro i j hij hj
    have hi : i < l.length := by omega
    rw [getElem!_pos _ i (by simpa using hi), getElem!_pos _ j (by simpa using hj)]
    simp only [List.getElem_toArray]
    rcases Nat.lt_or_ge i j with h1 | h1
    · exact List.pairwise_iff_getElem.1 h i j hi hj h1
    · obtain rfl : i = j := by omega
      exact List.le_refl _
  constructor
  · unfold Lib.compact Lib.compactUpTo
    rw [List.pairwise_map]
    refine ((List.pairwise_lt_range (n := l.length)).filter _).imp_of_mem ?_
    intro i j hi hj hij
    simp only [List.mem_filter, List.mem_range] at hi hj
    have h1 := hget i (j - 1) (by omega) (by omega)
    have h2 := hget (j - 1) j (by omega) hj.1
    have hne : l.toArray[j]! ≠ l.toArray[j - 1]! := by
      intro e
      have := hj.2
      rw [Lib.keeps_neg (by omega) e] at this
      cases this
    have h3 := List.le_trans h1 h2
    refine Classical.byContradiction fun hh => ?_
    have h4 : l.toArray[j]! ≤ l.toArray[i]! := List.not_lt.1 hh
    exact hne (List.le_antisymm (List.le_trans h4 h1) h2)
  · intro x
    unfold Lib.compact Lib.compactUpTo
    simp only [List.mem_map, List.mem_filter, List.mem_range]
    constructor
    · rintro ⟨i, ⟨hi, _⟩, rfl⟩
      rw [getElem!_pos _ i (by simpa using hi)]
      simp
    · intro hx
      obtain ⟨i, hi, rfl⟩ := List.mem_iff_getElem.1 hx
      induction i using Nat.strongRecOn with
      | ind i ih =>
        by_cases hk : Lib.keeps l.toArray i = true
        · exact ⟨i, ⟨hi, hk⟩, by rw [getElem!_pos _ i (by simpa using hi)]; simp⟩
        · have h0 : 0 < i := by
            rcases Nat.eq_zero_or_pos i with e | h
            · exact absurd (Lib.keeps_lt_one _ i (by omega)) hk
            · exact h
          have he : l.toArray[i]! = l.toArray[i - 1]! := Classical.byContradiction fun hne => hk (Lib.keeps_pos hne)
          obtain ⟨j, hj, e⟩ := ih (i - 1) (by omega) (by omega) (List.getElem_mem _)
          refine ⟨j, hj, e.trans ?_⟩
          rw [getElem!_pos _ i (by simpa using hi), getElem!_pos _ (i - 1) (by simp; omega)] at he
          simpa using he.symm
theorem names_of {l : List (List UInt8)} {m : List (List UInt8)} (hm : m.Pairwise (· < ·)) (h : ∀ x, x ∈ l ↔ x ∈ m) : Lib.compact (l.mergeSort (fun x y => decide (x ≤ y))) = m := by
  have hs : (l.mergeSort (fun x y => decide (x ≤ y))).Pairwise (· ≤ ·) := by
    have := List.pairwise_mergeSort (le := fun x y : List UInt8 => decide (x ≤ y)) (fun a b c h1 h2 => by simp only [decide_eq_true_eq] at *; exact List.le_trans h1 h2) (fun a b => by simp only [Bool.or_eq_true, decide_eq_true_eq]; exact List.le_total a b) l
    exact this.imp (fun h => by simpa using h)
  obtain ⟨h1, h2⟩ := srt_compact hs
  exact srt_ext (f := id) h1 hm fun x => by rw [h2, List.mem_mergeSort, h]
end Df
end Go.Proofs.YtbccadbnaggkhaaGreat

namespace Go.Proofs
open Go.Shelf
def Tryz.lays190_ren : Go.Shelf.Ren := ⟨fun | 190 => 32 | 125 => 37 | 258 => 36 | 128 => 75 | 129 => 76 | 302 => 66 | 303 => 67 | 304 => 68 | 305 => 69 | 306 => 70 | 307 => 71 | 308 => 72 | 309 => 73 | 310 => 74 | 333 => 123 | 329 => 124 | 330 => 125 | 334 => 126 | 335 => 127 | 336 => 128 | 344 => 138 | n => n, fun | 31 => 53 | 9 => 9 | 3 => 3 | 46 => 60 | 0 => 0 | 51 => 26 | 53 => 123 | 4 => 4 | 183 => 114 | 182 => 113 | 131 => 119 | 5 => 5 | 218 => 143 | 222 => 93 | 228 => 149 | 229 => 150 | n => n, fun | n => n⟩
theorem Tryz.lays190 : Go.Proofs.Lays.n190 Tryz.prog Tryz.lays190_ren := {
  mixed := by kernel_rfl
  f125 := Tryz.func37.trans (congrArg some (by kernel_rfl))
  f128 := Tryz.func75.trans (congrArg some (by kernel_rfl))
  f129 := Tryz.func76.trans (congrArg some (by kernel_rfl))
  f190 := Tryz.func32.trans (congrArg some (by kernel_rfl))
  f258 := Tryz.func36.trans (congrArg some (by kernel_rfl))
  f302 := Tryz.func66.trans (congrArg some (by kernel_rfl))
  f303 := Tryz.func67.trans (congrArg some (by kernel_rfl))
  f304 := Tryz.func68.trans (congrArg some (by kernel_rfl))
  f305 := Tryz.func69.trans (congrArg some (by kernel_rfl))
  f306 := Tryz.func70.trans (congrArg some (by kernel_rfl))
  f307 := Tryz.func71.trans (congrArg some (by kernel_rfl))
  f308 := Tryz.func72.trans (congrArg some (by kernel_rfl))
  f309 := Tryz.func73.trans (congrArg some (by kernel_rfl))
  f310 := Tryz.func74.trans (congrArg some (by kernel_rfl))
  f329 := Tryz.func124.trans (congrArg some (by kernel_rfl))
  f330 := Tryz.func125.trans (congrArg some (by kernel_rfl))
  f333 := Tryz.func123.trans (congrArg some (by kernel_rfl))
  f334 := Tryz.func126.trans (congrArg some (by kernel_rfl))
  f335 := Tryz.func127.trans (congrArg some (by kernel_rfl))
  f336 := Tryz.func128.trans (congrArg some (by kernel_rfl))
  f344 := Tryz.func138.trans (congrArg some (by kernel_rfl))
  t0 := Tryz.underlying0
  a0 := Tryz.isAgg0
  z0 := Tryz.sizeOf0
  v0 := Tryz.zeroValue0
  t3 := Tryz.underlying3
  a3 := Tryz.isAgg3
  z3 := Tryz.sizeOf3
  v3 := Tryz.zeroValue3
  t4 := Tryz.underlying4
  a4 := Tryz.isAgg4
  z4 := Tryz.sizeOf4
  v4 := Tryz.zeroValue4
  t5 := Tryz.underlying5
  a5 := Tryz.isAgg5
  z5 := Tryz.sizeOf5
  v5 := Tryz.zeroValue5
  t9 := Tryz.underlying9
  a9 := Tryz.isAgg9
  z9 := Tryz.sizeOf9
  v9 := Tryz.zeroValue9
  t31 := Tryz.underlying53
  a31 := Tryz.isAgg53
  z31 := Tryz.sizeOf53
  v31 := Tryz.zeroValue53
  t46 := Tryz.underlying60
  a46 := Tryz.isAgg60
  z46 := Tryz.sizeOf60
  v46 := Tryz.zeroValue60
  t51 := Tryz.underlying26
  a51 := Tryz.isAgg26
  z51 := Tryz.sizeOf26
  v51 := Tryz.zeroValue26
  t53 := Tryz.underlying123
  a53 := Tryz.isAgg123
  z53 := Tryz.sizeOf123
  v53 := Tryz.zeroValue123
  t131 := Tryz.underlying119
  a131 := Tryz.isAgg119
  z131 := Tryz.sizeOf119
  v131 := Tryz.zeroValue119
  t182 := Tryz.underlying113
  a182 := Tryz.isAgg113
  z182 := Tryz.sizeOf113
  v182 := Tryz.zeroValue113
  t183 := Tryz.underlying114
  a183 := Tryz.isAgg114
  z183 := Tryz.sizeOf114
  v183 := Tryz.zeroValue114
  t218 := Tryz.underlying143
  a218 := Tryz.isAgg143
  z218 := Tryz.sizeOf143
  v218 := Tryz.zeroValue143
  t222 := Tryz.underlying93
  a222 := Tryz.isAgg93
  z222 := Tryz.sizeOf93
  v222 := Tryz.zeroValue93
  t228 := Tryz.underlying149
  a228 := Tryz.isAgg149
  z228 := Tryz.sizeOf149
  v228 := Tryz.zeroValue149
  t229 := Tryz.underlying150
  a229 := Tryz.isAgg150
  z229 := Tryz.sizeOf150
  v229 := Tryz.zeroValue150 }
def Tryz.lays194_ren : Go.Shelf.Ren := ⟨fun | 194 => 33 | n => n, fun | 31 => 53 | 9 => 9 | 3 => 3 | 4 => 4 | 0 => 0 | n => n, fun | n => n⟩
theorem Tryz.lays194 : Go.Proofs.Lays.n194 Tryz.prog Tryz.lays194_ren := {
  mixed := by kernel_rfl
  f194 := Tryz.func33.trans (congrArg some (by kernel_rfl))
  t0 := Tryz.underlying0
  a0 := Tryz.isAgg0
  z0 := Tryz.sizeOf0
  v0 := Tryz.zeroValue0
  t3 := Tryz.underlying3
  a3 := Tryz.isAgg3
  z3 := Tryz.sizeOf3
  v3 := Tryz.zeroValue3
  t4 := Tryz.underlying4
  a4 := Tryz.isAgg4
  z4 := Tryz.sizeOf4
  v4 := Tryz.zeroValue4
  t9 := Tryz.underlying9
  a9 := Tryz.isAgg9
  z9 := Tryz.sizeOf9
  v9 := Tryz.zeroValue9
  t31 := Tryz.underlying53
  a31 := Tryz.isAgg53
  z31 := Tryz.sizeOf53
  v31 := Tryz.zeroValue53 }
end Go.Proofs

