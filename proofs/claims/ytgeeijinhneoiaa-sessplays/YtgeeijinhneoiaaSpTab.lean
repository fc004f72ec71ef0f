/-
  Sessions, the program's own: the table: a box of two maps; sessions by their key, keys by their outside point.
-/
import Derived.Test.YtgeeijinhneoiaaSpMap
namespace Go.Proofs.Ytgeeijinhneoiaa
open Go.RowKit
open Sm
open Po
open Wh
set_option linter.unusedVariables false
set_option linter.unusedSimpArgs false
set_option maxRecDepth 20000

namespace Ss
theorem mem_blk {w V : World} {L : List (Nat × Obj)} {b : Nat} {o o' : Obj} (h : Mem w V ((b, o) :: L)) : Mem w (Go.ChangeMaps.setBlock V b o') ((b, o') :: L) := by
  have hlt : b < V.heap.size := h.lt (List.mem_cons_self ..)
  have hlow : w.heap.size ≤ b := h.low _ (List.mem_cons_self ..)
  have hat : ∀ k, (Go.ChangeMaps.setBlock V b o').heap[k]? = if k = b then some o' else V.heap[k]? := fun k => by
    show (V.heap.setIfInBounds b o')[k]? = _
    rw [Array.getElem?_setIfInBounds]
    by_cases e : b = k
    · subst e; simp [hlt]
    · simp [e, Ne.symm e]
  have hap := h.apart
  simp only [List.map_cons, List.nodup_cons] at hap
  refine ⟨⟨h.below.os, h.below.tape, h.below.output, ?_, fun k hk => ?_⟩, fun q hq => ?_, fun q hq => ?_, by simpa using hap⟩
  · show _ ≤ (V.heap.setIfInBounds b o').size
    rw [Array.size_setIfInBounds]
    exact h.below.size
  · rw [hat, if_neg (by omega)]
    exact h.below.block k hk
  · rcases List.mem_cons.1 hq with rfl | hq
    · exact hlow
    · exact h.low q (List.mem_cons_of_mem _ hq)
  · rcases List.mem_cons.1 hq with rfl | hq
    · rw [hat, if_pos rfl]
    · have hne : q.1 ≠ b := fun e => hap.1 (e ▸ List.mem_map_of_mem hq)
      rw [hat, if_neg hne]
      exact h.at_ q (List.mem_cons_of_mem _ hq)
theorem len_map {V : World} {b : Nat} {es : Array MapEntry} {clock : Nat} {t k v : TypeId} (ht : Try.prog.underlying t = some (.map k v)) (hb : V.heap[b]? = some (.map es clock)) (ty : TypeId) : (Builtin.len_ #[t] ty #[.map (some b)]).run Try.prog V = .ok (.int .i64 es.size) V := by
  simp [Builtin.len_, run_underlying ht, MapKept.run_getObj_map hb, goInt, Result.andThen]
/-- An outside point with its protocol. -/
def okey (x : Sn) : Ky := (x.pr, x.oip, x.op)
/-- Where a session's cells lie. -/
abbrev sv (x : Sn) (pv : Value) : Value := .agg (sc x pv).toArray
/-- The two maps hold these sessions; their peers lie in the blocks D. -/
structure TS (xs : List Sn) (S1 S2 : Ky → Option Value) (D : List (Nat × Obj)) : Prop where
  have1 : ∀ x ∈ xs, ∃ pv, S1 (key x) = some (sv x pv) ∧ SlF 34 2 pv x.ps.length (px x.ps).flatten D
  none1 : ∀ k, (∀ x ∈ xs, key x ≠ k) → S1 k = none
  have2 : ∀ x ∈ xs, S2 (okey x) = some (kv (key x))
  none2 : ∀ k, (∀ x ∈ xs, okey x ≠ k) → S2 k = none
  sorted : xs.Pairwise fun x y => klt (key x) (key y)
  apart : xs.Pairwise fun x y => okey x ≠ okey y
  fits : ∀ x ∈ xs, SIn x
  few : ∀ x ∈ xs, x.ps.length ≤ 1000
theorem TS.mono {xs : List Sn} {S1 S2 : Ky → Option Value} {D D' : List (Nat × Obj)} (h : TS xs S1 S2 D) (hs : ∀ q ∈ D, q ∈ D') : TS xs S1 S2 D' :=
  ⟨fun x hx => by obtain ⟨pv, h1, h2⟩ := h.have1 x hx; exact ⟨pv, h1, h2.mono hs⟩, h.none1, h.have2, h.none2, h.sorted, h.apart, h.fits, h.few⟩
theorem klt_irrefl (k : Ky) : ¬ klt k k := by unfold klt; omega
theorem klt_trans {a b c : Ky} (h1 : klt a b) (h2 : klt b c) : klt a c := by unfold klt at *; omega
theorem klt_ne {a b : Ky} (h : klt a b) : a ≠ b := fun e => klt_irrefl b (e ▸ h)
theorem klt_tot {a b : Ky} (h1 : ¬ klt a b) (h2 : ¬ klt b a) : a = b := by
  obtain ⟨a1, a2, a3⟩ := a
  obtain ⟨b1, b2, b3⟩ := b
  unfold klt at h1 h2
  simp only at h1 h2
  have e1 : a1 = b1 := by omega
  have e2 : a2 = b2 := by omega
  have e3 : a3 = b3 := by omega
  rw [e1, e2, e3]
theorem fk_some {k : Ky} : ∀ {xs : List Sn} {x : Sn}, fk k xs = some x → x ∈ xs ∧ key x = k
  | [], x, h => by cases h
  | y :: ys, x, h => by
    unfold fk at h
    split at h
    · obtain rfl := Option.some.inj h
      exact ⟨List.mem_cons_self .., by assumption⟩
    · obtain ⟨h1, h2⟩ := fk_some h
      exact ⟨List.mem_cons_of_mem _ h1, h2⟩
theorem fk_none {k : Ky} : ∀ {xs : List Sn}, fk k xs = none → ∀ x ∈ xs, key x ≠ k
  | [], _, x, hx => by cases hx
  | y :: ys, h, x, hx => by
    unfold fk at h
    split at h
    · cases h
    · rcases List.mem_cons.1 hx with rfl | hx
      · assumption
      · exact fk_none h x hx
theorem fo_some {p : Int} {q : Pn} : ∀ {xs : List Sn} {x : Sn}, fo p q xs = some x → x ∈ xs ∧ okey x = (p, q.1, q.2)
  | [], x, h => by cases h
  | y :: ys, x, h => by
    unfold fo at h
    split at h
    · rename_i hc
      obtain rfl := Option.some.inj h
      refine ⟨List.mem_cons_self .., ?_⟩
      unfold okey
      obtain ⟨q1, q2⟩ := q
      simp only [Prod.mk.injEq] at hc ⊢
      exact hc
    · obtain ⟨h1, h2⟩ := fo_some h
      exact ⟨List.mem_cons_of_mem _ h1, h2⟩
theorem fo_none {p : Int} {q : Pn} : ∀ {xs : List Sn}, fo p q xs = none → ∀ x ∈ xs, okey x ≠ (p, q.1, q.2)
  | [], _, x, hx => by cases hx
  | y :: ys, h, x, hx => by
    unfold fo at h
    split at h
    · cases h
    · rename_i hc
      rcases List.mem_cons.1 hx with rfl | hx
      · intro e
        unfold okey at e
        obtain ⟨q1, q2⟩ := q
        simp only [Prod.mk.injEq] at hc e
        exact hc e
      · exact fo_none h x hx
section
variable {xs : List Sn} {S1 S2 : Ky → Option Value} {D L : List (Nat × Obj)}
theorem TS.inj1 (h : TS xs S1 S2 D) {x y : Sn} (hx : x ∈ xs) (hy : y ∈ xs) (e : key x = key y) : x = y := by
  have hs := h.sorted
  obtain ⟨i, hi, rfl⟩ := List.getElem_of_mem hx
  obtain ⟨j, hj, rfl⟩ := List.getElem_of_mem hy
  rw [List.pairwise_iff_getElem] at hs
  rcases Nat.lt_trichotomy i j with hl | hl | hl
  · exact absurd e (klt_ne (hs i j hi hj hl))
  · subst hl; rfl
  · exact absurd e.symm (klt_ne (hs j i hj hi hl))
theorem TS.inj2 (h : TS xs S1 S2 D) {x y : Sn} (hx : x ∈ xs) (hy : y ∈ xs) (e : okey x = okey y) : x = y := by
  have hs := h.apart
  obtain ⟨i, hi, rfl⟩ := List.getElem_of_mem hx
  obtain ⟨j, hj, rfl⟩ := List.getElem_of_mem hy
  rw [List.pairwise_iff_getElem] at hs
  rcases Nat.lt_trichotomy i j with hl | hl | hl
  · exact absurd e (hs i j hi hj hl)
  · subst hl; rfl
  · exact absurd e.symm (hs j i hj hi hl)
theorem TS.key_in (h : TS xs S1 S2 D) {x : Sn} (hx : x ∈ xs) : KIn (key x) := (h.fits x hx).1
theorem sin_okey {s : Sn} (h : SIn s) : KIn (okey s) := ⟨h.1.1, h.2.1.1, h.2.1.2⟩
/-- The box, its two maps as functions, and whatever else in L. -/
def TV (S1 S2 : Ky → Option Value) (p a b : Nat) (w V : World) (L : List (Nat × Obj)) : Prop :=
  ∃ es1 c1 es2 c2, MI 36 S1 es1 c1 ∧ MI 72 S2 es2 c2 ∧ Mem w V ((p, .cells #[.map (some a), .map (some b)] 69 (0, 0)) :: (a, .map es1 c1) :: (b, .map es2 c2) :: L)
variable {p a b : Nat} {w V : World}
theorem TV.keep (h : TV S1 S2 p a b w V L) : V.cell? ⟨p, 0, none⟩ = some (.map (some a)) ∧ V.cell? ⟨p, 1, none⟩ = some (.map (some b)) := by
  obtain ⟨es1, c1, es2, c2, h1, h2, hM⟩ := h
  exact ⟨hM.cell 0 rfl 0, hM.cell 0 rfl 1⟩
theorem TV.drew (h : TV S1 S2 p a b w V L) : TV S1 S2 p a b w V.drew L := by
  obtain ⟨es1, c1, es2, c2, h1, h2, hM⟩ := h
  exact ⟨es1, c1, es2, c2, h1, h2, hM.drew⟩
/-- What else stands there, and the table on whatever is done to that. -/
theorem TV.rest (h : TV S1 S2 p a b w V L) : ∃ B, Mem w V (B ++ L) ∧ ∀ V' L', Mem w V' (B ++ L') → TV S1 S2 p a b w V' L' := by
  obtain ⟨es1, c1, es2, c2, h1, h2, hM⟩ := h
  exact ⟨[(p, .cells #[.map (some a), .map (some b)] 69 (0, 0)), (a, .map es1 c1), (b, .map es2 c2)], hM, fun V' L' h' => ⟨es1, c1, es2, c2, h1, h2, h'⟩⟩
theorem TV.after (h : TV S1 S2 p a b w V L) {V' : World} (hb : Below V.heap.size V V') : TV S1 S2 p a b w V' L := by
  obtain ⟨B, hM, hB⟩ := h.rest
  exact hB _ _ (hM.after hb)
theorem TV.push (h : TV S1 S2 p a b w V L) {g : Nat} (o : List Value) (T : TypeId) (hg : V.heap.size = g) : TV S1 S2 p a b w (V.alloc (.cells o.toArray T)) ((g, .cells o.toArray T (0, 0)) :: L) := by
  obtain ⟨B, hM, hB⟩ := h.rest
  exact hB _ _ ((hM.push g _ hg.symm).perm (by
    classical
    rw [List.perm_iff_count]
    intro q
    simp only [List.count_append, List.count_cons, List.count_nil]
    omega))
theorem TV.perm {L' : List (Nat × Obj)} (h : TV S1 S2 p a b w V L) (hp : L.Perm L') : TV S1 S2 p a b w V L' := by
  obtain ⟨B, hM, hB⟩ := h.rest
  exact hB _ _ (hM.perm (List.Perm.append_left B hp))
theorem TV.look1 (h : TV S1 S2 p a b w V L) {k : Ky} (hk : KIn k) (c : Bool) : (Instr.lookup 66 (.map (some a)) (kv k) c).run Try.prog V = .ok (if c then .tuple #[(S1 k).getD (sv sn0 (.slice none 0 0)), .bool (S1 k).isSome] else (S1 k).getD (sv sn0 (.slice none 0 0))) V := by
  obtain ⟨es1, c1, es2, c2, h1, h2, hM⟩ := h
  exact h1.look kt_key (hM.get 1 rfl) hk c Try.underlying66 (zero_sess _)
theorem TV.look2 (h : TV S1 S2 p a b w V L) {k : Ky} (hk : KIn k) (c : Bool) : (Instr.lookup 67 (.map (some b)) (kv k) c).run Try.prog V = .ok (if c then .tuple #[(S2 k).getD (kv (0, 0, 0)), .bool (S2 k).isSome] else (S2 k).getD (kv (0, 0, 0))) V := by
  obtain ⟨es1, c1, es2, c2, h1, h2, hM⟩ := h
  exact h2.look kt_out (hM.get 2 rfl) hk c Try.underlying67 (by kernel_rfl)
theorem TV.size (h : TV S1 S2 p a b w V L) {l : List Ky} (hn : l.Nodup) (hl : ∀ k, S1 k ≠ none ↔ k ∈ l) (ty : TypeId) : (Builtin.len_ #[66] ty #[.map (some a)]).run Try.prog V = .ok (.int .i64 l.length) V := by
  obtain ⟨es1, c1, es2, c2, h1, h2, hM⟩ := h
  have h3 := len_map Try.underlying66 (hM.get 1 rfl) ty
  rw [h1.size hn hl] at h3
  exact h3
theorem TV.put1 (h : TV S1 S2 p a b w V L) {k : Ky} (hk : KIn k) (v : Value) (hd : ∃ l : List Ky, l.length ≤ 2000 ∧ ∀ q, S1 q ≠ none → q ∈ l) : ∃ o, (Instr.mapUpdate 66 (.map (some a)) (kv k) v).run Try.prog V = .ok () (Go.ChangeMaps.setBlock V a o) ∧ TV (upd S1 k (some v)) S2 p a b w (Go.ChangeMaps.setBlock V a o) L := by
  obtain ⟨es1, c1, es2, c2, h1, h2, hM⟩ := h
  obtain ⟨l, hl1, hl2⟩ := hd
  have hle := h1.le hl2
  obtain ⟨es', clock', hr, hI⟩ := h1.store kt_key (hM.get 1 rfl) hk Try.underlying66 (by simp only [maxLen]; omega) v
  have h3 := mem_blk (o' := .map es' clock') (hM.perm (List.Perm.swap ..))
  exact ⟨.map es' clock', hr, es', clock', es2, c2, hI, h2, h3.perm (List.Perm.swap ..)⟩
theorem TV.put2 (h : TV S1 S2 p a b w V L) {k : Ky} (hk : KIn k) (v : Value) (hd : ∃ l : List Ky, l.length ≤ 2000 ∧ ∀ q, S2 q ≠ none → q ∈ l) : ∃ o, (Instr.mapUpdate 67 (.map (some b)) (kv k) v).run Try.prog V = .ok () (Go.ChangeMaps.setBlock V b o) ∧ TV S1 (upd S2 k (some v)) p a b w (Go.ChangeMaps.setBlock V b o) L := by
  obtain ⟨es1, c1, es2, c2, h1, h2, hM⟩ := h
  obtain ⟨l, hl1, hl2⟩ := hd
  have hle := h2.le hl2
  obtain ⟨es', clock', hr, hI⟩ := h2.store kt_out (hM.get 2 rfl) hk Try.underlying67 (by simp only [maxLen]; omega) v
  have hp : ∀ (x y z : Nat × Obj), List.Perm (x :: y :: z :: L) (z :: x :: y :: L) := fun x y z => (List.Perm.cons x (List.Perm.swap ..)).trans (List.Perm.swap ..)
  have h3 := mem_blk (o' := .map es' clock') (hM.perm (hp _ _ _))
  exact ⟨.map es' clock', hr, es1, c1, es', clock', h1, hI, h3.perm (hp _ _ _).symm⟩
theorem TV.del1 (h : TV S1 S2 p a b w V L) {k : Ky} (hk : KIn k) (ty : TypeId) : ∃ o, (Builtin.delete_ #[66, 36] ty #[.map (some a), kv k]).run Try.prog V = .ok (.tuple #[]) (Go.ChangeMaps.setBlock V a o) ∧ TV (upd S1 k none) S2 p a b w (Go.ChangeMaps.setBlock V a o) L := by
  obtain ⟨es1, c1, es2, c2, h1, h2, hM⟩ := h
  obtain ⟨es', hr, hI⟩ := h1.drop kt_key (hM.get 1 rfl) hk Try.underlying66 ty
  have h3 := mem_blk (o' := .map es' c1) (hM.perm (List.Perm.swap ..))
  exact ⟨.map es' c1, hr, es', c1, es2, c2, hI, h2, h3.perm (List.Perm.swap ..)⟩
theorem TV.del2 (h : TV S1 S2 p a b w V L) {k : Ky} (hk : KIn k) (ty : TypeId) : ∃ o, (Builtin.delete_ #[67, 72] ty #[.map (some b), kv k]).run Try.prog V = .ok (.tuple #[]) (Go.ChangeMaps.setBlock V b o) ∧ TV S1 (upd S2 k none) p a b w (Go.ChangeMaps.setBlock V b o) L := by
  obtain ⟨es1, c1, es2, c2, h1, h2, hM⟩ := h
  obtain ⟨es', hr, hI⟩ := h2.drop kt_out (hM.get 2 rfl) hk Try.underlying67 ty
  have hp : ∀ (x y z : Nat × Obj), List.Perm (x :: y :: z :: L) (z :: x :: y :: L) := fun x y z => (List.Perm.cons x (List.Perm.swap ..)).trans (List.Perm.swap ..)
  have h3 := mem_blk (o' := .map es' c2) (hM.perm (hp _ _ _))
  exact ⟨.map es' c2, hr, es1, c1, es', c2, h1, hI, h3.perm (hp _ _ _).symm⟩
/-- The program's table. -/
def PSs (xs : List Sn) (p : Nat) (B : List (Nat × Obj)) : Prop :=
  ∃ a b es1 c1 es2 c2 S1 S2 D, MI 36 S1 es1 c1 ∧ MI 72 S2 es2 c2 ∧ TS xs S1 S2 D ∧ B = (p, .cells #[.map (some a), .map (some b)] 69 (0, 0)) :: (a, .map es1 c1) :: (b, .map es2 c2) :: D
theorem PSs.open {B : List (Nat × Obj)} (h : PSs xs p B) (hM : Mem w V (B ++ L)) : ∃ a b S1 S2 D, TS xs S1 S2 D ∧ TV S1 S2 p a b w V (D ++ L) := by
  obtain ⟨a, b, es1, c1, es2, c2, S1, S2, D, h1, h2, h3, rfl⟩ := h
  exact ⟨a, b, S1, S2, D, h3, es1, c1, es2, c2, h1, h2, hM⟩
theorem TV.shut (h : TV S1 S2 p a b w V (D ++ L)) (hS : TS xs S1 S2 D) : ∃ B, PSs xs p B ∧ Mem w V (B ++ L) := by
  obtain ⟨es1, c1, es2, c2, h1, h2, hM⟩ := h
  exact ⟨_, ⟨a, b, es1, c1, es2, c2, S1, S2, D, h1, h2, hS, rfl⟩, hM⟩
theorem TS.keys (h : TS xs S1 S2 D) : (xs.map key).Nodup ∧ ∀ k, S1 k ≠ none ↔ k ∈ xs.map key := by
  constructor
  · unfold List.Nodup
    rw [List.pairwise_map]
    exact h.sorted.imp fun {x y} hxy => klt_ne hxy
  · intro k
    constructor
    · intro hk
      rw [List.mem_map]
      apply Classical.byContradiction
      intro hn
      exact hk (h.none1 k fun x hx e => hn ⟨x, hx, e⟩)
    · intro hk
      obtain ⟨x, hx, rfl⟩ := List.mem_map.1 hk
      obtain ⟨pv, h1, -⟩ := h.have1 x hx
      rw [h1]
      simp
theorem TS.okeys (h : TS xs S1 S2 D) : ∀ k, S2 k ≠ none → k ∈ xs.map okey := by
  intro k hk
  rw [List.mem_map]
  apply Classical.byContradiction
  intro hn
  exact hk (h.none2 k fun x hx e => hn ⟨x, hx, e⟩)
theorem TS.find (h : TS xs S1 S2 D) (k : Ky) : (fk k xs = none ∧ S1 k = none) ∨ ∃ x pv, fk k xs = some x ∧ x ∈ xs ∧ key x = k ∧ S1 k = some (sv x pv) ∧ SlF 34 2 pv x.ps.length (px x.ps).flatten D := by
  cases hf : fk k xs with
  | none => exact Or.inl ⟨rfl, h.none1 k (fk_none hf)⟩
  | some x =>
    obtain ⟨hx, hk⟩ := fk_some hf
    obtain ⟨pv, h1, h2⟩ := h.have1 x hx
    exact Or.inr ⟨x, pv, rfl, hx, hk, by rw [← hk, h1], h2⟩
theorem TS.findo (h : TS xs S1 S2 D) (pr : Int) (q : Pn) : (fo pr q xs = none ∧ S2 (pr, q.1, q.2) = none) ∨ ∃ x, fo pr q xs = some x ∧ x ∈ xs ∧ okey x = (pr, q.1, q.2) ∧ S2 (pr, q.1, q.2) = some (kv (key x)) := by
  cases hf : fo pr q xs with
  | none => exact Or.inl ⟨rfl, h.none2 _ (fo_none hf)⟩
  | some x =>
    obtain ⟨hx, hk⟩ := fo_some hf
    exact Or.inr ⟨x, rfl, hx, hk, by rw [← hk, h.have2 x hx]⟩
/-- One that is there is found. -/
theorem TS.found (h : TS xs S1 S2 D) {x : Sn} (hx : x ∈ xs) : fk (key x) xs = some x := by
  rcases h.find (key x) with ⟨h1, -⟩ | ⟨y, pv, h1, hy, hk, -⟩
  · exact absurd rfl (fk_none h1 x hx)
  · rw [h1, h.inj1 hy hx hk]
end
end Ss
end Go.Proofs.Ytgeeijinhneoiaa
