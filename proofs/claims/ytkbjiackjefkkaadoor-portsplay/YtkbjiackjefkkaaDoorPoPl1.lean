/-
  Ports: the program's and the document's side by side.
-/
import Derived.Test.YtkbjiackjefkkaaDoorPoPl0
namespace Go.Proofs.YtkbjiackjefkkaaDoor
open Go.RowKit
open Sm
open Po
set_option linter.unusedVariables false
set_option linter.unusedSimpArgs false
set_option maxRecDepth 20000

namespace Po
/-- Both: the program's with the marks xs, the document's with ys. -/
def Two (PS : List Mk → Nat → List (Nat × Obj) → Prop) (w : World) (pp pm : Nat) (xs ys : List Mk) (X : World) (L : List (Nat × Obj)) : Prop :=
  ∃ Bp Bm, PS xs pp Bp ∧ RPs ys pm Bm ∧ Mem w X (Bp ++ (Bm ++ L))
def tko (R : Option (Int × Int)) : Value :=
  match R with
  | some (ip, k) => .tuple #[.agg #[.int .u32 ip, .int .u16 k], .int .i64 0]
  | none => .tuple #[.agg #[.int .u32 0, .int .u16 0], .int .i64 120]
def aft (xs : List Mk) (pr : Int) (R : Option (Int × Int)) : List Mk :=
  match R with
  | some (ip, k) => xs ++ [(pr, ip, k)]
  | none => xs
section
variable {PS : List Mk → Nat → List (Nat × Obj) → Prop} {w X Y : World} {pp pm : Nat} {xs ys : List Mk} {L K : List (Nat × Obj)}
theorem mem_tail : ∀ (A : List (Nat × Obj)), Mem w X (A ++ L) → Mem w X L
  | [], h => h
  | _ :: A, h => mem_tail A h.sub
theorem Two.mem (h : Two PS w pp pm xs ys X L) : Mem w X L := by
  obtain ⟨Bp, Bm, -, -, hm⟩ := h
  exact mem_tail Bm (mem_tail Bp hm)
theorem Two.after (h : Two PS w pp pm xs ys X L) (hb : Below X.heap.size X Y) : Two PS w pp pm xs ys Y L := by
  obtain ⟨Bp, Bm, h1, h2, hm⟩ := h
  exact ⟨Bp, Bm, h1, h2, hm.after hb⟩
theorem Two.push (h : Two PS w pp pm xs ys X L) (g : Nat) (o : Obj) (hg : g = X.heap.size) : Two PS w pp pm xs ys (X.alloc o) ((g, o) :: L) := by
  obtain ⟨Bp, Bm, h1, h2, hm⟩ := h
  refine ⟨Bp, Bm, h1, h2, (hm.push g o hg).perm ?_⟩
  classical
  rw [List.perm_iff_count]
  intro q
  simp only [List.count_append, List.count_cons, List.count_nil]
  omega
theorem Two.perm (h : Two PS w pp pm xs ys X L) (hp : L.Perm K) : Two PS w pp pm xs ys X K := by
  obtain ⟨Bp, Bm, h1, h2, hm⟩ := h
  exact ⟨Bp, Bm, h1, h2, hm.perm ((hp.append_left Bm).append_left Bp)⟩
theorem Two.sub {q : Nat × Obj} (h : Two PS w pp pm xs ys X (q :: L)) : Two PS w pp pm xs ys X L := by
  obtain ⟨Bp, Bm, h1, h2, hm⟩ := h
  refine ⟨Bp, Bm, h1, h2, (hm.perm (show List.Perm _ (q :: (Bp ++ (Bm ++ L))) by
    classical
    rw [List.perm_iff_count]
    intro q
    simp only [List.count_append, List.count_cons]
    omega)).sub⟩
/-- A store into one of the blocks beside. -/
theorem Two.set {g : Nat} {c : Array Value} {t : TypeId} (h : Two PS w pp pm xs ys X ((g, .cells c t (0, 0)) :: L)) (j : Nat) (v : Value) : Two PS w pp pm xs ys (X.setCell ⟨g, j, none⟩ v) ((g, .cells (c.setIfInBounds j v) t (0, 0)) :: L) := by
  obtain ⟨Bp, Bm, h1, h2, hm⟩ := h
  have hp : ∀ o, List.Perm (Bp ++ (Bm ++ ((g, o) :: L))) ((g, o) :: (Bp ++ (Bm ++ L))) := fun o => by
    classical
    rw [List.perm_iff_count]
    intro q
    simp only [List.count_append, List.count_cons]
    omega
  have : Mem w (X.setCell ⟨g, j, none⟩ v) ((g, .cells (c.setIfInBounds j v) t (0, 0)) :: (Bp ++ (Bm ++ L))) := (hm.perm (hp _)).set 0 rfl j v
  exact ⟨Bp, Bm, h1, h2, this.perm (hp _).symm⟩
theorem Two.wrote {g : Nat} {c new : Array Value} {t : TypeId} (h : Two PS w pp pm xs ys X ((g, .cells c t (0, 0)) :: L)) : Two PS w pp pm xs ys (X.setRow g new) ((g, .cells new t (0, 0)) :: L) := by
  obtain ⟨Bp, Bm, h1, h2, hm⟩ := h
  have hp : ∀ o, List.Perm (Bp ++ (Bm ++ ((g, o) :: L))) ((g, o) :: (Bp ++ (Bm ++ L))) := fun o => by
    classical
    rw [List.perm_iff_count]
    intro q
    simp only [List.count_append, List.count_cons]
    omega
  have hq := hm.perm (hp _)
  have : Mem w (X.setRow g new) ((g, .cells new t (0, 0)) :: (Bp ++ (Bm ++ L))) := hq.wrote 0 rfl (wrote_setRow X g c new t (hq.get 0 rfl))
  exact ⟨Bp, Bm, h1, h2, this.perm (hp _).symm⟩
/-- The document's list, as it lies. -/
theorem Two.row (h : Two PS w pp pm xs ys X L) : ∃ v, X.cell? ⟨pm, 0, none⟩ = some v ∧ Rw X 3 v (mx ys) := by
  obtain ⟨Bp, Bm, h1, h2, hm⟩ := h
  exact h2.cell (hm.perm (show List.Perm _ (Bm ++ (Bp ++ L)) by
    classical
    rw [List.perm_iff_count]
    intro q
    simp only [List.count_append]
    omega))
theorem Two.same {Bp Bp' Bm : List (Nat × Obj)} (k : RPs ys pm Bm) (h1 : Mem w X (Bp ++ (Bm ++ L))) (h2 : Mem w Y (Bp' ++ (Bm ++ L))) : Y.cell? ⟨pm, 0, none⟩ = X.cell? ⟨pm, 0, none⟩ := by
  obtain ⟨v, C, -, rfl⟩ := k
  have e1 := (mem_tail Bp h1).cell 0 rfl 0
  have e2 := (mem_tail Bp' h2).cell 0 rfl 0
  rw [e1, e2]
variable (hc : PC w PS)
include hc
theorem Two.ptake (h : Two PS w pp pm xs ys X L) (hn : xs.length ≤ 1000) {vp : Value} {l : List Int} (hv : Rw X 1 vp (ux l)) (hl : l.length ≤ 1000) (hb : ∀ x ∈ l, 0 ≤ x ∧ x ≤ 4294967295) (pr lo hi want : Int) (h1 : 0 ≤ pr ∧ pr ≤ 255) (h2 : 0 ≤ lo ∧ lo ≤ 65535) (h3 : 0 ≤ hi ∧ hi ≤ 65535) (h4 : 0 ≤ want ∧ want ≤ 65535) :
    Calls Tryd.prog 11 #[.pointer (some ⟨pp, 0, none⟩), .int .u8 pr, vp, .int .u16 lo, .int .u16 hi, .int .u16 want] X fun e Y => e = .returned (tko (tk xs pr (frm lo want) (upt hi want) l)) ∧ Two PS w pp pm (aft xs pr (tk xs pr (frm lo want) (upt hi want) l)) ys Y L := by
  obtain ⟨Bp, Bm, k1, k2, hm⟩ := h
  refine (hc.take k1 hm hn hv hl hb pr lo hi want h1 h2 h3 h4).mono ?_
  intro e Y hT
  cases hR : tk xs pr (frm lo want) (upt hi want) l with
  | none =>
    rw [hR] at hT
    obtain ⟨rfl, B', q1, q2⟩ := tkq_none hT
    exact ⟨rfl, B', Bm, q1, k2, q2⟩
  | some x =>
    obtain ⟨ip, k⟩ := x
    rw [hR] at hT
    obtain ⟨rfl, B', q1, q2⟩ := tkq_some hT
    exact ⟨rfl, B', Bm, q1, k2, q2⟩
omit hc in
theorem Two.rtake (h : Two PS w pp pm xs ys X L) (hn : ys.length ≤ 1000) {vp : Value} {l : List Int} (hv : Rw X 1 vp (ux l)) (hl : l.length ≤ 1000) (pr lo hi want : Int) (h2 : 0 ≤ lo ∧ lo ≤ 65535) (h3 : 0 ≤ hi ∧ hi ≤ 65535) (h4 : 0 ≤ want ∧ want ≤ 65535) :
    Calls Tryd.prog 12 #[.pointer (some ⟨pm, 0, none⟩), .int .u8 pr, vp, .int .u16 lo, .int .u16 hi, .int .u16 want] X fun e Y => e = .returned (tko (tk ys pr (frm lo want) (upt hi want) l)) ∧ Two PS w pp pm xs (aft ys pr (tk ys pr (frm lo want) (upt hi want) l)) Y L := by
  obtain ⟨Bp, Bm, k1, k2, hm⟩ := h
  have hp : ∀ B : List (Nat × Obj), List.Perm (Bp ++ (B ++ L)) (B ++ (Bp ++ L)) := fun B => by
    classical
    rw [List.perm_iff_count]
    intro q
    simp only [List.count_append]
    omega
  refine (rtake17_any k2 (hm.perm (hp Bm)) (by omega) hv (by omega) pr lo hi want h2 h3 h4).mono ?_
  intro e Y hT
  cases hR : tk ys pr (frm lo want) (upt hi want) l with
  | none =>
    rw [hR] at hT
    obtain ⟨rfl, B', q1, q2⟩ := hT
    exact ⟨rfl, Bp, B', k1, q1, q2.perm (hp B').symm⟩
  | some x =>
    obtain ⟨ip, k⟩ := x
    rw [hR] at hT
    obtain ⟨rfl, B', q1, q2⟩ := hT
    exact ⟨rfl, Bp, B', k1, q1, q2.perm (hp B').symm⟩
theorem Two.phold (h : Two PS w pp pm xs ys X L) (hn : xs.length ≤ 1000) (pr a b : Int) (hk : MOk (pr, a, b)) :
    Calls Tryd.prog 13 #[.pointer (some ⟨pp, 0, none⟩), .int .u8 pr, .agg #[.int .u32 a, .int .u16 b]] X fun e Y => e = .returned (.int .i64 (if (pr, a, b) ∈ xs then 121 else 0)) ∧ Two PS w pp pm (if (pr, a, b) ∈ xs then xs else xs ++ [(pr, a, b)]) ys Y L := by
  obtain ⟨Bp, Bm, k1, k2, hm⟩ := h
  refine (hc.hold k1 hm hn pr a b hk).mono ?_
  rintro e Y ⟨h1, B', q1, q2⟩
  exact ⟨h1, B', Bm, q1, k2, q2⟩
theorem Two.pfree (h : Two PS w pp pm xs ys X L) (hn : xs.length ≤ 1000) (pr a b : Int) (hk : MOk (pr, a, b)) :
    Calls Tryd.prog 15 #[.pointer (some ⟨pp, 0, none⟩), .int .u8 pr, .agg #[.int .u32 a, .int .u16 b]] X fun e Y => e = .returned (.int .i64 (if (pr, a, b) ∈ xs then 0 else 121)) ∧ Two PS w pp pm (xs.erase (pr, a, b)) ys Y L := by
  obtain ⟨Bp, Bm, k1, k2, hm⟩ := h
  refine (hc.free k1 hm hn pr a b hk).mono ?_
  rintro e Y ⟨h1, B', q1, q2⟩
  exact ⟨h1, B', Bm, q1, k2, q2⟩
theorem Two.pheld (h : Two PS w pp pm xs ys X L) (hn : xs.length ≤ 1000) (pr a b : Int) (hk : MOk (pr, a, b)) :
    Calls Tryd.prog 18 #[.pointer (some ⟨pp, 0, none⟩), .int .u8 pr, .agg #[.int .u32 a, .int .u16 b]] X fun e Y => e = .returned (.bool (decide ((pr, a, b) ∈ xs))) ∧ Two PS w pp pm xs ys Y L ∧ Y.cell? ⟨pm, 0, none⟩ = X.cell? ⟨pm, 0, none⟩ := by
  obtain ⟨Bp, Bm, k1, k2, hm⟩ := h
  refine (hc.held k1 hm hn pr a b hk).mono ?_
  rintro e Y ⟨h1, B', q1, q2⟩
  exact ⟨h1, ⟨B', Bm, q1, k2, q2⟩, Two.same k2 hm q2⟩
theorem Two.pcount (h : Two PS w pp pm xs ys X L) (hn : xs.length ≤ 1000) :
    Calls Tryd.prog 17 #[.pointer (some ⟨pp, 0, none⟩)] X fun e Y => e = .returned (.int .i64 xs.length) ∧ Two PS w pp pm xs ys Y L ∧ Y.cell? ⟨pm, 0, none⟩ = X.cell? ⟨pm, 0, none⟩ := by
  obtain ⟨Bp, Bm, k1, k2, hm⟩ := h
  refine (hc.count k1 hm hn).mono ?_
  rintro e Y ⟨h1, B', q1, q2⟩
  exact ⟨h1, ⟨B', Bm, q1, k2, q2⟩, Two.same k2 hm q2⟩
omit hc
theorem Two.rhold (h : Two PS w pp pm xs ys X L) (hn : ys.length ≤ 1000) (pr a b : Int) :
    Calls Tryd.prog 14 #[.pointer (some ⟨pm, 0, none⟩), .int .u8 pr, .agg #[.int .u32 a, .int .u16 b]] X fun e Y => e = .returned (.int .i64 (if (pr, a, b) ∈ ys then 121 else 0)) ∧ Two PS w pp pm xs (if (pr, a, b) ∈ ys then ys else ys ++ [(pr, a, b)]) Y L := by
  obtain ⟨Bp, Bm, k1, k2, hm⟩ := h
  have hp : ∀ B : List (Nat × Obj), List.Perm (Bp ++ (B ++ L)) (B ++ (Bp ++ L)) := fun B => by
    classical
    rw [List.perm_iff_count]
    intro q
    simp only [List.count_append]
    omega
  refine (rhold17_any k2 (hm.perm (hp Bm)) (by omega) pr a b).mono ?_
  rintro e Y ⟨h1, B', q1, q2⟩
  exact ⟨h1, Bp, B', k1, q1, q2.perm (hp B').symm⟩
theorem Two.rfree (h : Two PS w pp pm xs ys X L) (hn : ys.length ≤ 1000) (pr a b : Int) :
    Calls Tryd.prog 16 #[.pointer (some ⟨pm, 0, none⟩), .int .u8 pr, .agg #[.int .u32 a, .int .u16 b]] X fun e Y => e = .returned (.int .i64 (if (pr, a, b) ∈ ys then 0 else 121)) ∧ Two PS w pp pm xs (ys.erase (pr, a, b)) Y L := by
  obtain ⟨Bp, Bm, k1, k2, hm⟩ := h
  have hp : ∀ B : List (Nat × Obj), List.Perm (Bp ++ (B ++ L)) (B ++ (Bp ++ L)) := fun B => by
    classical
    rw [List.perm_iff_count]
    intro q
    simp only [List.count_append]
    omega
  refine (rfree17_any k2 (hm.perm (hp Bm)) (by omega) pr a b).mono ?_
  rintro e Y ⟨h1, B', q1, q2⟩
  exact ⟨h1, Bp, B', k1, q1, q2.perm (hp B').symm⟩
theorem Two.rhas (h : Two PS w pp pm xs ys X L) (pr a b : Int) :
    Calls Tryd.prog 19 #[.pointer (some ⟨pm, 0, none⟩), .int .u8 pr, .agg #[.int .u32 a, .int .u16 b]] X fun e Y => e = .returned (.bool (decide ((pr, a, b) ∈ ys))) ∧ Two PS w pp pm xs ys Y L ∧ Y.cell? ⟨pm, 0, none⟩ = X.cell? ⟨pm, 0, none⟩ := by
  obtain ⟨v, q1, q2⟩ := h.row
  refine (rhas17_any q1 q2 pr a b).mono ?_
  rintro e Y ⟨h1, hb⟩
  exact ⟨h1, h.after hb, hb.cell (p := ⟨pm, 0, none⟩) (cell_lt q1)⟩
end
/-- Whatever Take gives out is of the pool, and a port. -/
theorem tk_in {xs : List Mk} {pr F T ip k : Int} : ∀ {l : List Int}, tk xs pr F T l = some (ip, k) → ip ∈ l ∧ F ≤ k ∧ k ≤ T + 1
  | [], h => by cases h
  | j :: l, h => by
    rw [tk] at h
    cases e : t1 xs pr j (cnt F T) F with
    | none =>
      rw [e] at h
      obtain ⟨h1, h2⟩ := tk_in h
      exact ⟨List.mem_cons_of_mem _ h1, h2⟩
    | some q =>
      rw [e] at h
      simp only [Option.some.injEq, Prod.mk.injEq] at h
      obtain ⟨rfl, rfl⟩ := h
      obtain ⟨h1, h2, -⟩ := t1_in _ _ _ e
      refine ⟨List.mem_cons_self, h1, ?_⟩
      unfold cnt at h2
      omega
theorem t1_par {xs : List Mk} {pr ip : Int} : ∀ (n : Nat) (k j : Int), t1 xs pr ip n k = some j → ∃ a : Nat, a < n ∧ j = k + 2 * a
  | 0, k, j, h => by cases h
  | n + 1, k, j, h => by
    unfold t1 at h
    split at h
    · obtain ⟨a, h1, h2⟩ := t1_par n (k + 2) j h
      exact ⟨a + 1, by omega, by omega⟩
    · cases h
      exact ⟨0, by omega, by simp⟩
theorem tk_top {xs : List Mk} {pr F T ip k : Int} : ∀ {l : List Int}, tk xs pr F T l = some (ip, k) → ip ∈ l ∧ F ≤ k ∧ k ≤ T
  | [], h => by cases h
  | j :: l, h => by
    rw [tk] at h
    cases e : t1 xs pr j (cnt F T) F with
    | none =>
      rw [e] at h
      obtain ⟨h1, h2⟩ := tk_top h
      exact ⟨List.mem_cons_of_mem _ h1, h2⟩
    | some q =>
      rw [e] at h
      simp only [Option.some.injEq, Prod.mk.injEq] at h
      obtain ⟨rfl, rfl⟩ := h
      obtain ⟨a, h1, rfl⟩ := t1_par _ _ _ e
      unfold cnt at h1
      exact ⟨List.mem_cons_self, by omega, by omega⟩
theorem aft_ok {xs : List Mk} {pr lo hi want : Int} {l : List Int} (h : ∀ m ∈ xs, MOk m) (hp : 0 ≤ pr ∧ pr ≤ 255) (hl : ∀ x ∈ l, 0 ≤ x ∧ x ≤ 4294967295) (h1 : 0 ≤ lo) (h2 : hi ≤ 65535) :
    ∀ m ∈ aft xs pr (tk xs pr (frm lo want) (upt hi want) l), MOk m := by
  cases hR : tk xs pr (frm lo want) (upt hi want) l with
  | none => exact h
  | some x =>
    obtain ⟨ip, k⟩ := x
    obtain ⟨q1, q2, q3⟩ := tk_top hR
    have := frm_ge (want := want) h1
    have := upt_le (want := want) h2
    intro m hm
    rcases List.mem_append.1 hm with hm | hm
    · exact h m hm
    · rw [List.mem_singleton] at hm
      subst hm
      exact ⟨hp, hl _ q1, by show 0 ≤ k ∧ k ≤ 65535; omega⟩
theorem aft_len {xs : List Mk} {pr : Int} {R : Option (Int × Int)} : (aft xs pr R).length ≤ xs.length + 1 := by
  cases R <;> simp [aft]
theorem hold_ok {xs : List Mk} {m : Mk} (h : ∀ x ∈ xs, MOk x) (hm : MOk m) : ∀ x ∈ (if m ∈ xs then xs else xs ++ [m]), MOk x := by
  intro x hx
  split at hx
  · exact h x hx
  · rcases List.mem_append.1 hx with hx | hx
    · exact h x hx
    · rw [List.mem_singleton] at hx; subst hx; exact hm
theorem hold_len {xs : List Mk} {m : Mk} : (if m ∈ xs then xs else xs ++ [m]).length ≤ xs.length + 1 := by split <;> simp
end Po
end Go.Proofs.YtkbjiackjefkkaaDoor
