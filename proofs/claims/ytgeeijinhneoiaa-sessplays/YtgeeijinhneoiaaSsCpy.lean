/-
  Sessions: a list of points copied; a struct written into a list in place.
-/
import Derived.Test.YtgeeijinhneoiaaSsDrop
import Derived.Deep.MidRow
namespace Go.Proofs.Ytgeeijinhneoiaa
open Go.RowKit
open Sm
open Po
open Wh
set_option linter.unusedVariables false
set_option linter.unusedSimpArgs false
set_option maxRecDepth 20000

namespace Ss
theorem flat_of {α : Type} {sz : Nat} (h0 : 0 < sz) {xs : List (List α)} (hx : ∀ x ∈ xs, x.length = sz) {j : Nat} {u : α} (h : xs.flatten[j]? = some u) : j / sz < xs.length ∧ (xs.getD (j / sz) [])[j % sz]? = some u := by
  have hl := fl_len hx
  have hj : j < xs.flatten.length := (List.getElem?_eq_some_iff.1 h).1
  have h1 : j / sz < xs.length := by
    rw [hl, Nat.mul_comm] at hj
    exact Nat.div_lt_of_lt_mul hj
  refine ⟨h1, ?_⟩
  have e : (xs.getD (j / sz) []).length = sz := by
    rw [List.getD_eq_getElem?_getD, List.getElem?_eq_getElem h1]
    exact hx _ (List.getElem_mem h1)
  have hm : j % sz < (xs.getD (j / sz) []).length := by
    rw [e]
    exact Nat.mod_lt _ h0
  have := flat_at xs (j / sz) (j % sz) _ hx (List.getElem?_eq_getElem hm)
  rw [Nat.div_add_mod'] at this
  rw [List.getElem?_eq_getElem hm, ← this, h]
theorem copy_pt {w V : World} {L : List (Nat × Obj)} {ps : List Pn} {a : Option Addr} {c : Nat} (hp : PR V (.slice a ps.length c) ps) (hM : Mem w V L) (hn : ps.length ≤ 1000000) :
    ∃ qa qc V' D, (Builtin.append_ #[37, 37] 37 #[.slice none 0 0, .slice a ps.length c]).run Try.prog V = .ok (.slice qa ps.length qc) V' ∧ Mem w V' (D ++ L) ∧ SlF 34 2 (.slice qa ps.length qc) ps.length (px ps).flatten D ∧ Below V.heap.size V V' := by
  by_cases h0 : ps = []
  · subst h0
    obtain ⟨i, hI, -⟩ := info_parts infoPt
    exact ⟨none, 0, V, [], run_append_zero V Try.underlying37 hI none a 0 0 c (Nat.le_refl _) (fun _ => rfl), hM, SlF.nil _ _ _, Below.refl _ _⟩
  · have hl : 0 < ps.length := by
      cases ps with
      | nil => exact absurd rfl h0
      | cons x r => simp
    obtain ⟨a', c', e, h1, h2, h3, h4⟩ := id hp
    simp only [px_len, Value.slice.injEq, true_and] at e
    obtain ⟨rfl, rfl⟩ := e
    rcases h4 with h4 | ⟨g, off, rfl, hx⟩
    · have := congrArg List.length h4
      rw [px_len] at this
      simp at this
      exact absurd this h0
    · obtain ⟨q, cap, cur, hrun, rfl, hS⟩ := slf_append (n := 0) (ty := 37) Try.underlying37 infoPt (by kernel_rfl) (SlF.nil 34 2 []) (hM : Mem w V ([] ++ L)) ⟨g, off, none⟩ ps.length c hl (px ps).flatten (by rw [fl_len px_two, px_len]) (fun j u hj => by
        obtain ⟨k1, k2⟩ := flat_of (by decide) px_two hj
        have := hx (j / 2) k1 (j % 2) u k2
        rw [Nat.add_assoc, Nat.div_add_mod'] at this
        have ea : (⟨g, off, none⟩ : Addr).add j = ⟨g, off + j, none⟩ := by
          by_cases hj0 : j = 0
          · subst hj0; rfl
          · simp [Addr.add, hj0]
        rw [ea]
        exact this) (by simp only [maxLen]; omega) (by omega)
      simp only [Nat.zero_add, List.nil_append] at hrun hS
      refine ⟨_, _, _, _, hrun, ?_, hS, (Below.refl _ _).drew.alloc (Nat.le_refl _) _⟩
      exact (hM.drew.push V.heap.size _ rfl).perm (List.perm_append_comm (l₁ := L) (l₂ := [(V.heap.size, Obj.cells cur 34 (0, 0))]))
def setl : List Value → Nat → List Value → List Value
  | l, _, [] => l
  | l, p, v :: vs => setl (l.set p v) (p + 1) vs
theorem setl_eq : ∀ (vs l : List Value) (p : Nat), p + vs.length ≤ l.length → setl l p vs = l.take p ++ vs ++ l.drop (p + vs.length)
  | [], l, p, _ => by simp [setl]
  | v :: vs, l, p, h => by
    simp only [List.length_cons] at h
    have hp : p < l.length := by omega
    rw [setl, setl_eq vs (l.set p v) (p + 1) (by rw [List.length_set]; omega)]
    have e1 : (l.set p v).take (p + 1) = l.take p ++ [v] := by
      rw [List.set_eq_take_append_cons_drop, if_pos hp, List.take_append]
      have : (l.take p).length = p := by rw [List.length_take]; omega
      rw [this, List.take_of_length_le (by omega)]
      simp
    have e2 : (l.set p v).drop (p + 1 + vs.length) = l.drop (p + (vs.length + 1)) := by
      rw [List.drop_set_of_lt (by omega)]
      congr 1
      omega
    rw [e1, e2]
    simp
theorem setl_len : ∀ (vs l : List Value) (p : Nat), (setl l p vs).length = l.length
  | [], _, _ => rfl
  | v :: vs, l, p => by rw [setl, setl_len vs, List.length_set]
theorem setl_right : ∀ (vs A l : List Value) (p : Nat), setl (A ++ l) (A.length + p) vs = A ++ setl l p vs
  | [], _, _, _ => rfl
  | v :: vs, A, l, p => by
    rw [setl, setl, List.set_append_right _ _ (by omega), Nat.add_sub_cancel_left, Nat.add_assoc, setl_right vs A]
theorem setl_left : ∀ (vs l B : List Value) (p : Nat), p + vs.length ≤ l.length → setl (l ++ B) p vs = setl l p vs ++ B
  | [], _, _, _, _ => rfl
  | v :: vs, l, B, p, h => by
    simp only [List.length_cons] at h
    rw [setl, setl, List.set_append_left _ _ (by omega), setl_left vs _ B _ (by rw [List.length_set]; omega)]
theorem setl_flat {sz : Nat} {vs : List Value} (hv : vs.length = sz) : ∀ {xs : List (List Value)} {i : Nat}, (∀ x ∈ xs, x.length = sz) → i < xs.length → setl xs.flatten (i * sz) vs = (xs.set i vs).flatten
  | [], _, _, h => absurd h (Nat.not_lt_zero _)
  | x :: r, 0, hx, _ => by
    have e := hx x (List.mem_cons_self ..)
    rw [List.flatten_cons, Nat.zero_mul, setl_left _ _ _ _ (by omega), setl_eq _ _ _ (by omega)]
    simp [hv, e, List.drop_eq_nil_of_le]
  | x :: r, i + 1, hx, h => by
    have e := hx x (List.mem_cons_self ..)
    rw [List.flatten_cons, show (i + 1) * sz = x.length + i * sz by rw [e, Nat.succ_mul]; omega, setl_right, setl_flat hv (fun y hy => hx y (List.mem_cons_of_mem _ hy)) (by simpa using h)]
    simp
theorem step_store_mid {ops : Array Oper} {o : Oper} {a : Act} {w : World} {K : Act → World → Prop} {Q : Exit → Act → World → Prop} {E : Prop} (hgd : o.guard = none) (ty : TypeId) (x y : Operand) (ho : o.op = .store ty x y)
    (b off : Nat) (cells : Array Value) (hx : a.eval x = .pointer (some ⟨b, off, none⟩)) (hy : a.eval y = .agg cells) (ht : w.there b off cells.size) (hi : (Try.prog.info? ty).map (·.size) = some cells.size) (h1 : cells.all (·.oneCell') = true)
    (h : K (a.put o.dst undef) (w.setCells b off cells.toList)) :
    if Region.wanted o (yielded ops a.tmps) = true then Oper.wp Try.prog o a w K Q else E := by
  have hw : Region.wanted o (yielded ops a.tmps) = true := by simp [Region.wanted, hgd]
  rw [if_pos hw]
  exact wp_store_mid ty x y ho b off cells hx hy ht hi h1 h
theorem mem_wset {w : World} {L : List (Nat × Obj)} {g : Nat} {T : TypeId} : ∀ (vs : List Value) {V : World} {cur : Array Value} (p : Nat), Mem w V ((g, .cells cur T (0, 0)) :: L) → ∃ cur' : Array Value, cur'.toList = setl cur.toList p vs ∧ Mem w (V.setCells g p vs) ((g, .cells cur' T (0, 0)) :: L)
  | [], V, cur, p, h => ⟨cur, rfl, h⟩
  | v :: vs, V, cur, p, h => by
    have h2 := h.set 0 rfl p v
    obtain ⟨cur', e, h3⟩ := mem_wset vs (p + 1) h2
    refine ⟨cur', ?_, h3⟩
    rw [e, setl]
    simp
/-- One of a list, written in place. -/
theorem slf_put {w V : World} {T : TypeId} {sz : Nat} {b off c : Nat} {xs : List (List Value)} {C L : List (Nat × Obj)} (hx : ∀ x ∈ xs, x.length = sz) (h : SlF T sz (.slice (some ⟨b, off, none⟩) xs.length c) xs.length xs.flatten C) (hM : Mem w V (C ++ L)) {i : Nat} (hi : i < xs.length) {vs : List Value} (hv : vs.length = sz) :
    V.there b (off + i * sz) sz ∧ ∃ C', Mem w (V.setCells b (off + i * sz) vs) (C' ++ L) ∧ SlF T sz (.slice (some ⟨b, off, none⟩) xs.length c) xs.length (xs.set i vs).flatten C' := by
  obtain ⟨h1, a', c', e, h2, h3, h4, h5⟩ := h
  simp only [Value.slice.injEq, true_and] at e
  obtain ⟨rfl, rfl⟩ := e
  rcases h5 with h5 | ⟨g, o, cur, e2, h6, h7⟩
  · omega
  · simp only [Option.some.injEq, Addr.mk.injEq, and_true] at e2
    obtain ⟨rfl, rfl⟩ := e2
    obtain ⟨C1, C2, rfl⟩ := List.append_of_mem h6
    have hM2 : Mem w V ((b, .cells cur T (0, 0)) :: (C1 ++ C2 ++ L)) := hM.perm (by
      rw [List.append_assoc, List.append_assoc]
      exact List.perm_middle)
    have hmul : i * sz + sz ≤ xs.length * sz := by
      have := Nat.mul_le_mul_right sz (show i + 1 ≤ xs.length by omega)
      rw [Nat.succ_mul] at this
      exact this
    have hk : xs.length * sz ≤ cur.toList.length - off := by
      have := congrArg List.length h7
      rw [h1, List.length_take, List.length_drop] at this
      omega
    refine ⟨fun j hj => ⟨?_, hM2.free 0 rfl _⟩, ?_⟩
    · rw [hM2.cell 0 rfl, Array.getElem?_eq_getElem (by have hcs : cur.toList.length = cur.size := Array.length_toList; omega)]
      rfl
    obtain ⟨cur', ec, hM3⟩ := mem_wset vs (off + i * sz) hM2
    refine ⟨(b, .cells cur' T (0, 0)) :: (C1 ++ C2), hM3, ?_, _, _, rfl, h2, h3, h4, Or.inr ⟨b, off, cur', rfl, List.mem_cons_self .., ?_⟩⟩
    · rw [← setl_flat hv hx hi, setl_len, h1]
    · have hpos : off ≤ cur.toList.length ∨ xs.length * sz = 0 := by omega
      have hsp : cur.toList = cur.toList.take off ++ (xs.flatten ++ cur.toList.drop (off + xs.length * sz)) := by
        conv => lhs; rw [← List.take_append_drop off cur.toList, ← List.take_append_drop (xs.length * sz) (cur.toList.drop off), h7, List.drop_drop]
      by_cases hz : sz = 0
      · subst hz
        have hv0 : vs = [] := List.eq_nil_of_length_eq_zero hv
        subst hv0
        have e0 : (xs.set i []).flatten.length = 0 := by rw [← setl_flat rfl hx hi, setl_len, h1, Nat.mul_zero]
        rw [List.eq_nil_of_length_eq_zero e0]
        simp
      · have ho : off ≤ cur.toList.length := by
          rcases hpos with h | h
          · exact h
          · have : sz ≤ xs.length * sz := by omega
            omega
        have hlt : (cur.toList.take off).length = off := by rw [List.length_take]; omega
        have e3 : cur'.toList = cur.toList.take off ++ (setl xs.flatten (i * sz) vs ++ cur.toList.drop (off + xs.length * sz)) := by
          rw [ec, ← setl_left vs xs.flatten _ _ (by rw [hv, h1]; omega), ← setl_right, hlt, ← hsp]
        rw [e3, List.drop_append, hlt, Nat.sub_self, List.drop_zero, List.drop_eq_nil_of_le (by omega), List.nil_append, List.take_append]
        have e4 : (setl xs.flatten (i * sz) vs).length = xs.length * sz := by rw [setl_len, h1]
        rw [e4, Nat.sub_self, List.take_zero, List.append_nil, List.take_of_length_le (by omega), setl_flat hv hx hi]
end Ss
end Go.Proofs.Ytgeeijinhneoiaa
