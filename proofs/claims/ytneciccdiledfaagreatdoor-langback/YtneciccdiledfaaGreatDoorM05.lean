/-
  Rows of the call's own that grow: bytes appended as a step of a region, and what lychref1's Put16 and Put32 answer.
  Rows of bytes that the call itself made: what is read of them, what a store turns, and what changing one word does to the sums.
-/
import Derived.Test.YtneciccdiledfaaGreatDoorM04
namespace Go.Proofs.YtneciccdiledfaaGreatDoor
open Go.RowKit
open Sm
set_option linter.unusedVariables false

theorem own_grown {B : Nat} {w w' : World} {v : Value} {n : Nat} {xs : List Value} (h : w.ownsRow B 5 1 v n xs) (hg : w.grownBy w' v.ownBlock) (hB : B ≤ w.heap.size) : Below B w w' :=
  (Below.refl _ _).grown hg hB (own_ge h)

/-- A row of the call's own stands where nothing from its base on is turned but behind it. -/
theorem own_after {B C : Nat} {w w' : World} {v : Value} {n : Nat} {xs : List Value} (h : w.ownsRow B 5 1 v n xs) (hb : Below C w w') (hC : w.heap.size ≤ C) : w'.ownsRow B 5 1 v n xs := by
  obtain ⟨h1, h2⟩ := h
  refine ⟨h1, ?_⟩
  rcases h2 with h2 | ⟨g, cap, cur, rfl, hg, hh, r⟩
  · exact Or.inl h2
  · refine Or.inr ⟨g, cap, cur, rfl, hg, ?_, r⟩
    have hlt : g < w.heap.size := (Array.getElem?_eq_some_iff.mp hh).1
    rw [hb.block g (by omega)]; exact hh

/-- What lies below the base stands. -/
theorem Row.under {w w' : World} {a : Option Addr} {l : List Int} (h : Row w a l) {B : Nat} (hb : Below B w w') (ha : ∀ x, a = some x → x.block < B) : Row w' a l := by
  refine ⟨h.bytes, h.len, ?_⟩
  rcases h.cells with e | ⟨b, off, rfl, hc⟩
  · exact Or.inl e
  · refine Or.inr ⟨b, off, rfl, fun i hi => ?_⟩
    rw [hb.cell (p := ⟨b, off + i, none⟩) (show b < B from ha ⟨b, off, none⟩ rfl)]
    exact hc i hi
theorem Mem.over {w w' w2 : World} {L : List (Nat × Obj)} (h : Mem w w' L) {B : Nat} (hb : Below B w' w2) (hB : w.heap.size ≤ B) (hL : ∀ p ∈ L, p.1 < B) : Mem w w2 L :=
  ⟨h.below.trans (hb.mono hB), h.low, fun p hp => by rw [hb.block p.1 (hL p hp)]; exact h.at_ p hp, h.apart⟩
/-- Bytes among the cells of a block of the call's own. -/
theorem Mem.bytes {w w' : World} {L : List (Nat × Obj)} (h : Mem w w' L) (i : Nat) {g : Nat} {c : Array Value} {t : TypeId} (hi : L[i]? = some (g, .cells c t (0, 0))) (off : Nat) (l : List Int) (hb : IsBytes l) (hl : l.length ≤ 1000)
    (hc : ∀ j, j < l.length → c[off + j]? = some (.int .u8 (l.getD j 0))) : Row w' (some ⟨g, off, none⟩) l :=
  ⟨hb, by omega, Or.inr ⟨g, off, rfl, fun j hj => by rw [h.cell i hi]; exact hc j hj⟩⟩

/-- Bytes behind a row of the call's own, as one step of a region that draws its order. -/
theorem step_append_bytes {ops : Array Oper} {o : Oper} {a : Act} {w : World} {K : Act → World → Prop} {Q : Exit → Act → World → Prop} {E : Prop} (hgd : o.guard = none)
    (s x : Operand) (ho : o.op = Op.call { callee := Callee.builtin Builtin.append, args := #[s, x], argTypes := #[49, 49] }) (base : Nat)
    (v : Value) (n : Nat) (xs : List Value) (hs : a.eval s = v) (hown : w.ownsRow base 5 1 v n xs) (ao : Option Addr) (c m : Nat) (l : List Int)
    (hx : a.eval x = .slice ao m c) (hm : l.length = m) (hnil : ao = none → c = 0) (hrow : Row w ao l) (hbd : n + m ≤ 140737488355328) (hbase : base ≤ w.heap.size)
    (h : ∀ (v' : Value) (w' : World), w'.ownsRow base 5 1 v' (n + m) (xs ++ l.map (Value.int .u8)) → Below base w w' → K (a.put o.dst v') w') :
    if Region.wanted o (yielded ops a.tmps) = true then Oper.wp Tryz.prog o a w K Q else E := by
  subst hm
  have hw : Region.wanted o (yielded ops a.tmps) = true := by simp [Region.wanted, hgd]
  rw [if_pos hw]
  obtain ⟨i0, hi, hz0, hz1, hz2⟩ := info_parts info5
  cases ao with
  | none =>
    have hl : l = [] := by
      rcases hrow.cells with e | ⟨b, off, e, _⟩
      · exact e
      · cases e
    subst hl
    rw [hnil rfl] at hx
    have hr := run_append_owned_none (P := Tryz.prog) w base 49 o.type 5 i0 1 Tryz.underlying49 hi v n xs hown
    exact wp_append_out s x 49 49 ho hs hx hr (h v w (by simpa using hown) (Below.refl _ _))
  | some ad =>
    refine wp_append_own w s x 49 ho base 5 i0 (.int .u8 0) 1 1 Tryz.underlying49 hi hz0 hz1 hz2 rfl (by decide) v n xs hs hown ad l.length c (l.map (Value.int .u8)) hx (by simp) ?_ (ints_oneCell _ _) (by unfold maxLen; omega) (by omega) hbase ?_
    · rcases hrow.cells with e | ⟨b, off, e, _⟩
      · subst e; intro j u hj; simp at hj
      · cases e; exact hrow.news
    · intro v' w' h1 h2 _
      exact h v' w' h1 (own_grown hown h2 hbase)

/-- The same where the order is the text's. -/
theorem wpList_append_more (w : World) {ops : Array Oper} {rest : List Oper} {o : Oper} {a : Act} {Q : Exit → Act → World → Prop} (hgd : Region.wanted o (yielded ops a.tmps) = true)
    (s x : Operand) (ho : o.op = Op.call { callee := Callee.builtin Builtin.append, args := #[s, x], argTypes := #[49, 49] }) (base : Nat)
    (v : Value) (n : Nat) (xs : List Value) (hs : a.eval s = v) (hown : w.ownsRow base 5 1 v n xs) (ao : Option Addr) (c m : Nat) (l : List Int)
    (hx : a.eval x = .slice ao m c) (hm : l.length = m) (hnil : ao = none → c = 0) (hrow : Row w ao l) (hbd : n + m ≤ 140737488355328) (hbase : base ≤ w.heap.size)
    (h : ∀ (v' : Value) (w' : World), w'.ownsRow base 5 1 v' (n + m) (xs ++ l.map (Value.int .u8)) → Below base w w' → wpList Tryz.prog ops Q rest (a.put o.dst v') w') :
    wpList Tryz.prog ops Q (o :: rest) a w := by
  subst hm
  exact wpList_append_bytesG w hgd s x ho base v n xs hs hown ao c l hx hnil hrow hbd hbase (fun v' w' h1 h2 => h v' w' h1 (own_grown hown h2 hbase))

/-- Two bytes that were just laid. -/
theorem row_lit (w : World) (l : List Int) (hb : IsBytes l) (hl : l.length ≤ 140737488351232) (T : TypeId) : Row (w.alloc (.cells (l.map (Value.int .u8)).toArray T)) (some ⟨w.heap.size, 0, none⟩) l :=
  ⟨hb, hl, Or.inr ⟨_, 0, rfl, fun i hi => by rw [Nat.zero_add, World.cell?_alloc_new]; simp [hi]⟩⟩

theorem bytes_two {x y : Int} (h0 : 0 ≤ x) (h1 : x ≤ 255) (h2 : 0 ≤ y) (h3 : y ≤ 255) : IsBytes [x, y] := by
  intro i
  match i with
  | 0 => exact ⟨h0, h1⟩
  | 1 => exact ⟨h2, h3⟩
  | i + 2 => simp [List.getD]

theorem bytes_noughts (m : Nat) : IsBytes (List.replicate m 0) := by
  intro i
  by_cases h : i < m
  · simp [List.getD, h]
  · simp [List.getD, h]
theorem map_noughts (l : List Int) (m : Nat) : l.map (Value.int .u8) ++ List.replicate m (Value.int .u8 0) = (l ++ List.replicate m 0).map (Value.int .u8) := by simp
theorem noughts_at (w : World) (k : Nat) (h : k ≤ 140737488351232) (g : Nat) (hg : g = w.heap.size) : Row (w.alloc (.cells (madeCells #[Value.int .u8 0] k) 5)) (some ⟨g, 0, none⟩) (List.replicate k 0) := by
  subst hg
  have e : madeCells #[Value.int .u8 0] k = ((List.replicate k (0 : Int)).map (Value.int .u8)).toArray := by
    apply Array.toList_inj.mp; rw [toList_madeCells_one]; simp
  rw [e]
  exact row_lit w _ (bytes_noughts k) (by simpa using h) 5

end Go.Proofs.YtneciccdiledfaaGreatDoor

namespace Go.Proofs.YtneciccdiledfaaGreatDoor
open Go.RowKit
open Sm
set_option linter.unusedVariables false

namespace Sm
/-- One word set. -/
def setw (l : List Int) (p : Nat) (x y : Int) : List Int := (l.set (2 * p) x).set (2 * p + 1) y
theorem setw_len (l : List Int) (p : Nat) (x y : Int) : (setw l p x y).length = l.length := by simp [setw]
theorem getD_set (l : List Int) (j i : Nat) (x : Int) (hj : j < l.length) : (l.set j x).getD i 0 = if i = j then x else l.getD i 0 := by
  by_cases e : i = j
  · subst e; simp [List.getD, hj]
  · rw [if_neg e]; simp [List.getD, List.getElem?_set_ne (Ne.symm e)]
theorem setw_getD (l : List Int) (p i : Nat) (x y : Int) (hp : 2 * p + 1 < l.length) : (setw l p x y).getD i 0 = if i = 2 * p + 1 then y else if i = 2 * p then x else l.getD i 0 := by
  unfold setw
  rw [getD_set _ _ _ _ (by simpa using hp), getD_set _ _ _ _ (by omega)]
theorem setw_bytes {l : List Int} (h : IsBytes l) (p : Nat) (x y : Int) (hp : 2 * p + 1 < l.length) (hx : 0 ≤ x ∧ x ≤ 255) (hy : 0 ≤ y ∧ y ≤ 255) : IsBytes (setw l p x y) := by
  intro i
  rw [setw_getD l p i x y hp]
  have := h i
  split
  · exact hy
  · split
    · exact hx
    · exact this
theorem wd_setw (l : List Int) (p i : Nat) (x y : Int) (hp : 2 * p + 1 < l.length) : wd (setw l p x y) i = if i = p then x * 256 + y else wd l i := by
  unfold wd
  rw [setw_getD l p _ x y hp, setw_getD l p _ x y hp]
  by_cases e : i = p
  · subst e; rw [if_neg (by omega), if_pos rfl, if_pos rfl, if_pos rfl]
  · rw [if_neg (by omega), if_neg (by omega), if_neg (by omega), if_neg (by omega), if_neg e]
theorem tot_setw (l : List Int) (p k : Nat) (x y : Int) (hp : 2 * p + 1 < l.length) : tot (setw l p x y) k = if p < k then tot l k - wd l p + (x * 256 + y) else tot l k := by
  induction k with
  | zero => simp [tot]
  | succ k ih =>
    rw [tot_succ, tot_succ, ih, wd_setw l p k x y hp]
    by_cases e : k = p
    · subst e; rw [if_neg (by omega), if_pos rfl, if_pos (by omega)]; omega
    · rw [if_neg e]
      by_cases c : p < k
      · rw [if_pos c, if_pos (by omega)]; omega
      · rw [if_neg c, if_neg (by omega)]
theorem wd_le_tot {l : List Int} (h : IsBytes l) (p k : Nat) (hp : p < k) : wd l p ≤ tot l k := by
  induction k with
  | zero => omega
  | succ k ih =>
    have a := wd_range h k; have b := tot_nonneg h k
    rw [tot_succ]
    by_cases e : p = k
    · subst e; omega
    · have := ih (by omega); omega
theorem stands {l : List Int} (h : IsBytes l) (p : Nat) (hp : 2 * p + 1 < l.length) :
    foldv (acc (setw (setw l p 0 0) p (ofv (setw l p 0 0) / 256) (ofv (setw l p 0 0) % 256)) 0 (cnt l.length)) = 65535 := by
  have hk : p < cnt l.length := by unfold cnt; omega
  have h1 := setw_bytes h p 0 0 hp ⟨by omega, by omega⟩ ⟨by omega, by omega⟩
  have hr := ofv_range (setw l p 0 0)
  have hp1 : 2 * p + 1 < (setw l p 0 0).length := by rw [setw_len]; exact hp
  have h2 := setw_bytes h1 p (ofv (setw l p 0 0) / 256) (ofv (setw l p 0 0) % 256) hp1 (by omega) (by omega)
  rw [foldv_acc h2 0 (by omega) (by omega), tot_setw _ _ _ _ _ hp1, if_pos hk, wd_setw l p p 0 0 hp, if_pos rfl]
  have hn := tot_nonneg h1 (cnt l.length)
  have e : ofv (setw l p 0 0) = 65535 - foldv (tot (setw l p 0 0) (cnt l.length)) := by unfold ofv; rw [setw_len]
  rw [e] at hr ⊢
  generalize tot (setw l p 0 0) (cnt l.length) = T at *
  clear hr e h2 h1
  unfold foldv
  split <;> split <;> omega
end Sm
end Go.Proofs.YtneciccdiledfaaGreatDoor

