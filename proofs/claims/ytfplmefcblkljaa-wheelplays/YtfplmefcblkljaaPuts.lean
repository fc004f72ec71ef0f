/-
  Rows of the call's own that grow: bytes appended as a step of a region, and what lychref1's Put16 and Put32 answer.
-/
import Derived.Test.YtfplmefcblkljaaHelp
namespace Go.Proofs.Ytfplmefcblkljaa
open Go.RowKit
open Sm
set_option linter.unusedVariables false

theorem own_grown {B : Nat} {w w' : World} {v : Value} {n : Nat} {xs : List Value} (h : w.ownsRow B 5 1 v n xs) (hg : w.grownBy w' v.ownBlock) (hB : B ≤ w.heap.size) : Below B w w' :=
  (Below.refl _ _).grown hg hB (own_ge h)

/-- A row of the call's own stands where nothing from its base on is turned but behind it. -/
theorem own_after {B C : Nat} {w w' : World} {v : Value} {n : Nat} {xs : List Value} (h : w.ownsRow B 5 1 v n xs) (hb : Below C w w') (hC : w.heap.size ≤ C) : w'.ownsRow B 5 1 v n xs := by
  obtain ⟨h1, h2⟩ := h
  refine ⟨h1, ?_⟩
  rcases h2 with h2 | ⟨g, cap, cur, rfl, hg, hh, r⟩
  · exact Or.inl h2
  · refine Or.inr ⟨g, cap, cur, rfl, hg, ?_, r⟩
    have hlt : g < w.heap.size := (Array.getElem?_eq_some_iff.mp hh).1
    rw [hb.block g (by omega)]; exact hh

/-- What lies below the base stands. -/
theorem Row.under {w w' : World} {a : Option Addr} {l : List Int} (h : Row w a l) {B : Nat} (hb : Below B w w') (ha : ∀ x, a = some x → x.block < B) : Row w' a l := by
  refine ⟨h.bytes, h.len, ?_⟩
  rcases h.cells with e | ⟨b, off, rfl, hc⟩
  · exact Or.inl e
  · refine Or.inr ⟨b, off, rfl, fun i hi => ?_⟩
    rw [hb.cell (p := ⟨b, off + i, none⟩) (show b < B from ha ⟨b, off, none⟩ rfl)]
    exact hc i hi
theorem Mem.over {w w' w2 : World} {L : List (Nat × Obj)} (h : Mem w w' L) {B : Nat} (hb : Below B w' w2) (hB : w.heap.size ≤ B) (hL : ∀ p ∈ L, p.1 < B) : Mem w w2 L :=
  ⟨h.below.trans (hb.mono hB), h.low, fun p hp => by rw [hb.block p.1 (hL p hp)]; exact h.at_ p hp, h.apart⟩
/-- Bytes among the cells of a block of the call's own. -/
theorem Mem.bytes {w w' : World} {L : List (Nat × Obj)} (h : Mem w w' L) (i : Nat) {g : Nat} {c : Array Value} {t : TypeId} (hi : L[i]? = some (g, .cells c t (0, 0))) (off : Nat) (l : List Int) (hb : IsBytes l) (hl : l.length ≤ 1000)
    (hc : ∀ j, j < l.length → c[off + j]? = some (.int .u8 (l.getD j 0))) : Row w' (some ⟨g, off, none⟩) l :=
  ⟨hb, by omega, Or.inr ⟨g, off, rfl, fun j hj => by rw [h.cell i hi]; exact hc j hj⟩⟩

/-- Bytes behind a row of the call's own, as one step of a region that draws its order. -/
theorem step_append_bytes {ops : Array Oper} {o : Oper} {a : Act} {w : World} {K : Act → World → Prop} {Q : Exit → Act → World → Prop} {E : Prop} (hgd : o.guard = none)
    (s x : Operand) (ho : o.op = Op.call { callee := Callee.builtin Builtin.append, args := #[s, x], argTypes := #[48, 48] }) (base : Nat)
    (v : Value) (n : Nat) (xs : List Value) (hs : a.eval s = v) (hown : w.ownsRow base 5 1 v n xs) (ao : Option Addr) (c m : Nat) (l : List Int)
    (hx : a.eval x = .slice ao m c) (hm : l.length = m) (hnil : ao = none → c = 0) (hrow : Row w ao l) (hbd : n + m ≤ 140737488355328) (hbase : base ≤ w.heap.size)
    (h : ∀ (v' : Value) (w' : World), w'.ownsRow base 5 1 v' (n + m) (xs ++ l.map (Value.int .u8)) → Below base w w' → K (a.put o.dst v') w') :
    if Region.wanted o (yielded ops a.tmps) = true then Oper.wp Try.prog o a w K Q else E := by
  subst hm
  have hw : Region.wanted o (yielded ops a.tmps) = true := by simp [Region.wanted, hgd]
  rw [if_pos hw]
  obtain ⟨i0, hi, hz0, hz1, hz2⟩ := info_parts info5
  cases ao with
  | none =>
    have hl : l = [] := by
      rcases hrow.cells with e | ⟨b, off, e, _⟩
      · exact e
      · cases e
    subst hl
    rw [hnil rfl] at hx
    have hr := run_append_owned_none (P := Try.prog) w base 48 o.type 5 i0 1 Try.underlying48 hi v n xs hown
    exact wp_append_out s x 48 48 ho hs hx hr (h v w (by simpa using hown) (Below.refl _ _))
  | some ad =>
    refine wp_append_own w s x 48 ho base 5 i0 (.int .u8 0) 1 1 Try.underlying48 hi hz0 hz1 hz2 rfl (by decide) v n xs hs hown ad l.length c (l.map (Value.int .u8)) hx (by simp) ?_ (ints_oneCell _ _) (by unfold maxLen; omega) (by omega) hbase ?_
    · rcases hrow.cells with e | ⟨b, off, e, _⟩
      · subst e; intro j u hj; simp at hj
      · cases e; exact hrow.news
    · intro v' w' h1 h2 _
      exact h v' w' h1 (own_grown hown h2 hbase)

/-- The same where the order is the text's. -/
theorem wpList_append_more (w : World) {ops : Array Oper} {rest : List Oper} {o : Oper} {a : Act} {Q : Exit → Act → World → Prop} (hgd : Region.wanted o (yielded ops a.tmps) = true)
    (s x : Operand) (ho : o.op = Op.call { callee := Callee.builtin Builtin.append, args := #[s, x], argTypes := #[48, 48] }) (base : Nat)
    (v : Value) (n : Nat) (xs : List Value) (hs : a.eval s = v) (hown : w.ownsRow base 5 1 v n xs) (ao : Option Addr) (c m : Nat) (l : List Int)
    (hx : a.eval x = .slice ao m c) (hm : l.length = m) (hnil : ao = none → c = 0) (hrow : Row w ao l) (hbd : n + m ≤ 140737488355328) (hbase : base ≤ w.heap.size)
    (h : ∀ (v' : Value) (w' : World), w'.ownsRow base 5 1 v' (n + m) (xs ++ l.map (Value.int .u8)) → Below base w w' → wpList Try.prog ops Q rest (a.put o.dst v') w') :
    wpList Try.prog ops Q (o :: rest) a w := by
  subst hm
  exact wpList_append_bytesG w hgd s x ho base v n xs hs hown ao c l hx hnil hrow hbd hbase (fun v' w' h1 h2 => h v' w' h1 (own_grown hown h2 hbase))

/-- Two bytes that were just laid. -/
theorem row_lit (w : World) (l : List Int) (hb : IsBytes l) (hl : l.length ≤ 140737488351232) (T : TypeId) : Row (w.alloc (.cells (l.map (Value.int .u8)).toArray T)) (some ⟨w.heap.size, 0, none⟩) l :=
  ⟨hb, hl, Or.inr ⟨_, 0, rfl, fun i hi => by rw [Nat.zero_add, World.cell?_alloc_new]; simp [hi]⟩⟩

theorem bytes_two {x y : Int} (h0 : 0 ≤ x) (h1 : x ≤ 255) (h2 : 0 ≤ y) (h3 : y ≤ 255) : IsBytes [x, y] := by
  intro i
  match i with
  | 0 => exact ⟨h0, h1⟩
  | 1 => exact ⟨h2, h3⟩
  | i + 2 => simp [List.getD]

theorem bytes_noughts (m : Nat) : IsBytes (List.replicate m 0) := by
  intro i
  by_cases h : i < m
  · simp [List.getD, h]
  · simp [List.getD, h]
theorem map_noughts (l : List Int) (m : Nat) : l.map (Value.int .u8) ++ List.replicate m (Value.int .u8 0) = (l ++ List.replicate m 0).map (Value.int .u8) := by simp
theorem noughts_at (w : World) (k : Nat) (h : k ≤ 140737488351232) (g : Nat) (hg : g = w.heap.size) : Row (w.alloc (.cells (madeCells #[Value.int .u8 0] k) 5)) (some ⟨g, 0, none⟩) (List.replicate k 0) := by
  subst hg
  have e : madeCells #[Value.int .u8 0] k = ((List.replicate k (0 : Int)).map (Value.int .u8)).toArray := by
    apply Array.toList_inj.mp; rw [toList_madeCells_one]; simp
  rw [e]
  exact row_lit w _ (bytes_noughts k) (by simpa using h) 5

end Go.Proofs.Ytfplmefcblkljaa
