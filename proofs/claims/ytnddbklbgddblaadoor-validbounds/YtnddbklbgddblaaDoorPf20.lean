/-
  Settings held against one another: which tenants the statements speak of.
  What a tenant that comes in is.
  Settings as bytes: the program's OpenTenant, at all bytes.
  Settings as bytes: the document's own reader: take and n.
  Settings as bytes: the document's own put16, put32, name, pairs.
  Settings as bytes: whether nothing of a tenant is cut off; a place.
-/
import Derived.Test.YtnddbklbgddblaaDoorPf19
import Derived.Test.YtnddbklbgddblaaDoorPf06
import Derived.ProofKit
import Derived.OpenShut
import Derived.Deep.Slices
namespace Go.Proofs.YtnddbklbgddblaaDoor
open Go.RowKit
open Sm
open Cf
set_option linter.unusedVariables false
set_option maxRecDepth 20000

/-- A tenant that is light. -/
def Lgt (t : Ten) : Prop := t.name.size ≤ 300 ∧ t.pool.length ≤ 300 ∧ t.stat.length ≤ 300 ∧ t.twi.length ≤ 300
instance (t : Ten) : Decidable (Lgt t) := by unfold Lgt; infer_instance
end Go.Proofs.YtnddbklbgddblaaDoor

namespace Go.Proofs.YtnddbklbgddblaaDoor
open Go.ChangeShapes Go.WideShapes Go.ChangeAt Go.RowKit Go.Joins
open Sm
open Cf
set_option linter.unusedVariables false
set_option maxRecDepth 100000

section
variable {H : Type} {enc : TypeId × Value → H} {W : World} {base : Nat} {held : Bool}
end
end Go.Proofs.YtnddbklbgddblaaDoor

namespace Go.Proofs.YtnddbklbgddblaaDoor
open Go.RowKit
open Sm
open Cf
set_option linter.unusedVariables false
set_option maxRecDepth 20000

abbrev tz : Array Value := (tc ten0 nilV nilV nilV).toArray
end Go.Proofs.YtnddbklbgddblaaDoor

namespace Go.Proofs.YtnddbklbgddblaaDoor
open Go.RowKit
open Sm
open Cf
set_option linter.unusedVariables false
set_option linter.unusedSimpArgs false
set_option maxRecDepth 20000

/-- n bytes off what is left, or noughts. -/
def tk (n : Nat) : Option (List Int) → List Int
  | some r => if n ≤ r.length then r.take n else List.replicate n 0
  | none => List.replicate n 0
/-- What is left behind them. -/
def nx (n : Nat) : Option (List Int) → Option (List Int)
  | some r => if n ≤ r.length then some (r.drop n) else none
  | none => none
end Go.Proofs.YtnddbklbgddblaaDoor

namespace Go.Proofs.YtnddbklbgddblaaDoor
open Go.RowKit
open Sm
open Cf
set_option linter.unusedVariables false
set_option maxRecDepth 20000

/-- Bytes of the call's own, at most n of them. -/
def Ob (w W : World) (v : Value) (l : List Int) (L : List (Nat × Obj)) (n : Nat) : Prop := Out w W v l L ∧ l.length ≤ n
section
variable {w W W' : World} {v : Value} {l : List Int} {L : List (Nat × Obj)} {n : Nat}
theorem Ob.mem (h : Ob w W v l L n) : Mem w W L := h.1.mem
theorem Ob.after (h : Ob w W v l L n) (hb : Below W.heap.size W W') : Ob w W' v l L n := ⟨h.1.after hb, h.2⟩
theorem Ob.drew (h : Ob w W v l L n) : Ob w W.drew v l L n := h.after ((Below.refl _ _).drew)
theorem step_append_run {ops : Array Oper} {o : Oper} {a : Act} {W : World} {K : Act → World → Prop} {Q : Exit → Act → World → Prop} {E : Prop} (hgd : o.guard = none)
    (s x : Operand) (t tn : TypeId) (ho : o.op = .call { callee := .builtin .append, args := #[s, x], argTypes := #[t, tn] }) {vs vx : Value} (hs : a.eval s = vs) (hx : a.eval x = vx)
    {v' : Value} {w' : World} (hr : (Builtin.append_ #[t, tn] o.type #[vs, vx]).run Tryd.prog W = .ok v' w') (h : K (a.put o.dst v') w') :
    if Region.wanted o (yielded ops a.tmps) = true then Oper.wp Tryd.prog o a W K Q else E := by
  have hw : Region.wanted o (yielded ops a.tmps) = true := by simp [Region.wanted, hgd]
  rw [if_pos hw]
  exact wp_append_out s x t tn ho hs hx hr h
theorem rw_at {V : World} {sz : Nat} {a : Option Addr} {n c : Nat} {xs : List (List Value)} (h : Rw V sz (.slice a n c) xs) (i : Nat) (hi : i < xs.length) : ∃ b off, a = some ⟨b, off, none⟩ ∧ ∀ j u, (xs.getD i [])[j]? = some u → V.cell? ⟨b, off + i * sz + j, none⟩ = some u := by
  obtain ⟨a', c', e, _, _, _, hr⟩ := h
  simp only [Value.slice.injEq] at e
  obtain ⟨rfl, -, rfl⟩ := e
  rcases hr with e | ⟨b, off, rfl, hc⟩
  · rw [e] at hi; simp at hi
  · exact ⟨b, off, rfl, hc i hi⟩
end
end Go.Proofs.YtnddbklbgddblaaDoor

namespace Go.Proofs.YtnddbklbgddblaaDoor
open Go.RowKit
open Sm
open Cf
set_option linter.unusedVariables false
set_option maxRecDepth 20000

/-- Nothing of a tenant is cut off. -/
def Fit (t : Ten) : Prop := t.name.size ≤ 255 ∧ t.pool.length ≤ 255 ∧ t.stat.length ≤ 255 ∧ t.twi.length ≤ 255 ∧ 0 ≤ t.filter ∧ t.filter ≤ 255 ∧ 0 ≤ t.sess ∧ t.sess ≤ 65535 ∧ 0 ≤ t.queue ∧ t.queue ≤ 65535
instance (t : Ten) : Decidable (Fit t) := by unfold Fit; infer_instance
end Go.Proofs.YtnddbklbgddblaaDoor

