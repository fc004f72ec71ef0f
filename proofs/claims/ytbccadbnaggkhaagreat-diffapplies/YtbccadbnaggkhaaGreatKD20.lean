/-
  Settings held against one another: lychhelp.Tenant, at any two tenants.
  Settings held against one another: lychhelp.Tenant, at any two tenants.
  Settings held against one another: lychhelp.Tenant, at any two tenants.
  Settings held against one another: lychhelp.Tenant, at any two tenants.
  Settings as bytes: the program's OpenChange, at all bytes.
  Settings as bytes: the fields of settings, each as the program makes it.
  Settings as bytes: the document's own reader: tenant.
-/
import Derived.Test.YtbccadbnaggkhaaGreatKD19
import Derived.Test.YtbccadbnaggkhaaGreatKD18
import Derived.Test.YtbccadbnaggkhaaGreatKD17
namespace Go.Proofs.YtbccadbnaggkhaaGreat
open Go.RowKit
open Sm
open Cf
set_option linter.unusedVariables false
set_option maxRecDepth 20000

end Go.Proofs.YtbccadbnaggkhaaGreat

namespace Go.Proofs.YtbccadbnaggkhaaGreat
open Go.RowKit
open Sm
open Cf
set_option linter.unusedVariables false
set_option maxRecDepth 20000

end Go.Proofs.YtbccadbnaggkhaaGreat

namespace Go.Proofs.YtbccadbnaggkhaaGreat
open Go.RowKit
open Sm
open Cf
set_option linter.unusedVariables false
set_option maxRecDepth 20000

end Go.Proofs.YtbccadbnaggkhaaGreat

namespace Go.Proofs.YtbccadbnaggkhaaGreat
open Go.RowKit
open Sm
open Cf
set_option linter.unusedVariables false
set_option maxRecDepth 20000

end Go.Proofs.YtbccadbnaggkhaaGreat

namespace Go.Proofs.YtbccadbnaggkhaaGreat
open Go.RowKit
open Sm
open Cf
set_option linter.unusedVariables false
set_option maxRecDepth 20000

theorem rw_one {V : World} {n : Nat} {p : Value} {xs : List (List Value)} (h : Rw V n p xs) : p.oneCell' = true := by
  obtain ⟨a, c, rfl, _⟩ := h; rfl
theorem tc_one2 (t : Ten) {p s q : Value} (h1 : p.oneCell' = true) (h2 : s.oneCell' = true) (h3 : q.oneCell' = true) : (tc t p s q).toArray.all (·.oneCell') = true := by
  apply all_oneCell_toArray
  intro v hv
  simp only [tc, List.mem_cons, List.mem_append, List.mem_map, List.not_mem_nil, or_false] at hv
  rcases hv with rfl | rfl | ⟨x, _, rfl⟩ | rfl | ⟨x, _, rfl⟩ | ⟨x, _, rfl⟩ | rfl | rfl | rfl | rfl | rfl | rfl | rfl | rfl | rfl | rfl <;> first | rfl | assumption
end Go.Proofs.YtbccadbnaggkhaaGreat

namespace Go.Proofs.YtbccadbnaggkhaaGreat
open Go.RowKit
open Sm
open Cf
set_option linter.unusedVariables false
set_option maxRecDepth 20000

end Go.Proofs.YtbccadbnaggkhaaGreat

namespace Go.Proofs.YtbccadbnaggkhaaGreat
open Go.RowKit
open Sm
open Cf
set_option linter.unusedVariables false
set_option linter.unusedSimpArgs false
set_option maxRecDepth 20000

def stL (A : Array Value) : Nat → List Value → Array Value
  | _, [] => A
  | o, v :: r => stL (A.setIfInBounds o v) (o + 1) r
theorem stL_mid (post : List Value) : ∀ (vs mid pre : List Value), mid.length = vs.length → stL (pre ++ (mid ++ post)).toArray pre.length vs = (pre ++ (vs ++ post)).toArray
  | [], mid, pre, h => by
    have : mid = [] := List.eq_nil_of_length_eq_zero h
    subst this
    rfl
  | v :: vs, [], pre, h => by simp at h
  | v :: vs, m :: mid, pre, h => by
    have hs : (pre ++ (m :: mid ++ post)).toArray.setIfInBounds pre.length v = ((pre ++ [v]) ++ (mid ++ post)).toArray := by
      rw [List.setIfInBounds_toArray, List.set_append_right _ _ (Nat.le_refl _), Nat.sub_self, List.cons_append, List.set_cons_zero, List.append_assoc]
      rfl
    rw [stL, hs]
    have := stL_mid post vs mid (pre ++ [v]) (by simpa using h)
    rw [List.length_append, List.length_cons, List.length_nil] at this
    rw [this, List.append_assoc]
    rfl
def s1 (σ : Option (List Int)) := rnx σ
def s2 (σ : Option (List Int)) := nx 4 (s1 σ)
def s3 (σ : Option (List Int)) := nx 8 (s2 σ)
def s4 (σ : Option (List Int)) := nx 4 (s3 σ)
def s5 (σ : Option (List Int)) := nx 6 (s4 σ)
def s6 (σ : Option (List Int)) := nx 6 (s5 σ)
def s7 (σ : Option (List Int)) := nx 2 (s6 σ)
def s8 (σ : Option (List Int)) := nx 2 (s7 σ)
def s9 (σ : Option (List Int)) := nx 1 (s8 σ)
def s10 (σ : Option (List Int)) := nx 2 (s9 σ)
def s11 (σ : Option (List Int)) := nx 2 (s10 σ)
def s12 (σ : Option (List Int)) := nx 4 (s11 σ)
def s13 (σ : Option (List Int)) := nx 4 (s12 σ)
def s14 (σ : Option (List Int)) := nx 1 (s13 σ)
def rx (σ : Option (List Int)) : Nat := (num (tk 1 (s13 σ))).toNat
def ry (σ : Option (List Int)) : Nat := (num (tk 1 (s14 σ))).toNat
theorem owb_one {T : TypeId} {sz n : Nat} {v : Value} {xs : List Value} {B : List (Nat × Obj)} (h : OwB T sz v n xs B) : v.oneCell' = true := by
  rcases h.2 with ⟨rfl, -⟩ | ⟨g, cap, cur, rfl, -⟩ <;> rfl
theorem owb_slice {T : TypeId} {sz n : Nat} {v : Value} {xs : List Value} {B : List (Nat × Obj)} (h : OwB T sz v n xs B) : ∃ a m c, v = .slice a m c := by
  rcases h.2 with ⟨rfl, -⟩ | ⟨g, cap, cur, rfl, -⟩ <;> exact ⟨_, _, _, rfl⟩
theorem tc_one3 (t : Ten) {p s q : Value} (h1 : p.oneCell' = true) (h2 : s.oneCell' = true) (h3 : q.oneCell' = true) : (tc t p s q).toArray.all (·.oneCell') = true := by
  apply all_oneCell_toArray
  intro v hv
  simp only [tc, List.mem_cons, List.mem_append, List.mem_map, List.not_mem_nil, or_false] at hv
  rcases hv with rfl | rfl | ⟨x, _, rfl⟩ | rfl | ⟨x, _, rfl⟩ | ⟨x, _, rfl⟩ | rfl | rfl | rfl | rfl | rfl | rfl | rfl | rfl | rfl | rfl <;> first | rfl | assumption
end Go.Proofs.YtbccadbnaggkhaaGreat

