/-
  Settings as bytes: the document's own reader: pairs.
  Settings as bytes: a tenant that was written is read back, but for what was cut off, and no part of it is read.
  Settings held against one another: lychhelp.Tenant, at any two tenants.
  Settings as bytes: the program's whole (lych/api.Change): what all bytes are.
  Settings as bytes: the field of the tenants.
  Settings as bytes: the document's own Tenant, at every tenant.
-/
import Derived.Test.YtbccadbnaggkhaaGreatKE18
import Derived.Test.YtbccadbnaggkhaaGreatKE17
import Derived.Deep.DeepCutAuto
namespace Go.Proofs.YtbccadbnaggkhaaGreat
open Go.RowKit
open Sm
open Cf
set_option linter.unusedVariables false
set_option linter.unusedSimpArgs false
set_option maxRecDepth 20000

/-- A list of the call's own in blocks B. -/
def OwB (T : TypeId) (sz : Nat) (v : Value) (n : Nat) (xs : List Value) (B : List (Nat × Obj)) : Prop :=
  xs.length = n * sz ∧ ((v = .slice none 0 0 ∧ n = 0 ∧ B = []) ∨ ∃ g cap cur, v = .slice (some ⟨g, 0, none⟩) n cap ∧ B = [(g, .cells cur T (0, 0))] ∧ n ≤ cap ∧ cap ≤ maxLen ∧ cur.size = cap * sz ∧ cur.toList.take (n * sz) = xs)
theorem OwB.nil (T : TypeId) (sz : Nat) : OwB T sz (.slice none 0 0) 0 [] [] := ⟨by simp, Or.inl ⟨rfl, rfl, rfl⟩⟩
theorem Ow.owb {w V : World} {T : TypeId} {sz n : Nat} {v : Value} {xs : List Value} {L : List (Nat × Obj)} (h : Ow w V T sz v n xs L) : ∃ B, OwB T sz v n xs B ∧ Mem w V (B ++ L) := by
  obtain ⟨h1, h2⟩ := h
  rcases h2 with ⟨rfl, e, hM⟩ | ⟨g, cap, cur, rfl, hM, r⟩
  · exact ⟨[], ⟨h1, Or.inl ⟨rfl, e, rfl⟩⟩, hM⟩
  · exact ⟨[(g, .cells cur T (0, 0))], ⟨h1, Or.inr ⟨g, cap, cur, rfl, rfl, r⟩⟩, hM⟩
end Go.Proofs.YtbccadbnaggkhaaGreat

namespace Go.Proofs.YtbccadbnaggkhaaGreat
open Go.RowKit
open Sm
open Cf
set_option linter.unusedVariables false
set_option maxRecDepth 20000

end Go.Proofs.YtbccadbnaggkhaaGreat

namespace Go.Proofs.YtbccadbnaggkhaaGreat
open Go.RowKit
open Sm
open Cf
set_option linter.unusedVariables false
set_option maxRecDepth 20000

/-- All fields are the same. -/
def TSame (t z : Ten) : Prop := sb t.name = sb z.name ∧ t.vni = z.vni ∧ t.key = z.key ∧ t.vtep = z.vtep ∧ t.vmac = z.vmac ∧ t.host = z.host ∧ t.pool = z.pool ∧ t.lo = z.lo ∧ t.hi = z.hi ∧ t.filter = z.filter ∧ t.stat = z.stat ∧ t.twi = z.twi ∧ t.sess = z.sess ∧ t.queue = z.queue ∧ t.rate = z.rate ∧ t.burst = z.burst
end Go.Proofs.YtbccadbnaggkhaaGreat

namespace Go.Proofs.YtbccadbnaggkhaaGreat
open Go.RowKit
open Sm
open Cf
set_option linter.unusedVariables false
set_option maxRecDepth 20000

end Go.Proofs.YtbccadbnaggkhaaGreat

namespace Go.Proofs.YtbccadbnaggkhaaGreat
open Go.RowKit
open Sm
open Cf
set_option linter.unusedVariables false
set_option maxRecDepth 20000

end Go.Proofs.YtbccadbnaggkhaaGreat

namespace Go.Proofs.YtbccadbnaggkhaaGreat
open Go.RowKit
open Sm
open Cf
set_option linter.unusedVariables false
set_option maxRecDepth 20000
set_option linter.unusedSimpArgs false

theorem Ob.add {w W : World} {v : Value} {l : List Int} {L : List (Nat × Obj)} {n : Nat} {o : Obj} {g : Nat} (h : Ob w W v l L n) (hg : g = W.heap.size) : Ob w (W.alloc o) v l ((g, o) :: L) n := ⟨h.1.add hg, h.2⟩
theorem Ob.drop {w W : World} {v : Value} {l : List Int} {L : List (Nat × Obj)} {n : Nat} {p : Nat × Obj} (h : Ob w W v l (p :: L) n) : Ob w W v l L n := ⟨h.1.drop, h.2⟩
end Go.Proofs.YtbccadbnaggkhaaGreat

