/-
  Settings as bytes: a tenant that was written is read back, but for what was cut off, and no part of it is read.
  Settings held against one another: lychhelp.Tenant, at any two tenants.
  Settings as bytes: the document's own reader: pairs.
  Settings as bytes: the field of the tenants.
-/
import Derived.Test.YtneciccdiledfaaGreatDoorMo22
namespace Go.Proofs.YtneciccdiledfaaGreatDoor
open Go.RowKit
open Sm
open Cf
set_option linter.unusedVariables false
set_option maxRecDepth 20000

end Go.Proofs.YtneciccdiledfaaGreatDoor

namespace Go.Proofs.YtneciccdiledfaaGreatDoor
open Go.RowKit
open Sm
open Cf
set_option linter.unusedVariables false
set_option maxRecDepth 20000

/-- All fields are the same. -/
def TSame (t z : Ten) : Prop := sb t.name = sb z.name ∧ t.vni = z.vni ∧ t.key = z.key ∧ t.vtep = z.vtep ∧ t.vmac = z.vmac ∧ t.host = z.host ∧ t.pool = z.pool ∧ t.lo = z.lo ∧ t.hi = z.hi ∧ t.filter = z.filter ∧ t.stat = z.stat ∧ t.twi = z.twi ∧ t.sess = z.sess ∧ t.queue = z.queue ∧ t.rate = z.rate ∧ t.burst = z.burst
end Go.Proofs.YtneciccdiledfaaGreatDoor

namespace Go.Proofs.YtneciccdiledfaaGreatDoor
open Go.RowKit
open Sm
open Cf
set_option linter.unusedVariables false
set_option linter.unusedSimpArgs false
set_option maxRecDepth 20000

/-- A list of the call's own in blocks B. -/
def OwB (T : TypeId) (sz : Nat) (v : Value) (n : Nat) (xs : List Value) (B : List (Nat × Obj)) : Prop :=
  xs.length = n * sz ∧ ((v = .slice none 0 0 ∧ n = 0 ∧ B = []) ∨ ∃ g cap cur, v = .slice (some ⟨g, 0, none⟩) n cap ∧ B = [(g, .cells cur T (0, 0))] ∧ n ≤ cap ∧ cap ≤ maxLen ∧ cur.size = cap * sz ∧ cur.toList.take (n * sz) = xs)
theorem OwB.nil (T : TypeId) (sz : Nat) : OwB T sz (.slice none 0 0) 0 [] [] := ⟨by simp, Or.inl ⟨rfl, rfl, rfl⟩⟩
theorem OwB.ow {w V : World} {T : TypeId} {sz n : Nat} {v : Value} {xs : List Value} {B L : List (Nat × Obj)} (h : OwB T sz v n xs B) (hM : Mem w V (B ++ L)) : Ow w V T sz v n xs L := by
  obtain ⟨h1, h2⟩ := h
  refine ⟨h1, ?_⟩
  rcases h2 with ⟨rfl, e, rfl⟩ | ⟨g, cap, cur, rfl, rfl, r⟩
  · exact Or.inl ⟨rfl, e, hM⟩
  · exact Or.inr ⟨g, cap, cur, rfl, hM, r⟩
theorem Ow.owb {w V : World} {T : TypeId} {sz n : Nat} {v : Value} {xs : List Value} {L : List (Nat × Obj)} (h : Ow w V T sz v n xs L) : ∃ B, OwB T sz v n xs B ∧ Mem w V (B ++ L) := by
  obtain ⟨h1, h2⟩ := h
  rcases h2 with ⟨rfl, e, hM⟩ | ⟨g, cap, cur, rfl, hM, r⟩
  · exact ⟨[], ⟨h1, Or.inl ⟨rfl, e, rfl⟩⟩, hM⟩
  · exact ⟨[(g, .cells cur T (0, 0))], ⟨h1, Or.inr ⟨g, cap, cur, rfl, rfl, r⟩⟩, hM⟩
theorem px_snoc (acc : List (Int × Int)) (x : Int × Int) : (px (acc ++ [x])).flatten = (px acc).flatten ++ [.int .u32 x.1, .int .u32 x.2] := by simp [px]
theorem ux_snoc (acc : List Int) (x : Int) : (ux (acc ++ [x])).flatten = (ux acc).flatten ++ [.int .u32 x] := by simp [ux]
theorem addr_mid (b off j : Nat) : (Addr.mk b off none).add j = ⟨b, off + j, none⟩ := Addr.add_mid b off j
end Go.Proofs.YtneciccdiledfaaGreatDoor

namespace Go.Proofs.YtneciccdiledfaaGreatDoor
open Go.RowKit
open Sm
open Cf
set_option linter.unusedVariables false
set_option maxRecDepth 20000

end Go.Proofs.YtneciccdiledfaaGreatDoor

