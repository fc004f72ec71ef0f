/-
  Settings as bytes: the document's own reader: pairs.
  Settings as bytes: the field of the tenants.
  Settings as bytes: the program's whole (lych/api.Change): what all bytes are.
  Settings held against one another: lychhelp.Tenant, at any two tenants.
-/
import Derived.Test.YtneciccdiledfaaGreatDoorM22
import Derived.Test.YtneciccdiledfaaGreatDoorM21
namespace Go.Proofs.YtneciccdiledfaaGreatDoor
open Go.RowKit
open Sm
open Cf
set_option linter.unusedVariables false
set_option linter.unusedSimpArgs false
set_option maxRecDepth 20000

/-- So many pairs, while there are bytes; and what is left. -/
def prs : Nat → Option (List Int) → List (Int × Int) × Option (List Int)
  | 0, σ => ([], σ)
  | _ + 1, none => ([], none)
  | n + 1, some r => ((num (tk 4 (some r)), num (tk 4 (nx 4 (some r)))) :: (prs n (nx 4 (nx 4 (some r)))).1, (prs n (nx 4 (nx 4 (some r)))).2)
/-- A list of the call's own in blocks B. -/
def OwB (T : TypeId) (sz : Nat) (v : Value) (n : Nat) (xs : List Value) (B : List (Nat × Obj)) : Prop :=
  xs.length = n * sz ∧ ((v = .slice none 0 0 ∧ n = 0 ∧ B = []) ∨ ∃ g cap cur, v = .slice (some ⟨g, 0, none⟩) n cap ∧ B = [(g, .cells cur T (0, 0))] ∧ n ≤ cap ∧ cap ≤ maxLen ∧ cur.size = cap * sz ∧ cur.toList.take (n * sz) = xs)
theorem OwB.nil (T : TypeId) (sz : Nat) : OwB T sz (.slice none 0 0) 0 [] [] := ⟨by simp, Or.inl ⟨rfl, rfl, rfl⟩⟩
theorem OwB.ow {w V : World} {T : TypeId} {sz n : Nat} {v : Value} {xs : List Value} {B L : List (Nat × Obj)} (h : OwB T sz v n xs B) (hM : Mem w V (B ++ L)) : Ow w V T sz v n xs L := by
  obtain ⟨h1, h2⟩ := h
  refine ⟨h1, ?_⟩
  rcases h2 with ⟨rfl, e, rfl⟩ | ⟨g, cap, cur, rfl, rfl, r⟩
  · exact Or.inl ⟨rfl, e, hM⟩
  · exact Or.inr ⟨g, cap, cur, rfl, hM, r⟩
theorem Ow.owb {w V : World} {T : TypeId} {sz n : Nat} {v : Value} {xs : List Value} {L : List (Nat × Obj)} (h : Ow w V T sz v n xs L) : ∃ B, OwB T sz v n xs B ∧ Mem w V (B ++ L) := by
  obtain ⟨h1, h2⟩ := h
  rcases h2 with ⟨rfl, e, hM⟩ | ⟨g, cap, cur, rfl, hM, r⟩
  · exact ⟨[], ⟨h1, Or.inl ⟨rfl, e, rfl⟩⟩, hM⟩
  · exact ⟨[(g, .cells cur T (0, 0))], ⟨h1, Or.inr ⟨g, cap, cur, rfl, rfl, r⟩⟩, hM⟩
theorem px_snoc (acc : List (Int × Int)) (x : Int × Int) : (px (acc ++ [x])).flatten = (px acc).flatten ++ [.int .u32 x.1, .int .u32 x.2] := by simp [px]
theorem ux_snoc (acc : List Int) (x : Int) : (ux (acc ++ [x])).flatten = (ux acc).flatten ++ [.int .u32 x] := by simp [ux]
theorem addr_mid (b off j : Nat) : (Addr.mk b off none).add j = ⟨b, off + j, none⟩ := Addr.add_mid b off j
theorem tk4 {σ : Option (List Int)} (h : ∀ r, σ = some r → IsBytes r) : 0 ≤ num (tk 4 σ) ∧ num (tk 4 σ) < 4294967296 := by
  have h1 := num_range (tk_bytes 4 h)
  rw [tk_len] at h1
  have : (256 : Int) ^ 4 = 4294967296 := by decide
  omega
end Go.Proofs.YtneciccdiledfaaGreatDoor

namespace Go.Proofs.YtneciccdiledfaaGreatDoor
open Go.RowKit
open Sm
open Cf
set_option linter.unusedVariables false
set_option maxRecDepth 20000

/-- Tenants one behind the other. -/
def spTenants : Sp Cgf := ⟨fun c => cat (fun i => tenc (c.ten.getD i ten0)) (min c.ten.length 255), fun l c => (sq (itd ten0 spT) 0 c.ten.length l c.ten).map (fun q => ({ c with ten := q.1 }, q.2)), fun _ _ => false⟩
theorem pick {α : Type} : ∀ (l : List α) (i : Nat), i < l.length → ∃ A z B, l = A ++ z :: B ∧ A.length = i
  | z :: l, 0, _ => ⟨[], z, l, rfl, rfl⟩
  | y :: l, i + 1, h => by
    obtain ⟨A, z, B, e, hA⟩ := pick l i (by simpa using h)
    exact ⟨y :: A, z, B, by rw [e]; rfl, by simp [hA]⟩
end Go.Proofs.YtneciccdiledfaaGreatDoor

namespace Go.Proofs.YtneciccdiledfaaGreatDoor
open Go.RowKit
open Sm
open Cf
set_option linter.unusedVariables false
set_option maxRecDepth 20000

end Go.Proofs.YtneciccdiledfaaGreatDoor

namespace Go.Proofs.YtneciccdiledfaaGreatDoor
open Go.RowKit
open Sm
open Cf
set_option linter.unusedVariables false
set_option maxRecDepth 20000

/-- All fields are the same. -/
def TSame (t z : Ten) : Prop := sb t.name = sb z.name ∧ t.vni = z.vni ∧ t.key = z.key ∧ t.vtep = z.vtep ∧ t.vmac = z.vmac ∧ t.host = z.host ∧ t.pool = z.pool ∧ t.lo = z.lo ∧ t.hi = z.hi ∧ t.filter = z.filter ∧ t.stat = z.stat ∧ t.twi = z.twi ∧ t.sess = z.sess ∧ t.queue = z.queue ∧ t.rate = z.rate ∧ t.burst = z.burst
end Go.Proofs.YtneciccdiledfaaGreatDoor

