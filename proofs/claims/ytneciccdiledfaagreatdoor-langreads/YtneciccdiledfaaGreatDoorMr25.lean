/-
  Settings as bytes: a tenant that was written is read back, but for what was cut off, and no part of it is read.
  Settings held against one another: lychhelp.Tenant, at any two tenants.
  Settings as bytes: the document's own reader: pairs.
  Settings as bytes: the field of the tenants.
-/
import Derived.Test.YtneciccdiledfaaGreatDoorMr23
namespace Go.Proofs.YtneciccdiledfaaGreatDoor
open Go.RowKit
open Sm
open Cf
set_option linter.unusedVariables false
set_option maxRecDepth 20000

/-- A tenant as it is read back. -/
def tcut (t : Ten) : Ten := ⟨strOfNums ((sb t.name).take 255), num (be 4 t.vni), t.key, num (be 4 t.vtep), t.vmac, t.host, (t.pool.take 255).map (fun v => num (be 4 v)), num (be 2 t.lo), num (be 2 t.hi), num (be 1 t.filter),
  (t.stat.take 255).map (fun v => (num (be 4 v.1), num (be 4 v.2))), (t.twi.take 255).map (fun v => (num (be 4 v.1), num (be 4 v.2))), num (be 2 t.sess), num (be 2 t.queue), num (be 4 t.rate), num (be 4 t.burst)⟩
/-- What is read of it behind k fields. -/
def stt (t : Ten) (k : Nat) : Ten := ⟨if 0 < k then (tcut t).name else ten0.name, if 1 < k then (tcut t).vni else ten0.vni, if 2 < k then t.key else ten0.key, if 3 < k then (tcut t).vtep else ten0.vtep, if 4 < k then t.vmac else ten0.vmac, if 5 < k then t.host else ten0.host,
  if 16 < k then (tcut t).pool else if 13 < k then List.replicate (min t.pool.length 255) 0 else [], if 6 < k then (tcut t).lo else ten0.lo, if 7 < k then (tcut t).hi else ten0.hi, if 8 < k then (tcut t).filter else ten0.filter,
  if 17 < k then (tcut t).stat else if 14 < k then List.replicate (min t.stat.length 255) (0, 0) else [], if 18 < k then (tcut t).twi else if 15 < k then List.replicate (min t.twi.length 255) (0, 0) else [],
  if 9 < k then (tcut t).sess else ten0.sess, if 10 < k then (tcut t).queue else ten0.queue, if 11 < k then (tcut t).rate else ten0.rate, if 12 < k then (tcut t).burst else ten0.burst⟩
end Go.Proofs.YtneciccdiledfaaGreatDoor

namespace Go.Proofs.YtneciccdiledfaaGreatDoor
open Go.RowKit
open Sm
open Cf
set_option linter.unusedVariables false
set_option maxRecDepth 20000

/-- All fields are the same. -/
def TSame (t z : Ten) : Prop := sb t.name = sb z.name ∧ t.vni = z.vni ∧ t.key = z.key ∧ t.vtep = z.vtep ∧ t.vmac = z.vmac ∧ t.host = z.host ∧ t.pool = z.pool ∧ t.lo = z.lo ∧ t.hi = z.hi ∧ t.filter = z.filter ∧ t.stat = z.stat ∧ t.twi = z.twi ∧ t.sess = z.sess ∧ t.queue = z.queue ∧ t.rate = z.rate ∧ t.burst = z.burst
end Go.Proofs.YtneciccdiledfaaGreatDoor

namespace Go.Proofs.YtneciccdiledfaaGreatDoor
open Go.RowKit
open Sm
open Cf
set_option linter.unusedVariables false
set_option linter.unusedSimpArgs false
set_option maxRecDepth 20000

/-- So many pairs, while there are bytes; and what is left. -/
def prs : Nat → Option (List Int) → List (Int × Int) × Option (List Int)
  | 0, σ => ([], σ)
  | _ + 1, none => ([], none)
  | n + 1, some r => ((num (tk 4 (some r)), num (tk 4 (nx 4 (some r)))) :: (prs n (nx 4 (nx 4 (some r)))).1, (prs n (nx 4 (nx 4 (some r)))).2)
/-- A list of the call's own in blocks B. -/
def OwB (T : TypeId) (sz : Nat) (v : Value) (n : Nat) (xs : List Value) (B : List (Nat × Obj)) : Prop :=
  xs.length = n * sz ∧ ((v = .slice none 0 0 ∧ n = 0 ∧ B = []) ∨ ∃ g cap cur, v = .slice (some ⟨g, 0, none⟩) n cap ∧ B = [(g, .cells cur T (0, 0))] ∧ n ≤ cap ∧ cap ≤ maxLen ∧ cur.size = cap * sz ∧ cur.toList.take (n * sz) = xs)
theorem OwB.nil (T : TypeId) (sz : Nat) : OwB T sz (.slice none 0 0) 0 [] [] := ⟨by simp, Or.inl ⟨rfl, rfl, rfl⟩⟩
theorem OwB.ow {w V : World} {T : TypeId} {sz n : Nat} {v : Value} {xs : List Value} {B L : List (Nat × Obj)} (h : OwB T sz v n xs B) (hM : Mem w V (B ++ L)) : Ow w V T sz v n xs L := by
  obtain ⟨h1, h2⟩ := h
  refine ⟨h1, ?_⟩
  rcases h2 with ⟨rfl, e, rfl⟩ | ⟨g, cap, cur, rfl, rfl, r⟩
  · exact Or.inl ⟨rfl, e, hM⟩
  · exact Or.inr ⟨g, cap, cur, rfl, hM, r⟩
theorem Ow.owb {w V : World} {T : TypeId} {sz n : Nat} {v : Value} {xs : List Value} {L : List (Nat × Obj)} (h : Ow w V T sz v n xs L) : ∃ B, OwB T sz v n xs B ∧ Mem w V (B ++ L) := by
  obtain ⟨h1, h2⟩ := h
  rcases h2 with ⟨rfl, e, hM⟩ | ⟨g, cap, cur, rfl, hM, r⟩
  · exact ⟨[], ⟨h1, Or.inl ⟨rfl, e, rfl⟩⟩, hM⟩
  · exact ⟨[(g, .cells cur T (0, 0))], ⟨h1, Or.inr ⟨g, cap, cur, rfl, rfl, r⟩⟩, hM⟩
theorem px_snoc (acc : List (Int × Int)) (x : Int × Int) : (px (acc ++ [x])).flatten = (px acc).flatten ++ [.int .u32 x.1, .int .u32 x.2] := by simp [px]
theorem ux_snoc (acc : List Int) (x : Int) : (ux (acc ++ [x])).flatten = (ux acc).flatten ++ [.int .u32 x] := by simp [ux]
theorem addr_mid (b off j : Nat) : (Addr.mk b off none).add j = ⟨b, off + j, none⟩ := Addr.add_mid b off j
end Go.Proofs.YtneciccdiledfaaGreatDoor

namespace Go.Proofs.YtneciccdiledfaaGreatDoor
open Go.RowKit
open Sm
open Cf
set_option linter.unusedVariables false
set_option maxRecDepth 20000

/-- Tenants one behind the other. -/
def spTenants : Sp Cgf := ⟨fun c => cat (fun i => tenc (c.ten.getD i ten0)) (min c.ten.length 255), fun l c => (sq (itd ten0 spT) 0 c.ten.length l c.ten).map (fun q => ({ c with ten := q.1 }, q.2)), fun _ _ => false⟩
end Go.Proofs.YtneciccdiledfaaGreatDoor

