/-
  Settings as bytes: what a tenant is, its cells in memory, rows of elements of so many cells.
  Settings as bytes: the field of an array of bytes (lych/api.Tenant).
  Settings as bytes: the field of a number (lych/api.Tenant, uint16): what it writes, reads, holds to be the same.
  Settings as bytes: the field of an array of bytes (lych/api.Config).
  Settings as bytes: the field of a text (lych/api.Change).
-/
import Derived.Test.YtnddbklbgddblaaDoorPf08
namespace Go.Proofs.YtnddbklbgddblaaDoor
open Go.RowKit
open Sm
open Cf
set_option linter.unusedVariables false
set_option maxRecDepth 20000

/-- A tenant. -/
structure Ten where
  name : ByteArray
  vni : Int
  key : List Int
  vtep : Int
  vmac : List Int
  host : List Int
  pool : List Int
  lo : Int
  hi : Int
  filter : Int
  stat : List (Int × Int)
  twi : List (Int × Int)
  sess : Int
  queue : Int
  rate : Int
  burst : Int
/-- How long its arrays are. -/
structure TLen (t : Ten) : Prop where
  key : t.key.length = 8
  vmac : t.vmac.length = 6
  host : t.host.length = 6
/-- A tenant's cells, its lists as the values p, s, q. -/
def tc (t : Ten) (p s q : Value) : List Value :=
  .string t.name :: .int .u32 t.vni :: (t.key.map (Value.int .u8) ++ .int .u32 t.vtep :: (t.vmac.map (Value.int .u8) ++ (t.host.map (Value.int .u8) ++
    [p, .int .u16 t.lo, .int .u16 t.hi, .int .i64 t.filter, s, q, .int .i64 t.sess, .int .i64 t.queue, .int .u32 t.rate, .int .u32 t.burst])))
theorem six6 {l : List Int} (h : l.length = 6) : ∃ a b c d e f, l = [a, b, c, d, e, f] := by
  match l, h with
  | [a, b, c, d, e, f], _ => exact ⟨a, b, c, d, e, f, rfl⟩
theorem eight8 {l : List Int} (h : l.length = 8) : ∃ a b c d e f x y, l = [a, b, c, d, e, f, x, y] := by
  match l, h with
  | [a, b, c, d, e, f, x, y], _ => exact ⟨a, b, c, d, e, f, x, y, rfl⟩
theorem tc_len {t : Ten} (h : TLen t) (p s q : Value) : (tc t p s q).length = 33 := by
  simp [tc, h.key, h.vmac, h.host]
/-- No tenant: all noughts. -/
def ten0 : Ten := ⟨ByteArray.empty, 0, [0, 0, 0, 0, 0, 0, 0, 0], 0, [0, 0, 0, 0, 0, 0], [0, 0, 0, 0, 0, 0], [], 0, 0, 0, [], [], 0, 0, 0, 0⟩
abbrev nilV : Value := .slice none 0 0
theorem infoT : (Tryd.prog.info? 39).map (fun i => (i.zero, i.size, i.bytes)) = some (some (.agg (tc ten0 nilV nilV nilV).toArray), 33, 160) := by kernel_rfl
theorem infoU : (Tryd.prog.info? 22).map (fun i => (i.zero, i.size, i.bytes)) = some (some (.int .u32 0), 1, 4) := by kernel_rfl
theorem infoP : (Tryd.prog.info? 52).map (fun i => (i.zero, i.size, i.bytes)) = some (some (.agg #[.int .u32 0, .int .u32 0]), 2, 8) := by kernel_rfl

/-- A slice of elements of sz cells each. -/
def Rw (V : World) (sz : Nat) (v : Value) (xs : List (List Value)) : Prop :=
  ∃ a c, v = .slice a xs.length c ∧ xs.length ≤ c ∧ c ≤ 9223372036854775807 ∧ (a = none → c = 0) ∧
    (xs = [] ∨ ∃ b off, a = some ⟨b, off, none⟩ ∧ ∀ i, i < xs.length → ∀ j u, (xs.getD i [])[j]? = some u → V.cell? ⟨b, off + i * sz + j, none⟩ = some u)
theorem Rw.below {V V' : World} {sz : Nat} {v : Value} {xs : List (List Value)} (h : Rw V sz v xs) (hne : ∀ x ∈ xs, x ≠ []) {B : Nat} (hb : Below B V V') (hB : V.heap.size ≤ B) : Rw V' sz v xs := by
  obtain ⟨a, c, rfl, h1, h2, h3, h4⟩ := h
  refine ⟨a, c, rfl, h1, h2, h3, ?_⟩
  rcases h4 with e | ⟨b, off, rfl, hc⟩
  · exact Or.inl e
  · refine Or.inr ⟨b, off, rfl, fun i hi j u hu => ?_⟩
    have := hc i hi j u hu
    have hlt := cell_lt this
    rw [hb.cell (p := ⟨b, off + i * sz + j, none⟩) (by simp at hlt ⊢; omega)]
    exact this
def ux (l : List Int) : List (List Value) := l.map (fun x => [.int .u32 x])
def px (l : List (Int × Int)) : List (List Value) := l.map (fun x => [.int .u32 x.1, .int .u32 x.2])
theorem ux_ne {l : List Int} : ∀ x ∈ ux l, x ≠ [] := by
  intro x hx
  simp only [ux, List.mem_map] at hx
  obtain ⟨y, _, rfl⟩ := hx
  simp
theorem px_ne {l : List (Int × Int)} : ∀ x ∈ px l, x ≠ [] := by
  intro x hx
  simp only [px, List.mem_map] at hx
  obtain ⟨y, _, rfl⟩ := hx
  simp
end Go.Proofs.YtnddbklbgddblaaDoor

namespace Go.Proofs.YtnddbklbgddblaaDoor
open Go.RowKit
open Sm
open Cf
set_option linter.unusedVariables false
set_option maxRecDepth 20000

end Go.Proofs.YtnddbklbgddblaaDoor

namespace Go.Proofs.YtnddbklbgddblaaDoor
open Go.RowKit
open Sm
open Cf
set_option linter.unusedVariables false
set_option maxRecDepth 20000

end Go.Proofs.YtnddbklbgddblaaDoor

namespace Go.Proofs.YtnddbklbgddblaaDoor
open Go.RowKit
open Sm
open Cf
set_option linter.unusedVariables false
set_option maxRecDepth 20000

end Go.Proofs.YtnddbklbgddblaaDoor

namespace Go.Proofs.YtnddbklbgddblaaDoor
open Go.RowKit
open Sm
open Cf
set_option linter.unusedVariables false
set_option maxRecDepth 20000

end Go.Proofs.YtnddbklbgddblaaDoor

