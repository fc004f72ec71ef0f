/-
  Settings as bytes: what a tenant is, its cells in memory, rows of elements of so many cells.
-/
import Derived.Test.YtgeeijinhneoiaaCfPut
namespace Go.Proofs.Ytgeeijinhneoiaa
open Go.RowKit
open Sm
open Cf
set_option linter.unusedVariables false
set_option maxRecDepth 20000

/-- A tenant. -/
structure Ten where
  name : ByteArray
  vni : Int
  key : List Int
  vtep : Int
  vmac : List Int
  host : List Int
  pool : List Int
  lo : Int
  hi : Int
  filter : Int
  stat : List (Int × Int)
  twi : List (Int × Int)
  sess : Int
  queue : Int
  rate : Int
  burst : Int
/-- How long its arrays are. -/
structure TLen (t : Ten) : Prop where
  key : t.key.length = 8
  vmac : t.vmac.length = 6
  host : t.host.length = 6
/-- A tenant's cells, its lists as the values p, s, q. -/
def tc (t : Ten) (p s q : Value) : List Value :=
  .string t.name :: .int .u32 t.vni :: (t.key.map (Value.int .u8) ++ .int .u32 t.vtep :: (t.vmac.map (Value.int .u8) ++ (t.host.map (Value.int .u8) ++
    [p, .int .u16 t.lo, .int .u16 t.hi, .int .i64 t.filter, s, q, .int .i64 t.sess, .int .i64 t.queue, .int .u32 t.rate, .int .u32 t.burst])))
theorem six6 {l : List Int} (h : l.length = 6) : ∃ a b c d e f, l = [a, b, c, d, e, f] := by
  match l, h with
  | [a, b, c, d, e, f], _ => exact ⟨a, b, c, d, e, f, rfl⟩
theorem eight8 {l : List Int} (h : l.length = 8) : ∃ a b c d e f x y, l = [a, b, c, d, e, f, x, y] := by
  match l, h with
  | [a, b, c, d, e, f, x, y], _ => exact ⟨a, b, c, d, e, f, x, y, rfl⟩
theorem tc_len {t : Ten} (h : TLen t) (p s q : Value) : (tc t p s q).length = 33 := by
  simp [tc, h.key, h.vmac, h.host]
/-- No tenant: all noughts. -/
def ten0 : Ten := ⟨ByteArray.empty, 0, [0, 0, 0, 0, 0, 0, 0, 0], 0, [0, 0, 0, 0, 0, 0], [0, 0, 0, 0, 0, 0], [], 0, 0, 0, [], [], 0, 0, 0, 0⟩
theorem ten0_len : TLen ten0 := ⟨rfl, rfl, rfl⟩
abbrev nilV : Value := .slice none 0 0
theorem infoU : (Try.prog.info? 31).map (fun i => (i.zero, i.size, i.bytes)) = some (some (.int .u32 0), 1, 4) := by kernel_rfl
/-- A slice of elements of sz cells each. -/
def Rw (V : World) (sz : Nat) (v : Value) (xs : List (List Value)) : Prop :=
  ∃ a c, v = .slice a xs.length c ∧ xs.length ≤ c ∧ c ≤ 9223372036854775807 ∧ (a = none → c = 0) ∧
    (xs = [] ∨ ∃ b off, a = some ⟨b, off, none⟩ ∧ ∀ i, i < xs.length → ∀ j u, (xs.getD i [])[j]? = some u → V.cell? ⟨b, off + i * sz + j, none⟩ = some u)
theorem Rw.below {V V' : World} {sz : Nat} {v : Value} {xs : List (List Value)} (h : Rw V sz v xs) (hne : ∀ x ∈ xs, x ≠ []) {B : Nat} (hb : Below B V V') (hB : V.heap.size ≤ B) : Rw V' sz v xs := by
  obtain ⟨a, c, rfl, h1, h2, h3, h4⟩ := h
  refine ⟨a, c, rfl, h1, h2, h3, ?_⟩
  rcases h4 with e | ⟨b, off, rfl, hc⟩
  · exact Or.inl e
  · refine Or.inr ⟨b, off, rfl, fun i hi j u hu => ?_⟩
    have := hc i hi j u hu
    have hlt := cell_lt this
    rw [hb.cell (p := ⟨b, off + i * sz + j, none⟩) (by simp at hlt ⊢; omega)]
    exact this
def ux (l : List Int) : List (List Value) := l.map (fun x => [.int .u32 x])
def px (l : List (Int × Int)) : List (List Value) := l.map (fun x => [.int .u32 x.1, .int .u32 x.2])
theorem ux_ne {l : List Int} : ∀ x ∈ ux l, x ≠ [] := by
  intro x hx
  simp only [ux, List.mem_map] at hx
  obtain ⟨y, _, rfl⟩ := hx
  simp
theorem px_ne {l : List (Int × Int)} : ∀ x ∈ px l, x ≠ [] := by
  intro x hx
  simp only [px, List.mem_map] at hx
  obtain ⟨y, _, rfl⟩ := hx
  simp
theorem Mem.rw' {w W : World} {L : List (Nat × Obj)} (hM : Mem w W L) {sz : Nat} {v : Value} {xs : List (List Value)} (h : Rw w sz v xs) (hne : ∀ x ∈ xs, x ≠ []) : Rw W sz v xs := h.below hne hM.below (Nat.le_refl _)
theorem madeCells_flat (z : Array Value) (n : Nat) (hz : 0 < z.size) : (madeCells z (n * z.size)).toList = (List.replicate n z.toList).flatten := by
  have key : ∀ m, (madeCells z m).toList = (List.range m).map (fun i => z[i % z.size]!) := by
    intro m
    simp [madeCells]
  rw [key]
  induction n with
  | zero => simp
  | succ n ih =>
    rw [Nat.succ_mul, List.range_add, List.map_append, ih, List.replicate_succ', List.flatten_append]
    congr 1
    simp only [List.map_map, List.flatten_cons, List.flatten_nil, List.append_nil]
    apply List.ext_getElem
    · simp
    · intro i h1 h2
      have hi : i < z.size := by simpa using h2
      simp only [List.getElem_map, List.getElem_range, Function.comp_apply, Array.getElem_toList]
      rw [Nat.mul_add_mod_self_right, Nat.mod_eq_of_lt hi, getElem!_pos z i hi]
end Go.Proofs.Ytgeeijinhneoiaa
