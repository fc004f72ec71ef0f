/-
  Hardware addresses' and keys' texts: the program's MacText and KeyText.
  Settings as bytes: the field of a list's elements keeps what is asked of a field (lych/api.Tenant, uint32).
  Settings as bytes: the field of a list's elements keeps what is asked of a field (lych/api.Tenant, lych/api.Pair).
-/
import Derived.Test.YtneciccdiledfaaGreatDoorMo13
import Derived.Test.YtneciccdiledfaaGreatDoorMo17
import Derived.Test.YtneciccdiledfaaGreatDoorMo12
namespace Go.Proofs.YtneciccdiledfaaGreatDoor
open Go.RowKit
open Ad
open Sm (IsBytes)
set_option linter.unusedVariables false

theorem keyt_one (x : Int) : keyt [x] = hex2 x := by simp [keyt]
theorem Mem.rowOf {w W : World} {g : Nat} {T : TypeId} {L : List (Nat × Obj)} {l : List Int} (h : Mem w W ((g, .cells (ab l) T (0, 0)) :: L)) (hb : IsBytes l) (hl : l.length ≤ 1000) : Row W (some ⟨g, 0, none⟩) l :=
  ⟨hb, by omega, Or.inr ⟨g, 0, rfl, fun j hj => by rw [Nat.zero_add, h.cell 0 rfl, ab_at hj]⟩⟩
theorem Mem.oneOf {w W : World} {g : Nat} {T : TypeId} {L : List (Nat × Obj)} {l : List Int} (h : Mem w W ((g, .cells (ab l) T (0, 0)) :: L)) (hb : IsBytes l) (j : Nat) (hj : j < l.length) : Row W (some ⟨g, j, none⟩) [l.getD j 0] := by
  refine ⟨fun i => ?_, by simp, Or.inr ⟨g, j, rfl, fun i hi => ?_⟩⟩
  · match i with
    | 0 => simpa using hb j
    | i + 1 => simp
  · have : i = 0 := by simpa using hi
    subst this
    rw [Nat.add_zero, h.cell 0 rfl, ab_at hj]; simp

/-- The texts of so many bytes, the rest empty. -/
def hexP (l : List Int) (i : Nat) : List (List UInt8) := (List.range l.length).map fun j => if j < i then hex2 (l.getD j 0) else []
theorem hexP_set (l : List Int) (i : Nat) (hi : i < l.length) : (hexP l i).set i (hex2 (l.getD i 0)) = hexP l (i + 1) := by
  apply List.ext_getElem?
  intro j
  by_cases e : i = j
  · subst e
    rw [List.getElem?_set_self (by simpa [hexP] using hi)]
    simp [hexP, hi]
  · rw [List.getElem?_set_ne e]
    by_cases hj : j < l.length
    · simp only [hexP, List.getElem?_map, List.getElem?_range hj, Option.map_some, Option.some.injEq]
      by_cases h1 : j < i
      · rw [if_pos h1, if_pos (by omega)]
      · rw [if_neg h1, if_neg (by omega)]
    · rw [List.getElem?_eq_none (by simp [hexP]; omega), List.getElem?_eq_none (by simp [hexP]; omega)]
theorem hexP_at (l : List Int) (i : Nat) (hi : i < l.length) : (hexP l i)[i]? = some [] := by
  simp [hexP, hi]
theorem hexP_full (l : List Int) : hexP l l.length = l.map hex2 := by
  apply List.ext_getElem?
  intro j
  by_cases hj : j < l.length
  · simp [hexP, hj]
  · rw [List.getElem?_eq_none (by simp [hexP]; omega), List.getElem?_eq_none (by simp; omega)]

set_option maxHeartbeats 4000000 in
set_option maxRecDepth 20000 in
theorem mact_any (w : World) (l : List Int) (hl : l.length = 6) (hb : IsBytes l) :
    Calls Tryz.prog 60 #[.agg (ab l)] w fun e w' => e = .returned (.string ⟨(mact l).toArray⟩) ∧ Below w.heap.size w w' := by
  have hM0 := two_blocks w (.cells (ab l) 25 (0, 0)) (.cells (sa (hexP l 0)) 9 (0, 0))
  have hmk : (Instr.makeSlice 54 (.int .i64 6) (.int .i64 6)).run Tryz.prog (w.alloc (.cells (ab l) 25 (0, 0))) = .ok (.slice (some ⟨w.heap.size + 1, 0, none⟩) 6 6) ((w.alloc (.cells (ab l) 25 (0, 0))).alloc (.cells (sa (hexP l 0)) 9 (0, 0))) := by
    have h := make_strs 6 (by omega) (w.alloc (.cells (ab l) 25 (0, 0)))
    have e : hexP l 0 = List.replicate 6 [] := by simp [hexP, hl]; rfl
    rw [e]
    have hs : (w.alloc (.cells (ab l) 25 (0, 0))).heap.size = w.heap.size + 1 := by simp
    rw [hs] at h
    exact h
  obtain ⟨a0, a1, a2, a3, a4, a5, he⟩ := six hl
  have hab : ab l = #[.int .u8 a0, .int .u8 a1, .int .u8 a2, .int .u8 a3, .int .u8 a4, .int .u8 a5] := by rw [he]; rfl
  generalize hW1 : (w.alloc (.cells (ab l) 25 (0, 0))).alloc (.cells (sa (hexP l 0)) 9 (0, 0)) = W1 at hM0 hmk
  rw [hab] at hmk
  rw [hab]
  clear he hab
  go_enter Tryz.func60, Tryz.ntmps60
  go_wp2_with fail
  go_loopw [8] (fun jj w' => ∃ (j : Nat), jj = .int .i64 j ∧ j ≤ 6 ∧ Mem w w' [(w.heap.size + 1, .cells (sa (hexP l j)) 9 (0, 0)), (w.heap.size, .cells (ab l) 25 (0, 0))]) (fun jj _ => 6 - (intOf jj).toNat)
  case atStart => exact ⟨0, rfl, by omega, hM0⟩
  case round =>
    obtain ⟨j, rfl, hj6, hMr⟩ := hrel
    clear hM0 hmk hW1
    by_cases hj : j < 6
    · have hjz : (j : Int) < 6 := by omega
      have e7 : IntKind.i64.wrap ((j : Int) + 1) = (j : Int) + 1 := wrap64 (by omega) (by omega)
      have hsl := slice_one w.heap.size j hj
      have hrow := hMr.flip.oneOf hb j (by omega)
      have cH := hexText_any hrow 1 (6 - j) rfl (by omega) (by omega)
      rw [keyt_one] at cH
      have hset := hexP_set l j (by omega)
      have hat := hexP_at l j (by omega)
      generalize hex2 (l.getD j 0) = h2 at cH hset
      go_wp2_with fail
      refine cH.mono ?_
      rintro e w2 ⟨rfl, hb2⟩
      have hM2 := hMr.after hb2
      have hcell2 : w2.cell? ⟨w.heap.size + 1, j, none⟩ = some (.string ⟨#[]⟩) := by rw [hM2.cell 0 rfl, sa_at hat]
      have hfz := hM2.free 0 rfl j
      have hM3 := hM2.str j h2
      rw [hset] at hM3
      generalize (⟨h2.toArray⟩ : ByteArray) = S at hM3
      clear hMr cH hb2 hrow hset hat
      go_wp2_with fail
      go_roundw
      case rel => exact ⟨j + 1, by first | rfl | trivial, by omega, hM3⟩
      case measure => simp [intOf]; omega
    · have hjz : ¬ (j : Int) < 6 := by omega
      obtain rfl : j = l.length := by omega
      have cJ := join_row hMr 58 6 (by simp [hexP, hl]) (by omega) (by
        intro p hp
        rw [hexP_full] at hp
        obtain ⟨x, _, rfl⟩ := List.mem_map.1 hp
        simp [hex2])
      rw [hexP_full] at cJ
      rw [show Lib.join (l.map hex2) [58] = mact l from rfl] at cJ
      go_wp2_with fail
      refine cJ.mono ?_
      rintro e w2 ⟨rfl, hb2⟩
      go_wp2_with fail
      go_ret
      exact ⟨rfl, hMr.below.trans (hb2.mono hMr.below.size)⟩
set_option maxHeartbeats 4000000 in
theorem keyt_any (w : World) (l : List Int) (hl : l.length = 8) (hb : IsBytes l) :
    Calls Tryz.prog 61 #[.agg (ab l)] w fun e w' => e = .returned (.string ⟨(keyt l).toArray⟩) ∧ Below w.heap.size w w' := by
  have hM0 : Mem w (w.alloc (.cells (ab l) 26 (0, 0))) [(w.heap.size, .cells (ab l) 26 (0, 0))] := (Mem.nil w).push w.heap.size _ rfl
  have cH := hexText_any (hM0.rowOf hb (by omega)) 8 8 hl (Nat.le_refl _) (by omega)
  have hb0 := hM0.below
  obtain ⟨a0, a1, a2, a3, a4, a5, a6, a7, he⟩ := eight hl
  have hab : ab l = #[.int .u8 a0, .int .u8 a1, .int .u8 a2, .int .u8 a3, .int .u8 a4, .int .u8 a5, .int .u8 a6, .int .u8 a7] := by rw [he]; rfl
  rw [hab] at cH hb0
  rw [hab]
  clear he hab
  generalize (⟨(keyt l).toArray⟩ : ByteArray) = S at cH
  go_enter Tryz.func61, Tryz.ntmps61
  go_wp2_with fail
  refine cH.mono ?_
  rintro e w2 ⟨rfl, hb2⟩
  go_wp2_with fail
  go_ret
  exact ⟨rfl, hb0.trans (hb2.mono hb0.size)⟩
end Go.Proofs.YtneciccdiledfaaGreatDoor

namespace Go.Proofs.YtneciccdiledfaaGreatDoor
open Go.RowKit
open Sm
open Cf
set_option linter.unusedVariables false
set_option maxRecDepth 20000

end Go.Proofs.YtneciccdiledfaaGreatDoor

namespace Go.Proofs.YtneciccdiledfaaGreatDoor
open Go.RowKit
open Sm
open Cf
set_option linter.unusedVariables false
set_option maxRecDepth 20000

end Go.Proofs.YtneciccdiledfaaGreatDoor

