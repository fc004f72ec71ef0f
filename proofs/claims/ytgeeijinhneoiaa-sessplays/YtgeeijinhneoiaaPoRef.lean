/-
  Ports: the document's own: find, Has.
-/
import Derived.Test.YtgeeijinhneoiaaPoKit
import Derived.Laws.StructEq
import Derived.Deep.CutBlock
namespace Go.Proofs.Ytgeeijinhneoiaa
open Go.RowKit
open Sm
open Po
set_option linter.unusedVariables false
set_option linter.unusedSimpArgs false
set_option maxRecDepth 20000

namespace Po
theorem pt_eq (a b c d : Int) (w : World) : (Op.equalIn 10000 34 (.agg #[.int .u32 a, .int .u16 b]) (.agg #[.int .u32 c, .int .u16 d])).run Try.prog w = .ok (a == c && b == d) w := by
  have u3 := Try.underlying31
  have u5 := Try.underlying32
  rw [show (10000 : Nat) = 9999 + 1 from rfl, run_equalIn_agg w 9999 34 _ _ (by kernel_rfl) (by kernel_rfl)]
  simp only [Program.fieldsOf, Try.underlying34]
  go_simp
  by_cases h1 : a = c <;> by_cases h2 : b = d <;> simp [h1, h2]
/-- The i-th mark of a list, by its cells. -/
theorem mark_at {V : World} {v : Value} {xs : List Mk} (h : Rw V 3 v (mx xs)) : ∃ a c, v = .slice a xs.length c ∧ xs.length ≤ c ∧ c ≤ 9223372036854775807 ∧ ∀ i (hi : i < xs.length), ∃ b off, a = some ⟨b, off, none⟩ ∧ ∀ W, Below V.heap.size V W → W.cell? ⟨b, off + i * 3, none⟩ = some (.int .u8 xs[i].1) ∧ W.cell? ⟨b, off + i * 3 + 1, none⟩ = some (.int .u32 xs[i].2.1) ∧ W.cell? ⟨b, off + i * 3 + 2, none⟩ = some (.int .u16 xs[i].2.2) := by
  obtain ⟨a, c, rfl, h1, h2, -, h4⟩ := h
  have hl : (mx xs).length = xs.length := by simp [mx]
  rw [hl] at h1 h4 ⊢
  refine ⟨a, c, rfl, h1, h2, fun i hi => ?_⟩
  rcases h4 with e | ⟨b, off, rfl, hc⟩
  · have : xs = [] := by simpa [mx] using e
    subst this
    cases hi
  · refine ⟨b, off, rfl, fun W hW => ?_⟩
    have e : (mx xs).getD i [] = mc xs[i] := by simp [mx, List.getD, List.getElem?_eq_getElem hi]
    have k := hc i hi
    rw [e] at k
    have k0 := k 0 _ rfl
    have k1 := k 1 _ rfl
    have k2 := k 2 _ rfl
    rw [Nat.add_zero] at k0
    exact ⟨by rw [hW.cell (p := ⟨b, _, none⟩) (cell_lt k0)]; exact k0, by rw [hW.cell (p := ⟨b, _, none⟩) (cell_lt k1)]; exact k1, by rw [hW.cell (p := ⟨b, _, none⟩) (cell_lt k2)]; exact k2⟩
end Po
end Go.Proofs.Ytgeeijinhneoiaa
