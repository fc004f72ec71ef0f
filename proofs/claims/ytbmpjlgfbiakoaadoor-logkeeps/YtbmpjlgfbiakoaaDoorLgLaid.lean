/-
  What the program's two variables hold when a call begins, and a world in which they hold it.
-/
import Derived.Test.YtbmpjlgfbiakoaaDoorLgFind
import Derived.ChangeSame
import Derived.ChangeVars
import Derived.JoinedOf
import Derived.LaidLaws
import Derived.LaidHandle
import Derived.Stop.Joined
import Derived.Stop.LaidErr
namespace Go.Proofs.YtbmpjlgfbiakoaaDoor
open Go.ChangeShapes Go.WideShapes Go.RowKit
set_option linter.unusedVariables false

abbrev laidL : List (String × DataW Unit) := [("errors.errorType", Rows.laid_errors_errorType), ("lych/log.errNotWhole", Rows.laid_lych_log_errNotWhole)]
theorem ll_et : Tryd.prog.globalNamed "errors.errorType" = some 1 := by kernel_rfl
theorem ll_en : Tryd.prog.globalNamed "lych/log.errNotWhole" = some 0 := by kernel_rfl
theorem ll_enType : (Tryd.prog.globals[0]?).map (·.type) = some 72 := by kernel_rfl
theorem ll_rt : (Tryd.prog.cutTypes.find? (·.1 == "internal/reflectlite.rtype")).map (·.2) = some 109 := by kernel_rfl
theorem ll_oneRow : ((List.range 156).filter fun t => Tryd.prog.rowNamed t [101, 114, 114, 111, 114]) = [72] := by kernel_rfl
theorem ll_size : Tryd.prog.types.size = 156 := by kernel_rfl
theorem ll_star : "*" ++ "errors.errorString" = "*errors.errorString" := by decide
theorem ll_row (u : TypeId) (h : Tryd.prog.typeName? 3 u = some "*errors.errorString") : u = 125 :=
  typeName_ptr_named (nm := "errors.errorString") (by rw [ll_star]; kernel_rfl) (by kernel_rfl) (by decide) u (by rw [ll_star]; exact h)
theorem ll_cellsE : Tryd.prog.cellsOf 145 = 1 := by kernel_rfl
theorem ll_cellsS : Tryd.prog.cellsOf 9 = 1 := by kernel_rfl

theorem laid_gl {W : World} (h : laidMetH Tryd.prog laidL W) : ∃ a, Gl W a := by
  have h' : laidMet Tryd.prog [("lych/log.errNotWhole", Rows.laid_lych_log_errNotWhole)] W ∧ handlesMet Tryd.prog [("errors.errorType", Rows.laid_errors_errorType)] W := h
  obtain ⟨name, u, ty, e1, e2, e3, e4, e5⟩ := h'.2 _ (List.mem_singleton.2 rfl)
  have en : name = [101, 114, 114, 111, 114] := (Option.some.inj e1).symm
  subst en
  obtain rfl := Option.some.inj (ll_rt.symm.trans e2)
  have hm : ty ∈ (List.range 156).filter fun t => Tryd.prog.rowNamed t [101, 114, 114, 111, 114] := List.mem_filter.2 ⟨List.mem_range.2 (by rw [← ll_size]; exact e3), e4⟩
  rw [ll_oneRow] at hm
  obtain rfl := List.mem_singleton.1 hm
  have hh : typeHandle Tryd.prog 72 = .pointer (some ⟨2, 72, none⟩) := by kernel_rfl
  rw [hh] at e5
  obtain ⟨a0, s0, hv0, _⟩ := laid_sentinel h'.1 ll_en ll_enType Tryd.underlying72 ll_row Tryd.underlying125 Tryd.underlying145 rfl rfl Tryd.underlying9 ll_cellsE ll_cellsS
  exact ⟨a0, by simpa using World.var?_cell ll_en hv0 0, by simpa using World.var?_cell ll_et e5 0⟩

abbrev ll_text : ByteArray := { data := #[97, 32, 98, 108, 111, 99, 107, 32, 116, 104, 97, 116, 32, 105, 115, 110, 39, 116, 32, 119, 104, 111, 108, 101] }
noncomputable def ll_low : Nat := (World.holding Tryd.prog default ⟨#[], #[], []⟩).heap.size
/-- A world in which the variables hold what the program's text lays. -/
noncomputable def laidWorld (os : Os) : World :=
  let w0 := World.holding Tryd.prog os ⟨#[.cells #[.string ll_text] 145], #[], []⟩
  { w0 with heap := (w0.heap.modify 0 fun
      | .cells _ t frozen => .cells #[.iface 125 (.pointer (some ⟨ll_low, 0, none⟩))] t frozen
      | o => o).modify 1 fun
      | .cells _ t frozen => .cells #[.iface 109 (.agg #[.pointer (some ⟨2, 72, none⟩)])] t frozen
      | o => o }
theorem laidWorld_met (os : Os) (args : Array Value) : laidMetH Tryd.prog laidL ((laidWorld os).forCall (fun _ _ => 0) ⟨#[], args, []⟩).memory :=
  laidMetH_of_parts (laidMet_of_run (ps := [.cell 0 0, .cell ll_low 0]) 8 (by kernel_rfl) (by kernel_rfl) (by kernel_rfl)) (by kernel_rfl)
end Go.Proofs.YtbmpjlgfbiakoaaDoor
