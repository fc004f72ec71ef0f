/-
  The statements' known tunnels: lychlaw7.known answers true.
-/
import Derived.Test.YtdhmefoenopoeaaVxlanParse
namespace Go.Proofs.Ytdhmefoenopoeaa
open Go.RowKit
open Sm
set_option linter.unusedVariables false

def vxl : List Int := [8, 0, 0, 0, 0, 0, 5, 0, 9]
theorem vxl_bytes : IsBytes vxl := by
  unfold vxl
  iterate 9 (refine bytes_cons ⟨by decide, by decide⟩ ?_)
  exact bytes_nil
theorem nine_bytes : IsBytes [9] := bytes_cons (by decide) bytes_nil

set_option maxRecDepth 20000 in
set_option maxHeartbeats 2000000 in
theorem vknown_any (w : World) : Calls Try.prog 7 #[] w fun e w' => e = .returned (.bool true) ∧ Below w.heap.size w w' := by
  have HB0 : Hid (Below w.heap.size w (w.alloc (.cells (bs vxl) 5))) := (Below.refl _ _).alloc (Nat.le_refl _) _
  have hP := vparse_any (row_lit w vxl vxl_bytes (by decide) 5) (n := 9) (c := 9) rfl (Nat.le_refl _) (E := 0) (by decide) (V := 5) (by decide) (bd := [9]) (by decide) (m := 1) rfl
  have hmk : ∀ w : World, (Instr.makeSlice 22 (.int .i64 8) (.int .i64 8)).run Try.prog w = .ok (.slice (some ⟨w.heap.size, 0, none⟩) 8 8) (w.alloc (.cells (madeCells #[.int .u8 0] 8) 5)) := make_bytes 8 (by omega)
  go_enter Try.func7, Try.ntmps7
  go_wp2_with fail
  refine hP.mono ?_
  rintro e w2 ⟨bo, cb, rfl, hr2, -, -, -, hb2⟩
  have HB2 : Hid (Below w.heap.size w w2) := HB0.out.trans (hb2.mono HB0.out.size)
  have HR2 : Hid (Row w2 bo [9]) := hr2
  clear hP hb2 HB0 hr2
  have hP := vparse_any (row_nil w2) (n := 0) (c := 0) rfl (Nat.le_refl _) (E := 20) (by decide) (V := 0) (by decide) (bd := []) (by decide) (m := 0) rfl
  go_wp2_with fail
  refine hP.mono ?_
  rintro e w3 ⟨bo3, cb3, rfl, -, -, -, -, hb3⟩
  have HB3 : Hid (Below w.heap.size w w3) := HB2.out.trans (hb3.mono HB2.out.size)
  have HR3 : Hid (Row w3 bo [9]) := HR2.out.below hb3 (Nat.le_refl _)
  clear hP hb3 HB2 HR2
  have hP := vparse_any (noughts_at w3 8 (by omega) w3.heap.size rfl) (n := 8) (c := 8) rfl (Nat.le_refl _) (E := 21) (by decide) (V := 0) (by decide) (bd := []) (by decide) (m := 0) rfl
  go_wp2_with fail
  refine hP.mono ?_
  rintro e w4 ⟨bo4, cb4, rfl, -, -, -, -, hb4⟩
  have HB4 : Hid (Below w.heap.size w w4) := by
    have h1 := HB3.out.alloc HB3.out.size (.cells (madeCells #[.int .u8 0] 8) 5)
    exact h1.trans (hb4.mono h1.size)
  have hr4 : Row w4 bo [9] := (row_alloc HR3.out).below hb4 (Nat.le_refl _)
  have hh := hbytes_yes (row_alloc (o := .cells (bs [9]) 5) hr4) (row_lit w4 [9] nine_bytes (by decide) 5) 1 1 rfl rfl cb 1
  clear hP hb4 HB3 HR3 hr4
  go_wp2_with fail
  refine hh.mono ?_
  rintro e w' ⟨rfl, rfl⟩
  go_wp2_with fail
  go_ret
  exact ⟨rfl, HB4.out.alloc HB4.out.size _⟩
end Go.Proofs.Ytdhmefoenopoeaa
