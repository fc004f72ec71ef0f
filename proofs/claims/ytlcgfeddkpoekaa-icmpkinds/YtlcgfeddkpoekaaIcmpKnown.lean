/-
  The statements' known message: lychlaw6.known answers true.
-/
import Derived.Test.YtlcgfeddkpoekaaIcmpParse
import Derived.Test.YtlcgfeddkpoekaaIcmpRef
import Derived.Test.YtlcgfeddkpoekaaIcmpSum
import Derived.Test.YtlcgfeddkpoekaaIcmpKind
namespace Go.Proofs.Ytlcgfeddkpoekaa
open Go.RowKit
open Sm
set_option linter.unusedVariables false

/-- icmp.Parse's answer written out. -/
theorem mparse_out {w : World} {a : Option Addr} {n c : Nat} {l : List Int} (hr : Row w a l) (hn : l.length = n) (hc : n ≤ c) {E : Int} {p : Mg} (hE : mgErr l = E) (hp : mgRes l = p) {nb : Nat} (hb : p.body.length = nb) :
    Calls Try.prog 9 #[.slice a n c] w fun r w' => ∃ bo cb, r = .returned (.tuple #[.agg (mgB p bo nb cb), .int .i64 E]) ∧
      MgV w' w.heap.size (.agg (mgB p bo nb cb)) p ∧ Below w.heap.size w w' := by
  subst hE hp hb
  refine (mparse_any hr hn hc).mono ?_
  rintro r w' ⟨v, rfl, hv, hb⟩
  have hv' := hv
  obtain ⟨bo, cb, rfl, -⟩ := hv
  exact ⟨bo, cb, rfl, hv', hb⟩
theorem rmsg_out {w : World} {a : Option Addr} {n c : Nat} {l : List Int} (hr : Row w a l) (hn : l.length = n) (hc : n ≤ c) (h7 : n ≤ 70000) {E : Int} {p : Mg} (hE : mgErr l = E) (hp : mgRes l = p) {nb : Nat} (hb : p.body.length = nb) :
    Calls Try.prog 10 #[.slice a n c] w fun r w' => ∃ bo cb, r = .returned (.tuple #[.agg (mgB p bo nb cb), .int .i64 E]) ∧
      MgV w' w.heap.size (.agg (mgB p bo nb cb)) p ∧ Below w.heap.size w w' := by
  subst hE hp hb
  refine (rmsg_any hr hn hc h7).mono ?_
  rintro r w' ⟨v, rfl, hv, hb⟩
  have hv' := hv
  obtain ⟨bo, cb, rfl, -⟩ := hv
  exact ⟨bo, cb, rfl, hv', hb⟩

def mgl : List Int := [8, 0, 247, 253, 0, 1, 0, 1]
def mg1 : Mg := ⟨8, 0, 63485, 65537, []⟩
theorem mg1_ok : mg1.Ok := ⟨by decide, by decide, by decide, by decide, bytes_nil⟩
theorem mgl_bytes : IsBytes mgl := mgb_bytes mg1_ok
theorem mgl_err : mgErr mgl = 0 := by decide
theorem mgl_res : mgRes mgl = mg1 := back_mres mg1_ok
theorem mg1_right : mright mg1 = true := by decide
theorem mg1_echo : mecho mg1 = true := by decide
theorem mg1_error : merror mg1 = false := by decide

set_option maxRecDepth 20000 in
set_option maxHeartbeats 4000000 in
theorem mknown_any (w : World) : Calls Try.prog 8 #[] w fun e w' => e = .returned (.bool true) ∧ Below w.heap.size w w' := by
  have HB0 : Hid (Below w.heap.size w (w.alloc (.cells (bs mgl) 5))) := (Below.refl _ _).alloc (Nat.le_refl _) _
  have hP := mparse_out (row_lit w mgl mgl_bytes (by decide) 5) (n := 8) (c := 8) rfl (Nat.le_refl _) mgl_err mgl_res (nb := 0) rfl
  go_enter Try.func8, Try.ntmps8
  go_wp2_with fail
  refine hP.mono ?_
  rintro e w2 ⟨bo, cb, rfl, hv2, hb2⟩
  have hM2 : Mem w w2 [] := ((Mem.nil w).after HB0.out).after hb2
  clear hP hb2 HB0
  go_upto_region 2 with fail
  refine wp_letter (fun W => Mem w W [(w2.heap.size, .cells (mgB mg1 bo 0 cb) mgT)] ∧ MgV W 0 (.agg (mgB mg1 bo 0 cb)) mg1) ⟨hM2.push w2.heap.size _ rfl, mgv_box (hv2.mono (Nat.zero_le _)) _⟩ ?_
  intro w3 ⟨hM3, hv3⟩
  have HM3 : Hid _ := hM3
  have HV3 : Hid (MgV w3 0 (.agg (mgB mg1 bo 0 cb)) mg1) := hv3
  clear hM3 hv3 hM2 hv2
  generalize w2.heap.size = P at *
  have hP := mparse_out (row_nil w3) (n := 0) (c := 0) rfl (Nat.le_refl _) (E := 20) rfl (p := Mg.zero) rfl (nb := 0) rfl
  go_wp2_with fail
  refine hP.mono ?_
  rintro e w4 ⟨bo2, cb2, rfl, -, hb4⟩
  have HM4 : Hid _ := HM3.out.after hb4
  have HV4 : Hid (MgV w4 0 (.agg (mgB mg1 bo 0 cb)) mg1) := HV3.out.below hb4 (Nat.le_refl _)
  clear hP hb4 HM3 HV3
  go_upto_region 3 with fail
  refine wp_letter (fun W => Mem w W [(P, .cells (mgB mg1 bo 0 cb) mgT)] ∧ MgV W 0 (.agg (mgB mg1 bo 0 cb)) mg1) ⟨HM4.out.after ((Below.refl _ _).alloc (Nat.le_refl _) _), mgv_box HV4.out _⟩ ?_
  intro w5 ⟨hM5, hv5⟩
  have HM5 : Hid _ := hM5
  have HV5 : Hid (MgV w5 0 (.agg (mgB mg1 bo 0 cb)) mg1) := hv5
  have kc : ∀ i, w5.cell? ⟨P, i, none⟩ = (mgB mg1 bo 0 cb)[i]? := hM5.cell 0 rfl
  have hR := mright_any mg1_ok hv5
  rw [mg1_right] at hR
  clear hM5 hv5 HM4 HV4
  go_wp2_with fail
  refine hR.mono ?_
  rintro e w6 ⟨rfl, hb6⟩
  have hM6 := HM5.out.after hb6
  have hv6 := HV5.out.below hb6 (Nat.le_refl _)
  have HM6 : Hid _ := hM6
  have HV6 : Hid (MgV w6 0 (.agg (mgB mg1 bo 0 cb)) mg1) := hv6
  clear hR hb6 HM5 HV5 kc
  have kc : ∀ i, w6.cell? ⟨P, i, none⟩ = (mgB mg1 bo 0 cb)[i]? := hM6.cell 0 rfl
  have hR := mecho_any hv6
  rw [mg1_echo] at hR
  clear hM6 hv6
  go_wp2_with fail
  refine hR.mono ?_
  rintro e w7 ⟨rfl, hb7⟩
  have hM7 := HM6.out.after hb7
  have hv7 := HV6.out.below hb7 (Nat.le_refl _)
  have HM7 : Hid _ := hM7
  clear hR hb7 HM6 HV6 kc
  have kc : ∀ i, w7.cell? ⟨P, i, none⟩ = (mgB mg1 bo 0 cb)[i]? := hM7.cell 0 rfl
  have hR := merror_any hv7
  rw [mg1_error] at hR
  clear hM7 hv7
  go_wp2_with fail
  refine hR.mono ?_
  rintro e w8 ⟨rfl, hb8⟩
  have hM8 := HM7.out.after hb8
  have HB8 : Hid (Below w.heap.size w w8) := hM8.below
  clear hR hb8 HM7 kc
  have k3 : w8.cell? ⟨P, 3, none⟩ = some (.int .u32 65537) := hM8.cell 0 rfl 3
  clear hM8
  go_wp2_with fail
  go_ret
  exact ⟨rfl, HB8.out⟩
end Go.Proofs.Ytlcgfeddkpoekaa
