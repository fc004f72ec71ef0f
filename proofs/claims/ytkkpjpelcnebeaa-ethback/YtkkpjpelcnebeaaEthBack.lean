/-
  lychlaw2.EthBack: any frame is written as the document's bytes, and read back, or too long.
-/
import Derived.Test.YtkkpjpelcnebeaaRows
import Derived.Test.YtkkpjpelcnebeaaOpen
import Derived.Test.YtkkpjpelcnebeaaBack
import Derived.WalkKit
import Derived.ProofKit
import Derived.OpenShut
import Derived.ShutString
import Derived.ChangeOld
import Derived.Below
namespace Go.Proofs.Ytkkpjpelcnebeaa.ethBack
open Sm
open Go.ChangeShapes Go.WideShapes Go.ChangeAt Go.RowKit
open Go.ChangeMaps (open_string shut_string)
set_option linter.unusedVariables false

theorem own : ownKnob Try.prog.godebug = none := by kernel_rfl
theorem laidOut : laidOutB Try.prog = true := by kernel_rfl

/-! ### The walk: the Go text returns true and turns nothing that was there. -/
theorem walk (x0 x1 x2 x3 x4 x5 x6 x7 x8 x9 x10 x11 t : Int) (a : Option Addr) (len cap : Nat) (l : List Int) (a1 : Int) (w : World) (hx : IsBytes [x0, x1, x2, x3, x4, x5]) (hy : IsBytes [x6, x7, x8, x9, x10, x11]) (ht : 0 ≤ t ∧ t ≤ 65535) (hm : len ≤ 9223372036854775807)
    (hr : len ≤ 2000 → Row w a l ∧ l.length = len ∧ (a = none → cap = 0)) (w1 : (Lit.int .u16 a1).wf = true) :
    Calls Try.prog 4 #[.agg (ethA x0 x1 x2 x3 x4 x5 x6 x7 x8 x9 x10 x11 t (.slice a len cap)), .int .u16 a1] w fun e w' => e = .returned (.bool true) ∧ Below w.heap.size w w' := by
  have b1 := bounds_u16 w1
  by_cases hbig : 2000 < len
  · have hk := known_any (w.alloc (.cells (ethA x0 x1 x2 x3 x4 x5 x6 x7 x8 x9 x10 x11 t (.slice a len cap)) 28))
    have hbi : (2000 : Int) < len := by omega
    go_enter Try.func4, Try.ntmps4
    go_wp2_with fail
    refine hk.mono ?_
    rintro e w2 ⟨rfl, hbel⟩
    have hM := ((Mem.nil w).push w.heap.size (.cells (ethA x0 x1 x2 x3 x4 x5 x6 x7 x8 x9 x10 x11 t (.slice a len cap)) 28) rfl).after hbel
    have HM : Hid _ := hM
    have k13 : w2.cell? ⟨w.heap.size, 13, none⟩ = some (.slice a len cap) := hM.cell 0 rfl 13
    clear hM hbel hk
    go_wp2_with fail
    go_ret
    exact ⟨rfl, HM.out.below⟩
  · obtain ⟨h1, h2, h3⟩ := hr (by omega)
    exact back_core h1 len cap h2 h3 (by omega) a1 b1.1 b1.2 x0 x1 x2 x3 x4 x5 x6 x7 x8 x9 x10 x11 t hx hy ht.1 ht.2

/-! ### The row out of the walk. -/
set_option maxRecDepth 100000 in
theorem lifted (os : Os) (started : os.Started) (H : Type) (enc : TypeId × Value → H) :
    ReturnsInHanded {} Try.checked os 4 .any (Rows.ethBackSpec.pre6 enc Try.prog Try.f4 Rows.ethBackRow.domain false) (Rows.ethBackSpec.post enc Try.prog Try.f4 false true false false) := by
  refine returnsInHanded_of_change (C := Try.checked) own started (by kernel_rfl) Try.func4
    (ChangeSpec.witness6 (enc := enc) (C := Try.checked) false ⟨#[], #[.agg #[.int .u8 0, .int .u8 0, .int .u8 0, .int .u8 0, .int .u8 0, .int .u8 0, .int .u8 0, .int .u8 0, .int .u8 0, .int .u8 0, .int .u8 0, .int .u8 0, .int .u16 0, .slice none 0 0], .int .u16 0], []⟩ 8 (by kernel_rfl) (by kernel_rfl) (by kernel_rfl) (by kernel_rfl)) ?_
  intro W base args ds gs before hval0 hW hcnd _
  have hval : ∀ (j : Nat) t v, Try.f4.params[j]? = some t → args[j]? = some v → Value.okWide Try.prog W .any base t v := hval0
  have hW' := hW
  obtain ⟨p, q, hA0, hV, rfl, hfz, hnd⟩ := hW
  have hA : DataW.TrodAll enc Try.prog W 0 (fun _ => true) true Try.f4.params.toList args.toList ds p := hA0
  rw [Try.params4] at hA hval
  obtain ⟨v0, vs0, d0, ds0, p0, q0, hargs, rfl, rfl, h0, r0⟩ := trodAll_cons hA
  obtain ⟨v1, vs1, d1, ds1, p1, q1, rfl, rfl, rfl, h1, r1⟩ := trodAll_cons r0
  obtain ⟨rfl, rfl, rfl⟩ := trodAll_nil r1
  obtain rfl : args = #[v0, v1] := by cases args; simp_all
  obtain ⟨rfl, rfl⟩ := trodVars_none hV
  have k0 := h0
  have lt0 : ∀ x ∈ p0, x.block < W.heap.size := by obtain ⟨m, hm⟩ := k0; exact DataW.trod_lt m _ _ _ hm
  obtain ⟨x0, x1, x2, x3, x4, x5, x6, x7, x8, x9, x10, x11, t, a0, len0, cap0, l0, rfl, hx, hy, ht, hm0, hr0⟩ := open_eth (hval 0 28 v0 rfl rfl) h0
  obtain ⟨a1, rfl, rfl, rfl, w1⟩ := open_int Try.underlying23 (hval 1 23 v1 rfl rfl) h1
  clear hA0 hval0
  refine (walk x0 x1 x2 x3 x4 x5 x6 x7 x8 x9 x10 x11 t a0 len0 cap0 l0 a1 W hx hy ht hm0 hr0 w1).mono fun e W' ⟨he, bel⟩ => ?_
  subst he
  exact ⟨_, rfl, _, _, _, [], _, [], hW', trodAll_mk1 (shut_bool Try.underlying4 _), (trodAll_cons_mk (Below.trod laidOut (by kernel_rfl) (of_decide_eq_true (by kernel_rfl)) k0 bel lt0) (trodAll_cons_mk (shut_int Try.underlying23 w1) trodAll_mk0)), rfl, bel.frame _, fun h => by cases h⟩

theorem over : Rows.ethBackRow.holds Try.pinned (OpenSpec.ofChange Rows.ethBackSpec) :=
  OpenClaim.holds_of_wide 4 Try.f4 rfl rfl rfl rfl rfl rfl rfl ⟨rfl, rfl, rfl, rfl, rfl⟩ rfl rfl rfl rfl rfl (by kernel_rfl) Try.func4 (by kernel_rfl)
    (of_decide_eq_true (by kernel_rfl)) (by unfold Func.isWrapper; first | (rw [if_pos (by decide +kernel)]; kernel_rfl) | (rw [if_neg (by decide +kernel)]; exact ⟨rfl, rfl⟩))
    (fun os started H enc _ => lifted os started H enc)

theorem proved : Rows.EthBackSaid := over
end Go.Proofs.Ytkkpjpelcnebeaa.ethBack
namespace Go.Proofs.Ytkkpjpelcnebeaa
theorem ethBack_holds : Rows.EthBackSaid := ethBack.proved
#print axioms ethBack_holds
end Go.Proofs.Ytkkpjpelcnebeaa
