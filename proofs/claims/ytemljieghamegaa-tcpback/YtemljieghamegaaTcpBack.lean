/-
  For every segment lychlaw5.TcpBack answers true and turns nothing that was there: tcp.Bytes writes it as the document's bytes, and tcp.Parse reads it back, or it is refused (a body beyond 3000 bytes, options beyond 200: the law is true by its own test).
-/
import Derived.Test.YtemljieghamegaaRows
import Derived.Test.YtemljieghamegaaTcpLaws
import Derived.Test.YtemljieghamegaaTcpOpen
import Derived.WalkKit
import Derived.ProofKit
import Derived.OpenShut
import Derived.ShutString
import Derived.ChangeOld
import Derived.Below
namespace Go.Proofs.Ytemljieghamegaa.tcpBack
open Sm
open Go.ChangeShapes Go.WideShapes Go.ChangeAt Go.RowKit
open Go.ChangeMaps (open_string shut_string)
set_option linter.unusedVariables false

theorem own : ownKnob Try.prog.godebug = none := by kernel_rfl
theorem laidOut : laidOutB Try.prog = true := by kernel_rfl

/-! ### The walk: the Go text returns true and turns nothing that was there. -/
theorem walk (q : Sg) (ao bo : Option Addr) (lo co lb cb : Nat) (w : World) (m8 : lo ≤ 9223372036854775807) (m9 : lb ≤ 9223372036854775807) (hq : lo ≤ 140737488351232 → lb ≤ 140737488351232 → q.Ok ∧ q.opts.length = lo ∧ q.body.length = lb ∧ TcV w 0 (.agg (tcB q ao lo co bo lb cb)) q) :
    Calls Try.prog 4 #[.agg (tcB q ao lo co bo lb cb)] w fun e w' => e = .returned (.bool true) ∧ Below w.heap.size w w' := by
  by_cases hbig : 3000 < lb ∨ (lb ≤ 3000 ∧ 200 < lo)
  · exact tback_long q ao bo lo co lb cb hbig
  obtain ⟨hok, hlo, hl, hv⟩ := hq (by omega) (by omega)
  exact tback_core q hok lo co lb cb hlo hl hv (by omega) (by omega)

/-! ### The row out of the walk. -/
set_option maxRecDepth 100000 in
theorem lifted (os : Os) (started : os.Started) (H : Type) (enc : TypeId × Value → H) :
    ReturnsInHanded {} Try.checked os 4 .any (Rows.tcpBackSpec.pre6 enc Try.prog Try.f4 Rows.tcpBackRow.domain false) (Rows.tcpBackSpec.post enc Try.prog Try.f4 false true false false) := by
  refine returnsInHanded_of_change (C := Try.checked) own started (by kernel_rfl) Try.func4
    (ChangeSpec.witness6 (enc := enc) (C := Try.checked) false ⟨#[], #[.agg #[.int .u16 0, .int .u16 0, .int .u32 0, .int .u32 0, .int .u8 0, .int .u16 0, .int .u16 0, .int .u16 0, .slice none 0 0, .slice none 0 0]], []⟩ 8 (by kernel_rfl) (by kernel_rfl) (by kernel_rfl) (by kernel_rfl)) ?_
  intro W base args ds gs before hval0 hW hcnd _
  have hval : ∀ (j : Nat) t v, Try.f4.params[j]? = some t → args[j]? = some v → Value.okWide Try.prog W .any base t v := hval0
  have hW' := hW
  obtain ⟨p, q, hA0, hV, rfl, hfz, hnd⟩ := hW
  have hA : DataW.TrodAll enc Try.prog W 0 (fun _ => true) true Try.f4.params.toList args.toList ds p := hA0
  rw [Try.params4] at hA hval
  obtain ⟨v0, vs0, d0, ds0, p0, q0, hargs, rfl, rfl, h0, r0⟩ := trodAll_cons hA
  obtain ⟨rfl, rfl, rfl⟩ := trodAll_nil r0
  obtain rfl : args = #[v0] := by cases args; simp_all
  obtain ⟨rfl, rfl⟩ := trodVars_none hV
  have k0 := h0
  have lt0 : ∀ x ∈ p0, x.block < W.heap.size := by obtain ⟨m, hm⟩ := k0; exact DataW.trod_lt m _ _ _ hm
  obtain ⟨q, ao, bo, lo, co, lb, cb, rfl, m8, m9, hq⟩ := open_tcp (hval 0 27 v0 rfl rfl) h0
  clear hA0 hval0
  refine (walk q ao bo lo co lb cb W m8 m9 hq).mono fun e W' ⟨he, bel⟩ => ?_
  subst he
  exact ⟨_, rfl, _, _, _, [], _, [], hW', trodAll_mk1 (shut_bool Try.underlying4 _), (trodAll_cons_mk (Below.trod laidOut (by kernel_rfl) (of_decide_eq_true (by kernel_rfl)) k0 bel lt0) trodAll_mk0), rfl, bel.frame _, fun h => by cases h⟩

theorem over : Rows.tcpBackRow.holds Try.pinned (OpenSpec.ofChange Rows.tcpBackSpec) :=
  OpenClaim.holds_of_wide 4 Try.f4 rfl rfl rfl rfl rfl rfl rfl ⟨rfl, rfl, rfl, rfl, rfl⟩ rfl rfl rfl rfl rfl (by kernel_rfl) Try.func4 (by kernel_rfl)
    (of_decide_eq_true (by kernel_rfl)) (by unfold Func.isWrapper; first | (rw [if_pos (by decide +kernel)]; kernel_rfl) | (rw [if_neg (by decide +kernel)]; exact ⟨rfl, rfl⟩))
    (fun os started H enc _ => lifted os started H enc)

theorem proved : Rows.TcpBackSaid := over
end Go.Proofs.Ytemljieghamegaa.tcpBack
namespace Go.Proofs.Ytemljieghamegaa
theorem tcpBack_holds : Rows.TcpBackSaid := tcpBack.proved
#print axioms tcpBack_holds
end Go.Proofs.Ytemljieghamegaa
