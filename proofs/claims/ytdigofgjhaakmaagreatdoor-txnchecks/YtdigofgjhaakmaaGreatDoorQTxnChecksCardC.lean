/-
  Only settings that may be are committed, and a refused commit leaves its transaction as it was.
-/
import Derived.Test.YtdigofgjhaakmaaGreatDoorRows
import Derived.Test.YtdigofgjhaakmaaGreatDoorTie
import Derived.Test.YtdigofgjhaakmaaGreatDoorCards
import Derived.Test.YtdigofgjhaakmaaGreatDoorC43
import Derived.Test.YtdigofgjhaakmaaGreatDoorC24
import Derived.Test.YtdigofgjhaakmaaGreatDoorC21
import Derived.Test.YtdigofgjhaakmaaGreatDoorC19
import Derived.WalkKit
import Derived.ProofKit
import Derived.OpenShut
import Derived.ShutString
import Derived.Below
import Derived.SevenTiedAt
import Derived.ChangeOld
namespace Go.Proofs.YtdigofgjhaakmaaGreatDoor.txnChecks
open Go.ChangeShapes Go.WideShapes Go.ChangeAt Go.RowKit
open Go.ChangeMaps (open_string shut_string)
set_option linter.unusedVariables false

theorem own : ownKnob Tryz.prog.godebug = none := by kernel_rfl
theorem laidOut : laidOutB Tryz.prog = true := by kernel_rfl

theorem walk (v0 : Value) (c0 : Cgf) (w : World) (hs0 : CV w v0 c0) (hi0 : CIn c0) (hr0 : CRg c0) (ht0 : ∀ t ∈ c0.ten, TBy t ∧ TRg t) (hV : Vs w) {ga : Addr} (hG : Gl w ga) :
    Calls Tryz.prog 5 #[v0] w fun e w' => e = .returned (.bool true) ∧ Below w.heap.size w w' :=
  checks16 hV hG hs0 hi0 hr0 ht0

set_option maxRecDepth 100000 in
theorem lifted (os : Os) (started : os.Started) (H : Type) (enc : TypeId × Value → H) :
    ReturnsInHanded {} Tryz.checked os 5 .any (fun w args => (Rows.txnChecksSpec.pre enc Tryz.prog Tryz.f5 [] false w args ∧ laidMetH Tryz.prog laidB w) ∧ sizedMet enc Tryz.prog Tryz.f5 (OpenSpec.ofChange Rows.txnChecksSpec) false w args) (Rows.txnChecksSpec.post enc Tryz.prog Tryz.f5 false true false false) := by
  refine returns_of (C := Tryz.checked) (l := laidB) own started (by kernel_rfl) Tryz.func5
    (ChangeSpec.witness_shaped (enc := enc) (C := Tryz.checked) (os := os) (X := fun w _ => laidMetH Tryz.prog laidB w) false (laidWB os) #[.agg #[.int .u32 0, .int .u8 0, .int .u8 0, .int .u8 0, .int .u8 0, .int .u8 0, .int .u8 0, .int .u8 0, .int .u8 0, .int .u8 0, .int .u8 0, .int .u8 0, .int .u8 0, .int .u8 0, .int .u8 0, .int .u8 0, .int .u8 0, .int .u8 0, .int .u8 0, .int .u8 0, .int .u8 0, .int .u8 0, .int .u8 0, .int .u8 0, .int .u8 0, .int .u8 0, .int .u8 0, .int .u32 0, .slice none 0 0]] 8 (laidWB_os _)
      (World.shaped_of_ZipB (by kernel_rfl) (by kernel_rfl)) (by kernel_rfl) (by kernel_rfl) (by kernel_rfl) (laidWB_met os _)) ?_
  intro W base args ds gs before hval0 hW hL hsh
  obtain ⟨hV, ga, hG⟩ := laid_both hL hsh
  have hval : ∀ (j : Nat) t v, Tryz.f5.params[j]? = some t → args[j]? = some v → Value.okWide Tryz.prog W .any base t v := hval0
  have hW' := hW
  obtain ⟨p, q, hA0, hVv, rfl, hfz, hnd⟩ := hW
  have hA : DataW.TrodAll enc Tryz.prog W 0 (fun _ => true) true Tryz.f5.params.toList args.toList ds p := hA0
  rw [Tryz.params5] at hA hval
  obtain ⟨v0, vs0, d0, ds0, p0, q0, hargs, rfl, rfl, h0, r0⟩ := trodAll_cons hA
  obtain ⟨rfl, rfl, rfl⟩ := trodAll_nil r0
  obtain rfl : args = #[v0] := by cases args; simp_all
  obtain ⟨rfl, rfl⟩ := trodVars_none hVv
  have k0 := h0
  have lt0 : ∀ x ∈ p0, x.block < W.heap.size := by obtain ⟨m, hm⟩ := k0; exact DataW.trod_lt m _ _ _ hm
  obtain ⟨c0, hs0, hi0, hr0, ht0⟩ := open_config (hval 0 39 v0 rfl rfl) h0
  clear hA0 hval0
  refine (walk v0 c0 W hs0 hi0 hr0 ht0 hV hG).mono fun e W' ⟨he, bel⟩ => ?_
  subst he
  exact ⟨_, rfl, _, _, _, [], _, [], hW', trodAll_mk1 (shut_bool Tryz.underlying4 _), (trodAll_cons_mk (Below.trod laidOut (by kernel_rfl) (of_decide_eq_true (by kernel_rfl)) k0 bel lt0) trodAll_mk0), rfl, bel.frame _, fun h => by cases h⟩

set_option maxHeartbeats 40000000 in
theorem closed : joinedFacts Tryz.prog 5 Tryz.f5 Rows.txnChecksSpec Rows.txnChecksRow = true := by
  simp only [joinedFacts, Bool.and_eq_true]
  repeat' (refine And.intro ?_ ?_)
  all_goals (as_aux_lemma => kernel_rfl)
theorem over : Rows.txnChecksRow.holds Tryz.pinned (OpenSpec.ofChange Rows.txnChecksSpec) :=
  OpenClaim.holds_of_wide 5 Tryz.f5 rfl rfl rfl rfl rfl rfl rfl ⟨rfl, rfl, rfl, rfl, rfl⟩ rfl rfl rfl rfl rfl (by kernel_rfl) Tryz.func5 closed
    (of_decide_eq_true (by kernel_rfl)) (by unfold Func.isWrapper; first | (rw [if_pos (by decide +kernel)]; kernel_rfl) | (rw [if_neg (by decide +kernel)]; exact ⟨rfl, rfl⟩))
    (fun os started H enc _ => lifted os started H enc)

/-- The tied card. -/
theorem card : Rows.TxnChecksCardSaid :=
  Claim7.holds_tied_plain_at .later [] [.data, .handle, .sentinel, .pinned] true (true, "c723ee94ad2af0f25e7fc411fc896c5399644c5468c85cfa589004154cf360ea") true
    over (fun _ h => by cases h) (by kernel_rfl) (fun _ h => by cases h) txnChecks_row_tie rfl ⟨rfl, rfl⟩ (by kernel_rfl) rfl
    (fun f fn hf hfn => by
      obtain rfl : f = 5 := Option.some.inj ((show Tryz.prog.funcNamed "lych/lychlaw16.TxnChecks" = some 5 by kernel_rfl).symm.trans hf) |>.symm
      obtain rfl : fn = Tryz.f5 := (Option.some.inj (Tryz.func5.symm.trans hfn)).symm
      refine ⟨by kernel_rfl, fun j t ht => ?_⟩
      rw [Tryz.params5] at ht
      exact match j, ht with
          | 0, ht => by
            obtain rfl : t = 39 := by simpa using ht.symm
            exact (show Tryz.prog.wantsStandIn 39 = false by kernel_rfl)
          | j + 1, ht => by simp at ht)
    (by kernel_rfl)
end Go.Proofs.YtdigofgjhaakmaaGreatDoor.txnChecks
namespace Go.Proofs.YtdigofgjhaakmaaGreatDoor
/-- Only settings that may be are committed, and a refused commit leaves its transaction as it was. -/
theorem txnChecks_holds : Rows.TxnChecksCardSaid := txnChecks.card
end Go.Proofs.YtdigofgjhaakmaaGreatDoor
