/-
  What is staged is told as it stands, name by name, and is nobody's till it is committed.
-/
import Derived.Test.YtdigofgjhaakmaaGreatDoorRows
import Derived.Test.YtdigofgjhaakmaaGreatDoorTie
import Derived.Test.YtdigofgjhaakmaaGreatDoorCards
import Derived.Test.YtdigofgjhaakmaaGreatDoorW43
import Derived.Test.YtdigofgjhaakmaaGreatDoorW24
import Derived.Test.YtdigofgjhaakmaaGreatDoorW21
import Derived.WalkKit
import Derived.ProofKit
import Derived.OpenShut
import Derived.ShutString
import Derived.Below
import Derived.SevenTiedAt
import Derived.ChangeOld
namespace Go.Proofs.YtdigofgjhaakmaaGreatDoor.txnStages
open Go.ChangeShapes Go.WideShapes Go.ChangeAt Go.RowKit
open Go.ChangeMaps (open_string shut_string)
set_option linter.unusedVariables false

theorem own : ownKnob Tryz.prog.godebug = none := by kernel_rfl
theorem laidOut : laidOutB Tryz.prog = true := by kernel_rfl

theorem walk (a0 : Option Addr) (len0 cap0 : Nat) (ks0 : Nat → Int) (a1 : Int) (w : World) (hs0 : ∀ i, i < len0 → ∃ b off, a0 = some ⟨b, off, none⟩ ∧ w.cell? ⟨b, off + i, none⟩ = some (.int .u16 (ks0 i)) ∧ 0 ≤ ks0 i ∧ ks0 i ≤ 65535) (w1 : (Lit.int .u8 a1).wf = true) (hV : Vs w) {ga : Addr} (hG : Gl w ga) :
    Calls Tryz.prog 7 #[.slice a0 len0 cap0, .int .u8 a1] w fun e w' => e = .returned (.bool true) ∧ Below w.heap.size w w' :=
  stages16 hV hG a0 len0 cap0 ks0 hs0 a1 (bounds_u8 w1).1 (bounds_u8 w1).2

set_option maxRecDepth 100000 in
theorem lifted (os : Os) (started : os.Started) (H : Type) (enc : TypeId × Value → H) :
    ReturnsInHanded {} Tryz.checked os 7 .any (fun w args => (Rows.txnStagesSpec.pre enc Tryz.prog Tryz.f7 [] false w args ∧ laidMetH Tryz.prog laidB w) ∧ sizedMet enc Tryz.prog Tryz.f7 (OpenSpec.ofChange Rows.txnStagesSpec) false w args) (Rows.txnStagesSpec.post enc Tryz.prog Tryz.f7 false true false false) := by
  refine returns_of (C := Tryz.checked) (l := laidB) own started (by kernel_rfl) Tryz.func7
    (ChangeSpec.witness_shaped (enc := enc) (C := Tryz.checked) (os := os) (X := fun w _ => laidMetH Tryz.prog laidB w) false (laidWB os) #[.slice none 0 0, .int .u8 0] 8 (laidWB_os _)
      (World.shaped_of_ZipB (by kernel_rfl) (by kernel_rfl)) (by kernel_rfl) (by kernel_rfl) (by kernel_rfl) (laidWB_met os _)) ?_
  intro W base args ds gs before hval0 hW hL hsh
  obtain ⟨hV, ga, hG⟩ := laid_both hL hsh
  have hval : ∀ (j : Nat) t v, Tryz.f7.params[j]? = some t → args[j]? = some v → Value.okWide Tryz.prog W .any base t v := hval0
  have hW' := hW
  obtain ⟨p, q, hA0, hVv, rfl, hfz, hnd⟩ := hW
  have hA : DataW.TrodAll enc Tryz.prog W 0 (fun _ => true) true Tryz.f7.params.toList args.toList ds p := hA0
  rw [Tryz.params7] at hA hval
  obtain ⟨v0, vs0, d0, ds0, p0, q0, hargs, rfl, rfl, h0, r0⟩ := trodAll_cons hA
  obtain ⟨v1, vs1, d1, ds1, p1, q1, rfl, rfl, rfl, h1, r1⟩ := trodAll_cons r0
  obtain ⟨rfl, rfl, rfl⟩ := trodAll_nil r1
  obtain rfl : args = #[v0, v1] := by cases args; simp_all
  obtain ⟨rfl, rfl⟩ := trodVars_none hVv
  obtain ⟨a0, len0, cap0, rfl⟩ := okWide_slice Tryz.underlying75 (hval 0 75 v0 rfl rfl)
  have k0 := h0
  have lt0 : ∀ x ∈ p0, x.block < W.heap.size := by obtain ⟨m, hm⟩ := k0; exact DataW.trod_lt m _ _ _ hm
  obtain ⟨ks0, hs0⟩ := open_hs h0
  obtain ⟨a1, rfl, rfl, rfl, w1⟩ := open_int Tryz.underlying5 (hval 1 5 v1 rfl rfl) h1
  clear hA0 hval0
  refine (walk a0 len0 cap0 ks0 a1 W hs0 w1 hV hG).mono fun e W' ⟨he, bel⟩ => ?_
  subst he
  exact ⟨_, rfl, _, _, _, [], _, [], hW', trodAll_mk1 (shut_bool Tryz.underlying4 _), (trodAll_cons_mk (Below.trod laidOut (by kernel_rfl) (of_decide_eq_true (by kernel_rfl)) k0 bel lt0) (trodAll_cons_mk (shut_int Tryz.underlying5 w1) trodAll_mk0)), rfl, bel.frame _, fun h => by cases h⟩

set_option maxHeartbeats 40000000 in
theorem closed : joinedFacts Tryz.prog 7 Tryz.f7 Rows.txnStagesSpec Rows.txnStagesRow = true := by
  simp only [joinedFacts, Bool.and_eq_true]
  repeat' (refine And.intro ?_ ?_)
  all_goals (as_aux_lemma => kernel_rfl)
theorem over : Rows.txnStagesRow.holds Tryz.pinned (OpenSpec.ofChange Rows.txnStagesSpec) :=
  OpenClaim.holds_of_wide 7 Tryz.f7 rfl rfl rfl rfl rfl rfl rfl ⟨rfl, rfl, rfl, rfl, rfl⟩ rfl rfl rfl rfl rfl (by kernel_rfl) Tryz.func7 closed
    (of_decide_eq_true (by kernel_rfl)) (by unfold Func.isWrapper; first | (rw [if_pos (by decide +kernel)]; kernel_rfl) | (rw [if_neg (by decide +kernel)]; exact ⟨rfl, rfl⟩))
    (fun os started H enc _ => lifted os started H enc)

/-- The tied card. -/
theorem card : Rows.TxnStagesCardSaid :=
  Claim7.holds_tied_plain_at .later [] [.data, .handle, .sentinel, .pinned] true (true, "c723ee94ad2af0f25e7fc411fc896c5399644c5468c85cfa589004154cf360ea") true
    over (fun _ h => by cases h) (by kernel_rfl) (fun _ h => by cases h) txnStages_row_tie rfl ⟨rfl, rfl⟩ (by kernel_rfl) rfl
    (fun f fn hf hfn => by
      obtain rfl : f = 7 := Option.some.inj ((show Tryz.prog.funcNamed "lych/lychlaw16.TxnStages" = some 7 by kernel_rfl).symm.trans hf) |>.symm
      obtain rfl : fn = Tryz.f7 := (Option.some.inj (Tryz.func7.symm.trans hfn)).symm
      refine ⟨by kernel_rfl, fun j t ht => ?_⟩
      rw [Tryz.params7] at ht
      exact match j, ht with
          | 0, ht => by
            obtain rfl : t = 75 := by simpa using ht.symm
            exact (show Tryz.prog.wantsStandIn 75 = false by kernel_rfl)
          | 1, ht => by
            obtain rfl : t = 5 := by simpa using ht.symm
            exact (show Tryz.prog.wantsStandIn 5 = false by kernel_rfl)
          | j + 2, ht => by simp at ht)
    (by kernel_rfl)
end Go.Proofs.YtdigofgjhaakmaaGreatDoor.txnStages
namespace Go.Proofs.YtdigofgjhaakmaaGreatDoor
/-- What is staged is told as it stands, name by name, and is nobody's till it is committed. -/
theorem txnStages_holds : Rows.TxnStagesCardSaid := txnStages.card
end Go.Proofs.YtdigofgjhaakmaaGreatDoor
