/-
  For every script PortsPlay answers true: the program's ports do, act by act, what the document's own do.
-/
import Derived.Test.YtkbjiackjefkkaaDoorRows
import Derived.Test.YtkbjiackjefkkaaDoorTie
import Derived.Test.YtkbjiackjefkkaaDoorCards
import Derived.Test.YtkbjiackjefkkaaDoorPoLawPl
import Derived.Test.YtkbjiackjefkkaaDoorPpLaid
import Derived.Test.YtkbjiackjefkkaaDoorPpOpen
import Derived.Test.YtkbjiackjefkkaaDoorPpPc
import Derived.Test.YtkbjiackjefkkaaDoorPoPl1
import Derived.WalkKit
import Derived.ProofKit
import Derived.OpenShut
import Derived.ShutString
import Derived.Below
import Derived.SevenTiedAt
import Derived.ChangeOld
namespace Go.Proofs.YtkbjiackjefkkaaDoor.portsPlay
open Go.ChangeShapes Go.WideShapes Go.ChangeAt Go.RowKit
open Po
set_option linter.unusedVariables false

theorem own : ownKnob Tryd.prog.godebug = none := by kernel_rfl
theorem laidOut : laidOutB Tryd.prog = true := by kernel_rfl

theorem walk (a0 : Option Addr) (len0 cap0 : Nat) (X0 : Nat → A17) (w : World) (hs0 : ActsV w a0 len0 X0) (hV : TabAt 0 Lib.deBruijn64tab w) :
    Calls Tryd.prog 3 #[.slice a0 len0 cap0] w fun e w' => e = .returned (.bool true) ∧ Below w.heap.size w w' :=
  plays17_law w (pc_any w hV) a0 len0 cap0 X0 hs0

set_option maxRecDepth 100000 in
theorem lifted (os : Os) (started : os.Started) (H : Type) (enc : TypeId × Value → H) :
    ReturnsInHanded {} Tryd.checked os 3 .any (fun w args => (Rows.portsPlaySpec.pre enc Tryd.prog Tryd.f3 [] false w args ∧ laidMetH Tryd.prog laidA w) ∧ sizedMet enc Tryd.prog Tryd.f3 (OpenSpec.ofChange Rows.portsPlaySpec) false w args) (Rows.portsPlaySpec.post enc Tryd.prog Tryd.f3 false true false false) := by
  refine returns_of (C := Tryd.checked) (l := laidA) own started (by kernel_rfl) Tryd.func3
    (ChangeSpec.witness_shaped (enc := enc) (C := Tryd.checked) (os := os) (X := fun w _ => laidMetH Tryd.prog laidA w) false (World.laidAll Tryd.prog os laidA) #[.slice none 0 0] 8 (World.laidAll_os _ _ _)
      (World.shaped_of_ZipB (by kernel_rfl) (by kernel_rfl)) (by kernel_rfl) (by kernel_rfl) (by kernel_rfl) (laidA_met os _)) ?_
  intro W base args ds gs before hval0 hW hL hsh
  have hV := laid_tab hL
  have hval : ∀ (j : Nat) t v, Tryd.f3.params[j]? = some t → args[j]? = some v → Value.okWide Tryd.prog W .any base t v := hval0
  have hW' := hW
  obtain ⟨p, q, hA0, hVv, rfl, hfz, hnd⟩ := hW
  have hA : DataW.TrodAll enc Tryd.prog W 0 (fun _ => true) true Tryd.f3.params.toList args.toList ds p := hA0
  rw [Tryd.params3] at hA hval
  obtain ⟨v0, vs0, d0, ds0, p0, q0, hargs, rfl, rfl, h0, r0⟩ := trodAll_cons hA
  obtain ⟨rfl, rfl, rfl⟩ := trodAll_nil r0
  obtain rfl : args = #[v0] := by cases args; simp_all
  obtain ⟨rfl, rfl⟩ := trodVars_none hVv
  obtain ⟨a0, len0, cap0, rfl⟩ := okWide_slice Tryd.underlying22 (hval 0 22 v0 rfl rfl)
  have k0 := h0
  have lt0 : ∀ x ∈ p0, x.block < W.heap.size := by obtain ⟨m, hm⟩ := k0; exact DataW.trod_lt m _ _ _ hm
  obtain ⟨X0, hs0⟩ := open_acts17 h0
  clear hA0 hval0
  refine (walk a0 len0 cap0 X0 W hs0 hV).mono fun e W' ⟨he, bel⟩ => ?_
  subst he
  exact ⟨_, rfl, _, _, _, [], _, [], hW', trodAll_mk1 (shut_bool Tryd.underlying4 _), (trodAll_cons_mk (Below.trod laidOut (by kernel_rfl) (of_decide_eq_true (by kernel_rfl)) k0 bel lt0) trodAll_mk0), rfl, bel.frame _, fun h => by cases h⟩

set_option maxHeartbeats 40000000 in
theorem closed : joinedFacts Tryd.prog 3 Tryd.f3 Rows.portsPlaySpec Rows.portsPlayRow = true := by
  simp only [joinedFacts, Bool.and_eq_true]
  repeat' (refine And.intro ?_ ?_)
  all_goals (as_aux_lemma => kernel_rfl)
theorem over : Rows.portsPlayRow.holds Tryd.pinned (OpenSpec.ofChange Rows.portsPlaySpec) :=
  OpenClaim.holds_of_wide 3 Tryd.f3 rfl rfl rfl rfl rfl rfl rfl ⟨rfl, rfl, rfl, rfl, rfl⟩ rfl rfl rfl rfl rfl (by kernel_rfl) Tryd.func3 closed
    (of_decide_eq_true (by kernel_rfl)) (by unfold Func.isWrapper; first | (rw [if_pos (by decide +kernel)]; kernel_rfl) | (rw [if_neg (by decide +kernel)]; exact ⟨rfl, rfl⟩))
    (fun os started H enc _ => lifted os started H enc)

/-- The tied card. -/
theorem card : Rows.PortsPlayCardSaid :=
  Claim7.holds_tied_plain_at .later [] [.data] true (true, "73e2538c4073da257f1adfe1a379b32d18ae6e58de7a8b7933106999c23c0987") false
    over (fun _ h => by cases h) (by kernel_rfl) (fun _ h => by cases h) portsPlay_row_tie rfl ⟨rfl, rfl⟩ (by kernel_rfl) rfl
    (fun f fn hf hfn => by
      obtain rfl : f = 3 := Option.some.inj ((show Tryd.prog.funcNamed "lych/lychlaw17.PortsPlay" = some 3 by kernel_rfl).symm.trans hf) |>.symm
      obtain rfl : fn = Tryd.f3 := (Option.some.inj (Tryd.func3.symm.trans hfn)).symm
      refine ⟨by kernel_rfl, fun j t ht => ?_⟩
      rw [Tryd.params3] at ht
      exact match j, ht with
          | 0, ht => by
            obtain rfl : t = 22 := by simpa using ht.symm
            exact (show Tryd.prog.wantsStandIn 22 = false by kernel_rfl)
          | j + 1, ht => by simp at ht)
    (by kernel_rfl)
end Go.Proofs.YtkbjiackjefkkaaDoor.portsPlay
namespace Go.Proofs.YtkbjiackjefkkaaDoor
/-- For every script PortsPlay answers true: the program's ports do, act by act, what the document's own do. -/
theorem portsPlay_holds : Rows.PortsPlayCardSaid := portsPlay.card
end Go.Proofs.YtkbjiackjefkkaaDoor
