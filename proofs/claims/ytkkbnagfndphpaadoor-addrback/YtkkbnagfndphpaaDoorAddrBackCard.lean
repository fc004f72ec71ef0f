/-
  For all addresses of version 4, hardware addresses and keys lychlaw11.AddrBack returns true: each has its one text, the document's, and is read back from it.
-/
import Derived.Test.YtkkbnagfndphpaaDoorRows
import Derived.Test.YtkkbnagfndphpaaDoorTie
import Derived.Test.YtkkbnagfndphpaaDoorCards
import Derived.Test.YtkkbnagfndphpaaDoorAdLawBack
import Derived.Test.YtkkbnagfndphpaaDoorAdLaid
import Derived.Test.YtkkbnagfndphpaaDoorAdOpen
import Derived.WalkKit
import Derived.ProofKit
import Derived.OpenShut
import Derived.ShutString
import Derived.Below
import Derived.SevenTiedAt
namespace Go.Proofs.YtkkbnagfndphpaaDoor.addrBack
open Go.ChangeShapes Go.WideShapes Go.ChangeAt Go.RowKit
open Go.ChangeMaps (open_string shut_string)
set_option linter.unusedVariables false

theorem own : ownKnob Tryd.prog.godebug = none := by kernel_rfl

theorem laidOut : laidOutB Tryd.prog = true := by kernel_rfl
theorem walk (a0 : Int) (lm lk : List Int) (w0 : (Lit.int .u32 a0).wf = true) (h6 : lm.length = 6) (h8 : lk.length = 8) (hm : Sm.IsBytes lm) (hk : Sm.IsBytes lk) (w : World) (hV : Vs w) :
    Calls Tryd.prog 4 #[.int .u32 a0, .agg (ab lm), .agg (ab lk)] w fun e w' => e = .returned (.bool true) ∧ Below w.heap.size w w' := by
  have h0 := bounds_u32 w0
  obtain ⟨n, rfl⟩ : ∃ n : Nat, a0 = n := ⟨a0.toNat, by omega⟩
  obtain ⟨m0, m1, m2, m3, m4, m5, rfl⟩ := Ad.six h6
  obtain ⟨k0, k1, k2, k3, k4, k5, k6, k7, rfl⟩ := Ad.eight h8
  exact back_any hV n (by omega) m0 m1 m2 m3 m4 m5 k0 k1 k2 k3 k4 k5 k6 k7 hm hk

set_option maxRecDepth 100000 in
theorem lifted (os : Os) (started : os.Started) (H : Type) (enc : TypeId × Value → H) :
    ReturnsInHanded {} Tryd.checked os 4 .any (fun w args => (Rows.addrBackSpec.pre enc Tryd.prog Tryd.f4 [] false w args ∧ laidMetH Tryd.prog laidA w) ∧ sizedMet enc Tryd.prog Tryd.f4 (OpenSpec.ofChange Rows.addrBackSpec) false w args) (Rows.addrBackSpec.post enc Tryd.prog Tryd.f4 false true false false) := by
  refine returns_of (C := Tryd.checked) (l := laidA) own started (by kernel_rfl) Tryd.func4
    (ChangeSpec.witness_shaped (enc := enc) (C := Tryd.checked) (os := os) (X := fun w _ => laidMetH Tryd.prog laidA w) false (World.laidAll Tryd.prog os laidA) #[.int .u32 0, .agg #[.int .u8 0, .int .u8 0, .int .u8 0, .int .u8 0, .int .u8 0, .int .u8 0], .agg #[.int .u8 0, .int .u8 0, .int .u8 0, .int .u8 0, .int .u8 0, .int .u8 0, .int .u8 0, .int .u8 0]] 8 (World.laidAll_os _ _ _)
      (World.shaped_of_ZipB (by kernel_rfl) (by kernel_rfl)) (by kernel_rfl) (by kernel_rfl) (by kernel_rfl) (laidA_met os _)) ?_
  intro W base args ds gs before hval0 hW hL hsh
  have hV := laid_vs hL hsh
  have hval : ∀ (j : Nat) t v, Tryd.f4.params[j]? = some t → args[j]? = some v → Value.okWide Tryd.prog W .any base t v := hval0
  have hW' := hW
  obtain ⟨p, q, hA0, hVv, rfl, hfz, hnd⟩ := hW
  have hA : DataW.TrodAll enc Tryd.prog W 0 (fun _ => true) true Tryd.f4.params.toList args.toList ds p := hA0
  rw [Tryd.params4] at hA hval
  obtain ⟨v0, vs0, d0, ds0, p0, q0, hargs, rfl, rfl, h0, r0⟩ := trodAll_cons hA
  obtain ⟨v1, vs1, d1, ds1, p1, q1, rfl, rfl, rfl, h1, r1⟩ := trodAll_cons r0
  obtain ⟨v2, vs2, d2, ds2, p2, q2, rfl, rfl, rfl, h2, r2⟩ := trodAll_cons r1
  obtain ⟨rfl, rfl, rfl⟩ := trodAll_nil r2
  obtain rfl : args = #[v0, v1, v2] := by cases args; simp_all
  obtain ⟨rfl, rfl⟩ := trodVars_none hVv
  obtain ⟨a0, rfl, rfl, rfl, w0⟩ := open_int Tryd.underlying22 (hval 0 22 v0 rfl rfl) h0
  obtain ⟨lm, rfl, h6, hm⟩ := open_arr_bytes Tryd.underlying30 (by kernel_rfl) (hval 1 30 v1 rfl rfl) h1
  obtain ⟨lk, rfl, h8, hk⟩ := open_arr_bytes Tryd.underlying35 (by kernel_rfl) (hval 2 35 v2 rfl rfl) h2
  have k1 := h1
  have k2 := h2
  have lt1 : ∀ x ∈ p1, x.block < W.heap.size := by obtain ⟨m, hm⟩ := k1; exact DataW.trod_lt m _ _ _ hm
  have lt2 : ∀ x ∈ p2, x.block < W.heap.size := by obtain ⟨m, hm⟩ := k2; exact DataW.trod_lt m _ _ _ hm
  clear hA0 hval0
  refine (walk a0 lm lk w0 h6 h8 hm hk W hV).mono fun e W' ⟨he, hg⟩ => ?_
  subst he
  exact ⟨_, rfl, _, _, _, [], _, [], hW', trodAll_mk1 (shut_bool Tryd.underlying4 _), (trodAll_cons_mk (shut_int Tryd.underlying22 w0) (trodAll_cons_mk (Below.trod laidOut (by kernel_rfl) (of_decide_eq_true (by kernel_rfl)) k1 hg lt1) (trodAll_cons_mk (Below.trod laidOut (by kernel_rfl) (of_decide_eq_true (by kernel_rfl)) k2 hg lt2) trodAll_mk0))), rfl, hg.frame _, fun h => by cases h⟩

theorem over : Rows.addrBackRow.holds Tryd.pinned (OpenSpec.ofChange Rows.addrBackSpec) :=
  OpenClaim.holds_of_wide 4 Tryd.f4 rfl rfl rfl rfl rfl rfl rfl ⟨rfl, rfl, rfl, rfl, rfl⟩ rfl rfl rfl rfl rfl (by kernel_rfl) Tryd.func4 (by kernel_rfl)
    (of_decide_eq_true (by kernel_rfl)) (by unfold Func.isWrapper; first | (rw [if_pos (by decide +kernel)]; kernel_rfl) | (rw [if_neg (by decide +kernel)]; exact ⟨rfl, rfl⟩))
    (fun os started H enc _ => lifted os started H enc)

/-- The tied card. -/
theorem card : Rows.AddrBackCardSaid :=
  Claim7.holds_tied_plain_at .later [] [.data, .data, .data, .data, .pinned] true (true, "5669bece3950ffb9a64b710b167785c2a55f577f8598ee0d25c1b2cecb373d9a") false
    over (fun _ h => by cases h) (by kernel_rfl) (fun _ h => by cases h) addrBack_row_tie rfl ⟨rfl, rfl⟩ (by kernel_rfl) rfl
    (fun f fn hf hfn => by
      obtain rfl : f = 4 := Option.some.inj ((show Tryd.prog.funcNamed "lych/lychlaw11.AddrBack" = some 4 by kernel_rfl).symm.trans hf) |>.symm
      obtain rfl : fn = Tryd.f4 := (Option.some.inj (Tryd.func4.symm.trans hfn)).symm
      refine ⟨by kernel_rfl, fun j t ht => ?_⟩
      rw [Tryd.params4] at ht
      exact match j, ht with
          | 0, ht => by
            obtain rfl : t = 22 := by simpa using ht.symm
            exact (show Tryd.prog.wantsStandIn 22 = false by kernel_rfl)
          | 1, ht => by
            obtain rfl : t = 30 := by simpa using ht.symm
            exact (show Tryd.prog.wantsStandIn 30 = false by kernel_rfl)
          | 2, ht => by
            obtain rfl : t = 35 := by simpa using ht.symm
            exact (show Tryd.prog.wantsStandIn 35 = false by kernel_rfl)
          | j + 3, ht => by simp at ht)
    (by kernel_rfl)
end Go.Proofs.YtkkbnagfndphpaaDoor.addrBack
namespace Go.Proofs.YtkkbnagfndphpaaDoor
/-- For all addresses of version 4, hardware addresses and keys lychlaw11.AddrBack returns true: each has its one text, the document's, and is read back from it. -/
theorem addrBack_holds : Rows.AddrBackCardSaid := addrBack.card
end Go.Proofs.YtkkbnagfndphpaaDoor
