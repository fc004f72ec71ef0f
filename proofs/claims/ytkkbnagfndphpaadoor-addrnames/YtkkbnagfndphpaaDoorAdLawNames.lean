/-
  The walk of AddrNames.
-/
import Derived.Test.YtkkbnagfndphpaaDoorAdKnown
import Derived.Test.YtkkbnagfndphpaaDoorAdNameRef
namespace Go.Proofs.YtkkbnagfndphpaaDoor
open Go.RowKit
open Ad
set_option linter.unusedVariables false

theorem encode_size (r : Int) : 1 ≤ (Utf8.encode r).size ∧ (Utf8.encode r).size ≤ 4 := by
  unfold Utf8.encode
  generalize (if Utf8.valid r then r.toNat else Utf8.runeError) = c
  simp only []
  repeat' split
  all_goals exact ⟨by simp [ByteArray.size], by simp [ByteArray.size]⟩
set_option maxHeartbeats 4000000 in
set_option maxRecDepth 20000 in
theorem names_any {w : World} (hV : Vs w) (n : Nat) (hn : n ≤ 255) (r : Int) (first : Bool) :
    Calls Tryd.prog 6 #[.int .u8 (n : Int), .int .i32 r, .bool first] w fun e w' => e = .returned (.bool true) ∧ Below w.heap.size w w' := by
  have c0 := known_any hV
  obtain ⟨hE1, hE2⟩ := encode_size r
  have hcv : ∀ W, (convert 21 9 (.int .i32 r)).run Tryd.prog W = .ok (.string (Utf8.encode r)) W := fun W => run_convert_int_string W 21 9 .i32 r (by rw [Tryd.underlying21]; rfl) Tryd.underlying9
  generalize Utf8.encode r = E at hE1 hE2 hcv
  obtain ⟨M, hM⟩ : ∃ M, n % 40 = M := ⟨_, rfl⟩
  have hM40 : M < 40 := by omega
  cases first
  all_goals
    go_enter Tryd.func6, Tryd.ntmps6
    go_wp2_with fail
    refine c0.mono ?_
    rintro e w1 ⟨rfl, hb1⟩
    have hV1 := hV.below hb1
    go_wp2_with fail
    go_loopw [7] (fun v w' => ∃ S : ByteArray, v = .string S ∧ S.size ≤ 50 ∧ w' = w1) (fun v _ => 60 - (match v with | .string S => S.size | _ => 0))
    case atStart => exact ⟨_, rfl, by decide, rfl⟩
    case round =>
      obtain ⟨S, rfl, hS, rfl⟩ := hrel
      by_cases hlt : (S.size : Int) < (n : Int) % 40
      · have hadd : ∀ W, (Op.stringOp .add S E).run Tryd.prog W = .ok (.string (S ++ E)) W := fun W => run_string_add_sum W S E (by omega)
        have hsz : (S ++ E).size = S.size + E.size := ByteArray.size_append' S E
        generalize S ++ E = T at hadd hsz
        go_wp2_with fail
        go_roundw
        case rel => exact ⟨T, by first | rfl | trivial, by omega, by first | rfl | trivial⟩
        case measure => simp; omega
      · have cA := name_any hV1 S (by omega)
        go_wp2_with fail
        refine cA.mono ?_
        rintro e w2 ⟨rfl, hb2⟩
        have cB := rname_any (hV1.below hb2) S (by omega)
        go_wp2_with fail
        refine cB.mono ?_
        rintro e w3 ⟨rfl, hb3⟩
        go_wp2_with fail
        go_ret
        have b2 := hb1.trans (hb2.mono hb1.size)
        exact ⟨by simp, b2.trans (hb3.mono b2.size)⟩
end Go.Proofs.YtkkbnagfndphpaaDoor
