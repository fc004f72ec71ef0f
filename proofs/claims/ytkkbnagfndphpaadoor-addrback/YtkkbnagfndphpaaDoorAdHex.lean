/-
  Hexadecimal digits: the program's hexValue and readHex, and the document's own hex and two.
-/
import Derived.Test.YtkkbnagfndphpaaDoorAdNum
import Derived.Test.YtkkbnagfndphpaaDoorPuts
import Derived.Lib.OthersKept
namespace Go.Proofs.YtkkbnagfndphpaaDoor
open Go.RowKit
open Ad
set_option linter.unusedVariables false

abbrev hexS : ByteArray := ⟨#[48, 49, 50, 51, 52, 53, 54, 55, 56, 57, 97, 98, 99, 100, 101, 102]⟩
theorem hexS_size : hexS.size = 16 := rfl
theorem hexS_fin : ∀ p : Fin 16, (hexS.data[p.val]'p.isLt).toNat = hdg p.val := by decide
theorem hexS_at (pos : Nat) (h : pos < hexS.size) : (hexS[pos]'h).toNat = hdg pos := hexS_fin ⟨pos, h⟩
theorem hdg_lt {n : Nat} (h : n < 16) : hdg n < 128 := by unfold hdg; split <;> omega

set_option maxHeartbeats 4000000 in
set_option maxRecDepth 20000 in
theorem hexValue_any (r : Nat) (w : World) :
    Calls Tryd.prog 40 #[.int .i32 (r : Int)] w fun e w' => e = .returned (.tuple #[.int .u8 (((hx r).getD 0 : Nat) : Int), .bool (hx r).isSome]) ∧ Below w.heap.size w w' := by
  obtain ⟨R, hR⟩ : ∃ R, hx r = R := ⟨_, rfl⟩
  rw [hR]
  go_enter Tryd.func40, Tryd.ntmps40
  go_wp2_with fail
  go_loopw [] (fun w' => ∃ (pos : Nat), w' = w.iter hexS pos ∧ pos ≤ 16 ∧ ∀ j, j < pos → r ≠ hdg j) (fun w' => 16 - w'.iterPos w.heap.size)
  case atStart => exact ⟨0, rfl, by omega, fun j hj => by omega⟩
  case round =>
    obtain ⟨pos, rfl, hp16, hno⟩ := hrel
    by_cases hp : pos < 16
    · have hp' : pos < hexS.size := hp
      have hat := hexS_at pos hp'
      have hlt := hdg_lt hp
      have hnx : ∀ ty, (Instr.next (.pointer (some ⟨w.heap.size, 0, none⟩)) true ty).run Tryd.prog (w.iter hexS pos) = .ok (.tuple #[.bool true, .int .i64 pos, .int .i32 (hdg pos : Nat)]) (w.iter hexS (pos + 1)) := fun ty => by
        rw [run_next_ascii w hexS pos ty hp' (by omega), hat]
      by_cases he : r = hdg pos
      · have hbe : ((r : Int) == ((hdg pos : Nat) : Int)) = true := by simp [he]
        have hRv : R = some pos := by rw [← hR, he, hx_hdg hp]
        subst hRv
        have e1 : IntKind.u8.wrap (pos : Int) = pos := wrap8u (by omega) (by omega)
        clear hR he hat
        generalize hdg pos = D at hnx hbe hlt
        go_wp2_with fail
        exact bodyPost_ret (v := .tuple #[.int .u8 pos, .bool true]) (by simp [results, Tryd.results40, go_sem]) rfl ⟨rfl, iter_below _ _ _⟩
      · have hbe : ((r : Int) == ((hdg pos : Nat) : Int)) = false := by simp; omega
        have hno' : ∀ j, j < pos + 1 → r ≠ hdg j := fun j hj => by
          by_cases e : j = pos
          · rw [e]; exact he
          · exact hno j (by omega)
        clear he hat hno
        generalize hdg pos = D at hnx hbe hlt
        go_wp2_with fail
        go_roundw
        case rel => exact ⟨pos + 1, rfl, by omega, hno'⟩
        case measure => simp; omega
    · have hp' : ¬ pos < hexS.size := hp
      have hnx : ∀ ty, (Instr.next (.pointer (some ⟨w.heap.size, 0, none⟩)) true ty).run Tryd.prog (w.iter hexS pos) = _ := fun ty => run_next_end w hexS pos ty hp'
      have hRv : R = none := by rw [← hR]; exact hx_none (fun j hj => hno j (by omega))
      subst hRv
      clear hR hno
      go_wp2_with fail
      exact bodyPost_ret (v := .tuple #[.int .u8 0, .bool false]) (by simp [results, Tryd.results40, go_sem]) rfl ⟨rfl, iter_below _ _ _⟩

theorem rhex_any (c : Nat) (hc : c < 256) (w : World) :
    Calls Tryd.prog 41 #[.int .u8 (c : Int)] w fun e w' => e = .returned (.tuple #[.int .u8 (((hx c).getD 0 : Nat) : Int), .bool (hx c).isSome]) ∧ w = w' := by
  unfold hx
  by_cases h1 : 48 ≤ c ∧ c ≤ 57
  · rw [if_pos h1]
    have d1 : (48 : Int) ≤ c := by omega
    have d2 : (c : Int) ≤ 57 := by omega
    have e1 : IntKind.u8.wrap ((c : Int) - 48) = (c : Int) - 48 := wrap8u (by omega) (by omega)
    go_enter Tryd.func41, Tryd.ntmps41
    go_wp2_with fail
    exact bodyPost_ret (v := .tuple #[.int .u8 ((c : Int) - 48), .bool true]) (by simp [results, Tryd.results41, go_sem]) rfl ⟨by rw [Option.getD_some, show (((c - 48 : Nat)) : Int) = (c : Int) - 48 by omega]; rfl, rfl⟩
  · rw [if_neg h1]
    by_cases h2 : 97 ≤ c ∧ c ≤ 102
    · rw [if_pos h2]
      have d1 : (48 : Int) ≤ c := by omega
      have d2 : ¬ (c : Int) ≤ 57 := by omega
      have d3 : (97 : Int) ≤ c := by omega
      have d4 : (c : Int) ≤ 102 := by omega
      have e1 : IntKind.u8.wrap ((c : Int) - 97) = (c : Int) - 97 := wrap8u (by omega) (by omega)
      have e2 : IntKind.u8.wrap ((c : Int) - 97 + 10) = (c : Int) - 97 + 10 := wrap8u (by omega) (by omega)
      go_enter Tryd.func41, Tryd.ntmps41
      go_wp2_with fail
      exact bodyPost_ret (v := .tuple #[.int .u8 ((c : Int) - 97 + 10), .bool true]) (by simp [results, Tryd.results41, go_sem]) rfl ⟨by rw [show (((c - 87 : Nat)) : Int) = (c : Int) - 97 + 10 by omega], rfl⟩
    · rw [if_neg h2]
      have hno : (¬ (48 : Int) ≤ c) ∨ ((48 : Int) ≤ c ∧ ¬ (c : Int) ≤ 57 ∧ ¬ (97 : Int) ≤ c) ∨ ((48 : Int) ≤ c ∧ ¬ (c : Int) ≤ 57 ∧ (97 : Int) ≤ c ∧ ¬ (c : Int) ≤ 102) := by omega
      rcases hno with d1 | ⟨d1, d2, d3⟩ | ⟨d1, d2, d3, d4⟩
      · have d3 : ¬ (97 : Int) ≤ c := by omega
        go_enter Tryd.func41, Tryd.ntmps41
        go_wp2_with fail
        exact bodyPost_ret (v := .tuple #[.int .u8 0, .bool false]) (by simp [results, Tryd.results41, go_sem]) rfl ⟨rfl, rfl⟩
      · go_enter Tryd.func41, Tryd.ntmps41
        go_wp2_with fail
        exact bodyPost_ret (v := .tuple #[.int .u8 0, .bool false]) (by simp [results, Tryd.results41, go_sem]) rfl ⟨rfl, rfl⟩
      · go_enter Tryd.func41, Tryd.ntmps41
        go_wp2_with fail
        exact bodyPost_ret (v := .tuple #[.int .u8 0, .bool false]) (by simp [results, Tryd.results41, go_sem]) rfl ⟨rfl, rfl⟩
end Go.Proofs.YtkkbnagfndphpaaDoor
