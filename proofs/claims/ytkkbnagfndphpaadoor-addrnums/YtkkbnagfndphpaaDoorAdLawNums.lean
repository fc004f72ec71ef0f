/-
  The walk of AddrNums.
-/
import Derived.Test.YtkkbnagfndphpaaDoorAdKnown
namespace Go.Proofs.YtkkbnagfndphpaaDoor
open Go.RowKit
open Ad
open Go.Lib (decDigits)
set_option linter.unusedVariables false

set_option maxHeartbeats 4000000 in
set_option maxRecDepth 20000 in
theorem nums_any {w : World} (hV : Vs w) (n most : Nat) (hn : n ≤ 4294967295) (hm : most ≤ 4294967295) (nought : Bool) :
    Calls Tryd.prog 7 #[.int .u32 (n : Int), .int .u32 (most : Int), .bool nought] w fun e w' => e = .returned (.bool true) ∧ Below w.heap.size w w' := by
  have c0 := known_any hV
  have e1 : IntKind.u64.wrap (n : Int) = n := wrap64u (by omega) (by omega)
  have cD := rdec_any n hn
  have hsz : (⟨(decDigits n).toArray⟩ : ByteArray).size ≤ 10 := by rw [str_size]; exact dec_len n hn
  have hdl : (⟨(decDigits n).toArray⟩ : ByteArray).data.toList = decDigits n := by simp
  generalize (⟨(decDigits n).toArray⟩ : ByteArray) = S at cD hsz hdl
  cases nought with
  | true =>
    have hadd : ∀ W, (Op.stringOp .add ⟨#[48]⟩ S).run Tryd.prog W = .ok (.string (⟨#[48]⟩ ++ S)) W := fun W => run_string_add_sum W ⟨#[48]⟩ S (by have : (⟨#[48]⟩ : ByteArray).size = 1 := rfl; omega)
    have hl2 : ((⟨#[48]⟩ : ByteArray) ++ S).data.toList = 48 :: decDigits n := by rw [← hdl]; simp
    have hs2 : ((⟨#[48]⟩ : ByteArray) ++ S).size ≤ 100 := by rw [ByteArray.size_append']; have : (⟨#[48]⟩ : ByteArray).size = 1 := rfl; omega
    generalize ((⟨#[48]⟩ : ByteArray) ++ S) = T at hadd hl2 hs2
    have cN := num_any T most hm (by omega)
    rw [hl2, num_nought, nv_none, ne_none] at cN
    clear hdl hl2
    go_enter Tryd.func7, Tryd.ntmps7
    go_wp2_with fail
    refine c0.mono ?_
    rintro e w1 ⟨rfl, hb1⟩
    go_wp2_with fail
    refine (cD _).mono ?_
    rintro e w2 ⟨rfl, rfl⟩
    go_wp2_with fail
    refine (cN _).mono ?_
    rintro e w3 ⟨rfl, hb3⟩
    go_wp2_with fail
    go_ret
    exact ⟨rfl, hb1.trans (hb3.mono hb1.size)⟩
  | false =>
    have cN := num_any S most hm (by omega)
    rw [hdl, num_dec] at cN
    clear hdl
    by_cases hle : n ≤ most
    · rw [if_pos hle, nv_some, ne_some] at cN
      have hz : ¬ ((most : Int) < n) := by omega
      clear hle
      go_enter Tryd.func7, Tryd.ntmps7
      go_wp2_with fail
      refine c0.mono ?_
      rintro e w1 ⟨rfl, hb1⟩
      go_wp2_with fail
      refine (cD _).mono ?_
      rintro e w2 ⟨rfl, rfl⟩
      go_wp2_with fail
      refine (cN _).mono ?_
      rintro e w3 ⟨rfl, hb3⟩
      go_wp2_with fail
      go_ret
      exact ⟨by simp, hb1.trans (hb3.mono hb1.size)⟩
    · rw [if_neg hle, nv_none, ne_none] at cN
      have hz : (most : Int) < n := by omega
      clear hle
      go_enter Tryd.func7, Tryd.ntmps7
      go_wp2_with fail
      refine c0.mono ?_
      rintro e w1 ⟨rfl, hb1⟩
      go_wp2_with fail
      refine (cD _).mono ?_
      rintro e w2 ⟨rfl, rfl⟩
      go_wp2_with fail
      refine (cN _).mono ?_
      rintro e w3 ⟨rfl, hb3⟩
      go_wp2_with fail
      go_ret
      exact ⟨rfl, hb1.trans (hb3.mono hb1.size)⟩
end Go.Proofs.YtkkbnagfndphpaaDoor
