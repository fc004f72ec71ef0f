/-
  Numbers' and addresses' texts: the document's own Dec and IpText.
  Settings as bytes: the field of a number keeps what is asked of a field (lych/api.Tenant, uint32).
  Settings as bytes: the field of a number keeps what is asked of a field (lych/api.Config, uint32).
  Settings as bytes: the field of a list's length keeps what is asked of a field.
  Settings as bytes: fields one behind the other keep what is asked of a field (lych/api.Tenant).
  Settings as bytes: the field of a text keeps what is asked of a field.
-/
import Derived.Test.YtneciccdiledfaaGreatDoorMo12
import Derived.Test.YtneciccdiledfaaGreatDoorMo10
import Derived.Test.YtneciccdiledfaaGreatDoorMo11
namespace Go.Proofs.YtneciccdiledfaaGreatDoor
open Go.RowKit
open Ad
open Go.Lib (decDigits)
set_option linter.unusedVariables false

abbrev decS : ByteArray := ⟨#[48, 49, 50, 51, 52, 53, 54, 55, 56, 57]⟩
theorem decS_fin : ∀ p : Fin 10, (decS.data.toList.drop p.val).take 1 = [UInt8.ofNat (48 + p.val)] := by decide
theorem str_of {s : ByteArray} {l : List UInt8} (h : s.data.toList = l) : s = ⟨l.toArray⟩ := by rw [← h, Lib.mk_data]
theorem str_size (l : List UInt8) : (⟨l.toArray⟩ : ByteArray).size = l.length := by show l.toArray.size = _; simp
theorem dec_len (n : Nat) (h : n ≤ 4294967295) : (decDigits n).length ≤ 10 := by
  have : ∀ k n, n < 10 ^ (k + 1) → (decDigits n).length ≤ k + 1 := by
    intro k
    induction k with
    | zero => intro n h; rw [dec_small (by omega)]; simp
    | succ k ih =>
      intro n h
      by_cases h10 : n < 10
      · rw [dec_small h10]; simp
      · rw [dec_big h10, List.length_append]
        have := ih (n / 10) (by rw [Nat.pow_succ] at h; omega)
        simp only [List.length_cons, List.length_nil]; omega
  exact this 9 n (by omega)
set_option maxHeartbeats 400000 in
theorem rdec_any : ∀ (n : Nat), n ≤ 4294967295 → ∀ w, Calls Tryz.prog 39 #[.int .u64 (n : Int)] w fun e w' => e = .returned (.string ⟨(decDigits n).toArray⟩) ∧ w = w' := by
  intro n
  induction n using Nat.strongRecOn with
  | ind n ih =>
    intro hn w
    by_cases h10 : n < 10
    · have hz : (n : Int) < 10 := by omega
      have e1 : IntKind.u64.wrap ((n : Int) + 1) = (n : Int) + 1 := wrap64u (by omega) (by omega)
      have hsl : ∀ W, (Instr.slice 9 (.string decS) (some (.int .u64 n)) (some (.int .u64 ((n : Int) + 1))) none).run Tryz.prog W = .ok (.string ⟨(decDigits n).toArray⟩) W := by
        intro W
        rw [run_slice_string W 9 decS .u64 .u64 n ((n : Int) + 1) Tryz.underlying9 (by omega) (by omega) (by show ((n : Int) + 1) ≤ ((10 : Nat) : Int); omega)]
        have : decS.extract (n : Int).toNat ((n : Int) + 1).toNat = ⟨(decDigits n).toArray⟩ := by
          apply str_of
          rw [sub_text, Int.toNat_natCast, show ((n : Int) + 1).toNat - n = 1 by omega, dec_small h10]
          exact decS_fin ⟨n, h10⟩
        rw [this]
      clear h10
      go_enter Tryz.func39, Tryz.ntmps39
      go_wp2_with fail
      go_ret
      exact ⟨rfl, rfl⟩
    · have hz : ¬ (n : Int) < 10 := by omega
      have c1 := ih (n / 10) (by omega) (by omega)
      have c2 := ih (n % 10) (by omega) (by omega)
      have l1 := dec_len (n / 10) (by omega)
      have l2 := dec_len (n % 10) (by omega)
      have hfin : (⟨(decDigits (n / 10)).toArray⟩ : ByteArray) ++ ⟨(decDigits (n % 10)).toArray⟩ = ⟨(decDigits n).toArray⟩ := by
        rw [ByteArray.mk_append_mk, dec_big h10, dec_small (n := n % 10) (by omega)]
      have s1 : (⟨(decDigits (n / 10)).toArray⟩ : ByteArray).size ≤ 10 := by rw [str_size]; exact l1
      have s2 : (⟨(decDigits (n % 10)).toArray⟩ : ByteArray).size ≤ 10 := by rw [str_size]; exact l2
      generalize (⟨(decDigits (n / 10)).toArray⟩ : ByteArray) = A at c1 hfin s1
      generalize (⟨(decDigits (n % 10)).toArray⟩ : ByteArray) = B at c2 hfin s2
      rw [← hfin]
      obtain ⟨Q, hQ⟩ : ∃ Q, n / 10 = Q := ⟨_, rfl⟩
      obtain ⟨M, hM⟩ : ∃ M, n % 10 = M := ⟨_, rfl⟩
      rw [hQ] at c1
      rw [hM] at c2
      rw [show ((Q : Nat) : Int) = (n : Int) / 10 by omega] at c1
      rw [show ((M : Nat) : Int) = (n : Int) % 10 by omega] at c2
      have hadd : ∀ W, (Op.stringOp .add A B).run Tryz.prog W = .ok (.string (A ++ B)) W := fun W => run_string_add_sum W A B (by omega)
      clear ih hfin h10 l1 l2 hQ hM
      go_enter Tryz.func39, Tryz.ntmps39
      go_wp2_with fail
      refine (c1 _).mono ?_
      rintro e w' ⟨rfl, rfl⟩
      go_wp2_with fail
      refine (c2 _).mono ?_
      rintro e w' ⟨rfl, rfl⟩
      go_wp2_with fail
      go_ret
      exact ⟨rfl, rfl⟩
end Go.Proofs.YtneciccdiledfaaGreatDoor

namespace Go.Proofs.YtneciccdiledfaaGreatDoor
open Go.RowKit
open Sm
open Cf
set_option linter.unusedVariables false
set_option maxRecDepth 20000

end Go.Proofs.YtneciccdiledfaaGreatDoor

namespace Go.Proofs.YtneciccdiledfaaGreatDoor
open Go.RowKit
open Sm
open Cf
set_option linter.unusedVariables false
set_option maxRecDepth 20000

end Go.Proofs.YtneciccdiledfaaGreatDoor

namespace Go.Proofs.YtneciccdiledfaaGreatDoor
open Go.RowKit
open Sm
open Cf
set_option linter.unusedVariables false
set_option maxRecDepth 20000

end Go.Proofs.YtneciccdiledfaaGreatDoor

namespace Go.Proofs.YtneciccdiledfaaGreatDoor
open Go.RowKit
open Sm
open Cf
set_option linter.unusedVariables false
set_option maxRecDepth 20000

end Go.Proofs.YtneciccdiledfaaGreatDoor

namespace Go.Proofs.YtneciccdiledfaaGreatDoor
open Go.RowKit
open Sm
open Cf
set_option linter.unusedVariables false
set_option maxRecDepth 20000

end Go.Proofs.YtneciccdiledfaaGreatDoor

