/-
  Settings as bytes: the field of a number keeps what is asked of a field (uint32, uint32).
  Settings as bytes: the field of a number keeps what is asked of a field (lych/api.Tenant, uint16).
  Numbers' and addresses' texts: the document's own Dec and IpText.
  Settings as bytes: the field of a list's length keeps what is asked of a field.
  Settings as bytes: fields one behind the other keep what is asked of a field (lych/api.Tenant).
  Settings as bytes: the field of a text keeps what is asked of a field.
-/
import Derived.Test.YtneciccdiledfaaGreatDoorMr13
import Derived.Test.YtneciccdiledfaaGreatDoorMr12
import Derived.Test.YtneciccdiledfaaGreatDoorMr11
import Derived.Test.YtneciccdiledfaaGreatDoorMr10
namespace Go.Proofs.YtneciccdiledfaaGreatDoor
open Go.RowKit
open Sm
open Cf
set_option linter.unusedVariables false
set_option maxRecDepth 20000

end Go.Proofs.YtneciccdiledfaaGreatDoor

namespace Go.Proofs.YtneciccdiledfaaGreatDoor
open Go.RowKit
open Sm
open Cf
set_option linter.unusedVariables false
set_option maxRecDepth 20000

end Go.Proofs.YtneciccdiledfaaGreatDoor

namespace Go.Proofs.YtneciccdiledfaaGreatDoor
open Go.RowKit
open Ad
open Go.Lib (decDigits)
set_option linter.unusedVariables false

abbrev decS : ByteArray := ⟨#[48, 49, 50, 51, 52, 53, 54, 55, 56, 57]⟩
theorem dec_len (n : Nat) (h : n ≤ 4294967295) : (decDigits n).length ≤ 10 := by
  have : ∀ k n, n < 10 ^ (k + 1) → (decDigits n).length ≤ k + 1 := by
    intro k
    induction k with
    | zero => intro n h; rw [dec_small (by omega)]; simp
    | succ k ih =>
      intro n h
      by_cases h10 : n < 10
      · rw [dec_small h10]; simp
      · rw [dec_big h10, List.length_append]
        have := ih (n / 10) (by rw [Nat.pow_succ] at h; omega)
        simp only [List.length_cons, List.length_nil]; omega
  exact this 9 n (by omega)
end Go.Proofs.YtneciccdiledfaaGreatDoor

namespace Go.Proofs.YtneciccdiledfaaGreatDoor
open Go.RowKit
open Sm
open Cf
set_option linter.unusedVariables false
set_option maxRecDepth 20000

end Go.Proofs.YtneciccdiledfaaGreatDoor

namespace Go.Proofs.YtneciccdiledfaaGreatDoor
open Go.RowKit
open Sm
open Cf
set_option linter.unusedVariables false
set_option maxRecDepth 20000

end Go.Proofs.YtneciccdiledfaaGreatDoor

namespace Go.Proofs.YtneciccdiledfaaGreatDoor
open Go.RowKit
open Sm
open Cf
set_option linter.unusedVariables false
set_option maxRecDepth 20000

end Go.Proofs.YtneciccdiledfaaGreatDoor

