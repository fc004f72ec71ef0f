/-
  Settings as bytes, the numbers alone: numbers of so many bytes, the highest first, and what is read off a row of bytes.
  Rows of bytes written as hexadecimal digits: the program's readHex, at every text, into a row of the caller's own.
  Addresses of version 4 as text: the program's Ip and the document's own, at every text.
-/
import Derived.Test.YtnddbklbgddblaaDoorPf06
import Derived.Test.YtnddbklbgddblaaDoorPf03
namespace Go.Proofs.YtnddbklbgddblaaDoor
open Go.RowKit
open Sm
set_option linter.unusedVariables false
namespace Cf
/-- The number that bytes are. -/
def num (l : List Int) : Int := l.foldl (fun x y => x * 256 + y) 0
end Cf
end Go.Proofs.YtnddbklbgddblaaDoor

namespace Go.Proofs.YtnddbklbgddblaaDoor
open Go.RowKit
open Ad
open Sm (IsBytes)
set_option linter.unusedVariables false

end Go.Proofs.YtnddbklbgddblaaDoor

namespace Go.Proofs.YtnddbklbgddblaaDoor
open Go.RowKit
open Ad
set_option linter.unusedVariables false

namespace Ad
def ipGo : Nat → List (List UInt8) → Option Nat
  | n, [] => some n
  | n, p :: r => match num p 255 with
    | none => none
    | some b => ipGo (n * 256 + b) r
def ip (s : List UInt8) : Option Nat := if (cut 46 s).length = 4 then ipGo 0 (cut 46 s) else none
end Ad

end Go.Proofs.YtnddbklbgddblaaDoor

