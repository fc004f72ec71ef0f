/-
  Settings as text: the words of settings, and that they are read back.
  Settings as bytes: what the document's reader reads of a tenant is what the program's fields read.
  Settings as bytes: the program's whole (lych/api.Config): what all bytes are.
  Settings held against one another: lychhelp.Tenant and the program's Same tell the same.
-/
import Derived.Test.YtnddbklbgddblaaDoorPf27
import Derived.Lib.SpaceUEq
import Derived.Test.YtnddbklbgddblaaDoorPf22
import Derived.Test.YtnddbklbgddblaaDoorPf20
import Derived.Test.YtnddbklbgddblaaDoorPf24
import Derived.Test.YtnddbklbgddblaaDoorPf25
import Derived.Test.YtnddbklbgddblaaDoorPf26
namespace Go.Proofs.YtnddbklbgddblaaDoor
open Go.RowKit
open Ad
open Go.Lib (decDigits)
open Sm (IsBytes)
set_option linter.unusedVariables false
set_option linter.unusedSimpArgs false
set_option maxRecDepth 20000
namespace La
def dec (n : Int) : List UInt8 := decDigits n.toNat
def ipx (n : Int) : List UInt8 := ipt n.toNat
def fw (n : Int) : List UInt8 := if n = 1 then wAddress else if n = 2 then wPort else wAny
def txtG (c : Cgf) : List (List UInt8) := [wGateway, ipx c.ip, mact c.mac, mact c.omac, mact c.nmac, keyt c.key, wDrain, dec c.drain]
def txtH (t : Ten) : List (List UInt8) := [wTenant, t.name.data.toList, wVni, dec t.vni, wKey, keyt t.key, wVtep, ipx t.vtep, mact t.vmac, wHost, mact t.host]
def txtP (t : Ten) : List (List (List UInt8)) := if t.pool = [] then [] else [wPool :: t.pool.map ipx]
def txtS (b : List UInt8) (l : List (Int × Int)) : List (List (List UInt8)) := l.map fun p => [b, ipx p.1, ipx p.2]
def txtR (t : Ten) : List (List (List UInt8)) := txtP t ++ ([wPorts, dec t.lo, dec t.hi] :: [wFilter, fw t.filter] :: (txtS wStatic t.stat ++ (txtS wTwice t.twi ++ [[wQuota, dec t.sess, dec t.queue], [wRate, dec t.rate, dec t.burst]])))
def txtT (t : Ten) : List (List (List UInt8)) := txtH t :: txtR t
def lnsOf (c : Cgf) : List (List (List UInt8)) := txtG c :: c.ten.flatMap txtT
def txt (c : Cgf) : List UInt8 := (lnsOf c).flatMap spc
def R32 (x : Int) : Prop := 0 ≤ x ∧ x < 4294967296
structure TFit (t : Ten) : Prop where
  len : TLen t
  name : nam t.name.data.toList = true
  vni : 0 ≤ t.vni ∧ t.vni ≤ 16777215
  key : IsBytes t.key
  vtep : R32 t.vtep
  vmac : IsBytes t.vmac
  host : IsBytes t.host
  pool : ∀ x ∈ t.pool, R32 x
  lo : 0 ≤ t.lo ∧ t.lo ≤ 65535
  hi : 0 ≤ t.hi ∧ t.hi ≤ 65535
  filter : 0 ≤ t.filter ∧ t.filter ≤ 2
  stat : ∀ p ∈ t.stat, R32 p.1 ∧ R32 p.2
  twi : ∀ p ∈ t.twi, R32 p.1 ∧ R32 p.2
  sess : 0 ≤ t.sess ∧ t.sess ≤ 65535
  queue : 0 ≤ t.queue ∧ t.queue ≤ 65535
  rate : R32 t.rate
  burst : R32 t.burst
structure CFit (c : Cgf) : Prop where
  len : CLen c
  ip : R32 c.ip
  mac : IsBytes c.mac
  omac : IsBytes c.omac
  nmac : IsBytes c.nmac
  key : IsBytes c.key
  drain : R32 c.drain
  ten : ∀ t ∈ c.ten, TFit t
end La
end Go.Proofs.YtnddbklbgddblaaDoor

namespace Go.Proofs.YtnddbklbgddblaaDoor
open Go.RowKit
open Sm
open Cf
set_option linter.unusedVariables false
set_option linter.unusedSimpArgs false
set_option maxRecDepth 20000

end Go.Proofs.YtnddbklbgddblaaDoor

namespace Go.Proofs.YtnddbklbgddblaaDoor
open Go.RowKit
open Sm
open Cf
set_option linter.unusedVariables false
set_option maxRecDepth 20000

end Go.Proofs.YtnddbklbgddblaaDoor

namespace Go.Proofs.YtnddbklbgddblaaDoor
open Go.RowKit
open Sm
open Cf
set_option linter.unusedVariables false
set_option maxRecDepth 20000

instance (t z : Ten) : Decidable (TSame t z) := by unfold TSame; infer_instance
theorem Rw.at_ {w V : World} {n : Nat} {v : Value} {xs : List (List Value)} (h : Rw w n v xs) (hne : ∀ x ∈ xs, x ≠ []) (hb : Below w.heap.size w V) : Rw V n v xs := h.below hne hb (Nat.le_refl _)
end Go.Proofs.YtnddbklbgddblaaDoor

