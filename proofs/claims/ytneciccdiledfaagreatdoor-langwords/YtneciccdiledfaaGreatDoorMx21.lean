/-
  Settings as bytes: the fields of a tenant, each as the program makes it.
  Settings as bytes: the program's tenant(): all fields of a tenant, in their order.
  Settings as bytes: the program's Tenant and Same, at every tenant.
-/
import Derived.Test.YtneciccdiledfaaGreatDoorMx20
import Derived.Test.YtneciccdiledfaaGreatDoorMx15
import Derived.Test.YtneciccdiledfaaGreatDoorMx16
import Derived.Test.YtneciccdiledfaaGreatDoorMx14
import Derived.Deep.MidRow
import Derived.Deep.WholeRow
set_option linter.unusedVariables false
set_option maxRecDepth 20000
namespace Go.Proofs.YtneciccdiledfaaGreatDoor
open Go.RowKit
open Sm
open Cf
theorem IT.cell {t : Ten} {r : Value × Value × Value} {V : World} {g off : Nat} (h : IT t r V g off) (o : Nat) {v : Value} (hv : (tc t r.1 r.2.1 r.2.2)[o]? = some v) : V.cell? ⟨g, off + o, none⟩ = some v := h.2.1 o v hv
theorem IT.row {t : Ten} {r : Value × Value × Value} {V : World} {g off : Nat} (h : IT t r V g off) (o : Nat) (x : List Int) (hb : IsBytes x) (hx : x.length ≤ 1000) (a c : List Value) (ha : a.length = o) (e : tc t r.1 r.2.1 r.2.2 = a ++ (x.map (Value.int .u8) ++ c)) :
  Row V (some ⟨g, off + o, none⟩) x := by
 refine ⟨hb, by omega, Or.inr ⟨g, off + o, rfl, fun i hi => ?_⟩⟩
 have := h.2.1 (o + i) (.int .u8 (x.getD i 0)) (by
  rw [e, List.getElem?_append_right (by omega), List.getElem?_append_left (by simp; omega), ha, Nat.add_sub_cancel_left]
  simp [hi])
 rw [Nat.add_assoc]; exact this
def spName : Sp Ten := spTxt (fun t => t.name) (fun t y => { t with name := y })
def spVni : Sp Ten := spNum 4 (fun t => t.vni) (fun t y => { t with vni := y })
def spKey : Sp Ten := spOct 8 (fun t => t.key) (fun t y => { t with key := y })
def spVtep : Sp Ten := spNum 4 (fun t => t.vtep) (fun t y => { t with vtep := y })
def spVtepMac : Sp Ten := spOct 6 (fun t => t.vmac) (fun t y => { t with vmac := y })
def spHost : Sp Ten := spOct 6 (fun t => t.host) (fun t y => { t with host := y })
def spLo : Sp Ten := spNum 2 (fun t => t.lo) (fun t y => { t with lo := y })
def spHi : Sp Ten := spNum 2 (fun t => t.hi) (fun t y => { t with hi := y })
def spFilter : Sp Ten := spNum 1 (fun t => t.filter) (fun t y => { t with filter := y })
def spSess : Sp Ten := spNum 2 (fun t => t.sess) (fun t y => { t with sess := y })
def spQueue : Sp Ten := spNum 2 (fun t => t.queue) (fun t y => { t with queue := y })
def spRate : Sp Ten := spNum 4 (fun t => t.rate) (fun t y => { t with rate := y })
def spBurst : Sp Ten := spNum 4 (fun t => t.burst) (fun t y => { t with burst := y })
def spPool : Sp Ten := spCnt (fun t => t.pool.length) set_pool
def spStatics : Sp Ten := spCnt (fun t => t.stat.length) set_stat
def spTwices : Sp Ten := spCnt (fun t => t.twi.length) set_twi
def spPoolI : Sp Ten := spItm 0 spU (fun t => t.pool) (fun t y => { t with pool := y })
def spStaticsI : Sp Ten := spItm (0, 0) spP (fun t => t.stat) (fun t y => { t with stat := y })
def spTwicesI : Sp Ten := spItm (0, 0) spP (fun t => t.twi) (fun t y => { t with twi := y })
def tsp : List (Sp Ten) := [spName, spVni, spKey, spVtep, spVtepMac, spHost, spLo, spHi, spFilter, spSess, spQueue, spRate, spBurst, spPool, spStatics, spTwices, spPoolI, spStaticsI, spTwicesI]
def spT : Sp Ten := spAll tsp
end Go.Proofs.YtneciccdiledfaaGreatDoor
namespace Go.Proofs.YtneciccdiledfaaGreatDoor
open Go.RowKit
open Sm
open Cf
end Go.Proofs.YtneciccdiledfaaGreatDoor
namespace Go.Proofs.YtneciccdiledfaaGreatDoor
open Go.RowKit
open Sm
open Cf
def TV (V : World) (v : Value) (t : Ten) : Prop := TLen t ∧ ∃ p s q, v = .agg (tc t p s q).toArray ∧ Rw V 1 p (ux t.pool) ∧ Rw V 2 s (px t.stat) ∧ Rw V 2 q (px t.twi)
def tenc (t : Ten) : List Int := spT.enc t
end Go.Proofs.YtneciccdiledfaaGreatDoor
