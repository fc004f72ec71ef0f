/-
  Settings as text: words and lines of a text, and what is read of them, in plain numbers.
  Settings as bytes: a tenant that was written is read back, but for what was cut off, and no part of it is read.
  Settings held against one another: lychhelp.Tenant, at any two tenants.
  Settings as bytes: the document's own Tenant, at every tenant.
-/
import Derived.Test.YtnddbklbgddblaaDoorPf12
import Derived.Test.YtnddbklbgddblaaDoorPf04
import Derived.Test.YtnddbklbgddblaaDoorPf21
import Derived.Test.YtnddbklbgddblaaDoorPf20
import Derived.Deep.DeepCutAuto
namespace Go.Proofs.YtnddbklbgddblaaDoor
open Go.RowKit
open Ad
set_option linter.unusedVariables false
set_option linter.unusedSimpArgs false
set_option maxRecDepth 20000
namespace La
def wGateway : List UInt8 := [103, 97, 116, 101, 119, 97, 121]
def wDrain : List UInt8 := [100, 114, 97, 105, 110]
def wTenant : List UInt8 := [116, 101, 110, 97, 110, 116]
def wVni : List UInt8 := [118, 110, 105]
def wKey : List UInt8 := [107, 101, 121]
def wVtep : List UInt8 := [118, 116, 101, 112]
def wHost : List UInt8 := [104, 111, 115, 116]
def wPool : List UInt8 := [112, 111, 111, 108]
def wPorts : List UInt8 := [112, 111, 114, 116, 115]
def wFilter : List UInt8 := [102, 105, 108, 116, 101, 114]
def wStatic : List UInt8 := [115, 116, 97, 116, 105, 99]
def wTwice : List UInt8 := [116, 119, 105, 99, 101]
def wQuota : List UInt8 := [113, 117, 111, 116, 97]
def wRate : List UInt8 := [114, 97, 116, 101]
def wAny : List UInt8 := [97, 110, 121]
def wAddress : List UInt8 := [97, 100, 100, 114, 101, 115, 115]
def wPort : List UInt8 := [112, 111, 114, 116]
/-- A word: its text, and where it begins. -/
abbrev Wd := ByteArray × Nat
/-- A line that is read: the words that are left, where it ends, where the first fault lies. -/
structure Sg where
  ws : List Wd
  fin : Nat
  bad : Option Nat
def Sg.fail (σ : Sg) (a : Nat) : Sg := ⟨σ.ws, σ.fin, some (σ.bad.getD a)⟩
def wd (σ : Sg) : Wd := match σ.ws with
  | [] => (⟨#[]⟩, σ.fin)
  | w :: _ => w
def nxt (σ : Sg) : Sg := match σ.ws with
  | [] => σ.fail σ.fin
  | _ :: r => ⟨r, σ.fin, σ.bad⟩
abbrev wt (σ : Sg) : List UInt8 := (wd σ).1.data.toList
def must (s : List UInt8) (σ : Sg) : Sg := if wt σ = s then nxt σ else (nxt σ).fail (wd σ).2
def val {α : Type} (f : List UInt8 → Option α) (σ : Sg) : Option α := f (wt σ)
def vnx {α : Type} (f : List UInt8 → Option α) (σ : Sg) : Sg := if (f (wt σ)).isSome then nxt σ else (nxt σ).fail (wd σ).2
def done (σ : Sg) : Sg := match σ.ws with
  | [] => σ
  | w :: _ => σ.fail w.2
abbrev n32 (l : List UInt8) : Option Nat := num l 4294967295
abbrev n24 (l : List UInt8) : Option Nat := num l 16777215
abbrev n16 (l : List UInt8) : Option Nat := num l 65535
def nm (l : List UInt8) : Option Unit := if nam l then some () else none
def flt (l : List UInt8) : Option Nat := if l = wAny then some 0 else if l = wAddress then some 1 else if l = wPort then some 2 else none
abbrev m6 (o : Option (List Int)) : List Int := o.getD [0, 0, 0, 0, 0, 0]
abbrev k8 (o : Option (List Int)) : List Int := o.getD [0, 0, 0, 0, 0, 0, 0, 0]
/-- The first line. -/
def g1 (σ : Sg) : Sg := must wGateway σ
def g2 (σ : Sg) : Sg := vnx ip (g1 σ)
def g3 (σ : Sg) : Sg := vnx mac (g2 σ)
def g4 (σ : Sg) : Sg := vnx mac (g3 σ)
def g5 (σ : Sg) : Sg := vnx mac (g4 σ)
def g6 (σ : Sg) : Sg := vnx key (g5 σ)
def g7 (σ : Sg) : Sg := must wDrain (g6 σ)
def g8 (σ : Sg) : Sg := vnx n32 (g7 σ)
def gwC (σ : Sg) : Cgf := ⟨nv (val ip (g1 σ)), m6 (val mac (g2 σ)), m6 (val mac (g3 σ)), m6 (val mac (g4 σ)), k8 (val key (g5 σ)), nv (val n32 (g7 σ)), []⟩
/-- A tenant's line, behind its first word. -/
def t1 (σ : Sg) : Sg := vnx nm σ
def t2 (σ : Sg) : Sg := must wVni (t1 σ)
def t3 (σ : Sg) : Sg := vnx n24 (t2 σ)
def t4 (σ : Sg) : Sg := must wKey (t3 σ)
def t5 (σ : Sg) : Sg := vnx key (t4 σ)
def t6 (σ : Sg) : Sg := must wVtep (t5 σ)
def t7 (σ : Sg) : Sg := vnx ip (t6 σ)
def t8 (σ : Sg) : Sg := vnx mac (t7 σ)
def t9 (σ : Sg) : Sg := must wHost (t8 σ)
def tnS (σ : Sg) : Sg := vnx mac (t9 σ)
def tnT (σ : Sg) : Ten := { ten0 with name := (wd σ).1, vni := nv (val n24 (t2 σ)), key := k8 (val key (t4 σ)), vtep := nv (val ip (t6 σ)), vmac := m6 (val mac (t7 σ)), host := m6 (val mac (t9 σ)) }
/-- Addresses, as many as there are. -/
def pl : List Wd → Nat → Option Nat → List Int × Sg
  | [], fin, bad => ([], ⟨[], fin, bad⟩)
  | w :: r, fin, some a => ([], ⟨w :: r, fin, some a⟩)
  | w :: r, fin, none => match ip w.1.data.toList with
    | none => ([0], ⟨r, fin, some w.2⟩)
    | some n => ((n : Int) :: (pl r fin none).1, (pl r fin none).2)
def two2 {α : Type} (f : List UInt8 → Option α) (σ : Sg) : Sg := vnx f (vnx f σ)
def ofl (o : Option Nat) (d : Int) : Int := match o with
  | none => d
  | some n => (n : Int)
/-- What a line that begins so tells of a tenant. -/
def part (b : Wd) (t : Ten) (σ : Sg) : Ten × Sg :=
  if b.1.data.toList = wPool then ({ t with pool := t.pool ++ (pl σ.ws σ.fin σ.bad).1 }, (pl σ.ws σ.fin σ.bad).2)
  else if b.1.data.toList = wPorts then ({ t with lo := nv (val n16 σ), hi := nv (val n16 (vnx n16 σ)) }, two2 n16 σ)
  else if b.1.data.toList = wFilter then ({ t with filter := ofl (val flt σ) t.filter }, vnx flt σ)
  else if b.1.data.toList = wStatic then ({ t with stat := t.stat ++ [(nv (val ip σ), nv (val ip (vnx ip σ)))] }, two2 ip σ)
  else if b.1.data.toList = wTwice then ({ t with twi := t.twi ++ [(nv (val ip σ), nv (val ip (vnx ip σ)))] }, two2 ip σ)
  else if b.1.data.toList = wQuota then ({ t with sess := nv (val n16 σ), queue := nv (val n16 (vnx n16 σ)) }, two2 n16 σ)
  else if b.1.data.toList = wRate then ({ t with rate := nv (val n32 σ), burst := nv (val n32 (vnx n32 σ)) }, two2 n32 σ)
  else (t, σ.fail b.2)
/-- A line behind the first. -/
def ln (c : Cgf) (σ : Sg) : Cgf × Sg :=
  if wt σ = wTenant then ({ c with ten := c.ten ++ [tnT (nxt σ)] }, tnS (nxt σ))
  else match c.ten.getLast? with
    | none => (c, (nxt σ).fail (wd σ).2)
    | some t => ({ c with ten := c.ten.dropLast ++ [(part (wd σ) t (nxt σ)).1] }, (part (wd σ) t (nxt σ)).2)
/-- A line: the first, if there are no settings yet. -/
def rdn (o : Option Cgf) (σ : Sg) : Cgf × Sg := match o with
  | none => (gwC σ, g8 σ)
  | some c => ln c σ
end La
end Go.Proofs.YtnddbklbgddblaaDoor

namespace Go.Proofs.YtnddbklbgddblaaDoor
open Go.RowKit
open Sm
open Cf
set_option linter.unusedVariables false
set_option maxRecDepth 20000

end Go.Proofs.YtnddbklbgddblaaDoor

namespace Go.Proofs.YtnddbklbgddblaaDoor
open Go.RowKit
open Sm
open Cf
set_option linter.unusedVariables false
set_option maxRecDepth 20000

/-- All fields are the same. -/
def TSame (t z : Ten) : Prop := sb t.name = sb z.name ∧ t.vni = z.vni ∧ t.key = z.key ∧ t.vtep = z.vtep ∧ t.vmac = z.vmac ∧ t.host = z.host ∧ t.pool = z.pool ∧ t.lo = z.lo ∧ t.hi = z.hi ∧ t.filter = z.filter ∧ t.stat = z.stat ∧ t.twi = z.twi ∧ t.sess = z.sess ∧ t.queue = z.queue ∧ t.rate = z.rate ∧ t.burst = z.burst
end Go.Proofs.YtnddbklbgddblaaDoor

namespace Go.Proofs.YtnddbklbgddblaaDoor
open Go.RowKit
open Sm
open Cf
set_option linter.unusedVariables false
set_option maxRecDepth 20000
set_option linter.unusedSimpArgs false

theorem Ob.add {w W : World} {v : Value} {l : List Int} {L : List (Nat × Obj)} {n : Nat} {o : Obj} {g : Nat} (h : Ob w W v l L n) (hg : g = W.heap.size) : Ob w (W.alloc o) v l ((g, o) :: L) n := ⟨h.1.add hg, h.2⟩
theorem Ob.drop {w W : World} {v : Value} {l : List Int} {L : List (Nat × Obj)} {n : Nat} {p : Nat × Obj} (h : Ob w W v l (p :: L) n) : Ob w W v l L n := ⟨h.1.drop, h.2⟩
end Go.Proofs.YtnddbklbgddblaaDoor

