/-
  Settings as bytes: a tenant in memory, as it is written, read, held against another.
  Settings as bytes: where a tenant's fields lie: the program's own functions in a list.
  Settings as bytes: the fields of a tenant, each as the program makes it.
  Settings as bytes: the program's tenant(): all fields of a tenant, in their order.
-/
import Derived.Test.YtneciccdiledfaaGreatDoorMr19
import Derived.Test.YtneciccdiledfaaGreatDoorMr15
import Derived.Test.YtneciccdiledfaaGreatDoorMr16
import Derived.Test.YtneciccdiledfaaGreatDoorMr17
import Derived.Test.YtneciccdiledfaaGreatDoorMr14
namespace Go.Proofs.YtneciccdiledfaaGreatDoor
open Go.RowKit
open Sm
open Cf
set_option linter.unusedVariables false
set_option maxRecDepth 20000

/-- What is known of a tenant that comes in. -/
structure TIn (t : Ten) : Prop where
  len : TLen t
  key : IsBytes t.key
  vmac : IsBytes t.vmac
  host : IsBytes t.host
  name : t.name.size ≤ 1000000
  pool : t.pool.length ≤ 1000000
  stat : t.stat.length ≤ 1000000
  twi : t.twi.length ≤ 1000000
/-- A tenant that lies at a place, its lists the values r. -/
def IT : Rp Ten (Value × Value × Value) := fun t r V g off =>
  TIn t ∧ V.rangeAt g off (tc t r.1 r.2.1 r.2.2) ∧ Rw V 1 r.1 (ux t.pool) ∧ Rw V 2 r.2.1 (px t.stat) ∧ Rw V 2 r.2.2 (px t.twi)
/-- A list of the call's own, in a block of its own, or none. -/
def lv (h : Nat) : List (List Value) → Value
  | [] => nilV
  | x :: xs => .slice (some ⟨h, 0, none⟩) (x :: xs).length (x :: xs).length
def lb (h : Nat) (T : TypeId) : List (List Value) → List (Nat × Obj)
  | [] => []
  | x :: xs => [(h, .cells (x :: xs).flatten.toArray T (0, 0))]
/-- A tenant that is being read. -/
def JT : St' Ten := fun w t g T pre post V K => TLen t ∧ (t.pool.length ≤ 255 ∧ t.stat.length ≤ 255 ∧ t.twi.length ≤ 255) ∧ ∃ hp hs hq,
  Mem w V ((g, .cells (pre ++ (tc t (lv hp (ux t.pool)) (lv hs (px t.stat)) (lv hq (px t.twi)) ++ post)).toArray T (0, 0)) ::
    (lb hp 23 (ux t.pool) ++ (lb hs 96 (px t.stat) ++ (lb hq 96 (px t.twi) ++ K))))
theorem Mem.subl {w V : World} {L K : List (Nat × Obj)} (h : Mem w V L) (hs : K.Sublist L) : Mem w V K :=
  ⟨h.below, fun p hp => h.low p (hs.subset hp), fun p hp => h.at_ p (hs.subset hp), h.apart.sublist (hs.map _)⟩
theorem Mem.dropA {w V : World} {A K : List (Nat × Obj)} (h : Mem w V (A ++ K)) : Mem w V K := h.subl (List.sublist_append_right A K)
theorem tset {t t' : Ten} {p s q p' s' q' : Value} {o : Nat} {v : Value} (h : TLen t) (e : ∀ n vn a b c d f g x y vt a1 b1 c1 d1 f1 g1 a2 b2 c2 d2 f2 g2 po lo hi fi st tw se qu ra bu,
    t = ⟨n, vn, [a, b, c, d, f, g, x, y], vt, [a1, b1, c1, d1, f1, g1], [a2, b2, c2, d2, f2, g2], po, lo, hi, fi, st, tw, se, qu, ra, bu⟩ → (tc t p s q).set o v = tc t' p' s' q') : (tc t p s q).set o v = tc t' p' s' q' := by
  obtain ⟨n, vn, key, vt, vm, ho, po, lo, hi, fi, st, tw, se, qu, ra, bu⟩ := t
  obtain ⟨h1, h2, h3⟩ := h
  obtain ⟨a, b, c, d, f, g, x, y, rfl⟩ := eight8 h1
  obtain ⟨a1, b1, c1, d1, f1, g1, rfl⟩ := six6 h2
  obtain ⟨a2, b2, c2, d2, f2, g2, rfl⟩ := six6 h3
  exact e n vn a b c d f g x y vt a1 b1 c1 d1 f1 g1 a2 b2 c2 d2 f2 g2 po lo hi fi st tw se qu ra bu rfl
theorem tget {t : Ten} {p s q : Value} {o : Nat} {v : Value} (h : TLen t) (e : ∀ n vn a b c d f g x y vt a1 b1 c1 d1 f1 g1 a2 b2 c2 d2 f2 g2 po lo hi fi st tw se qu ra bu,
    t = ⟨n, vn, [a, b, c, d, f, g, x, y], vt, [a1, b1, c1, d1, f1, g1], [a2, b2, c2, d2, f2, g2], po, lo, hi, fi, st, tw, se, qu, ra, bu⟩ → (tc t p s q)[o]? = some v) : (tc t p s q)[o]? = some v := by
  obtain ⟨n, vn, key, vt, vm, ho, po, lo, hi, fi, st, tw, se, qu, ra, bu⟩ := t
  obtain ⟨h1, h2, h3⟩ := h
  obtain ⟨a, b, c, d, f, g, x, y, rfl⟩ := eight8 h1
  obtain ⟨a1, b1, c1, d1, f1, g1, rfl⟩ := six6 h2
  obtain ⟨a2, b2, c2, d2, f2, g2, rfl⟩ := six6 h3
  exact e n vn a b c d f g x y vt a1 b1 c1 d1 f1 g1 a2 b2 c2 d2 f2 g2 po lo hi fi st tw se qu ra bu rfl
def set_pool (t : Ten) (m : Nat) : Ten := if m = 0 then t else { t with pool := List.replicate m 0 }
def set_stat (t : Ten) (m : Nat) : Ten := if m = 0 then t else { t with stat := List.replicate m (0, 0) }
def set_twi (t : Ten) (m : Nat) : Ten := if m = 0 then t else { t with twi := List.replicate m (0, 0) }
end Go.Proofs.YtneciccdiledfaaGreatDoor

namespace Go.Proofs.YtneciccdiledfaaGreatDoor
open Go.RowKit
open Sm
open Cf
set_option linter.unusedVariables false
set_option maxRecDepth 20000

end Go.Proofs.YtneciccdiledfaaGreatDoor

namespace Go.Proofs.YtneciccdiledfaaGreatDoor
open Go.RowKit
open Sm
open Cf
set_option linter.unusedVariables false
set_option maxRecDepth 20000

def ttl (t : Ten) (p s q : Value) : List Value := [p, .int .u16 t.lo, .int .u16 t.hi, .int .i64 t.filter, s, q, .int .i64 t.sess, .int .i64 t.queue, .int .u32 t.rate, .int .u32 t.burst]
theorem IT.cell {t : Ten} {r : Value × Value × Value} {V : World} {g off : Nat} (h : IT t r V g off) (o : Nat) {v : Value} (hv : (tc t r.1 r.2.1 r.2.2)[o]? = some v) : V.cell? ⟨g, off + o, none⟩ = some v := h.2.1 o v hv
theorem IT.row {t : Ten} {r : Value × Value × Value} {V : World} {g off : Nat} (h : IT t r V g off) (o : Nat) (x : List Int) (hb : IsBytes x) (hx : x.length ≤ 1000) (a c : List Value) (ha : a.length = o) (e : tc t r.1 r.2.1 r.2.2 = a ++ (x.map (Value.int .u8) ++ c)) :
    Row V (some ⟨g, off + o, none⟩) x := by
  refine ⟨hb, by omega, Or.inr ⟨g, off + o, rfl, fun i hi => ?_⟩⟩
  have := h.2.1 (o + i) (.int .u8 (x.getD i 0)) (by
    rw [e, List.getElem?_append_right (by omega), List.getElem?_append_left (by simp; omega), ha, Nat.add_sub_cancel_left]
    simp [hi])
  rw [Nat.add_assoc]; exact this
def spName : Sp Ten := spTxt (fun t => t.name) (fun t y => { t with name := y })
def spVni : Sp Ten := spNum 4 (fun t => t.vni) (fun t y => { t with vni := y })
def spKey : Sp Ten := spOct 8 (fun t => t.key) (fun t y => { t with key := y })
def spVtep : Sp Ten := spNum 4 (fun t => t.vtep) (fun t y => { t with vtep := y })
def spVtepMac : Sp Ten := spOct 6 (fun t => t.vmac) (fun t y => { t with vmac := y })
def spHost : Sp Ten := spOct 6 (fun t => t.host) (fun t y => { t with host := y })
def spLo : Sp Ten := spNum 2 (fun t => t.lo) (fun t y => { t with lo := y })
def spHi : Sp Ten := spNum 2 (fun t => t.hi) (fun t y => { t with hi := y })
def spFilter : Sp Ten := spNum 1 (fun t => t.filter) (fun t y => { t with filter := y })
def spSess : Sp Ten := spNum 2 (fun t => t.sess) (fun t y => { t with sess := y })
def spQueue : Sp Ten := spNum 2 (fun t => t.queue) (fun t y => { t with queue := y })
def spRate : Sp Ten := spNum 4 (fun t => t.rate) (fun t y => { t with rate := y })
def spBurst : Sp Ten := spNum 4 (fun t => t.burst) (fun t y => { t with burst := y })
def spPool : Sp Ten := spCnt (fun t => t.pool.length) set_pool
def spStatics : Sp Ten := spCnt (fun t => t.stat.length) set_stat
def spTwices : Sp Ten := spCnt (fun t => t.twi.length) set_twi
def spPoolI : Sp Ten := spItm 0 spU (fun t => t.pool) (fun t y => { t with pool := y })
def spStaticsI : Sp Ten := spItm (0, 0) spP (fun t => t.stat) (fun t y => { t with stat := y })
def spTwicesI : Sp Ten := spItm (0, 0) spP (fun t => t.twi) (fun t y => { t with twi := y })
/-- A tenant's fields, in their order. -/
def tsp : List (Sp Ten) := [spName, spVni, spKey, spVtep, spVtepMac, spHost, spLo, spHi, spFilter, spSess, spQueue, spRate, spBurst, spPool, spStatics, spTwices, spPoolI, spStaticsI, spTwicesI]
def spT : Sp Ten := spAll tsp
end Go.Proofs.YtneciccdiledfaaGreatDoor

namespace Go.Proofs.YtneciccdiledfaaGreatDoor
open Go.RowKit
open Sm
open Cf
set_option linter.unusedVariables false
set_option maxRecDepth 20000

end Go.Proofs.YtneciccdiledfaaGreatDoor

