/-
  Settings as bytes: addresses and pairs: the program's address() and pair().
  Settings as bytes: a tenant in memory, as it is written, read, held against another.
  Settings as bytes: where a tenant's fields lie: the program's own functions in a list.
  Settings as bytes: the fields of a tenant, each as the program makes it.
-/
import Derived.Test.YtnddbklbgddblaaDoorPf17
import Derived.Test.YtnddbklbgddblaaDoorPf16
import Derived.Test.YtnddbklbgddblaaDoorPf14
import Derived.Test.YtnddbklbgddblaaDoorPf15
import Derived.Test.YtnddbklbgddblaaDoorPf13
namespace Go.Proofs.YtnddbklbgddblaaDoor
open Go.RowKit
open Sm
open Cf
set_option linter.unusedVariables false
set_option maxRecDepth 20000

theorem get_mid (pre mid post : List Value) (o : Nat) (v : Value) (h : mid[o]? = some v) : (pre ++ (mid ++ post)).toArray[pre.length + o]? = some v := by
  have ho := (List.getElem?_eq_some_iff.mp h).1
  simp only [List.getElem?_toArray]
  rw [List.getElem?_append_right (by omega), List.getElem?_append_left (by omega), Nat.add_sub_cancel_left]
  exact h
theorem set_mid (pre mid post : List Value) (o : Nat) (v : Value) (h : o < mid.length) : (pre ++ (mid ++ post)).toArray.setIfInBounds (pre.length + o) v = (pre ++ (mid.set o v ++ post)).toArray := by
  simp only [List.setIfInBounds_toArray]
  rw [List.set_append_right _ _ (by omega), List.set_append_left _ _ (by omega), Nat.add_sub_cancel_left]
end Go.Proofs.YtnddbklbgddblaaDoor

namespace Go.Proofs.YtnddbklbgddblaaDoor
open Go.RowKit
open Sm
open Cf
set_option linter.unusedVariables false
set_option maxRecDepth 20000

/-- What is known of a tenant that comes in. -/
structure TIn (t : Ten) : Prop where
  len : TLen t
  key : IsBytes t.key
  vmac : IsBytes t.vmac
  host : IsBytes t.host
  name : t.name.size ≤ 1000000
  pool : t.pool.length ≤ 1000000
  stat : t.stat.length ≤ 1000000
  twi : t.twi.length ≤ 1000000
/-- A tenant that lies at a place, its lists the values r. -/
def IT : Rp Ten (Value × Value × Value) := fun t r V g off =>
  TIn t ∧ V.rangeAt g off (tc t r.1 r.2.1 r.2.2) ∧ Rw V 1 r.1 (ux t.pool) ∧ Rw V 2 r.2.1 (px t.stat) ∧ Rw V 2 r.2.2 (px t.twi)
theorem Mem.subl {w V : World} {L K : List (Nat × Obj)} (h : Mem w V L) (hs : K.Sublist L) : Mem w V K :=
  ⟨h.below, fun p hp => h.low p (hs.subset hp), fun p hp => h.at_ p (hs.subset hp), h.apart.sublist (hs.map _)⟩
theorem Mem.dropA {w V : World} {A K : List (Nat × Obj)} (h : Mem w V (A ++ K)) : Mem w V K := h.subl (List.sublist_append_right A K)
theorem tset {t t' : Ten} {p s q p' s' q' : Value} {o : Nat} {v : Value} (h : TLen t) (e : ∀ n vn a b c d f g x y vt a1 b1 c1 d1 f1 g1 a2 b2 c2 d2 f2 g2 po lo hi fi st tw se qu ra bu,
    t = ⟨n, vn, [a, b, c, d, f, g, x, y], vt, [a1, b1, c1, d1, f1, g1], [a2, b2, c2, d2, f2, g2], po, lo, hi, fi, st, tw, se, qu, ra, bu⟩ → (tc t p s q).set o v = tc t' p' s' q') : (tc t p s q).set o v = tc t' p' s' q' := by
  obtain ⟨n, vn, key, vt, vm, ho, po, lo, hi, fi, st, tw, se, qu, ra, bu⟩ := t
  obtain ⟨h1, h2, h3⟩ := h
  obtain ⟨a, b, c, d, f, g, x, y, rfl⟩ := eight8 h1
  obtain ⟨a1, b1, c1, d1, f1, g1, rfl⟩ := six6 h2
  obtain ⟨a2, b2, c2, d2, f2, g2, rfl⟩ := six6 h3
  exact e n vn a b c d f g x y vt a1 b1 c1 d1 f1 g1 a2 b2 c2 d2 f2 g2 po lo hi fi st tw se qu ra bu rfl
theorem tget {t : Ten} {p s q : Value} {o : Nat} {v : Value} (h : TLen t) (e : ∀ n vn a b c d f g x y vt a1 b1 c1 d1 f1 g1 a2 b2 c2 d2 f2 g2 po lo hi fi st tw se qu ra bu,
    t = ⟨n, vn, [a, b, c, d, f, g, x, y], vt, [a1, b1, c1, d1, f1, g1], [a2, b2, c2, d2, f2, g2], po, lo, hi, fi, st, tw, se, qu, ra, bu⟩ → (tc t p s q)[o]? = some v) : (tc t p s q)[o]? = some v := by
  obtain ⟨n, vn, key, vt, vm, ho, po, lo, hi, fi, st, tw, se, qu, ra, bu⟩ := t
  obtain ⟨h1, h2, h3⟩ := h
  obtain ⟨a, b, c, d, f, g, x, y, rfl⟩ := eight8 h1
  obtain ⟨a1, b1, c1, d1, f1, g1, rfl⟩ := six6 h2
  obtain ⟨a2, b2, c2, d2, f2, g2, rfl⟩ := six6 h3
  exact e n vn a b c d f g x y vt a1 b1 c1 d1 f1 g1 a2 b2 c2 d2 f2 g2 po lo hi fi st tw se qu ra bu rfl
end Go.Proofs.YtnddbklbgddblaaDoor

namespace Go.Proofs.YtnddbklbgddblaaDoor
open Go.RowKit
open Sm
open Cf
set_option linter.unusedVariables false
set_option maxRecDepth 20000

end Go.Proofs.YtnddbklbgddblaaDoor

namespace Go.Proofs.YtnddbklbgddblaaDoor
open Go.RowKit
open Sm
open Cf
set_option linter.unusedVariables false
set_option maxRecDepth 20000

theorem IT.cell {t : Ten} {r : Value × Value × Value} {V : World} {g off : Nat} (h : IT t r V g off) (o : Nat) {v : Value} (hv : (tc t r.1 r.2.1 r.2.2)[o]? = some v) : V.cell? ⟨g, off + o, none⟩ = some v := h.2.1 o v hv
theorem IT.row {t : Ten} {r : Value × Value × Value} {V : World} {g off : Nat} (h : IT t r V g off) (o : Nat) (x : List Int) (hb : IsBytes x) (hx : x.length ≤ 1000) (a c : List Value) (ha : a.length = o) (e : tc t r.1 r.2.1 r.2.2 = a ++ (x.map (Value.int .u8) ++ c)) :
    Row V (some ⟨g, off + o, none⟩) x := by
  refine ⟨hb, by omega, Or.inr ⟨g, off + o, rfl, fun i hi => ?_⟩⟩
  have := h.2.1 (o + i) (.int .u8 (x.getD i 0)) (by
    rw [e, List.getElem?_append_right (by omega), List.getElem?_append_left (by simp; omega), ha, Nat.add_sub_cancel_left]
    simp [hi])
  rw [Nat.add_assoc]; exact this
end Go.Proofs.YtnddbklbgddblaaDoor

