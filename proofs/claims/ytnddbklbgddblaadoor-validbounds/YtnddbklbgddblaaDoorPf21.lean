/-
  Settings held against one another: lychhelp's Nums, Pairs, Light, whatever they are handed.
  Settings as bytes: settings in memory, as they are written and read.
  Settings as bytes: what is written is read back, and no part of it is read.
  Settings as bytes: the document's own reader: name, mac, key.
  Settings as bytes: the program's whole (lych/api.Tenant): what all bytes are.
  Settings as bytes: changes: the program's changeName and Change.
-/
import Derived.Test.YtnddbklbgddblaaDoorPf20
import Derived.Laws.StructEq
import Derived.Test.YtnddbklbgddblaaDoorPf15
import Derived.Test.YtnddbklbgddblaaDoorPf16
import Derived.Test.YtnddbklbgddblaaDoorPf13
import Derived.Test.YtnddbklbgddblaaDoorPf14
namespace Go.Proofs.YtnddbklbgddblaaDoor
open Go.RowKit
open Sm
open Cf
set_option linter.unusedVariables false
set_option maxRecDepth 20000

end Go.Proofs.YtnddbklbgddblaaDoor

namespace Go.Proofs.YtnddbklbgddblaaDoor
open Go.RowKit
open Sm
open Cf
set_option linter.unusedVariables false
set_option maxRecDepth 20000

/-- Settings. -/
structure Cgf where
  ip : Int
  mac : List Int
  omac : List Int
  nmac : List Int
  key : List Int
  drain : Int
  ten : List Ten
structure CLen (c : Cgf) : Prop where
  mac : c.mac.length = 6
  omac : c.omac.length = 6
  nmac : c.nmac.length = 6
  key : c.key.length = 8
structure CIn (c : Cgf) : Prop where
  len : CLen c
  mac : IsBytes c.mac
  omac : IsBytes c.omac
  nmac : IsBytes c.nmac
  key : IsBytes c.key
/-- Their cells, the tenants the value v. -/
def cc (c : Cgf) (v : Value) : List Value := .int .u32 c.ip :: (c.mac.map (Value.int .u8) ++ (c.omac.map (Value.int .u8) ++ (c.nmac.map (Value.int .u8) ++ (c.key.map (Value.int .u8) ++ [.int .u32 c.drain, v]))))
theorem cc_len {c : Cgf} (h : CLen c) (v : Value) : (cc c v).length = 29 := by simp [cc, h.mac, h.omac, h.nmac, h.key]
def cfg0 : Cgf := ⟨0, [0, 0, 0, 0, 0, 0], [0, 0, 0, 0, 0, 0], [0, 0, 0, 0, 0, 0], [0, 0, 0, 0, 0, 0, 0, 0], 0, []⟩
theorem cfg0_len : CLen cfg0 := ⟨rfl, rfl, rfl, rfl⟩
abbrev cz : Array Value := (cc cfg0 nilV).toArray
theorem cset {t t' : Cgf} {p p' : Value} {o : Nat} {v : Value} (h : CLen t) (e : ∀ ip a b c d f g a1 b1 c1 d1 f1 g1 a2 b2 c2 d2 f2 g2 k1 k2 k3 k4 k5 k6 k7 k8 dr te,
    t = ⟨ip, [a, b, c, d, f, g], [a1, b1, c1, d1, f1, g1], [a2, b2, c2, d2, f2, g2], [k1, k2, k3, k4, k5, k6, k7, k8], dr, te⟩ → (cc t p).set o v = cc t' p') : (cc t p).set o v = cc t' p' := by
  obtain ⟨ip, mac, om, nm, key, dr, te⟩ := t
  obtain ⟨h1, h2, h3, h4⟩ := h
  obtain ⟨a, b, c, d, f, g, rfl⟩ := six6 h1
  obtain ⟨a1, b1, c1, d1, f1, g1, rfl⟩ := six6 h2
  obtain ⟨a2, b2, c2, d2, f2, g2, rfl⟩ := six6 h3
  obtain ⟨k1, k2, k3, k4, k5, k6, k7, k8, rfl⟩ := eight8 h4
  exact e ip a b c d f g a1 b1 c1 d1 f1 g1 a2 b2 c2 d2 f2 g2 k1 k2 k3 k4 k5 k6 k7 k8 dr te rfl
/-- A tenant's cells, its lists whatever values. -/
abbrev Tv := Ten × Value × Value × Value
def zc (z : Tv) : List Value := tc z.1 z.2.1 z.2.2.1 z.2.2.2
def Rws (V : World) (z : Tv) : Prop := Rw V 1 z.2.1 (ux z.1.pool) ∧ Rw V 2 z.2.2.1 (px z.1.stat) ∧ Rw V 2 z.2.2.2 (px z.1.twi)
/-- Settings that lie at a place, their tenants the slice r.1, which are r.2. -/
def IC : Rp Cgf (Value × List Tv) := fun c r V g off => CIn c ∧ V.rangeAt g off (cc c r.1) ∧ r.2.map Prod.fst = c.ten ∧ Rw V 33 r.1 (r.2.map zc) ∧ ∀ z ∈ r.2, TIn z.1 ∧ Rws V z
theorem IC.cell {t : Cgf} {r : Value × List Tv} {V : World} {g off : Nat} (h : IC t r V g off) (o : Nat) {v : Value} (hv : (cc t r.1)[o]? = some v) : V.cell? ⟨g, off + o, none⟩ = some v := h.2.1 o v hv
theorem IC.row {t : Cgf} {r : Value × List Tv} {V : World} {g off : Nat} (h : IC t r V g off) (o : Nat) (x : List Int) (hb : IsBytes x) (hx : x.length ≤ 1000) (a c : List Value) (ha : a.length = o) (e : cc t r.1 = a ++ (x.map (Value.int .u8) ++ c)) :
    Row V (some ⟨g, off + o, none⟩) x := by
  refine ⟨hb, by omega, Or.inr ⟨g, off + o, rfl, fun i hi => ?_⟩⟩
  have := h.2.1 (o + i) (.int .u8 (x.getD i 0)) (by
    rw [e, List.getElem?_append_right (by omega), List.getElem?_append_left (by simp; omega), ha, Nat.add_sub_cancel_left]
    simp [hi])
  rw [Nat.add_assoc]; exact this
theorem rw_slice {V : World} {sz : Nat} {v : Value} {xs : List (List Value)} (h : Rw V sz v xs) : v.oneCell' = true := by
  obtain ⟨a, c, rfl, -⟩ := h; rfl
theorem zc_one {V : World} {z : Tv} (h : Rws V z) : (zc z).toArray.all (·.oneCell') = true := by
  apply all_oneCell_toArray
  intro v hv
  simp only [zc, tc, List.mem_cons, List.mem_append, List.mem_map, List.not_mem_nil, or_false] at hv
  rcases hv with rfl | rfl | ⟨x, _, rfl⟩ | rfl | ⟨x, _, rfl⟩ | ⟨x, _, rfl⟩ | rfl | rfl | rfl | rfl | rfl | rfl | rfl | rfl | rfl | rfl <;> first | rfl | exact rw_slice h.1 | exact rw_slice h.2.1 | exact rw_slice h.2.2
/-- Fields that are only written and read. -/
structure Fw {α ρ : Type} (w : World) (L : List (Nat × Obj)) (I : Rp α ρ) (J : St' α) (f : Fv) (s : Sp α) : Prop where
  ew : Ent f.kw
  er : Ent f.kr
  wr : ∀ K, Sub L K → ∀ x r g off, (∀ V, Mem w V K → I x r V g off) → ∀ v l V, Out w V v l K → l.length + (s.enc x).length ≤ 1000000000 →
    Calls Tryd.prog f.kw (#[v, .pointer (some ⟨g, off, none⟩)] ++ f.cw) V fun e V' => ∃ v', e = .returned v' ∧ Out w V' v' (l ++ s.enc x) K
  rd : ∀ K, Sub L K → ∀ x g T pre post a l c V, J w x g T pre post V K → Sl w a l c →
    Calls Tryd.prog f.kr (#[.slice a l.length c, .pointer (some ⟨g, pre.length, none⟩)] ++ f.cr) V (RPost w K (fun y V' => J w y g T pre post V' K) (s.dec l x))
theorem Fd.fw {α ρ : Type} {w : World} {L : List (Nat × Obj)} {I : Rp α ρ} {J : St' α} {f : Fv} {s : Sp α} (h : Fd w L I J f s) : Fw w L I J f s := ⟨h.ew, h.er, h.wr, h.rd⟩
theorem Fw.more {α ρ : Type} {w : World} {L K : List (Nat × Obj)} {I : Rp α ρ} {J : St' α} {f : Fv} {s : Sp α} (h : Fw w L I J f s) (hs : Sub L K) : Fw w K I J f s :=
  ⟨h.ew, h.er, fun M hM => h.wr M (hs.trans hM), fun M hM => h.rd M (hs.trans hM)⟩
inductive FwAll {α ρ : Type} (w : World) (L : List (Nat × Obj)) (I : Rp α ρ) (J : St' α) : List Fv → List (Sp α) → Prop
  | nil : FwAll w L I J [] []
  | cons {f : Fv} {s : Sp α} {fs : List Fv} {ss : List (Sp α)} : Fw w L I J f s → FwAll w L I J fs ss → FwAll w L I J (f :: fs) (s :: ss)
theorem FwAll.at_ {α ρ : Type} {w : World} {L : List (Nat × Obj)} {I : Rp α ρ} {J : St' α} {fs : List Fv} {ss : List (Sp α)} (h : FwAll w L I J fs ss) : ∀ i, i < fs.length → Fw w L I J (fs.getD i fv0) (ss.getD i sp0) := by
  induction h with
  | nil => intro i hi; simp at hi
  | cons h1 h2 ih =>
    intro i hi
    cases i with
    | zero => exact h1
    | succ i => exact ih i (by simpa using hi)
theorem FwAll.len {α ρ : Type} {w : World} {L : List (Nat × Obj)} {I : Rp α ρ} {J : St' α} {fs : List Fv} {ss : List (Sp α)} (h : FwAll w L I J fs ss) : fs.length = ss.length := by
  induction h with
  | nil => rfl
  | cons _ _ ih => simp [ih]
end Go.Proofs.YtnddbklbgddblaaDoor

namespace Go.Proofs.YtnddbklbgddblaaDoor
open Go.RowKit
open Sm
open Cf
set_option linter.unusedVariables false
set_option maxRecDepth 20000

end Go.Proofs.YtnddbklbgddblaaDoor

namespace Go.Proofs.YtnddbklbgddblaaDoor
open Go.RowKit
open Sm
open Cf
set_option linter.unusedVariables false
set_option linter.unusedSimpArgs false
set_option maxRecDepth 20000

/-- A name, and what is left. -/
def rnm (σ : Option (List Int)) : ByteArray := strOfNums (tk (num (tk 1 σ)).toNat (nx 1 σ))
def rnx (σ : Option (List Int)) : Option (List Int) := nx (num (tk 1 σ)).toNat (nx 1 σ)
end Go.Proofs.YtnddbklbgddblaaDoor

namespace Go.Proofs.YtnddbklbgddblaaDoor
open Go.RowKit
open Sm
open Cf
set_option linter.unusedVariables false
set_option maxRecDepth 20000

end Go.Proofs.YtnddbklbgddblaaDoor

namespace Go.Proofs.YtnddbklbgddblaaDoor
open Go.RowKit
open Sm
open Cf
set_option linter.unusedVariables false
set_option maxRecDepth 20000

/-- A change. -/
structure Chg where
  put : Bool
  name : ByteArray
  t : Ten
def hc (h : Chg) (p s q : Value) : List Value := .bool h.put :: .string h.name :: tc h.t p s q
def HV (V : World) (v : Value) (h : Chg) : Prop := TLen h.t ∧ ∃ p s q, v = .agg (hc h p s q).toArray ∧ Rw V 1 p (ux h.t.pool) ∧ Rw V 2 s (px h.t.stat) ∧ Rw V 2 q (px h.t.twi)
abbrev hz0 : Array Value := (hc ⟨false, ByteArray.empty, ten0⟩ nilV nilV nilV).toArray
theorem Out.none {w V : World} {u : Value} {l : List Int} : ∀ K, Out w V u l K → Out w V u l [] := by
  intro K
  induction K with
  | nil => exact id
  | cons p K ih => exact fun h => ih h.drop
end Go.Proofs.YtnddbklbgddblaaDoor

