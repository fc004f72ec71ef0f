/-
  Plain mathematics: each number, each address has its one text.
  Settings as bytes: what is asked of a field: its three functions, in every world that keeps what they captured.
  Settings as bytes: the field of a list's length (lych/api.Tenant, uint32).
  Settings as bytes: the field of a list's length (lych/api.Tenant, lych/api.Pair).
  Settings as bytes: the field of a list's length (lych/api.Config, lych/api.Tenant).
-/
import Derived.Test.YtnddbklbgddblaaDoorPf10
import Derived.Lib.ItoaNum
import Derived.Lib.Join
import Derived.Test.YtnddbklbgddblaaDoorPf09
namespace Go.Proofs.YtnddbklbgddblaaDoor
namespace Ad
set_option linter.unusedVariables false
open Go.Lib (decDigits)

theorem dec_small {n : Nat} (h : n < 10) : decDigits n = [UInt8.ofNat (48 + n)] := Lib.decDigits_one h
theorem dec_big {n : Nat} (h : ¬ n < 10) : decDigits n = decDigits (n / 10) ++ [UInt8.ofNat (48 + n % 10)] := by rw [decDigits, dif_neg h]
/-- The text of an address of version 4. -/
def ipt (a : Nat) : List UInt8 := Lib.join [decDigits (a / 16777216), decDigits (a / 65536 % 256), decDigits (a / 256 % 256), decDigits (a % 256)] [46]
def hex2 (x : Int) : List UInt8 := [UInt8.ofNat (hdg (x.toNat / 16)), UInt8.ofNat (hdg (x.toNat % 16))]
/-- The text of a hardware address, of a key. -/
def mact (l : List Int) : List UInt8 := Lib.join (l.map hex2) [58]
def keyt (l : List Int) : List UInt8 := l.flatMap hex2
theorem keyt_len : ∀ (l : List Int), (keyt l).length = 2 * l.length
  | [] => rfl
  | x :: l => by
    have := keyt_len l
    simp only [keyt, List.flatMap_cons, List.length_append, List.length_cons] at this ⊢
    simp only [hex2, List.length_cons, List.length_nil]; omega
end Ad
end Go.Proofs.YtnddbklbgddblaaDoor

namespace Go.Proofs.YtnddbklbgddblaaDoor
open Go.RowKit
open Sm
open Cf
set_option linter.unusedVariables false
set_option maxRecDepth 20000

/-- A field's three functions: their numbers and what they captured. -/
structure Fv where
  kw : Nat
  kr : Nat
  ks : Nat
  cw : Array Value
  cr : Array Value
  cs : Array Value
def Fv.cells (f : Fv) : List Value := [.func (.func f.kw) #[] f.cw, .func (.func f.kr) #[] f.cr, .func (.func f.ks) #[] f.cs]
def Fv.val (f : Fv) : Value := .agg #[.func (.func f.kw) #[] f.cw, .func (.func f.kr) #[] f.cr, .func (.func f.ks) #[] f.cs]
def Ent (k : Nat) : Prop := ∀ args V, (callFunc k args).run Tryd.prog V = .ok (.enter k args) V
/-- x lies at a place of a world, its lists where r says. -/
abbrev Rp (α ρ : Type) := α → ρ → World → Nat → Nat → Prop
/-- x lies in a block of the call's own, between other cells, and may be written over. -/
abbrev St' (α : Type) := World → α → Nat → TypeId → List Value → List Value → World → List (Nat × Obj) → Prop
/-- What a field writes, reads, holds to be the same. -/
structure Sp (α : Type) where
  enc : α → List Int
  dec : List Int → α → Option (α × List Int)
  eq : α → α → Bool
def Sub (L K : List (Nat × Obj)) : Prop := ∀ q ∈ L, q ∈ K
theorem Sub.refl (L : List (Nat × Obj)) : Sub L L := fun _ h => h
theorem Sub.trans {A B C : List (Nat × Obj)} (h : Sub A B) (k : Sub B C) : Sub A C := fun q hq => k q (h q hq)
theorem Sub.cons {L K : List (Nat × Obj)} (h : Sub L K) (p : Nat × Obj) : Sub L (p :: K) := fun q hq => List.mem_cons_of_mem _ (h q hq)
structure Fd {α ρ : Type} (w : World) (L : List (Nat × Obj)) (I : Rp α ρ) (J : St' α) (f : Fv) (s : Sp α) : Prop where
  ew : Ent f.kw
  er : Ent f.kr
  es : Ent f.ks
  wr : ∀ K, Sub L K → ∀ x r g off, (∀ V, Mem w V K → I x r V g off) → ∀ v l V, Out w V v l K → l.length + (s.enc x).length ≤ 1000000000 →
    Calls Tryd.prog f.kw (#[v, .pointer (some ⟨g, off, none⟩)] ++ f.cw) V fun e V' => ∃ v', e = .returned v' ∧ Out w V' v' (l ++ s.enc x) K
  rd : ∀ K, Sub L K → ∀ x g T pre post a l c V, J w x g T pre post V K → Sl w a l c →
    Calls Tryd.prog f.kr (#[.slice a l.length c, .pointer (some ⟨g, pre.length, none⟩)] ++ f.cr) V (RPost w K (fun y V' => J w y g T pre post V' K) (s.dec l x))
  sm : ∀ K, Sub L K → ∀ x y r r' g off h of', (∀ V, Mem w V K → I x r V g off ∧ I y r' V h of') → ∀ V, Mem w V K →
    Calls Tryd.prog f.ks (#[.pointer (some ⟨g, off, none⟩), .pointer (some ⟨h, of', none⟩)] ++ f.cs) V fun e V' => e = .returned (.bool (s.eq x y)) ∧ Mem w V' K
theorem Fd.more {α ρ : Type} {w : World} {L K : List (Nat × Obj)} {I : Rp α ρ} {J : St' α} {f : Fv} {s : Sp α} (h : Fd w L I J f s) (hs : Sub L K) : Fd w K I J f s :=
  ⟨h.ew, h.er, h.es, fun M hM => h.wr M (hs.trans hM), fun M hM => h.rd M (hs.trans hM), fun M hM => h.sm M (hs.trans hM)⟩
/-- Fields, one by one. -/
inductive FdAll {α ρ : Type} (w : World) (L : List (Nat × Obj)) (I : Rp α ρ) (J : St' α) : List Fv → List (Sp α) → Prop
  | nil : FdAll w L I J [] []
  | cons {f : Fv} {s : Sp α} {fs : List Fv} {ss : List (Sp α)} : Fd w L I J f s → FdAll w L I J fs ss → FdAll w L I J (f :: fs) (s :: ss)
def fv0 : Fv := ⟨0, 0, 0, #[], #[], #[]⟩
def sp0 {α : Type} : Sp α := ⟨fun _ => [], fun _ _ => none, fun _ _ => false⟩
theorem FdAll.at_ {α ρ : Type} {w : World} {L : List (Nat × Obj)} {I : Rp α ρ} {J : St' α} {fs : List Fv} {ss : List (Sp α)} (h : FdAll w L I J fs ss) : ∀ i, i < fs.length → Fd w L I J (fs.getD i fv0) (ss.getD i sp0) := by
  induction h with
  | nil => intro i hi; simp at hi
  | cons h1 h2 ih =>
    intro i hi
    cases i with
    | zero => exact h1
    | succ i => exact ih i (by simpa using hi)
theorem FdAll.len {α ρ : Type} {w : World} {L : List (Nat × Obj)} {I : Rp α ρ} {J : St' α} {fs : List Fv} {ss : List (Sp α)} (h : FdAll w L I J fs ss) : fs.length = ss.length := by
  induction h with
  | nil => rfl
  | cons _ _ ih => simp [ih]
/-- One cell of what is read: where it lies, and what is left when it is written over. -/
structure Lens {α : Type} (w : World) (J : St' α) (o : Nat) (x : α) (g : Nat) (T : TypeId) (pre post : List Value) (V : World) (K M : List (Nat × Obj)) (A : Array Value) : Prop where
  mem : Mem w V ((g, .cells A T (0, 0)) :: M)
  sub : Sub K M
  back : ∀ V', Mem w V' M → Mem w V' K
end Go.Proofs.YtnddbklbgddblaaDoor

namespace Go.Proofs.YtnddbklbgddblaaDoor
open Go.RowKit
open Sm
open Cf
set_option linter.unusedVariables false
set_option maxRecDepth 20000

end Go.Proofs.YtnddbklbgddblaaDoor

namespace Go.Proofs.YtnddbklbgddblaaDoor
open Go.RowKit
open Sm
open Cf
set_option linter.unusedVariables false
set_option maxRecDepth 20000

end Go.Proofs.YtnddbklbgddblaaDoor

namespace Go.Proofs.YtnddbklbgddblaaDoor
open Go.RowKit
open Sm
open Cf
set_option linter.unusedVariables false
set_option maxRecDepth 20000

end Go.Proofs.YtnddbklbgddblaaDoor

