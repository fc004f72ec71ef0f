/-
  DiskPlays: a round's switch, as a piece of the function's own code.
-/
import Derived.Test.YtjabckgjnknhnaaDkPlayEnds
import Derived.Deep.CutBlock
import Derived.BigRegion
namespace Go.Proofs.Ytjabckgjnknhnaa
open Go.RowKit
open Sm
set_option linter.unusedVariables false

/-- The block of this number within a code. -/
def blk (k : Nat) : Code → Option Code
  | .seq a b => match blk k a with
    | some c => some c
    | none => blk k b
  | .cond _ a b => match blk k a with
    | some c => some c
    | none => blk k b
  | .block id c => if id = k then some (.block id c) else blk k c
  | .loop c => blk k c
  | _ => none

theorem wB_len (D : Dk) (m : Nat) (i : Int) (l : List Int) (bl : List (List Int)) : (wB D m i l bl).length = bl.length := by
  unfold wB
  split
  · rfl
  · split <;> simp

/-- Where a round's switch begins. -/
structure SwIn (w1 wb : World) (N m q p h hm cm gx : Nat) (D M : Dk) (hc hcm : Array Value) (ks km : List Bk) (C : Ac) (t : Int) (s2 s10 : Value) (a : Act) : Prop where
  df : a.defers = []
  sz : a.tmps.size = 301
  g2 : a.tmps.getD 2 undef = s2
  g7 : a.tmps.getD 7 undef = .pointer (some ⟨p, 0, none⟩)
  g8 : a.tmps.getD 8 undef = .pointer (some ⟨q, 0, none⟩)
  g10 : a.tmps.getD 10 undef = s10
  g11 : a.tmps.getD 11 undef = .pointer (some ⟨gx, 0, none⟩)
  g12 : a.tmps.getD 12 undef = .int .i64 t
  g94 : a.tmps.getD 94 undef = .int .i64 C.what
  P : Pl w1 wb p h m D hc ks q hm cm M hcm km [(gx, .cells (acA C) acT (0, 0))]
  L : km.length = N
  N1 : 1 ≤ N
  N4 : N ≤ 4
  m0 : 64 ≤ m
  m1 : m ≤ 199
  C : C.Ok
  t0 : -1 ≤ t
  t1 : t ≤ N
end Go.Proofs.Ytjabckgjnknhnaa
