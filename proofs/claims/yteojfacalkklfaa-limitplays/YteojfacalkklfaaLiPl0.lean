/-
  Tokens: a script's acts.
-/
import Derived.Test.YteojfacalkklfaaLiKnown
namespace Go.Proofs.Yteojfacalkklfaa
open Go.RowKit
open Sm
open Li
set_option linter.unusedVariables false
set_option linter.unusedSimpArgs false
set_option maxRecDepth 20000

namespace Li
structure A20 where
  what : Int
  n : Int
  rate : Int
  burst : Int
  small : Bool
def ac20 (x : A20) : List Value := [.int .i64 x.what, .int .u32 x.n, .int .u32 x.rate, .int .u32 x.burst, .bool x.small]
def A20W (x : A20) : Prop := U x.n ∧ U x.rate ∧ U x.burst
/-- Acts in a slice. -/
def Acts20 (W : World) (a : Option Addr) (n : Nat) (X : Nat → A20) : Prop :=
  ∀ i, i < n → A20W (X i) ∧ ∃ b off, a = some ⟨b, off, none⟩ ∧ ∀ j u, (ac20 (X i))[j]? = some u → W.cell? ⟨b, off + i * 5 + j, none⟩ = some u
theorem Acts20.at_ {W V : World} {a : Option Addr} {n : Nat} {X : Nat → A20} (h : Acts20 W a n X) (hb : Below W.heap.size W V) (i : Nat) (hi : i < n) :
    A20W (X i) ∧ ∃ b off, a = some ⟨b, off, none⟩ ∧ V.cell? ⟨b, off + i * 5, none⟩ = some (.int .i64 (X i).what) ∧ V.cell? ⟨b, off + i * 5 + 1, none⟩ = some (.int .u32 (X i).n) ∧ V.cell? ⟨b, off + i * 5 + 2, none⟩ = some (.int .u32 (X i).rate) ∧ V.cell? ⟨b, off + i * 5 + 3, none⟩ = some (.int .u32 (X i).burst) ∧ V.cell? ⟨b, off + i * 5 + 4, none⟩ = some (.bool (X i).small) := by
  obtain ⟨hx, b, off, e, hc⟩ := h i hi
  have t : ∀ j u, (ac20 (X i))[j]? = some u → V.cell? ⟨b, off + i * 5 + j, none⟩ = some u := fun j u hj => by
    have := hc j u hj
    rw [hb.cell (p := ⟨b, off + i * 5 + j, none⟩) (cell_lt this)]
    exact this
  exact ⟨hx, b, off, e, t 0 _ rfl, t 1 _ rfl, t 2 _ rfl, t 3 _ rfl, t 4 _ rfl⟩
theorem in20 {w V : World} {A B G : Nat × Obj} (h : Mem w V [A, B]) {g : Nat} (hg : V.heap.size = g) {c : Array Value} {T : TypeId} : Mem w (V.alloc (.cells c T)) [A, B, (g, .cells c T (0, 0))] := h.push g _ hg.symm
theorem out20 {w V : World} {A B G : Nat × Obj} (h : Mem w V [A, B, G]) : Mem w V [A, B] := (h.perm (List.perm_append_comm (l₁ := [A, B]) (l₂ := [G]))).sub
theorem swp20 {w V : World} {A B G : Nat × Obj} (h : Mem w V [A, B, G]) : Mem w V [B, A, G] := h.perm (List.Perm.swap _ _ _)
/-- What an act makes of the numbers. -/
structure Nb where
  r : Int
  b : Int
  l : Int
def Nb.Ok (x : Nb) : Prop := U x.r ∧ U x.b ∧ 0 ≤ x.l ∧ x.l ≤ x.b
/-- Both buckets, the act's box beside. -/
def B3 (W : World) (p pm : Nat) (G : Nat × Obj) (x : Nb) (V : World) : Prop := Mem W V [Bk 43 p x.r x.b x.l, Bk 29 pm x.r x.b x.l, G]
end Li
end Go.Proofs.Yteojfacalkklfaa
