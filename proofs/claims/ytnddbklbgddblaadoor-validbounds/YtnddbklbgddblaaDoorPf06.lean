/-
  Of no one layer: words of two and four bytes, a block of bytes into which numbers are written, a struct's box and a row of bytes behind it that grows, and what integers and bytes that come in are.
  Hexadecimal digits: the program's hexValue and readHex, and the document's own hex and two.
  The document's own parts of a text, between a sign.
-/
import Derived.Test.YtnddbklbgddblaaDoorPf05
import Derived.ProofKit
import Derived.OpenShut
import Derived.Lib.SmallJoins
import Derived.Test.YtnddbklbgddblaaDoorPf02
import Derived.Lib.OthersKept
namespace Go.Proofs.YtnddbklbgddblaaDoor
open Go.RowKit
open Sm
set_option linter.unusedVariables false

namespace Sm
theorem bytes_nil : IsBytes [] := fun i => by simp
end Sm

theorem wrap32_small (x : Int) (h0 : 0 ≤ x) (h1 : x ≤ 4294967295) : IntKind.u32.wrap x = x := wraps_u32 x h0 (by omega)
theorem Mem.push1 {w W : World} {o : Obj} {g : Nat} (h : Mem w W []) (hg : g = W.heap.size) : Mem w (W.alloc o) [(g, o)] := h.push g o hg
theorem Wrote.trans {w w1 w2 : World} {g : Nat} {x y : Array Value} {t u : TypeId} (h : Wrote w w1 g x t) (k : Wrote w1 w2 g y u) : Wrote w w2 g y u :=
  ⟨k.here, fun j hj => (k.there j hj).trans (h.there j hj), k.size.trans h.size, fun B w0 hB hb => k.below B w0 hB (h.below B w0 hB hb)⟩
theorem Wrote.cell {w w1 : World} {g : Nat} {x : Array Value} {t : TypeId} (h : Wrote w w1 g x t) {b i : Nat} (hb : g ≠ b) : w1.cell? ⟨b, i, none⟩ = w.cell? ⟨b, i, none⟩ := by
  unfold World.cell?; simp only; rw [h.there b (fun e => hb e.symm)]
theorem Wrote.row {w w1 : World} {g : Nat} {x : Array Value} {t : TypeId} (h : Wrote w w1 g x t) {b off : Nat} (hb : g ≠ b) {l : List Int} (hr : Row w (some ⟨b, off, none⟩) l) : Row w1 (some ⟨b, off, none⟩) l :=
  ⟨hr.bytes, hr.len, Or.inr ⟨b, off, rfl, fun i hi => by rw [h.cell hb]; exact hr.cellAt i hi⟩⟩

theorem Mem.join {w0 w w' : World} {L K : List (Nat × Obj)} (h : Mem w0 w L) (k : Mem w w' K) : Mem w0 w' (L ++ K) := by
  have hs := h.below.size
  refine ⟨h.below.trans (k.below.mono hs), fun p hp => ?_, fun p hp => ?_, ?_⟩
  · rcases List.mem_append.mp hp with hp | hp
    · exact h.low p hp
    · exact Nat.le_trans hs (k.low p hp)
  · rcases List.mem_append.mp hp with hp | hp
    · rw [k.below.block p.1 (h.lt hp)]; exact h.at_ p hp
    · exact k.at_ p hp
  · rw [List.map_append, List.nodup_append]
    refine ⟨h.apart, k.apart, fun a ha b hb => ?_⟩
    obtain ⟨p, hp, rfl⟩ := List.mem_map.mp ha
    obtain ⟨q, hq, rfl⟩ := List.mem_map.mp hb
    have h1 := h.lt hp
    have h2 := k.low q hq
    omega

/-- Bytes as cells. -/
abbrev bs (l : List Int) : Array Value := (l.map (Value.int .u8)).toArray
theorem bs_set (l : List Int) (i : Nat) (x : Int) : (bs l).setIfInBounds i (.int .u8 x) = bs (l.set i x) := by
  simp [bs, List.map_set]
/-- n noughts into which numbers were written at their places. -/
def blz (n : Nat) (xs : List (Nat × Int)) : List Int := xs.foldl (fun l q => l.set q.1 q.2) (List.replicate n 0)
theorem blz_snoc (n : Nat) (xs : List (Nat × Int)) (i : Nat) (x : Int) : (blz n xs).set i x = blz n (xs ++ [(i, x)]) := by simp [blz]
theorem Mem.put {w W : World} {L : List (Nat × Obj)} (hM : Mem w W L) (i : Nat) {g n : Nat} {xs : List (Nat × Int)} (hi : L[i]? = some (g, .cells (bs (blz n xs)) 5 (0, 0))) (j : Nat) (x : Int) :
    Mem w (W.setCell ⟨g, j, none⟩ (.int .u8 x)) (L.set i (g, .cells (bs (blz n (xs ++ [(j, x)]))) 5 (0, 0))) := by
  have := hM.set i hi j (.int .u8 x)
  rwa [bs_set, blz_snoc] at this
/-- A struct of type T boxed in block w.heap.size, and a row of bytes behind it that grows. -/
structure Inv (T : TypeId) (w W : World) (pA : Array Value) (v : Value) (n : Nat) (L : List Int) : Prop where
  own : W.ownsRow (w.heap.size + 1) 5 1 v n (L.map (Value.int .u8))
  mem : Mem w W [(w.heap.size, .cells pA T (0, 0))]
  size : w.heap.size + 1 ≤ W.heap.size
section
variable {T : TypeId} {w W W' : World} {pA : Array Value} {v v' : Value} {n m : Nat} {L K : List Int}
theorem Inv.next (h : Inv T w W pA v n L) (ho : W'.ownsRow (w.heap.size + 1) 5 1 v' m (K.map (Value.int .u8))) (hb : Below (w.heap.size + 1) W W') : Inv T w W' pA v' m K :=
  ⟨ho, h.mem.over hb (Nat.le_succ _) (fun p hp => by simp at hp; subst hp; exact Nat.lt_succ_self _), Nat.le_trans h.size hb.size⟩
theorem Inv.drew (h : Inv T w W pA v n L) : Inv T w W.drew pA v n L :=
  h.next (own_after h.own ((Below.refl _ _).drew) (Nat.le_refl _)) ((Below.refl _ _).drew)
theorem Inv.cell (h : Inv T w W pA v n L) (i : Nat) : W.cell? ⟨w.heap.size, i, none⟩ = pA[i]? := h.mem.cell 0 rfl i
end
section
open Go.ChangeShapes Go.WideShapes Go.ChangeAt Go.Joins
variable {H : Type} {enc : TypeId × Value → H} {W : World} {base : Nat} {held : Bool}
end
end Go.Proofs.YtnddbklbgddblaaDoor

namespace Go.Proofs.YtnddbklbgddblaaDoor
open Go.RowKit
open Ad
set_option linter.unusedVariables false

end Go.Proofs.YtnddbklbgddblaaDoor

namespace Go.Proofs.YtnddbklbgddblaaDoor
open Go.RowKit
open Ad
set_option linter.unusedVariables false

end Go.Proofs.YtnddbklbgddblaaDoor

