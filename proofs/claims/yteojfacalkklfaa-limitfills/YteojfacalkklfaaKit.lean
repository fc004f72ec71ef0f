/-
  Of no one layer: words of two and four bytes, a block of bytes into which numbers are written, a struct's box and a row of bytes behind it that grows, and what integers and bytes that come in are.
-/
import Derived.Test.YteojfacalkklfaaPuts
import Derived.Test.YteojfacalkklfaaBytes
import Derived.ProofKit
import Derived.OpenShut
import Derived.Lib.SmallJoins
namespace Go.Proofs.Yteojfacalkklfaa
open Go.RowKit
open Sm
set_option linter.unusedVariables false

namespace Sm
def w16 (l : List Int) (i : Nat) : Int := l.getD i 0 * 256 + l.getD (i + 1) 0
def w32 (l : List Int) (i : Nat) : Int := w16 l i * 65536 + w16 l (i + 2)
theorem w16_range {l : List Int} (h : IsBytes l) (i : Nat) : 0 ≤ w16 l i ∧ w16 l i ≤ 65535 := by
  have a := h i; have b := h (i + 1); unfold w16; omega
theorem w32_range {l : List Int} (h : IsBytes l) (i : Nat) : 0 ≤ w32 l i ∧ w32 l i ≤ 4294967295 := by
  have a := w16_range h i; have b := w16_range h (i + 2); unfold w32; omega
theorem bytes_cons {x : Int} {l : List Int} (hx : 0 ≤ x ∧ x ≤ 255) (h : IsBytes l) : IsBytes (x :: l) := by
  intro i
  cases i with
  | zero => simpa using hx
  | succ i => simpa using h i
theorem bytes_nil : IsBytes [] := fun i => by simp
theorem b123 : IsBytes [1, 2, 3] := bytes_cons (by decide) (bytes_cons (by decide) (bytes_cons (by decide) bytes_nil))
theorem bytes_part {l : List Int} (h : IsBytes l) (i m : Nat) : IsBytes ((l.drop i).take m) := by
  intro j
  by_cases hj : j < m
  · have : ((l.drop i).take m).getD j 0 = l.getD (i + j) 0 := by simp [List.getD, hj]
    rw [this]; exact h _
  · have : ((l.drop i).take m).getD j 0 = 0 := by
      simp only [List.getD]; rw [List.getElem?_eq_none (by simp; omega)]; rfl
    rw [this]; omega
end Sm

theorem wraps_u8 (n : Int) (h0 : 0 ≤ n) (h1 : n < 2 ^ 8) : IntKind.u8.wrap n = n := by rw [IntKind.wrap_u8']; omega
theorem wrap64_small (x : Int) (h0 : 0 ≤ x) (h1 : x ≤ 1000000) : IntKind.i64.wrap x = x := by rw [IntKind.wrap_i64]; omega
theorem wrap32_small (x : Int) (h0 : 0 ≤ x) (h1 : x ≤ 4294967295) : IntKind.u32.wrap x = x := wraps_u32 x h0 (by omega)
theorem sm_long (x y : Int) (h0 : 0 ≤ x) (h1 : x ≤ 65535) (h2 : 0 ≤ y) (h3 : y ≤ 65535) : bits .or .u32 (x * 65536) y = x * 65536 + y :=
  bits_join .u32 32 (by decide) wraps_u32 16 (x * 65536) y (by omega) (by omega) (by omega) h2 (by omega) (by omega)

/-! ### Rows in worlds that only grew or drew. -/
theorem row_alloc {w : World} {a : Option Addr} {l : List Int} {o : Obj} (h : Row w a l) : Row (w.alloc o) a l := h.below ((Below.refl _ _).alloc (Nat.le_refl _) _) (Nat.le_refl _)
theorem row_drew {w : World} {a : Option Addr} {l : List Int} (h : Row w a l) : Row w.drew a l := h.below ((Below.refl _ _).drew) (Nat.le_refl _)
theorem row_drewN {w : World} {a : Option Addr} {l : List Int} {n : Nat} (h : Row w a l) : Row (w.drewN n) a l := h.below (below_drewN (Below.refl _ _) n) (Nat.le_refl _)

/-- A block more, among none, one, two. -/
theorem Mem.push1 {w W : World} {o : Obj} {g : Nat} (h : Mem w W []) (hg : g = W.heap.size) : Mem w (W.alloc o) [(g, o)] := h.push g o hg
theorem Mem.push2 {w W : World} {p : Nat × Obj} {o : Obj} {g : Nat} (h : Mem w W [p]) (hg : g = W.heap.size) : Mem w (W.alloc o) [p, (g, o)] := h.push g o hg
theorem Mem.push3 {w W : World} {p q : Nat × Obj} {o : Obj} {g : Nat} (h : Mem w W [p, q]) (hg : g = W.heap.size) : Mem w (W.alloc o) [p, q, (g, o)] := h.push g o hg
theorem Mem.push4 {w W : World} {p q r : Nat × Obj} {o : Obj} {g : Nat} (h : Mem w W [p, q, r]) (hg : g = W.heap.size) : Mem w (W.alloc o) [p, q, r, (g, o)] := h.push g o hg

theorem Wrote.trans {w w1 w2 : World} {g : Nat} {x y : Array Value} {t u : TypeId} (h : Wrote w w1 g x t) (k : Wrote w1 w2 g y u) : Wrote w w2 g y u :=
  ⟨k.here, fun j hj => (k.there j hj).trans (h.there j hj), k.size.trans h.size, fun B w0 hB hb => k.below B w0 hB (h.below B w0 hB hb)⟩
theorem Wrote.drewN {w w1 : World} {g : Nat} {x : Array Value} {t : TypeId} (h : Wrote w w1 g x t) (q : Nat) : Wrote w (w1.drewN q) g x t :=
  ⟨h.here, h.there, h.size, fun B w0 hB hb => below_drewN (h.below B w0 hB hb) q⟩
theorem Wrote.cell {w w1 : World} {g : Nat} {x : Array Value} {t : TypeId} (h : Wrote w w1 g x t) {b i : Nat} (hb : g ≠ b) : w1.cell? ⟨b, i, none⟩ = w.cell? ⟨b, i, none⟩ := by
  unfold World.cell?; simp only; rw [h.there b (fun e => hb e.symm)]
theorem Wrote.row {w w1 : World} {g : Nat} {x : Array Value} {t : TypeId} (h : Wrote w w1 g x t) {b off : Nat} (hb : g ≠ b) {l : List Int} (hr : Row w (some ⟨b, off, none⟩) l) : Row w1 (some ⟨b, off, none⟩) l :=
  ⟨hr.bytes, hr.len, Or.inr ⟨b, off, rfl, fun i hi => by rw [h.cell hb]; exact hr.cellAt i hi⟩⟩

/-- What was made, and what was made from there. -/
theorem Mem.join {w0 w w' : World} {L K : List (Nat × Obj)} (h : Mem w0 w L) (k : Mem w w' K) : Mem w0 w' (L ++ K) := by
  have hs := h.below.size
  refine ⟨h.below.trans (k.below.mono hs), fun p hp => ?_, fun p hp => ?_, ?_⟩
  · rcases List.mem_append.mp hp with hp | hp
    · exact h.low p hp
    · exact Nat.le_trans hs (k.low p hp)
  · rcases List.mem_append.mp hp with hp | hp
    · rw [k.below.block p.1 (h.lt hp)]; exact h.at_ p hp
    · exact k.at_ p hp
  · rw [List.map_append, List.nodup_append]
    refine ⟨h.apart, k.apart, fun a ha b hb => ?_⟩
    obtain ⟨p, hp, rfl⟩ := List.mem_map.mp ha
    obtain ⟨q, hq, rfl⟩ := List.mem_map.mp hb
    have h1 := h.lt hp
    have h2 := k.low q hq
    omega

/-! ### A block of bytes. -/
/-- Bytes as cells. -/
abbrev bs (l : List Int) : Array Value := (l.map (Value.int .u8)).toArray
theorem bs_get {l : List Int} {i : Nat} (h : i < l.length) : (bs l)[i]? = some (.int .u8 (l.getD i 0)) := by simp [h]
theorem bs_set (l : List Int) (i : Nat) (x : Int) : (bs l).setIfInBounds i (.int .u8 x) = bs (l.set i x) := by
  simp [bs, List.map_set]
theorem bs_made (n : Nat) : madeCells #[Value.int .u8 0] n = bs (List.replicate n 0) := by
  apply Array.toList_inj.mp; rw [toList_madeCells_one]; simp
theorem bs_size (l : List Int) : (bs l).size = l.length := by simp [bs]

/-- n noughts into which numbers were written at their places. -/
def blz (n : Nat) (xs : List (Nat × Int)) : List Int := xs.foldl (fun l q => l.set q.1 q.2) (List.replicate n 0)
theorem blz_snoc (n : Nat) (xs : List (Nat × Int)) (i : Nat) (x : Int) : (blz n xs).set i x = blz n (xs ++ [(i, x)]) := by simp [blz]
theorem fold_set_len (xs : List (Nat × Int)) (l : List Int) : (xs.foldl (fun l q => l.set q.1 q.2) l).length = l.length := by
  induction xs generalizing l with
  | nil => rfl
  | cons x xs ih => simp [List.foldl_cons, ih]
theorem blz_len (n : Nat) (xs : List (Nat × Int)) : (blz n xs).length = n := by simp [blz, fold_set_len]

theorem Mem.put {w W : World} {L : List (Nat × Obj)} (hM : Mem w W L) (i : Nat) {g n : Nat} {xs : List (Nat × Int)} (hi : L[i]? = some (g, .cells (bs (blz n xs)) 5 (0, 0))) (j : Nat) (x : Int) :
    Mem w (W.setCell ⟨g, j, none⟩ (.int .u8 x)) (L.set i (g, .cells (bs (blz n (xs ++ [(j, x)]))) 5 (0, 0))) := by
  have := hM.set i hi j (.int .u8 x)
  rwa [bs_set, blz_snoc] at this
theorem Mem.spot {w W : World} {L : List (Nat × Obj)} (hM : Mem w W L) (i : Nat) {g n : Nat} {xs : List (Nat × Int)} (hi : L[i]? = some (g, .cells (bs (blz n xs)) 5 (0, 0))) (j : Nat) (hj : j < n) :
    ∃ z, W.cell? ⟨g, j, none⟩ = some (.int .u8 z) := ⟨_, (hM.cell i hi j).trans (bs_get (by rw [blz_len]; exact hj))⟩
/-- Two bytes written one behind the other. -/
theorem Mem.put2 {w W W' : World} {L : List (Nat × Obj)} (hM : Mem w W L) (i : Nat) {g n : Nat} {xs : List (Nat × Int)} (hi : L[i]? = some (g, .cells (bs (blz n xs)) 5 (0, 0))) (j : Nat) (x y : Int)
    (hW : W' = (W.setCell ⟨g, j, none⟩ (.int .u8 x)).setCell ⟨g, j + 1, none⟩ (.int .u8 y)) : Mem w W' (L.set i (g, .cells (bs (blz n (xs ++ [(j, x), (j + 1, y)]))) 5 (0, 0))) := by
  subst hW
  have h1 := hM.put i hi j x
  have hil := (List.getElem?_eq_some_iff.mp hi).1
  have h2 := h1.put i (by rw [List.getElem?_set_self hil]) (j + 1) y
  rw [List.set_set, List.append_assoc] at h2
  exact h2

theorem mem_owns {w W : World} {L : List (Nat × Obj)} (hM : Mem w W L) (i : Nat) {g : Nat} {l : List Int} (hi : L[i]? = some (g, .cells (bs l) 5 (0, 0))) (n : Nat) (hn : l.length = n) (hm : n ≤ 140737488351232) :
    W.ownsRow w.heap.size 5 1 (.slice (some ⟨g, 0, none⟩) n n) n (l.map (Value.int .u8)) := by
  refine ⟨by simp [hn], Or.inr ⟨g, n, bs l, rfl, hM.ge i hi, hM.get i hi, Nat.le_refl _, by unfold maxLen; omega, ?_, ?_⟩⟩
  · rw [bs_size]; omega
  · exact List.take_of_length_le (by simp [hn])

/-- What a copy into the middle leaves. -/
theorem bs_fill (p q r m : List Int) (hm : m.length = q.length) : (bs (p ++ q ++ r)).toList = (bs (p ++ m ++ r)).toList.take p.length ++ (q.map (Value.int .u8) ++ (bs (p ++ m ++ r)).toList.drop (p.length + q.length)) := by
  simp only [List.map_append, List.append_assoc]
  have e1 : (p.map (Value.int .u8) ++ (m.map (Value.int .u8) ++ r.map (Value.int .u8))).take p.length = p.map (Value.int .u8) := List.take_left' (by simp)
  have e2 : (p.map (Value.int .u8) ++ (m.map (Value.int .u8) ++ r.map (Value.int .u8))).drop (p.length + q.length) = r.map (Value.int .u8) := by
    rw [← List.append_assoc]; exact List.drop_left' (by simp [hm])
  rw [e1, e2]
/-- What a copy to the end leaves. -/
theorem bs_tail (p q : List Int) (k m : Nat) (hk : p.length = k) (hq : q.length = m) : (bs (p ++ q)).toList = (bs (p ++ List.replicate m 0)).toList.take k ++ (q.map (Value.int .u8) ++ (bs (p ++ List.replicate m 0)).toList.drop (k + q.length)) := by
  subst hk hq
  simp

/-! ### Rows of the call's own. -/
theorem own_shape2 {w : World} {B : Nat} {v : Value} {l : List Int} {n : Nat} (h : w.ownsRow B 5 1 v n (l.map (Value.int .u8))) (hn : l.length = n) (hl : 0 < n) :
    ∃ g cap, v = .slice (some ⟨g, 0, none⟩) n cap ∧ B ≤ g ∧ n ≤ cap ∧ OwnB w B g cap l := by
  subst hn
  obtain ⟨h1, h2⟩ := h
  rcases h2 with ⟨rfl, h3⟩ | ⟨g, cap, cur, rfl, hg, r⟩
  · omega
  · exact ⟨g, cap, rfl, hg, r.2.1, h1, Or.inr ⟨g, cap, cur, rfl, hg, r⟩⟩
theorem own_base {W : World} {B C : Nat} {v : Value} {n : Nat} {xs : List Value} (h : W.ownsRow B 5 1 v n xs) (hC : C ≤ B) : W.ownsRow C 5 1 v n xs := by
  obtain ⟨h1, h2⟩ := h
  rcases h2 with h2 | ⟨g, cap, cur, e, hg, r⟩
  · exact ⟨h1, Or.inl h2⟩
  · exact ⟨h1, Or.inr ⟨g, cap, cur, e, Nat.le_trans hC hg, r⟩⟩
theorem own_len {W : World} {B : Nat} {v : Value} {n : Nat} {xs : List Value} (h : W.ownsRow B 5 1 v n xs) : ∃ a cap, v = .slice a n cap := by
  obtain ⟨h1, h2⟩ := h
  rcases h2 with ⟨rfl, h3⟩ | ⟨g, cap, cur, rfl, hg, r⟩
  · subst h3; exact ⟨none, 0, rfl⟩
  · exact ⟨_, cap, rfl⟩

/-- A struct of type T boxed in block w.heap.size, and a row of bytes behind it that grows. -/
structure Inv (T : TypeId) (w W : World) (pA : Array Value) (v : Value) (n : Nat) (L : List Int) : Prop where
  own : W.ownsRow (w.heap.size + 1) 5 1 v n (L.map (Value.int .u8))
  mem : Mem w W [(w.heap.size, .cells pA T (0, 0))]
  size : w.heap.size + 1 ≤ W.heap.size
section
variable {T : TypeId} {w W W' : World} {pA : Array Value} {v v' : Value} {n m : Nat} {L K : List Int}
theorem Inv.next (h : Inv T w W pA v n L) (ho : W'.ownsRow (w.heap.size + 1) 5 1 v' m (K.map (Value.int .u8))) (hb : Below (w.heap.size + 1) W W') : Inv T w W' pA v' m K :=
  ⟨ho, h.mem.over hb (Nat.le_succ _) (fun p hp => by simp at hp; subst hp; exact Nat.lt_succ_self _), Nat.le_trans h.size hb.size⟩
theorem Inv.drew (h : Inv T w W pA v n L) : Inv T w W.drew pA v n L :=
  h.next (own_after h.own ((Below.refl _ _).drew) (Nat.le_refl _)) ((Below.refl _ _).drew)
theorem Inv.cell (h : Inv T w W pA v n L) (i : Nat) : W.cell? ⟨w.heap.size, i, none⟩ = pA[i]? := h.mem.cell 0 rfl i
theorem Inv.grows (h : Inv T w W pA v n L) (o : Obj) : Inv T w (W.alloc o) pA v n L :=
  h.next (own_after h.own ((Below.refl _ _).alloc (Nat.le_refl _) o) (Nat.le_refl _)) ((Below.refl _ _).alloc h.size o)
theorem inv_nil (h : Mem w W [(w.heap.size, .cells pA T (0, 0))]) : Inv T w W pA (.slice none 0 0) 0 [] :=
  ⟨World.ownsRow_nil _ _ _ _, h, h.lt (p := (w.heap.size, _)) (List.mem_cons_self ..)⟩
end
/-! ### What comes in. -/
section
open Go.ChangeShapes Go.WideShapes Go.ChangeAt Go.Joins
variable {H : Type} {enc : TypeId × Value → H} {W : World} {base : Nat} {held : Bool}
theorem open_cell {fuel : Nat} {t : TypeId} {k : IntKind} {c0 : Value} {y : DataW H × List MemPlace} (hu : Try.prog.underlying t = some (.int k)) (h : DataW.trod enc Try.prog W base (fun _ => true) held fuel t [c0] = some y) :
    ∃ x, c0 = .int k x ∧ (Lit.int k x).wf = true := by
  obtain ⟨a, e0, -, wa⟩ := DataW.trod_int hu h
  simp only [List.cons.injEq, and_true] at e0
  exact ⟨a, e0, wa⟩
end
end Go.Proofs.Yteojfacalkklfaa
