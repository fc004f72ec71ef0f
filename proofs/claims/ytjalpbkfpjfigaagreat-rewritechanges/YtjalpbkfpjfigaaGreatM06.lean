/-
  Of no one layer: words of two and four bytes, a block of bytes into which numbers are written, a struct's box and a row of bytes behind it that grows, and what integers and bytes that come in are.
  What the document's own Words, Add and Of (lychref1) answer, and lychhelp.Words over two rows of the same words.
-/
import Derived.Test.YtjalpbkfpjfigaaGreatM05
import Derived.ProofKit
import Derived.OpenShut
import Derived.Lib.SmallJoins
import Derived.Deep.QuietTactic
import Derived.BigQuiet
namespace Go.Proofs.YtjalpbkfpjfigaaGreat
open Go.RowKit
open Sm
set_option linter.unusedVariables false

namespace Sm
def w16 (l : List Int) (i : Nat) : Int := l.getD i 0 * 256 + l.getD (i + 1) 0
def w32 (l : List Int) (i : Nat) : Int := w16 l i * 65536 + w16 l (i + 2)
theorem w16_range {l : List Int} (h : IsBytes l) (i : Nat) : 0 ≤ w16 l i ∧ w16 l i ≤ 65535 := by
  have a := h i; have b := h (i + 1); unfold w16; omega
theorem w32_range {l : List Int} (h : IsBytes l) (i : Nat) : 0 ≤ w32 l i ∧ w32 l i ≤ 4294967295 := by
  have a := w16_range h i; have b := w16_range h (i + 2); unfold w32; omega
theorem bytes_cons {x : Int} {l : List Int} (hx : 0 ≤ x ∧ x ≤ 255) (h : IsBytes l) : IsBytes (x :: l) := by
  intro i
  cases i with
  | zero => simpa using hx
  | succ i => simpa using h i
theorem bytes_nil : IsBytes [] := fun i => by simp
theorem b123 : IsBytes [1, 2, 3] := bytes_cons (by decide) (bytes_cons (by decide) (bytes_cons (by decide) bytes_nil))
theorem bytes_part {l : List Int} (h : IsBytes l) (i m : Nat) : IsBytes ((l.drop i).take m) := by
  intro j
  by_cases hj : j < m
  · have : ((l.drop i).take m).getD j 0 = l.getD (i + j) 0 := by simp [List.getD, hj]
    rw [this]; exact h _
  · have : ((l.drop i).take m).getD j 0 = 0 := by
      simp only [List.getD]; rw [List.getElem?_eq_none (by simp; omega)]; rfl
    rw [this]; omega
end Sm

theorem wraps_u8 (n : Int) (h0 : 0 ≤ n) (h1 : n < 2 ^ 8) : IntKind.u8.wrap n = n := by rw [IntKind.wrap_u8']; omega
theorem wrap64_small (x : Int) (h0 : 0 ≤ x) (h1 : x ≤ 1000000) : IntKind.i64.wrap x = x := by rw [IntKind.wrap_i64]; omega
theorem wrap32_small (x : Int) (h0 : 0 ≤ x) (h1 : x ≤ 4294967295) : IntKind.u32.wrap x = x := wraps_u32 x h0 (by omega)
theorem sm_long (x y : Int) (h0 : 0 ≤ x) (h1 : x ≤ 65535) (h2 : 0 ≤ y) (h3 : y ≤ 65535) : bits .or .u32 (x * 65536) y = x * 65536 + y :=
  bits_join .u32 32 (by decide) wraps_u32 16 (x * 65536) y (by omega) (by omega) (by omega) h2 (by omega) (by omega)

/-! ### Rows in worlds that only grew or drew. -/
theorem row_alloc {w : World} {a : Option Addr} {l : List Int} {o : Obj} (h : Row w a l) : Row (w.alloc o) a l := h.below ((Below.refl _ _).alloc (Nat.le_refl _) _) (Nat.le_refl _)
theorem row_drew {w : World} {a : Option Addr} {l : List Int} (h : Row w a l) : Row w.drew a l := h.below ((Below.refl _ _).drew) (Nat.le_refl _)
theorem row_drewN {w : World} {a : Option Addr} {l : List Int} {n : Nat} (h : Row w a l) : Row (w.drewN n) a l := h.below (below_drewN (Below.refl _ _) n) (Nat.le_refl _)

/-- A block more, among none, one, two. -/
theorem Mem.push1 {w W : World} {o : Obj} {g : Nat} (h : Mem w W []) (hg : g = W.heap.size) : Mem w (W.alloc o) [(g, o)] := h.push g o hg
theorem Mem.push2 {w W : World} {p : Nat × Obj} {o : Obj} {g : Nat} (h : Mem w W [p]) (hg : g = W.heap.size) : Mem w (W.alloc o) [p, (g, o)] := h.push g o hg
theorem Mem.push3 {w W : World} {p q : Nat × Obj} {o : Obj} {g : Nat} (h : Mem w W [p, q]) (hg : g = W.heap.size) : Mem w (W.alloc o) [p, q, (g, o)] := h.push g o hg
theorem Mem.push4 {w W : World} {p q r : Nat × Obj} {o : Obj} {g : Nat} (h : Mem w W [p, q, r]) (hg : g = W.heap.size) : Mem w (W.alloc o) [p, q, r, (g, o)] := h.push g o hg

theorem Wrote.trans {w w1 w2 : World} {g : Nat} {x y : Array Value} {t u : TypeId} (h : Wrote w w1 g x t) (k : Wrote w1 w2 g y u) : Wrote w w2 g y u :=
  ⟨k.here, fun j hj => (k.there j hj).trans (h.there j hj), k.size.trans h.size, fun B w0 hB hb => k.below B w0 hB (h.below B w0 hB hb)⟩
theorem Wrote.drewN {w w1 : World} {g : Nat} {x : Array Value} {t : TypeId} (h : Wrote w w1 g x t) (q : Nat) : Wrote w (w1.drewN q) g x t :=
  ⟨h.here, h.there, h.size, fun B w0 hB hb => below_drewN (h.below B w0 hB hb) q⟩
theorem Wrote.cell {w w1 : World} {g : Nat} {x : Array Value} {t : TypeId} (h : Wrote w w1 g x t) {b i : Nat} (hb : g ≠ b) : w1.cell? ⟨b, i, none⟩ = w.cell? ⟨b, i, none⟩ := by
  unfold World.cell?; simp only; rw [h.there b (fun e => hb e.symm)]
theorem Wrote.row {w w1 : World} {g : Nat} {x : Array Value} {t : TypeId} (h : Wrote w w1 g x t) {b off : Nat} (hb : g ≠ b) {l : List Int} (hr : Row w (some ⟨b, off, none⟩) l) : Row w1 (some ⟨b, off, none⟩) l :=
  ⟨hr.bytes, hr.len, Or.inr ⟨b, off, rfl, fun i hi => by rw [h.cell hb]; exact hr.cellAt i hi⟩⟩

/-- What was made, and what was made from there. -/
theorem Mem.join {w0 w w' : World} {L K : List (Nat × Obj)} (h : Mem w0 w L) (k : Mem w w' K) : Mem w0 w' (L ++ K) := by
  have hs := h.below.size
  refine ⟨h.below.trans (k.below.mono hs), fun p hp => ?_, fun p hp => ?_, ?_⟩
  · rcases List.mem_append.mp hp with hp | hp
    · exact h.low p hp
    · exact Nat.le_trans hs (k.low p hp)
  · rcases List.mem_append.mp hp with hp | hp
    · rw [k.below.block p.1 (h.lt hp)]; exact h.at_ p hp
    · exact k.at_ p hp
  · rw [List.map_append, List.nodup_append]
    refine ⟨h.apart, k.apart, fun a ha b hb => ?_⟩
    obtain ⟨p, hp, rfl⟩ := List.mem_map.mp ha
    obtain ⟨q, hq, rfl⟩ := List.mem_map.mp hb
    have h1 := h.lt hp
    have h2 := k.low q hq
    omega

/-! ### A block of bytes. -/
/-- Bytes as cells. -/
abbrev bs (l : List Int) : Array Value := (l.map (Value.int .u8)).toArray
theorem bs_get {l : List Int} {i : Nat} (h : i < l.length) : (bs l)[i]? = some (.int .u8 (l.getD i 0)) := by simp [h]
theorem bs_set (l : List Int) (i : Nat) (x : Int) : (bs l).setIfInBounds i (.int .u8 x) = bs (l.set i x) := by
  simp [bs, List.map_set]
theorem bs_made (n : Nat) : madeCells #[Value.int .u8 0] n = bs (List.replicate n 0) := by
  apply Array.toList_inj.mp; rw [toList_madeCells_one]; simp
theorem bs_size (l : List Int) : (bs l).size = l.length := by simp [bs]

/-- n noughts into which numbers were written at their places. -/
def blz (n : Nat) (xs : List (Nat × Int)) : List Int := xs.foldl (fun l q => l.set q.1 q.2) (List.replicate n 0)
theorem blz_snoc (n : Nat) (xs : List (Nat × Int)) (i : Nat) (x : Int) : (blz n xs).set i x = blz n (xs ++ [(i, x)]) := by simp [blz]
theorem fold_set_len (xs : List (Nat × Int)) (l : List Int) : (xs.foldl (fun l q => l.set q.1 q.2) l).length = l.length := by
  induction xs generalizing l with
  | nil => rfl
  | cons x xs ih => simp [List.foldl_cons, ih]
theorem blz_len (n : Nat) (xs : List (Nat × Int)) : (blz n xs).length = n := by simp [blz, fold_set_len]

theorem Mem.put {w W : World} {L : List (Nat × Obj)} (hM : Mem w W L) (i : Nat) {g n : Nat} {xs : List (Nat × Int)} (hi : L[i]? = some (g, .cells (bs (blz n xs)) 5 (0, 0))) (j : Nat) (x : Int) :
    Mem w (W.setCell ⟨g, j, none⟩ (.int .u8 x)) (L.set i (g, .cells (bs (blz n (xs ++ [(j, x)]))) 5 (0, 0))) := by
  have := hM.set i hi j (.int .u8 x)
  rwa [bs_set, blz_snoc] at this
theorem Mem.spot {w W : World} {L : List (Nat × Obj)} (hM : Mem w W L) (i : Nat) {g n : Nat} {xs : List (Nat × Int)} (hi : L[i]? = some (g, .cells (bs (blz n xs)) 5 (0, 0))) (j : Nat) (hj : j < n) :
    ∃ z, W.cell? ⟨g, j, none⟩ = some (.int .u8 z) := ⟨_, (hM.cell i hi j).trans (bs_get (by rw [blz_len]; exact hj))⟩
/-- Two bytes written one behind the other. -/
theorem Mem.put2 {w W W' : World} {L : List (Nat × Obj)} (hM : Mem w W L) (i : Nat) {g n : Nat} {xs : List (Nat × Int)} (hi : L[i]? = some (g, .cells (bs (blz n xs)) 5 (0, 0))) (j : Nat) (x y : Int)
    (hW : W' = (W.setCell ⟨g, j, none⟩ (.int .u8 x)).setCell ⟨g, j + 1, none⟩ (.int .u8 y)) : Mem w W' (L.set i (g, .cells (bs (blz n (xs ++ [(j, x), (j + 1, y)]))) 5 (0, 0))) := by
  subst hW
  have h1 := hM.put i hi j x
  have hil := (List.getElem?_eq_some_iff.mp hi).1
  have h2 := h1.put i (by rw [List.getElem?_set_self hil]) (j + 1) y
  rw [List.set_set, List.append_assoc] at h2
  exact h2

theorem mem_owns {w W : World} {L : List (Nat × Obj)} (hM : Mem w W L) (i : Nat) {g : Nat} {l : List Int} (hi : L[i]? = some (g, .cells (bs l) 5 (0, 0))) (n : Nat) (hn : l.length = n) (hm : n ≤ 140737488351232) :
    W.ownsRow w.heap.size 5 1 (.slice (some ⟨g, 0, none⟩) n n) n (l.map (Value.int .u8)) := by
  refine ⟨by simp [hn], Or.inr ⟨g, n, bs l, rfl, hM.ge i hi, hM.get i hi, Nat.le_refl _, by unfold maxLen; omega, ?_, ?_⟩⟩
  · rw [bs_size]; omega
  · exact List.take_of_length_le (by simp [hn])

/-- What a copy into the middle leaves. -/
theorem bs_fill (p q r m : List Int) (hm : m.length = q.length) : (bs (p ++ q ++ r)).toList = (bs (p ++ m ++ r)).toList.take p.length ++ (q.map (Value.int .u8) ++ (bs (p ++ m ++ r)).toList.drop (p.length + q.length)) := by
  simp only [List.map_append, List.append_assoc]
  have e1 : (p.map (Value.int .u8) ++ (m.map (Value.int .u8) ++ r.map (Value.int .u8))).take p.length = p.map (Value.int .u8) := List.take_left' (by simp)
  have e2 : (p.map (Value.int .u8) ++ (m.map (Value.int .u8) ++ r.map (Value.int .u8))).drop (p.length + q.length) = r.map (Value.int .u8) := by
    rw [← List.append_assoc]; exact List.drop_left' (by simp [hm])
  rw [e1, e2]
/-- What a copy to the end leaves. -/
theorem bs_tail (p q : List Int) (k m : Nat) (hk : p.length = k) (hq : q.length = m) : (bs (p ++ q)).toList = (bs (p ++ List.replicate m 0)).toList.take k ++ (q.map (Value.int .u8) ++ (bs (p ++ List.replicate m 0)).toList.drop (k + q.length)) := by
  subst hk hq
  simp

/-! ### Rows of the call's own. -/
theorem own_shape2 {w : World} {B : Nat} {v : Value} {l : List Int} {n : Nat} (h : w.ownsRow B 5 1 v n (l.map (Value.int .u8))) (hn : l.length = n) (hl : 0 < n) :
    ∃ g cap, v = .slice (some ⟨g, 0, none⟩) n cap ∧ B ≤ g ∧ n ≤ cap ∧ OwnB w B g cap l := by
  subst hn
  obtain ⟨h1, h2⟩ := h
  rcases h2 with ⟨rfl, h3⟩ | ⟨g, cap, cur, rfl, hg, r⟩
  · omega
  · exact ⟨g, cap, rfl, hg, r.2.1, h1, Or.inr ⟨g, cap, cur, rfl, hg, r⟩⟩
theorem own_base {W : World} {B C : Nat} {v : Value} {n : Nat} {xs : List Value} (h : W.ownsRow B 5 1 v n xs) (hC : C ≤ B) : W.ownsRow C 5 1 v n xs := by
  obtain ⟨h1, h2⟩ := h
  rcases h2 with h2 | ⟨g, cap, cur, e, hg, r⟩
  · exact ⟨h1, Or.inl h2⟩
  · exact ⟨h1, Or.inr ⟨g, cap, cur, e, Nat.le_trans hC hg, r⟩⟩
theorem own_len {W : World} {B : Nat} {v : Value} {n : Nat} {xs : List Value} (h : W.ownsRow B 5 1 v n xs) : ∃ a cap, v = .slice a n cap := by
  obtain ⟨h1, h2⟩ := h
  rcases h2 with ⟨rfl, h3⟩ | ⟨g, cap, cur, rfl, hg, r⟩
  · subst h3; exact ⟨none, 0, rfl⟩
  · exact ⟨_, cap, rfl⟩

/-- A struct of type T boxed in block w.heap.size, and a row of bytes behind it that grows. -/
structure Inv (T : TypeId) (w W : World) (pA : Array Value) (v : Value) (n : Nat) (L : List Int) : Prop where
  own : W.ownsRow (w.heap.size + 1) 5 1 v n (L.map (Value.int .u8))
  mem : Mem w W [(w.heap.size, .cells pA T (0, 0))]
  size : w.heap.size + 1 ≤ W.heap.size
section
variable {T : TypeId} {w W W' : World} {pA : Array Value} {v v' : Value} {n m : Nat} {L K : List Int}
theorem Inv.next (h : Inv T w W pA v n L) (ho : W'.ownsRow (w.heap.size + 1) 5 1 v' m (K.map (Value.int .u8))) (hb : Below (w.heap.size + 1) W W') : Inv T w W' pA v' m K :=
  ⟨ho, h.mem.over hb (Nat.le_succ _) (fun p hp => by simp at hp; subst hp; exact Nat.lt_succ_self _), Nat.le_trans h.size hb.size⟩
theorem Inv.drew (h : Inv T w W pA v n L) : Inv T w W.drew pA v n L :=
  h.next (own_after h.own ((Below.refl _ _).drew) (Nat.le_refl _)) ((Below.refl _ _).drew)
theorem Inv.cell (h : Inv T w W pA v n L) (i : Nat) : W.cell? ⟨w.heap.size, i, none⟩ = pA[i]? := h.mem.cell 0 rfl i
theorem Inv.grows (h : Inv T w W pA v n L) (o : Obj) : Inv T w (W.alloc o) pA v n L :=
  h.next (own_after h.own ((Below.refl _ _).alloc (Nat.le_refl _) o) (Nat.le_refl _)) ((Below.refl _ _).alloc h.size o)
theorem inv_nil (h : Mem w W [(w.heap.size, .cells pA T (0, 0))]) : Inv T w W pA (.slice none 0 0) 0 [] :=
  ⟨World.ownsRow_nil _ _ _ _, h, h.lt (p := (w.heap.size, _)) (List.mem_cons_self ..)⟩
end
theorem put16_inv {T : TypeId} {w W : World} {pA : Array Value} {v : Value} {n : Nat} {L : List Int} (h : Inv T w W pA v n L) (hn : n ≤ 1000000) (x : Int) (r0 : 0 ≤ x) (r1 : x ≤ 65535) :
    Calls Tryz.prog 52 #[v, .int .u16 x] W fun e W' => ∃ v', e = .returned v' ∧ Inv T w W' pA v' (n + 2) (L ++ [x / 256, x % 256]) := by
  refine (put16_any h.own h.size hn x r0 r1).mono ?_
  rintro e W' ⟨v', rfl, ho, hb⟩
  exact ⟨v', rfl, h.next (by rw [List.map_append]; exact ho) hb⟩

/-! ### What comes in. -/
section
open Go.ChangeShapes Go.WideShapes Go.ChangeAt Go.Joins
variable {H : Type} {enc : TypeId × Value → H} {W : World} {base : Nat} {held : Bool}
theorem open_bytes {fuel : Nat} {c0 : Value} {y : DataW H × List MemPlace} (h : DataW.trod enc Tryz.prog W base (fun _ => true) held fuel 22 [c0] = some y) :
    ∃ a len cap l, c0 = .slice a len cap ∧ len ≤ 9223372036854775807 ∧ (len ≤ 140737488351232 → Row W a l ∧ l.length = len ∧ (a = none → cap = 0)) := by
  rcases open_ints Tryz.underlying22 Tryz.underlying5 (by kernel_rfl) h with ⟨hcs, _⟩ | ⟨x, l, c, zs, hcs, _, hl, hm, hz, _, hcell, hwz⟩
  · simp only [List.cons.injEq, and_true] at hcs
    subst hcs
    exact ⟨none, 0, 0, [], rfl, by omega, fun _ => ⟨row_nil W, rfl, fun _ => rfl⟩⟩
  · simp only [List.cons.injEq, and_true] at hcs
    subst hcs
    unfold maxLen at hm
    refine ⟨some x, l, c, zs.take l, rfl, by omega, fun h2 => ?_⟩
    obtain ⟨hrow, hlen⟩ := row_of hl (by simpa using hz) hcell (fun n hn => bounds_u8 (hwz n hn)) h2
    exact ⟨hrow, hlen, fun h => by cases h⟩
theorem open_cell {fuel : Nat} {t : TypeId} {k : IntKind} {c0 : Value} {y : DataW H × List MemPlace} (hu : Tryz.prog.underlying t = some (.int k)) (h : DataW.trod enc Tryz.prog W base (fun _ => true) held fuel t [c0] = some y) :
    ∃ x, c0 = .int k x ∧ (Lit.int k x).wf = true := by
  obtain ⟨a, e0, -, wa⟩ := DataW.trod_int hu h
  simp only [List.cons.injEq, and_true] at e0
  exact ⟨a, e0, wa⟩
end
end Go.Proofs.YtjalpbkfpjfigaaGreat

namespace Go.Proofs.YtjalpbkfpjfigaaGreat
open Go.RowKit
open Sm
set_option linter.unusedVariables false

theorem wvs_succ (l : List Int) (k : Nat) : wvs l (k + 1) = wvs l k ++ [.int .u16 (wd l k)] := by
  simp [wvs, List.range_succ]

set_option maxRecDepth 20000 in
set_option maxHeartbeats 1000000 in
theorem rwords_any {w : World} {a : Option Addr} {l : List Int} (h : Row w a l) (hsm : l.length ≤ 70000) (cap : Nat) :
    Calls Tryz.prog 92 #[.slice a l.length cap] w fun e w' => ∃ v, e = .returned v ∧
      w'.ownsRow w.heap.size 30 1 v (cnt l.length) (wvs l (cnt l.length)) ∧ Below w.heap.size w w' := by
  obtain ⟨i0, hi, hz0, hz1, hz2⟩ := info_parts info29
  obtain ⟨n, hn⟩ : ∃ n, n = cnt l.length := ⟨_, rfl⟩
  have hnl : 2 * n ≤ l.length + 1 := by rw [hn]; unfold cnt; omega
  have hnl2 : l.length ≤ 2 * n := by rw [hn]; unfold cnt; omega
  rw [← hn]
  clear hn
  go_enter Tryz.func92, Tryz.ntmps92
  go_wp2
  go_loopw [3, 4] (fun v i wr => ∃ k : Nat, k ≤ n ∧ i = .int .i64 (2 * (k : Int)) ∧ wr.ownsRow w.heap.size 30 1 v k (wvs l k) ∧ Below w.heap.size w wr) (fun _ i _ => 2 * n - (intOf i).toNat)
  case atStart => exact ⟨0, Nat.zero_le _, rfl, World.ownsRow_nil _ _ _ _, Below.refl _ _⟩
  case round =>
    obtain ⟨k, hk, rfl, hown, hbel⟩ := hrel
    by_cases hlt : k < n
    · have hrow := h.below hbel (Nat.le_refl _)
      have b0 := h.bytes (2 * k)
      have b1 := h.bytes (2 * k + 1)
      have hne : l ≠ [] := by rintro rfl; simp at hnl hnl2; omega
      obtain ⟨b, off, rfl, hc⟩ : ∃ b off, a = some ⟨b, off, none⟩ ∧ ∀ i, i < l.length → wr.cell? ⟨b, off + i, none⟩ = some (.int .u8 (l.getD i 0)) := by
        rcases hrow.cells with e | e
        · exact absurd e hne
        · exact e
      have c0 := hc (2 * k) (by omega)
      have HW : Hid (wd l k = l.getD (2 * k) 0 * 256 + l.getD (2 * k + 1) 0) := rfl
      have e0 : (2 * (k : Int)).toNat = 2 * k := by omega
      have e1 : (2 * (k : Int) + 1).toNat = 2 * k + 1 := by omega
      by_cases h1 : 2 * k + 1 < l.length
      · have c1 := hc (2 * k + 1) h1
        generalize l.getD (2 * k) 0 = x0 at b0 c0 HW
        generalize l.getD (2 * k + 1) 0 = x1 at b1 c1 HW
        obtain ⟨r00, r01⟩ := b0
        obtain ⟨r10, r11⟩ := b1
        have hor := sm_word x0 x1 r00 r01 r10 r11
        clear hrow h hc
        go_wp2_with (at_builtin; refine wpList_append_own _ rfl (.tmp 31) (.tmp 33) 92 rfl w.heap.size 30 i0 (.int .u16 0) 1 2 Tryz.underlying92 hi hz0 hz1 hz2 rfl (by decide) _ _ _ rfl (hown.alloc _) ⟨wr.heap.size, 0, none⟩ 1 1 [.int .u16 (x0 * 256 + x1)] rfl rfl (cell_one_new _ _ _) (one_cell_int _) (by unfold maxLen; omega) (by omega) (Nat.le_trans hbel.size (by simp)) ?_; intro v' w1 hown' hgrow _)
        have hown2 : w1.ownsRow w.heap.size 30 1 v' (k + 1) (wvs l (k + 1)) := by rw [wvs_succ, HW.out]; exact hown'
        have hbel2 : Below w.heap.size w w1 := (hbel.alloc hbel.size _).grown hgrow (Nat.le_trans hbel.size (by simp)) (own_ge hown)
        clear hown' hgrow hown c0 c1 hor
        go_wp2
        go_roundw
        case rel => exact ⟨k + 1, by omega, by go_num, hown2, hbel2⟩
        case measure => simp [intOf]; omega
      · have hx1 : l.getD (2 * k + 1) 0 = 0 := by simp [List.getD, List.getElem?_eq_none (show l.length ≤ 2 * k + 1 by omega)]
        rw [hx1] at HW
        generalize l.getD (2 * k) 0 = x0 at b0 c0 HW
        obtain ⟨r00, r01⟩ := b0
        clear hrow h hc hx1 b1
        go_wp2_with (at_builtin; refine wpList_append_own _ rfl (.tmp 31) (.tmp 33) 92 rfl w.heap.size 30 i0 (.int .u16 0) 1 2 Tryz.underlying92 hi hz0 hz1 hz2 rfl (by decide) _ _ _ rfl (hown.alloc _) ⟨wr.heap.size, 0, none⟩ 1 1 [.int .u16 (x0 * 256)] rfl rfl (cell_one_new _ _ _) (one_cell_int _) (by unfold maxLen; omega) (by omega) (Nat.le_trans hbel.size (by simp)) ?_; intro v' w1 hown' hgrow _)
        have hown2 : w1.ownsRow w.heap.size 30 1 v' (k + 1) (wvs l (k + 1)) := by rw [wvs_succ, HW.out, Int.add_zero]; exact hown'
        have hbel2 : Below w.heap.size w w1 := (hbel.alloc hbel.size _).grown hgrow (Nat.le_trans hbel.size (by simp)) (own_ge hown)
        clear hown' hgrow hown c0
        go_wp2
        go_roundw
        case rel => exact ⟨k + 1, by omega, by go_num, hown2, hbel2⟩
        case measure => simp [intOf]; omega
    · have HK : Hid (k = n) := (by omega : k = n)
      go_wp2
      go_ret
      rw [HK.out] at hown
      exact ⟨_, rfl, hown, hbel⟩

/-- A slice whose elements are the first n words of l. -/
def WRow (w : World) (a : Option Addr) (l : List Int) (n : Nat) : Prop := n = 0 ∨ ∃ b off, a = some ⟨b, off, none⟩ ∧ ∀ i, i < n → w.cell? ⟨b, off + i, none⟩ = some (.int .u16 (wd l i))

theorem wrow_own {w : World} {B n : Nat} {v : Value} {l : List Int} (h : w.ownsRow B 30 1 v n (wvs l n)) : ∃ ao cap, v = .slice ao n cap ∧ WRow w ao l n := by
  obtain ⟨h1, h2⟩ := h
  rcases h2 with ⟨rfl, h3⟩ | ⟨g, cap, cur, rfl, hg, r⟩
  · subst h3; exact ⟨none, 0, rfl, Or.inl rfl⟩
  · refine ⟨_, cap, rfl, Or.inr ⟨g, 0, rfl, fun i hi => ?_⟩⟩
    have hob : w.ownsRow B 30 1 (.slice (some ⟨g, 0, none⟩) n cap) n (wvs l n) := ⟨h1, Or.inr ⟨g, cap, cur, rfl, hg, r⟩⟩
    rw [Nat.zero_add, hob.cellAt i (by omega)]
    simp [wvs, hi]

theorem WRow.below {w w' : World} {a : Option Addr} {l : List Int} {n : Nat} (h : WRow w a l n) {B : Nat} (hb : Below B w w') (hB : w.heap.size ≤ B) : WRow w' a l n := by
  rcases h with e | ⟨b, off, rfl, hc⟩
  · exact Or.inl e
  · refine Or.inr ⟨b, off, rfl, fun i hi => ?_⟩
    have := cell_lt (hc i hi)
    rw [hb.cell (p := ⟨b, off + i, none⟩) (by simp at this ⊢; omega)]
    exact hc i hi

set_option maxRecDepth 20000 in
set_option maxHeartbeats 1000000 in
theorem radd_any {w : World} {a : Option Addr} {l : List Int} (h : Row w a l) (hsm : l.length ≤ 70000) (cap : Nat) (s : Int) (h0 : 0 ≤ s) (h1 : s ≤ 4294967295) :
    Calls Tryz.prog 68 #[.int .u32 s, .slice a l.length cap] w fun e w' => e = .returned (.int .u32 (acc l s (cnt l.length))) ∧ Below w.heap.size w w' := by
  have cW := rwords_any h hsm cap
  have hnl : cnt l.length ≤ 70000 := by unfold cnt; omega
  have hby := h.bytes
  generalize cnt l.length = n at cW hnl ⊢
  clear h
  go_enter Tryz.func68, Tryz.ntmps68
  go_wp2_with fail
  refine cW.mono ?_
  rintro e w1 ⟨v, rfl, hown, hbel⟩
  obtain ⟨ao, cp, rfl, hwr⟩ := wrow_own hown
  clear cW hown
  go_wp2_with fail
  go_loop [5, 7] (fun t i => ∃ k : Nat, k ≤ n ∧ i = .int .i64 k ∧ t = .int .u64 (acc l s k)) (fun _ i => n - (intOf i).toNat)
  case atStart => exact ⟨0, Nat.zero_le _, rfl, rfl⟩
  case round =>
    obtain ⟨k, hk, rfl, rfl⟩ := hrel
    have ra := acc_range hby s h0 h1 k
    have rw' := wd_range hby k
    obtain ⟨ra0, ra1⟩ := ra
    obtain ⟨rw0, rw1⟩ := rw'
    by_cases hlt : k < n
    · have HS : Hid (acc l s (k + 1) = addc (acc l s k) (wd l k)) := rfl
      obtain ⟨b, off, rfl, hc⟩ : ∃ b off, ao = some ⟨b, off, none⟩ ∧ ∀ i, i < n → w1.cell? ⟨b, off + i, none⟩ = some (.int .u16 (wd l i)) := by
        rcases hwr with e | e
        · omega
        · exact e
      have c0 := hc k hlt
      clear hc hwr
      by_cases hc : acc l s k + wd l k ≤ 4294967295
      · go_wp2
        go_round
        case rel => exact ⟨k + 1, by omega, by go_num, by rw [HS.out]; unfold addc; rw [if_pos hc]⟩
        case measure => simp [intOf]; omega
      · go_wp2
        go_round
        case rel => exact ⟨k + 1, by omega, by go_num, by rw [HS.out]; unfold addc; rw [if_neg (by omega)]; go_num⟩
        case measure => simp [intOf]; omega
    · go_wp2
      go_ret
      exact ⟨ret_int (by rw [show k = n by omega]), hbel⟩

set_option maxHeartbeats 400000 in
theorem rof_any {w : World} {a : Option Addr} {l : List Int} (h : Row w a l) (hsm : l.length ≤ 70000) (cap : Nat) :
    Calls Tryz.prog 54 #[.slice a l.length cap] w fun e w' => e = .returned (.int .u16 (ofv l)) ∧ Below w.heap.size w w' := by
  have ra := acc_range h.bytes 0 (by omega) (by omega) (cnt l.length)
  have HF : Hid (foldv (acc l 0 (cnt l.length)) = foldv (0 + tot l (cnt l.length))) := foldv_acc h.bytes 0 (by omega) (by omega) (cnt l.length)
  have hr := foldv_range (acc l 0 (cnt l.length))
  have hx := sm_not16 _ hr.1 hr.2
  have hs : IntKind.u16.signed = false := rfl
  go_enter Tryz.func54, Tryz.ntmps54
  go_wp2_with (first | (go_at_call 68; refine (radd_any h hsm _ _ (by omega) (by omega)).mono ?_; rintro e w' ⟨rfl, hbel⟩) | (go_at_call 67; refine (rfold_any _ _ (by omega) (by omega)).mono ?_; rintro e w' ⟨rfl, rfl⟩))
  go_ret
  exact ⟨ret_int (by unfold ofv; rw [HF.out, Int.zero_add]), hbel⟩

end Go.Proofs.YtjalpbkfpjfigaaGreat

