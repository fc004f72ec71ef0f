/-
  Of no one layer: words of two and four bytes, a block of bytes into which numbers are written, a struct's box and a row of bytes behind it that grows, and what integers and bytes that come in are.
  Settings as bytes, the numbers alone: numbers of so many bytes, the highest first, and what is read off a row of bytes.
  Of no one layer: elements of a slice of the call's own that grows, beside whatever else the call made.
  The program's put, get and split, and bytes.Equal, whatever they are handed.
-/
import Derived.Test.YtbccadbnaggkhaaGreatKE02
import Derived.ProofKit
import Derived.OpenShut
import Derived.Lib.SmallJoins
import Derived.Maps.AppendAt
import Derived.Lib.AppendStr
import Derived.Deep.RegionHeld3
import Derived.BigQuiet
import Derived.Shelf.Abstract
import Derived.Laws.EntriesVeiled
namespace Go.Proofs.YtbccadbnaggkhaaGreat
open Go.RowKit
open Sm
set_option linter.unusedVariables false

namespace Sm
theorem bytes_cons {x : Int} {l : List Int} (hx : 0 ≤ x ∧ x ≤ 255) (h : IsBytes l) : IsBytes (x :: l) := by
  intro i
  cases i with
  | zero => simpa using hx
  | succ i => simpa using h i
theorem bytes_nil : IsBytes [] := fun i => by simp
theorem bytes_part {l : List Int} (h : IsBytes l) (i m : Nat) : IsBytes ((l.drop i).take m) := by
  intro j
  by_cases hj : j < m
  · have : ((l.drop i).take m).getD j 0 = l.getD (i + j) 0 := by simp [List.getD, hj]
    rw [this]; exact h _
  · have : ((l.drop i).take m).getD j 0 = 0 := by
      simp only [List.getD]; rw [List.getElem?_eq_none (by simp; omega)]; rfl
    rw [this]; omega
end Sm

theorem Mem.push1 {w W : World} {o : Obj} {g : Nat} (h : Mem w W []) (hg : g = W.heap.size) : Mem w (W.alloc o) [(g, o)] := h.push g o hg
theorem Mem.push2 {w W : World} {p : Nat × Obj} {o : Obj} {g : Nat} (h : Mem w W [p]) (hg : g = W.heap.size) : Mem w (W.alloc o) [p, (g, o)] := h.push g o hg
theorem Mem.push3 {w W : World} {p q : Nat × Obj} {o : Obj} {g : Nat} (h : Mem w W [p, q]) (hg : g = W.heap.size) : Mem w (W.alloc o) [p, q, (g, o)] := h.push g o hg
theorem Wrote.trans {w w1 w2 : World} {g : Nat} {x y : Array Value} {t u : TypeId} (h : Wrote w w1 g x t) (k : Wrote w1 w2 g y u) : Wrote w w2 g y u :=
  ⟨k.here, fun j hj => (k.there j hj).trans (h.there j hj), k.size.trans h.size, fun B w0 hB hb => k.below B w0 hB (h.below B w0 hB hb)⟩
theorem Wrote.drewN {w w1 : World} {g : Nat} {x : Array Value} {t : TypeId} (h : Wrote w w1 g x t) (q : Nat) : Wrote w (w1.drewN q) g x t :=
  ⟨h.here, h.there, h.size, fun B w0 hB hb => Go.below_drewN (h.below B w0 hB hb) q⟩
theorem Wrote.cell {w w1 : World} {g : Nat} {x : Array Value} {t : TypeId} (h : Wrote w w1 g x t) {b i : Nat} (hb : g ≠ b) : w1.cell? ⟨b, i, none⟩ = w.cell? ⟨b, i, none⟩ := by
  unfold World.cell?; simp only; rw [h.there b (fun e => hb e.symm)]
theorem Wrote.row {w w1 : World} {g : Nat} {x : Array Value} {t : TypeId} (h : Wrote w w1 g x t) {b off : Nat} (hb : g ≠ b) {l : List Int} (hr : Row w (some ⟨b, off, none⟩) l) : Row w1 (some ⟨b, off, none⟩) l :=
  ⟨hr.bytes, hr.len, Or.inr ⟨b, off, rfl, fun i hi => by rw [h.cell hb]; exact hr.cellAt i hi⟩⟩

theorem Mem.join {w0 w w' : World} {L K : List (Nat × Obj)} (h : Mem w0 w L) (k : Mem w w' K) : Mem w0 w' (L ++ K) := by
  have hs := h.below.size
  refine ⟨h.below.trans (k.below.mono hs), fun p hp => ?_, fun p hp => ?_, ?_⟩
  · rcases List.mem_append.mp hp with hp | hp
    · exact h.low p hp
    · exact Nat.le_trans hs (k.low p hp)
  · rcases List.mem_append.mp hp with hp | hp
    · rw [k.below.block p.1 (h.lt hp)]; exact h.at_ p hp
    · exact k.at_ p hp
  · rw [List.map_append, List.nodup_append]
    refine ⟨h.apart, k.apart, fun a ha b hb => ?_⟩
    obtain ⟨p, hp, rfl⟩ := List.mem_map.mp ha
    obtain ⟨q, hq, rfl⟩ := List.mem_map.mp hb
    have h1 := h.lt hp
    have h2 := k.low q hq
    omega

/-- Bytes as cells. -/
abbrev bs (l : List Int) : Array Value := (l.map (Value.int .u8)).toArray
theorem bs_get {l : List Int} {i : Nat} (h : i < l.length) : (bs l)[i]? = some (.int .u8 (l.getD i 0)) := by simp [h]
theorem bs_set (l : List Int) (i : Nat) (x : Int) : (bs l).setIfInBounds i (.int .u8 x) = bs (l.set i x) := by
  simp [bs, List.map_set]
/-- n noughts into which numbers were written at their places. -/
def blz (n : Nat) (xs : List (Nat × Int)) : List Int := xs.foldl (fun l q => l.set q.1 q.2) (List.replicate n 0)
theorem blz_snoc (n : Nat) (xs : List (Nat × Int)) (i : Nat) (x : Int) : (blz n xs).set i x = blz n (xs ++ [(i, x)]) := by simp [blz]
theorem fold_set_len (xs : List (Nat × Int)) (l : List Int) : (xs.foldl (fun l q => l.set q.1 q.2) l).length = l.length := by
  induction xs generalizing l with
  | nil => rfl
  | cons x xs ih => simp [List.foldl_cons, ih]
theorem blz_len (n : Nat) (xs : List (Nat × Int)) : (blz n xs).length = n := by simp [blz, fold_set_len]

theorem Mem.put {w W : World} {L : List (Nat × Obj)} (hM : Mem w W L) (i : Nat) {g n : Nat} {xs : List (Nat × Int)} (hi : L[i]? = some (g, .cells (bs (blz n xs)) 5 (0, 0))) (j : Nat) (x : Int) :
    Mem w (W.setCell ⟨g, j, none⟩ (.int .u8 x)) (L.set i (g, .cells (bs (blz n (xs ++ [(j, x)]))) 5 (0, 0))) := by
  have := hM.set i hi j (.int .u8 x)
  rwa [bs_set, blz_snoc] at this
theorem Mem.spot {w W : World} {L : List (Nat × Obj)} (hM : Mem w W L) (i : Nat) {g n : Nat} {xs : List (Nat × Int)} (hi : L[i]? = some (g, .cells (bs (blz n xs)) 5 (0, 0))) (j : Nat) (hj : j < n) :
    ∃ z, W.cell? ⟨g, j, none⟩ = some (.int .u8 z) := ⟨_, (hM.cell i hi j).trans (bs_get (by rw [blz_len]; exact hj))⟩
/-- A struct of type T boxed in block w.heap.size, and a row of bytes behind it that grows. -/
structure Inv (T : TypeId) (w W : World) (pA : Array Value) (v : Value) (n : Nat) (L : List Int) : Prop where
  own : W.ownsRow (w.heap.size + 1) 5 1 v n (L.map (Value.int .u8))
  mem : Mem w W [(w.heap.size, .cells pA T (0, 0))]
  size : w.heap.size + 1 ≤ W.heap.size
section
variable {T : TypeId} {w W W' : World} {pA : Array Value} {v v' : Value} {n m : Nat} {L K : List Int}
theorem Inv.next (h : Inv T w W pA v n L) (ho : W'.ownsRow (w.heap.size + 1) 5 1 v' m (K.map (Value.int .u8))) (hb : Below (w.heap.size + 1) W W') : Inv T w W' pA v' m K :=
  ⟨ho, h.mem.over hb (Nat.le_succ _) (fun p hp => by simp at hp; subst hp; exact Nat.lt_succ_self _), Nat.le_trans h.size hb.size⟩
theorem Inv.drew (h : Inv T w W pA v n L) : Inv T w W.drew pA v n L :=
  h.next (own_after h.own ((Below.refl _ _).drew) (Nat.le_refl _)) ((Below.refl _ _).drew)
theorem Inv.cell (h : Inv T w W pA v n L) (i : Nat) : W.cell? ⟨w.heap.size, i, none⟩ = pA[i]? := h.mem.cell 0 rfl i
end
section
open Go.ChangeShapes Go.WideShapes Go.ChangeAt Go.Joins
variable {H : Type} {enc : TypeId × Value → H} {W : World} {base : Nat} {held : Bool}
theorem open_cell {fuel : Nat} {t : TypeId} {k : IntKind} {c0 : Value} {y : DataW H × List MemPlace} (hu : Tryz.prog.underlying t = some (.int k)) (h : DataW.trod enc Tryz.prog W base (fun _ => true) held fuel t [c0] = some y) :
    ∃ x, c0 = .int k x ∧ (Lit.int k x).wf = true := by
  obtain ⟨a, e0, -, wa⟩ := DataW.trod_int hu h
  simp only [List.cons.injEq, and_true] at e0
  exact ⟨a, e0, wa⟩
end
end Go.Proofs.YtbccadbnaggkhaaGreat

namespace Go.Proofs.YtbccadbnaggkhaaGreat
open Go.RowKit
open Sm
set_option linter.unusedVariables false
namespace Cf
/-- The lowest n bytes of x, the highest first. -/
def be : Nat → Int → List Int
  | 0, _ => []
  | n + 1, x => (x / 256 ^ n % 256) :: be n x
theorem be_len : ∀ (n : Nat) (x : Int), (be n x).length = n
  | 0, _ => rfl
  | n + 1, x => by simp [be, be_len n x]
theorem mod_byte (x : Int) : 0 ≤ x % 256 ∧ x % 256 ≤ 255 := by omega
theorem be_get : ∀ (n : Nat) (x : Int) (i : Nat), i < n → (be n x).getD i 0 = x / 256 ^ (n - 1 - i) % 256
  | n + 1, x, 0, _ => by simp [be]
  | n + 1, x, i + 1, h => by
    rw [be, List.getD_cons_succ, be_get n x i (by omega), show n + 1 - 1 - (i + 1) = n - 1 - i by omega]
theorem be_take (n : Nat) (x : Int) (i : Nat) (h : i < n) : (be n x).take (i + 1) = (be n x).take i ++ [x / 256 ^ (n - 1 - i) % 256] := by
  rw [List.take_succ_eq_append_getElem (by rw [be_len]; exact h)]
  congr 2
  rw [← be_get n x i h]
  simp [List.getD, be_len, h]
/-- The number that bytes are. -/
def num (l : List Int) : Int := l.foldl (fun x y => x * 256 + y) 0
theorem num_snoc (l : List Int) (y : Int) : num (l ++ [y]) = num l * 256 + y := by simp [num]
theorem num_take (l : List Int) (i : Nat) (h : i < l.length) : num (l.take (i + 1)) = num (l.take i) * 256 + l.getD i 0 := by
  rw [List.take_succ_eq_append_getElem h, num_snoc]
  simp [List.getD, h]
theorem fold_range (l : List Int) : ∀ (a : Int), IsBytes l → 0 ≤ a → a * 256 ^ l.length ≤ l.foldl (fun x y => x * 256 + y) a ∧ l.foldl (fun x y => x * 256 + y) a < (a + 1) * 256 ^ l.length := by
  induction l with
  | nil => intro a _ h; simp; omega
  | cons y l ih =>
    intro a hb h
    have hy := hb 0
    simp only [List.getD_cons_zero] at hy
    have hb' : IsBytes l := fun i => by have := hb (i + 1); simpa using this
    obtain ⟨h1, h2⟩ := ih (a * 256 + y) hb' (by omega)
    simp only [List.foldl_cons, List.length_cons, Int.pow_succ]
    have hp : (0 : Int) < 256 ^ l.length := Int.pow_pos (by decide)
    generalize (256 : Int) ^ l.length = q at h1 h2 hp ⊢
    constructor
    · refine Int.le_trans ?_ h1
      rw [Int.mul_comm q 256, ← Int.mul_assoc]
      exact Int.mul_le_mul_of_nonneg_right (by omega) (by omega)
    · refine Int.lt_of_lt_of_le h2 ?_
      rw [Int.mul_comm q 256, ← Int.mul_assoc]
      exact Int.mul_le_mul_of_nonneg_right (by omega) (by omega)
theorem num_range {l : List Int} (h : IsBytes l) : 0 ≤ num l ∧ num l < 256 ^ l.length := by
  have := fold_range l 0 h (Int.le_refl _)
  simp only [Int.zero_mul, Int.zero_add, Int.one_mul] at this
  exact this
theorem bytes_tk {l : List Int} (h : IsBytes l) (i : Nat) : IsBytes (l.take i) := by
  have := bytes_part h 0 i
  simpa using this
theorem bytes_app {a b : List Int} (ha : IsBytes a) (hb : IsBytes b) : IsBytes (a ++ b) := by
  intro i
  by_cases h : i < a.length
  · have : (a ++ b).getD i 0 = a.getD i 0 := by simp [List.getD, List.getElem?_append_left h]
    rw [this]; exact ha i
  · have : (a ++ b).getD i 0 = b.getD (i - a.length) 0 := by simp [List.getD, List.getElem?_append_right (Nat.le_of_not_lt h)]
    rw [this]; exact hb _
end Cf
end Go.Proofs.YtbccadbnaggkhaaGreat

namespace Go.Proofs.YtbccadbnaggkhaaGreat
open Go.RowKit
open Sm
set_option linter.unusedVariables false

/-- v is a slice of n elements of type e (sz cells each) that the call made, or none yet: its cells are xs; the blocks L are others. -/
def Ow (w W : World) (e : TypeId) (sz : Nat) (v : Value) (n : Nat) (xs : List Value) (L : List (Nat × Obj)) : Prop :=
  xs.length = n * sz ∧ ((v = .slice none 0 0 ∧ n = 0 ∧ Mem w W L) ∨
    ∃ g cap cur, v = .slice (some ⟨g, 0, none⟩) n cap ∧ Mem w W ((g, .cells cur e (0, 0)) :: L) ∧ n ≤ cap ∧ cap ≤ maxLen ∧ cur.size = cap * sz ∧ cur.toList.take (n * sz) = xs)
section
variable {w W W' : World} {e t ty : TypeId} {sz bytes n m : Nat} {v v' z : Value} {xs ys : List Value} {L : List (Nat × Obj)}
theorem Ow.nil (h : Mem w W L) : Ow w W e sz (.slice none 0 0) 0 [] L := ⟨by simp, Or.inl ⟨rfl, rfl, h⟩⟩
theorem Ow.mem (h : Ow w W e sz v n xs L) : Mem w W L := by
  rcases h.2 with ⟨_, _, h⟩ | ⟨g, cap, cur, _, h, _⟩
  · exact h
  · exact h.sub
theorem Ow.owns (h : Ow w W e sz v n xs L) : W.ownsRow w.heap.size e sz v n xs := by
  refine ⟨h.1, ?_⟩
  rcases h.2 with ⟨rfl, rfl, _⟩ | ⟨g, cap, cur, rfl, hm, r⟩
  · exact Or.inl ⟨rfl, rfl⟩
  · exact Or.inr ⟨g, cap, cur, rfl, hm.ge 0 rfl, hm.get 0 rfl, r⟩
theorem Ow.after (h : Ow w W e sz v n xs L) (hb : Below W.heap.size W W') : Ow w W' e sz v n xs L := by
  refine ⟨h.1, ?_⟩
  rcases h.2 with ⟨rfl, rfl, hm⟩ | ⟨g, cap, cur, rfl, hm, r⟩
  · exact Or.inl ⟨rfl, rfl, hm.after hb⟩
  · exact Or.inr ⟨g, cap, cur, rfl, hm.after hb, r⟩
theorem Ow.of (h : Ow w W e sz v n xs L) (ho : W'.ownsRow w.heap.size e sz v' m ys) (hg : W.grownBy W' v.ownBlock) (hat : v'.ownBlock = v.ownBlock ∨ v'.ownBlock = some W.heap.size) : Ow w W' e sz v' m ys L := by
  have hM := h.mem
  have hge : ∀ k, v.ownBlock = some k → w.heap.size ≤ k ∧ ∀ p ∈ L, p.1 ≠ k := by
    intro k hk
    rcases h.2 with ⟨rfl, _⟩ | ⟨g, cap, cur, rfl, hm, r⟩
    · simp [Value.ownBlock] at hk
    · simp only [Value.ownBlock, Option.some.injEq] at hk
      subst hk
      refine ⟨hm.ge 0 rfl, fun p hp e => ?_⟩
      have := (List.nodup_cons.mp hm.apart).1
      exact this (by simp only [List.mem_map]; exact ⟨p, hp, e⟩)
  have hM' : Mem w W' L := by
    refine ⟨hM.below.grown hg hM.below.size (fun k hk => (hge k hk).1), hM.low, fun p hp => ?_, hM.apart⟩
    rw [hg.block p.1 (hM.lt hp) (fun e => (hge p.1 e.symm).2 p hp rfl)]
    exact hM.at_ p hp
  refine ⟨ho.1, ?_⟩
  rcases ho.2 with ⟨rfl, rfl⟩ | ⟨g, cap, cur, rfl, hb, hh, r⟩
  · exact Or.inl ⟨rfl, rfl, hM'⟩
  · refine Or.inr ⟨g, cap, cur, rfl, ⟨hM'.below, fun p hp => ?_, fun p hp => ?_, ?_⟩, r⟩
    · rcases List.mem_cons.mp hp with rfl | hp
      · exact hb
      · exact hM'.low p hp
    · rcases List.mem_cons.mp hp with rfl | hp
      · exact hh
      · exact hM'.at_ p hp
    · rw [List.map_cons, List.nodup_cons]
      refine ⟨fun hin => ?_, hM'.apart⟩
      obtain ⟨p, hp, ep⟩ := List.mem_map.mp hin
      simp only [Value.ownBlock] at hat
      rcases hat with hat | hat
      · exact (hge g hat.symm).2 p hp ep
      · simp only [Option.some.injEq] at hat
        have := hM.lt hp
        simp only at ep
        omega
theorem ow_append (ht : Tryz.prog.underlying t = some (.slice e)) (hi : (Tryz.prog.info? e).map (fun i => (i.zero, i.size, i.bytes)) = some (some z, sz, bytes)) (hzs : z.cells.size = sz) (hsz : 0 < sz)
    (h : Ow w W e sz v n xs L) (a : Addr) (m c : Nat) (news : List Value) (hl : news.length = m * sz) (hnews : ∀ j u, news[j]? = some u → W.cell? (a.add j) = some u) (h1 : ∀ u ∈ news, u.oneCell' = true)
    (h63 : n + m ≤ maxLen) (hb : (n + m) * bytes ≤ 140737488355328) :
    ∃ v' W', (Builtin.append_ #[t, t] ty #[v, .slice (some a) m c]).run Tryz.prog W = .ok v' W' ∧ Ow w W' e sz v' (n + m) (xs ++ news) L := by
  obtain ⟨i, hi, hz, hs1, hby⟩ := info_parts hi
  obtain ⟨v', W', hr, h2, h3, _, h4⟩ := run_append_own_at (P := Tryz.prog) W w.heap.size t ty e i z sz bytes ht hi hz hs1 hby hzs hsz v n xs h.owns a m c news hl hnews h1 h63 hb h.mem.below.size
  exact ⟨v', W', hr, h.of h2 h3 h4⟩
end

theorem wpList_append_run {ops : Array Oper} {rest : List Oper} {o : Oper} {a : Act} {W : World} {Q : Exit → Act → World → Prop}
    (s x : Operand) (t tn : TypeId) (ho : o.op = .call { callee := .builtin .append, args := #[s, x], argTypes := #[t, tn] }) {vs vx : Value}
    {v' : Value} {w' : World} {ty : TypeId} (hr : (Builtin.append_ #[t, tn] ty #[vs, vx]).run Tryz.prog W = .ok v' w') (hty : o.type = ty) (hgd : Region.wanted o (yielded ops a.tmps) = true) (hs : a.eval s = vs) (hx : a.eval x = vx) (h : wpList Tryz.prog ops Q rest (a.put o.dst v') w') :
    wpList Tryz.prog ops Q (o :: rest) a W := by
  subst hty; exact wpList_wanted hgd fun K hK => wp_append_out s x t tn ho hs hx hr (hK _ _ h)

/-- Bytes of the call's own. -/
def Out (w W : World) (v : Value) (l : List Int) (L : List (Nat × Obj)) : Prop := IsBytes l ∧ Ow w W 5 1 v l.length (l.map (Value.int .u8)) L
section
variable {w W W' : World} {v : Value} {l : List Int} {L : List (Nat × Obj)}
theorem Out.mem (h : Out w W v l L) : Mem w W L := h.2.mem
theorem Out.after (h : Out w W v l L) (hb : Below W.heap.size W W') : Out w W' v l L := ⟨h.1, h.2.after hb⟩
theorem Out.nil (h : Mem w W L) : Out w W (.slice none 0 0) [] L := ⟨bytes_nil, Ow.nil h⟩
theorem Out.own (h : Out w W v l L) : W.ownsRow w.heap.size 5 1 v l.length (l.map (Value.int .u8)) := h.2.owns
theorem Out.drop {p : Nat × Obj} (h : Out w W v l (p :: L)) : Out w W v l L := by
  refine ⟨h.1, h.2.1, ?_⟩
  rcases h.2.2 with ⟨rfl, e, hm⟩ | ⟨g, cap, cur, rfl, hm, r⟩
  · exact Or.inl ⟨rfl, e, hm.sub⟩
  · exact Or.inr ⟨g, cap, cur, rfl, (hm.perm (List.Perm.swap _ _ _)).sub, r⟩
theorem Out.add {o : Obj} {g : Nat} (h : Out w W v l L) (hg : g = W.heap.size) : Out w (W.alloc o) v l ((g, o) :: L) := by
  refine ⟨h.1, h.2.1, ?_⟩
  rcases h.2.2 with ⟨rfl, e, hm⟩ | ⟨k, cap, cur, rfl, hm, r⟩
  · exact Or.inl ⟨rfl, e, (hm.push g o hg).perm List.perm_append_comm⟩
  · refine Or.inr ⟨k, cap, cur, rfl, (hm.push g o hg).perm ?_, r⟩
    exact List.perm_append_comm.trans (List.Perm.swap _ _ _)
theorem Out.perm {K : List (Nat × Obj)} (h : Out w W v l L) (hp : L.Perm K) : Out w W v l K := by
  refine ⟨h.1, h.2.1, ?_⟩
  rcases h.2.2 with ⟨rfl, e, hm⟩ | ⟨g, cap, cur, rfl, hm, r⟩
  · exact Or.inl ⟨rfl, e, hm.perm hp⟩
  · exact Or.inr ⟨g, cap, cur, rfl, hm.perm (hp.cons _), r⟩
theorem out_append (h : Out w W v l L) (ad : Addr) (m c : Nat) (k : List Int) (hk : k.length = m) (hr : Row W (some ad) k) (hb : l.length + m ≤ 1000000000) (ty : TypeId) :
    ∃ v' W', (Builtin.append_ #[87, 87] ty #[v, .slice (some ad) m c]).run Tryz.prog W = .ok v' W' ∧ Out w W' v' (l ++ k) L := by
  obtain ⟨v', W', h1, h2⟩ := ow_append (ty := ty) Tryz.underlying87 info5 rfl (by decide) h.2 ad m c (k.map (Value.int .u8)) (by simp [hk]) (by
    rcases hr.cells with e | ⟨b, off, e, _⟩
    · subst e; intro j u hj; simp at hj
    · cases e; exact hr.news) (ints_oneCell _ _) (by unfold maxLen; omega) (by omega)
  refine ⟨v', W', h1, Cf.bytes_app h.1 hr.bytes, ?_⟩
  rw [List.length_append, List.map_append, hk]
  exact h2
theorem out_one (h : Out w W v l L) (x : Int) (hx : 0 ≤ x ∧ x ≤ 255) (hb : l.length + 1 ≤ 1000000000) (ty : TypeId) :
    ∃ v' W', (Builtin.append_ #[87, 87] ty #[v, .slice (some ⟨W.heap.size, 0, none⟩) 1 1]).run Tryz.prog (W.alloc (.cells #[.int .u8 x] 5)) = .ok v' W' ∧ Out w W' v' (l ++ [x]) L := by
  have hr := row_lit W [x] (bytes_cons hx bytes_nil) (by simp) 5
  exact out_append (h.after ((Below.refl _ _).alloc (Nat.le_refl _) _)) _ 1 1 [x] rfl hr hb ty
theorem strCells_nums (s : ByteArray) : Lib.strCells s = (s.data.toList.map (fun b => (b.toNat : Int))).map (Value.int .u8) := by
  simp [Lib.strCells, Function.comp_def]
end
/-- A text's bytes as numbers. -/
def sb (s : ByteArray) : List Int := s.data.toList.map (fun b => (b.toNat : Int))
theorem sb_len (s : ByteArray) : (sb s).length = s.size := by simp only [sb, List.length_map, Array.length_toList]; rfl
theorem sb_bytes (s : ByteArray) : IsBytes (sb s) := by
  intro i
  by_cases h : i < (sb s).length
  · rw [getD_eq h]
    simp only [sb, List.getElem_map]
    have := (s.data.toList[i]'(by simpa [sb] using h)).toNat_lt
    omega
  · have : (sb s).getD i 0 = 0 := by simp [List.getD, List.getElem?_eq_none (Nat.le_of_not_lt h)]
    rw [this]; omega
theorem ok_block {a b : Value} {w w' : World} (h : (Result.ok a w : Result Value) = .ok b w') : a.ownBlock = b.ownBlock := by cases h; rfl
theorem out_str {w W : World} {v : Value} {l : List Int} {L : List (Nat × Obj)} (h : Out w W v l L) (s : ByteArray) (hb : l.length + s.size ≤ 1000000000) (ty : TypeId) :
    ∃ v' W', (Builtin.append_ #[87, 9] ty #[v, .string s]).run Tryz.prog W = .ok v' W' ∧ Out w W' v' (l ++ sb s) L := by
  obtain ⟨i, hi, hz, hs1, hby⟩ := info_parts info5
  have hM := h.mem
  have hu := Tryz.underlying87
  have hus := Tryz.underlying9
  obtain ⟨v', W', hr, h2, h3, h4⟩ := Lib.run_append_own_string (P := Tryz.prog) W w.heap.size 87 9 ty 5 i hu hus hi hz hs1 hby v l.length _ h.own s (by unfold maxLen; omega) (by omega) hM.below.size
  refine ⟨v', W', hr, Cf.bytes_app h.1 (sb_bytes s), ?_⟩
  rw [List.length_append, List.map_append, sb_len]
  rw [strCells_nums] at h2
  refine h.2.of h2 h3 ?_
  rcases h.2.2 with ⟨rfl, e, hm⟩ | ⟨g, cap, cur, rfl, hm, hnc, hcm, hcs, htake⟩
  · have e0 : l = [] := List.length_eq_zero_iff.mp e
    subst e0
    obtain ⟨v2, W2, hr2, h22, _⟩ := Lib.run_append_own_string (P := Tryz.prog) W W.heap.size 87 9 ty 5 i hu hus hi hz hs1 hby (.slice none 0 0) 0 [] (World.ownsRow_nil _ _ _ _) s (by unfold maxLen; omega) (by omega) (Nat.le_refl _)
    rw [hr] at hr2
    cases hr2
    rcases h22.2 with ⟨rfl, _⟩ | ⟨g, cap, cur, rfl, hb, hh, _⟩
    · exact Or.inl rfl
    · right
      simp only [Value.ownBlock, Option.some.injEq]
      -- the block is the next one: nothing else was made
      have hg0 := hr
      by_cases hs0 : s.size = 0
      · have := (h4.2 ⟨rfl, hs0⟩); cases this
      · have := run_append_nil_string (P := Tryz.prog) W 87 9 ty 5 i (.int .u8 0) hu hus hi hz s (by omega) (by omega) (by rw [hby]; omega)
        have e1 := ok_block (hr.symm.trans this)
        simpa [Value.ownBlock] using e1
  · by_cases hroom : l.length + s.size ≤ cap
    · have := Lib.run_append_room_string (P := Tryz.prog) W 87 9 ty 5 i hu hus hi hs1 g l.length cap cur (hm.get 0 rfl) s hroom (by omega)
      have e1 := ok_block (hr.symm.trans this)
      exact Or.inl e1
    · have := Lib.run_append_grow_string (P := Tryz.prog) W 87 9 ty 5 i (.int .u8 0) hu hus hi hz ⟨g, 0, none⟩ l.length cap (l.map (Value.int .u8)) (by rw [hs1]; simp) (World.ownsRow.cells h.own rfl) s (by omega) (by omega) (growslice_fits (by omega) (by rw [hby]; omega))
      have e1 := ok_block (hr.symm.trans this)
      exact Or.inr e1
end Go.Proofs.YtbccadbnaggkhaaGreat

namespace Go.Proofs.YtbccadbnaggkhaaGreat
open Go.RowKit
open Sm
open Cf
set_option linter.unusedVariables false
set_option maxRecDepth 20000

theorem pow8 (k : Nat) : (2 : Int) ^ (8 * k) = 256 ^ k := by rw [Int.pow_mul]; rfl
theorem wrap64n {x : Int} (h0 : -9223372036854775808 ≤ x) (h1 : x ≤ 9223372036854775807) : IntKind.i64.wrap x = x := by rw [IntKind.wrap_i64]; omega
theorem wrapu8 (x : Int) : IntKind.u8.wrap x = x % 256 := by simp [IntKind.wrap, IntKind.bits, IntKind.signed]
theorem wrapu64 (x : Int) : IntKind.u64.wrap x = x % 18446744073709551616 := by simp [IntKind.wrap, IntKind.bits, IntKind.signed]

set_option maxHeartbeats 4000000 in
theorem put_any {w W : World} {v : Value} {l : List Int} {L : List (Nat × Obj)} (h : Out w W v l L) (sz : Nat) (x : Int) (hs : sz ≤ 7) (hx : 0 ≤ x ∧ x < 18446744073709551616) (hb : l.length + sz ≤ 1000000000) :
    Calls Tryz.prog 85 #[v, .int .i64 sz, .int .u64 x] W fun e W' => ∃ v', e = .returned v' ∧ Out w W' v' (l ++ be sz x) L := by
  have HO : Hid (Out w W v l L) := h
  clear h
  go_enter Tryz.func85, Tryz.ntmps85
  go_wp2_with fail
  go_loopw [0, 9] (fun u0 u9 w' => ∃ i : Nat, i ≤ sz ∧ u9 = .int .i64 i ∧ Hid (Out w w' u0 (l ++ (be sz x).take i) L)) (fun u0 u9 w' => sz - (intOf u9).toNat)
  case atStart => exact ⟨0, Nat.zero_le _, rfl, by simpa using HO⟩
  case round =>
    obtain ⟨i, hi, rfl, HR⟩ := hrel
    by_cases hlt : i < sz
    · have h1 : (i : Int) < sz := by omega
      obtain ⟨k, hk⟩ : ∃ k : Nat, sz - 1 - i = k := ⟨_, rfl⟩
      have e1 : IntKind.i64.wrap ((sz : Int) - 1) = (sz : Int) - 1 := wrap64n (by omega) (by omega)
      have e2 : IntKind.i64.wrap ((sz : Int) - 1 - i) = (k : Int) := by rw [wrap64n (by omega) (by omega)]; omega
      have e3 : IntKind.i64.wrap (8 * (k : Int)) = 8 * (k : Int) := wrap64n (by omega) (by omega)
      have e4 : ¬ (8 * (k : Int) < 0) := by omega
      have ht : (be sz x).take (i + 1) = (be sz x).take i ++ [x / 2 ^ (8 * k) % 256] := by rw [be_take sz x i hlt, hk, pow8]
      have hlen : (l ++ (be sz x).take i).length + 1 ≤ 1000000000 := by
        rw [List.length_append, List.length_take, be_len]; omega
      obtain ⟨v1, W1, hr, hO1⟩ := out_one HR.out (x / 2 ^ (8 * k) % 256) (mod_byte _) hlen 87
      rw [List.append_assoc, ← ht] at hO1
      clear ht hlen
      go_wp2_with (at_builtin; refine wpList_append_run (.tmp 12) (.tmp 21) 87 87 (by with_reducible rfl) hr rfl rfl (by simp [Act.eval]) (by simp [Act.eval]) ?_)
      go_roundw
      case rel => exact ⟨i + 1, by omega, by go_num, hO1⟩
      case measure => simp [intOf]; omega
    · have h1 : ¬ ((i : Int) < sz) := by omega
      obtain rfl : i = sz := by omega
      go_wp2_with fail
      go_ret
      refine ⟨_, rfl, ?_⟩
      have := HR.out
      rwa [List.take_of_length_le (by rw [be_len]; omega)] at this

theorem join_byte (x y : Int) (hx : 0 ≤ x ∧ x < 72057594037927936) (hy : 0 ≤ y ∧ y ≤ 255) : bits .or .u64 (x * 256) y = x * 256 + y :=
  bits_join .u64 64 (by decide) (fun n h0 h1 => by rw [wrapu64]; omega) 8 (x * 256) y (by omega) (by omega) (by omega) (by omega) (by omega) (by omega)

set_option maxHeartbeats 4000000 in
theorem get_any {W : World} {a : Option Addr} {l : List Int} (h : Row W a l) (n c : Nat) (hn : l.length = n) (hs : n ≤ 7) :
    Calls Tryz.prog 87 #[.slice a n c] W fun e W' => e = .returned (.int .u64 (num l)) ∧ W = W' := by
  go_enter Tryz.func87, Tryz.ntmps87
  go_wp2_with fail
  go_loopw [3, 8] (fun u3 u8 w' => ∃ i : Nat, i ≤ n ∧ u8 = .int .i64 i ∧ u3 = .int .u64 (num (l.take i)) ∧ W = w') (fun u3 u8 w' => n - (intOf u8).toNat)
  case atStart => exact ⟨0, Nat.zero_le _, rfl, rfl, rfl⟩
  case round =>
    obtain ⟨i, hi, rfl, rfl, rfl⟩ := hrel
    by_cases hlt : i < n
    · have h1 : (i : Int) < n := by omega
      rcases h.cells with e | ⟨b, off, rfl, hc⟩
      · subst e; simp at hn; omega
      · have hcell := hc i (by omega)
        have hb := h.bytes i
        have hnt := num_take l i (by omega)
        have hr := num_range (bytes_tk h.bytes i)
        rw [List.length_take, Nat.min_eq_left (by omega)] at hr
        have hp : (256 : Int) ^ i ≤ 256 ^ 6 := by
          have : i ≤ 6 := by omega
          match i, this with
          | 0, _ => decide
          | 1, _ => decide
          | 2, _ => decide
          | 3, _ => decide
          | 4, _ => decide
          | 5, _ => decide
          | 6, _ => decide
        have hrx : num (l.take i) < 281474976710656 := by
          have e6 : (256 : Int) ^ 6 = 281474976710656 := by decide
          omega
        clear hp
        generalize num (l.take i) = x at hnt hr hrx
        generalize l.getD i 0 = y at hcell hb hnt
        clear hc h
        have e1 : IntKind.u64.wrap (x * 256) = x * 256 := by rw [wrapu64]; omega
        have e2 : IntKind.u64.wrap y = y := by rw [wrapu64]; omega
        have e3 := join_byte x y (by omega) hb
        have e4 : x * 256 % 18446744073709551616 = x * 256 := by omega
        have e5 : y % 18446744073709551616 = y := by omega
        go_wp2_with fail
        go_roundw
        case rel => exact ⟨i + 1, by omega, by go_num, by rw [hnt], trivial⟩
        case measure => simp [intOf]; omega
    · have h1 : ¬ ((i : Int) < n) := by omega
      obtain rfl : i = n := by omega
      rw [List.take_of_length_le (by omega)]
      go_wp2_with fail
      go_ret
      exact ⟨rfl, rfl⟩

set_option maxHeartbeats 4000000 in
theorem split_no (W : World) (a : Option Addr) (n c m : Nat) (h : n < m) (hm : m ≤ 1000000) :
    Calls Tryz.prog 82 #[.slice a n c, .int .i64 m] W fun e W' => e = .returned (.tuple #[.slice none 0 0, .slice none 0 0, .bool false]) ∧ W = W' := by
  have h1 : (n : Int) < m := by omega
  go_enter Tryz.func82, Tryz.ntmps82
  go_wp2_with fail
  exact bodyPost_ret (v := .tuple #[.slice none 0 0, .slice none 0 0, .bool false]) (by simp [results, Tryz.results82, go_sem]) rfl ⟨rfl, rfl⟩
/-- A slice that reads as the bytes l. -/
structure Sl (V : World) (a : Option Addr) (l : List Int) (c : Nat) : Prop where
  row : Row V a l
  le : l.length ≤ c
  big : c ≤ 9223372036854775807
  nil : a = none → c = 0
theorem Mem.sl {w W : World} {L : List (Nat × Obj)} (h : Mem w W L) {a : Option Addr} {l : List Int} {c : Nat} (hr : Sl w a l c) : Sl W a l c := ⟨h.row hr.row, hr.le, hr.big, hr.nil⟩
/-- A slice's first m bytes, and the others. -/
def Spl (a : Option Addr) (l : List Int) (c m : Nat) (v1 v2 : Value) : Prop :=
  ∃ a1 c1 a2 c2, v1 = .slice a1 m c1 ∧ v2 = .slice a2 (l.drop m).length c2 ∧ ∀ V, Sl V a l c → Sl V a1 (l.take m) c1 ∧ Sl V a2 (l.drop m) c2
theorem row_empty (V : World) (a : Option Addr) : Row V a [] := ⟨bytes_nil, by simp, Or.inl rfl⟩
set_option maxHeartbeats 4000000 in
theorem split_yes {W : World} {a : Option Addr} {l : List Int} {c : Nat} (hS : Sl W a l c) (m : Nat) (h : m ≤ l.length) (hm : m ≤ 1000000) :
    Calls Tryz.prog 82 #[.slice a l.length c, .int .i64 m] W fun e W' => ∃ v1 v2, e = .returned (.tuple #[v1, v2, .bool true]) ∧ Spl a l c m v1 v2 ∧ ∃ q, W' = W.drewN q := by
  obtain ⟨hr, hc, hc2, ha⟩ := hS
  obtain ⟨n, hn⟩ : ∃ n, l.length = n := ⟨_, rfl⟩
  rw [hn] at h hc ⊢
  have hn2 := hr.len
  rw [hn] at hn2
  have h1 : ¬ ((n : Int) < m) := by omega
  have h2 : (m : Int) ≤ c := by omega
  have h3 : (m : Int) ≤ n := by omega
  have h4 : (n : Int) ≤ c := by omega
  by_cases hn0 : n = 0
  · obtain rfl : m = 0 := by omega
    obtain rfl : l = [] := List.eq_nil_of_length_eq_zero (by omega)
    subst hn0
    cases a with
    | none =>
      obtain rfl : c = 0 := ha rfl
      go_enter Tryz.func82, Tryz.ntmps82
      go_wp2_with fail
      go_quiet (fail)
      go_wp2_with fail
      exact bodyPost_ret (v := .tuple #[.slice none 0 0, .slice none 0 0, .bool true]) (by simp [results, Tryz.results82, go_sem]) rfl ⟨_, _, rfl, ⟨none, 0, none, 0, rfl, rfl, fun V hV => ⟨hV, hV⟩⟩, _, rfl⟩
    | some ad =>
      by_cases hc0 : c = 0
      · subst hc0
        go_enter Tryz.func82, Tryz.ntmps82
        go_wp2_with fail
        go_quiet (fail)
        go_wp2_with fail
        exact bodyPost_ret (v := .tuple #[.slice (some ad) 0 0, .slice (some ad) 0 0, .bool true]) (by simp [results, Tryz.results82, go_sem]) rfl ⟨_, _, rfl, ⟨some ad, 0, some ad, 0, rfl, rfl, fun V hV => ⟨hV, hV⟩⟩, _, rfl⟩
      · have h5 : ¬ ((c : Int) = 0) := by omega
        go_enter Tryz.func82, Tryz.ntmps82
        go_wp2_with fail
        go_quiet (fail)
        go_wp2_with fail
        exact bodyPost_ret (v := .tuple #[.slice (some ad) 0 c, .slice (some ad) 0 c, .bool true]) (by simp [results, Tryz.results82, go_sem]) rfl ⟨_, _, rfl, ⟨some ad, c, some ad, c, rfl, rfl, fun V hV => ⟨hV, hV⟩⟩, _, rfl⟩
  · rcases hr.cells with e | ⟨b, off, rfl, hcl⟩
    · subst e; simp at hn; omega
    · clear hcl
      by_cases hcm : c = m
      · subst hcm
        have hmn : n = c := by omega
        subst hmn
        go_enter Tryz.func82, Tryz.ntmps82
        go_wp2_with fail
        go_quiet (fail)
        go_wp2_with fail
        refine bodyPost_ret (v := .tuple #[.slice (some ⟨b, off, none⟩) n n, .slice (some ⟨b, off, none⟩) 0 0, .bool true]) (by simp [results, Tryz.results82, go_sem]) rfl ⟨_, _, rfl, ⟨_, _, _, _, rfl, by rw [List.length_drop, hn, Nat.sub_self], fun V hV => ⟨?_, ?_⟩⟩, _, rfl⟩
        · rw [List.take_of_length_le (by omega)]; exact hV
        · rw [List.drop_of_length_le (by omega)]; exact ⟨row_empty V _, by simp, by omega, fun e => by cases e⟩
      · have h5 : (m : Int) < c := by omega
        go_enter Tryz.func82, Tryz.ntmps82
        go_wp2_with fail
        go_quiet (fail)
        go_wp2_with fail
        refine bodyPost_ret (v := .tuple #[.slice (some ⟨b, off, none⟩) m c, .slice (some ⟨b, off + m, none⟩) (n - m) (c - m), .bool true]) (by simp [results, Tryz.results82, go_sem]) rfl ⟨_, _, rfl, ⟨_, _, _, _, rfl, by rw [List.length_drop, hn], fun V hV => ⟨⟨?_, ?_, hV.big, fun e => by cases e⟩, ⟨?_, ?_, by have := hV.big; omega, fun e => by cases e⟩⟩⟩, _, rfl⟩
        · have := hV.row.part 0 m (by omega)
          simpa using this
        · rw [List.length_take]; omega
        · have := hV.row.part m (n - m) (by omega)
          rwa [List.take_of_length_le (by rw [List.length_drop]; omega)] at this
        · rw [List.length_drop]; omega

/-- What a field's read answers: what was read and the others behind, or nothing. -/
def RPost {σ : Type} (w : World) (L : List (Nat × Obj)) (J : σ → World → Prop) (r : Option (σ × List Int)) (e : Ending) (W' : World) : Prop :=
  match r with
  | none => e = .returned (.tuple #[.slice none 0 0, .bool false]) ∧ Mem w W' L
  | some (s, l') => ∃ a c, e = .returned (.tuple #[.slice a l'.length c, .bool true]) ∧ Sl w a l' c ∧ J s W'
theorem RPost.mono {σ τ : Type} {w : World} {L K : List (Nat × Obj)} {J : σ → World → Prop} {H : τ → World → Prop} {r : Option (σ × List Int)} {q : Option (τ × List Int)} {e : Ending} {W' : World} (f : σ → τ) (hq : q = r.map (fun x => (f x.1, x.2)))
    (h : RPost w L J r e W') (hn : Mem w W' L → Mem w W' K) (hs : ∀ s, J s W' → H (f s) W') : RPost w K H q e W' := by
  subst hq
  cases r with
  | none => exact ⟨h.1, hn h.2⟩
  | some x => obtain ⟨a, c, h1, h2, h3⟩ := h; exact ⟨a, c, h1, h2, hs _ h3⟩

/-- Cells from place j on written over. -/
def spl (A : Array Value) (j : Nat) (x : List Int) : Array Value := (A.toList.take j ++ (x.map (Value.int .u8) ++ A.toList.drop (j + x.length))).toArray
/-- What n fields write, one behind the other. -/
def cat (enc : Nat → List Int) : Nat → List Int
  | 0 => []
  | n + 1 => cat enc n ++ enc n
theorem cat_le (enc : Nat → List Int) (i n : Nat) (h : i < n) : (cat enc i).length + (enc i).length ≤ (cat enc n).length := by
  induction n with
  | zero => omega
  | succ n ih =>
    rw [cat, List.length_append]
    by_cases e : i = n
    · subst e; omega
    · have := ih (by omega); omega
/-- What m fields from the i-th on read, one behind the other. -/
def sq {σ : Type} (dec : Nat → List Int → σ → Option (σ × List Int)) : Nat → Nat → List Int → σ → Option (σ × List Int)
  | _, 0, l, s => some (s, l)
  | i, m + 1, l, s => match dec i l s with
    | none => none
    | some (s', l') => sq dec (i + 1) m l' s'
/-- A text with its length ahead, up to 255 bytes of it. -/
def nm (s : ByteArray) : List Int := ((min s.size 255 : Nat) : Int) :: (sb s).take 255
/-- A text is read: its length, and so many bytes. -/
def dtxt : List Int → Option (ByteArray × List Int)
  | [] => none
  | b :: r => if r.length < b.toNat then none else some (strOfNums (r.take b.toNat), r.drop b.toNat)
theorem mem_bytes {l : List Int} (h : IsBytes l) : ∀ n ∈ l, 0 ≤ n ∧ n ≤ 255 := by
  intro n hn
  obtain ⟨i, hi, rfl⟩ := List.getElem_of_mem hn
  have := h i
  rwa [getD_eq hi] at this
theorem sb_str {l : List Int} (h : IsBytes l) : sb (strOfNums l) = l := by
  have hm := mem_bytes h
  unfold sb strOfNums
  simp only [List.map_map]
  conv => rhs; rw [← List.map_id l]
  refine List.map_congr_left fun n hn => ?_
  have := hm n hn
  simp only [Function.comp_apply, id]
  have e : (UInt8.ofNat n.toNat).toNat = n.toNat := by
    simp only [UInt8.toNat_ofNat']
    omega
  rw [e]
  omega
theorem sb_inj {s t : ByteArray} (h : sb s = sb t) : s.data.toList = t.data.toList := by
  unfold sb at h
  exact (List.map_inj_right (fun a b e => UInt8.toNat_inj.mp (Int.ofNat_inj.mp e))).mp h
theorem str_same {l k : List Int} (hl : IsBytes l) (hk : IsBytes k) : ((strOfNums l).toList == (strOfNums k).toList) = decide (l = k) := by
  by_cases h : l = k
  · subst h; simp
  · have : ¬ (strOfNums l).toList = (strOfNums k).toList := by
      intro e
      rw [ByteArray.toList_eq, ByteArray.toList_eq] at e
      apply h
      rw [← sb_str hl, ← sb_str hk]
      unfold sb
      rw [e]
    simp [h, this]
theorem text_same (s t : ByteArray) : (s.toList == t.toList) = decide (sb s = sb t) := by
  rw [ByteArray.toList_eq, ByteArray.toList_eq]
  by_cases h : s.data.toList = t.data.toList
  · simp [h, sb]
  · have : ¬ sb s = sb t := fun e => h (sb_inj e)
    rw [beq_eq_false_iff_ne.mpr h, decide_eq_false this]

set_option maxHeartbeats 400000 in
theorem bequal_any {w : World} {a b : Option Addr} {l k : List Int} (ha : Row w a l) (hb : Row w b k) (n m : Nat) (hn : l.length = n) (hm : k.length = m) (ca cb : Nat) :
    Calls Tryz.prog 92 #[.slice a n ca, .slice b m cb] w fun e w' => e = .returned (.bool (decide (l = k))) ∧ w = w' := by
  subst hm
  subst hn
  have h1 := row_string ha ca
  have h2 := row_string hb cb
  rw [← str_same ha.bytes hb.bytes]
  generalize strOfNums l = s at h1 h2
  generalize strOfNums k = t at h1 h2
  go_enter Tryz.func92, Tryz.ntmps92
  go_wp2
  go_ret
  exact ⟨rfl, rfl⟩
end Go.Proofs.YtbccadbnaggkhaaGreat

