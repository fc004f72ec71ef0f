/-
  Keys as text: the program's Key and the document's own, at every text.
  Of no one layer: elements of a slice of the call's own that grows, beside whatever else the call made.
  Two digits as a byte, and keys: the document's own two and Key, at every text.
  The program's put, get and split, and bytes.Equal, whatever they are handed.
-/
import Derived.Test.YtneciccdiledfaaGreatDoorMl07
import Derived.Maps.AppendAt
import Derived.Lib.AppendStr
import Derived.Deep.RegionHeld3
import Derived.BigQuiet
import Derived.Shelf.Abstract
import Derived.Laws.EntriesVeiled
namespace Go.Proofs.YtneciccdiledfaaGreatDoor
open Go.RowKit
open Ad
open Sm (IsBytes)
set_option linter.unusedVariables false

abbrev z8 : List Int := [0, 0, 0, 0, 0, 0, 0, 0]
/-- What is answered: the bytes, or noughts; the error, or none. -/
def kv (o : Option (List Int)) : Value := .agg (ab (o.getD z8))
def le {α : Type} (o : Option α) : Int := if o.isSome then 0 else 60
theorem two_blocks (w : World) (a b : Obj) : Mem w ((w.alloc a).alloc b) [(w.heap.size + 1, b), (w.heap.size, a)] := by
  have h := ((Mem.nil w).push w.heap.size a rfl).push (w.heap.size + 1) b (by simp)
  exact h.perm (List.Perm.swap _ _ _)
theorem results_two {fn : Func} {p q : Tmp} {ty : TypeId} (h : fn.results = #[.cell p ty, .tmp q]) (tmps : Array Value) (w : World) (g : Nat) (cs : Array Value)
    (hp : tmps.getD p undef = .pointer (some ⟨g, 0, none⟩)) (hl : (loadVar ty ⟨g, 0, none⟩).run Tryz.prog w = .ok (.agg cs) w) :
    (results fn tmps).run Tryz.prog w = .ok (.tuple #[.agg cs, tmps.getD q undef]) w := by
  have hp' : tmps[p]?.getD undef = .pointer (some ⟨g, 0, none⟩) := by simpa using hp
  simp [results, h, hp', asAddr, hl]
theorem post_let {P : Program} {fn : Func} {R : Ending → World → Prop} {e : Exit} {a : Act} {W : World} (S : World → Prop) (h : S W) (k : ∀ W', S W' → bodyPost P fn R e a W') : bodyPost P fn R e a W := k W h
theorem Mem.byte {w W : World} {g : Nat} {T : TypeId} {L : List (Nat × Obj)} {l : List Int} (h : Mem w W ((g, .cells (ab l) T (0, 0)) :: L)) (j : Nat) (x : Int) :
    Mem w (W.setCell ⟨g, j, none⟩ (.int .u8 x)) ((g, .cells (ab (l.set j x)) T (0, 0)) :: L) := by
  have := h.set 0 rfl j (.int .u8 x)
  rw [ab_set] at this
  exact this
theorem Mem.flip {w W : World} {p q : Nat × Obj} {L : List (Nat × Obj)} (h : Mem w W (p :: q :: L)) : Mem w W (q :: p :: L) := h.perm (List.Perm.swap _ _ _)
theorem Mem.put8 {w W : World} {g : Nat} {T : TypeId} {L : List (Nat × Obj)} {o : List Int} (h : Mem w W ((g, .cells (ab o) T (0, 0)) :: L)) (ho : o.length = 8) (a b c d e f x y : Int) :
    Mem w ((((((((W.setCell ⟨g, 0, none⟩ (.int .u8 a)).setCell ⟨g, 1, none⟩ (.int .u8 b)).setCell ⟨g, 2, none⟩ (.int .u8 c)).setCell ⟨g, 3, none⟩ (.int .u8 d)).setCell ⟨g, 4, none⟩ (.int .u8 e)).setCell ⟨g, 5, none⟩ (.int .u8 f)).setCell ⟨g, 6, none⟩ (.int .u8 x)).setCell ⟨g, 7, none⟩ (.int .u8 y)) ((g, .cells (ab [a, b, c, d, e, f, x, y]) T (0, 0)) :: L) := by
  obtain ⟨p0, p1, p2, p3, p4, p5, p6, p7, rfl⟩ := eight ho
  exact (((((((h.byte 0 a).byte 1 b).byte 2 c).byte 3 d).byte 4 e).byte 5 f).byte 6 x).byte 7 y
theorem Mem.put6 {w W : World} {g : Nat} {T : TypeId} {L : List (Nat × Obj)} {o : List Int} (h : Mem w W ((g, .cells (ab o) T (0, 0)) :: L)) (ho : o.length = 6) (a b c d e f : Int) :
    Mem w ((((((W.setCell ⟨g, 0, none⟩ (.int .u8 a)).setCell ⟨g, 1, none⟩ (.int .u8 b)).setCell ⟨g, 2, none⟩ (.int .u8 c)).setCell ⟨g, 3, none⟩ (.int .u8 d)).setCell ⟨g, 4, none⟩ (.int .u8 e)).setCell ⟨g, 5, none⟩ (.int .u8 f)) ((g, .cells (ab [a, b, c, d, e, f]) T (0, 0)) :: L) := by
  obtain ⟨p0, p1, p2, p3, p4, p5, rfl⟩ := six ho
  exact (((((h.byte 0 a).byte 1 b).byte 2 c).byte 3 d).byte 4 e).byte 5 f

set_option maxHeartbeats 4000000 in
set_option maxRecDepth 20000 in
theorem key_any (s : ByteArray) (w : World) :
    Calls Tryz.prog 78 #[.string s] w fun e w' => e = .returned (.tuple #[kv (key s.data.toList), .int .i64 (le (key s.data.toList))]) ∧ Below w.heap.size w w' := by
  have hM0 := two_blocks w (.cells (ab z8) 26 (0, 0)) (.cells (ab z8) 26 (0, 0))
  have cR := readHex_any hM0 s 0 8 8 (by simp) (by intro i; match i with | 0 | 1 | 2 | 3 | 4 | 5 | 6 | 7 => simp | i + 8 => simp) (by simp)
  obtain ⟨k1, k2⟩ := rh_key s.data.toList
  cases hk : key s.data.toList with
  | none =>
    have k3 := k2 hk
    obtain ⟨ok, l, hrl⟩ : ∃ ok l, rh s.data.toList 0 8 z8 = (ok, l) := ⟨_, _, rfl⟩
    rw [hrl] at cR
    rw [show rh s.data.toList 0 8 [0, 0, 0, 0, 0, 0, 0, 0] = (ok, l) from hrl] at k3
    have k3 : ok = false := k3
    subst k3
    clear k1 k2 hM0 hrl
    go_enter Tryz.func78, Tryz.ntmps78
    go_wp2_with fail
    refine cR.mono ?_
    rintro e W1 ⟨rfl, hM1⟩
    have c0 := hM1.cell 1 rfl 0
    have c1 := hM1.cell 1 rfl 1
    have c2 := hM1.cell 1 rfl 2
    have c3 := hM1.cell 1 rfl 3
    have c4 := hM1.cell 1 rfl 4
    have c5 := hM1.cell 1 rfl 5
    have c6 := hM1.cell 1 rfl 6
    have c7 := hM1.cell 1 rfl 7
    have f0 := hM1.free 1 rfl
    go_wp2_with fail
    refine post_let (fun W2 => Mem w W2 [(w.heap.size, .cells (ab z8) 26 (0, 0)), (w.heap.size + 1, .cells (ab l) 26 (0, 0))]) (hM1.flip.put8 rfl 0 0 0 0 0 0 0 0) ?_
    intro W2 hM2
    refine bodyPost_ret (v := .tuple #[.agg (ab z8), .int .i64 60]) ?_ rfl ⟨rfl, hM2.below⟩
    exact results_two (p := 2) (q := 3) (ty := 26) rfl _ _ w.heap.size (ab z8) rfl (run_loadVar_row _ _ 26 26 _ (0, 0) _ (hM2.get 0 rfl) Tryz.underlying26 rfl (by kernel_rfl))
  | some r =>
    obtain ⟨k3, k4⟩ := k1 r hk
    obtain ⟨a, b, c, d, e, f, x, y, rfl⟩ := eight k4
    rw [show rh s.data.toList 0 8 z8 = (true, [a, b, c, d, e, f, x, y]) from k3] at cR
    clear k1 k2 hM0 k3 k4 hk
    go_enter Tryz.func78, Tryz.ntmps78
    go_wp2_with fail
    refine cR.mono ?_
    rintro e1 W1 ⟨rfl, hM1⟩
    have c0 : W1.cell? ⟨w.heap.size, 0, none⟩ = some (.int .u8 0) := hM1.cell 1 rfl 0
    have c1 : W1.cell? ⟨w.heap.size, 1, none⟩ = some (.int .u8 0) := hM1.cell 1 rfl 1
    have c2 : W1.cell? ⟨w.heap.size, 2, none⟩ = some (.int .u8 0) := hM1.cell 1 rfl 2
    have c3 : W1.cell? ⟨w.heap.size, 3, none⟩ = some (.int .u8 0) := hM1.cell 1 rfl 3
    have c4 : W1.cell? ⟨w.heap.size, 4, none⟩ = some (.int .u8 0) := hM1.cell 1 rfl 4
    have c5 : W1.cell? ⟨w.heap.size, 5, none⟩ = some (.int .u8 0) := hM1.cell 1 rfl 5
    have c6 : W1.cell? ⟨w.heap.size, 6, none⟩ = some (.int .u8 0) := hM1.cell 1 rfl 6
    have c7 : W1.cell? ⟨w.heap.size, 7, none⟩ = some (.int .u8 0) := hM1.cell 1 rfl 7
    have f0 := hM1.free 1 rfl
    have d0 : W1.cell? ⟨w.heap.size + 1, 0, none⟩ = some (.int .u8 a) := hM1.cell 0 rfl 0
    have d1 : W1.cell? ⟨w.heap.size + 1, 1, none⟩ = some (.int .u8 b) := hM1.cell 0 rfl 1
    have d2 : W1.cell? ⟨w.heap.size + 1, 2, none⟩ = some (.int .u8 c) := hM1.cell 0 rfl 2
    have d3 : W1.cell? ⟨w.heap.size + 1, 3, none⟩ = some (.int .u8 d) := hM1.cell 0 rfl 3
    have d4 : W1.cell? ⟨w.heap.size + 1, 4, none⟩ = some (.int .u8 e) := hM1.cell 0 rfl 4
    have d5 : W1.cell? ⟨w.heap.size + 1, 5, none⟩ = some (.int .u8 f) := hM1.cell 0 rfl 5
    have d6 : W1.cell? ⟨w.heap.size + 1, 6, none⟩ = some (.int .u8 x) := hM1.cell 0 rfl 6
    have d7 : W1.cell? ⟨w.heap.size + 1, 7, none⟩ = some (.int .u8 y) := hM1.cell 0 rfl 7
    go_wp2_with fail
    refine post_let (fun W2 => Mem w W2 [(w.heap.size, .cells (ab [a, b, c, d, e, f, x, y]) 26 (0, 0)), (w.heap.size + 1, .cells (ab [a, b, c, d, e, f, x, y]) 26 (0, 0))]) (hM1.flip.put8 rfl a b c d e f x y) ?_
    intro W2 hM2
    refine bodyPost_ret (v := .tuple #[.agg (ab [a, b, c, d, e, f, x, y]), .int .i64 0]) ?_ rfl ⟨rfl, hM2.below⟩
    exact results_two (p := 2) (q := 3) (ty := 26) rfl _ _ w.heap.size (ab [a, b, c, d, e, f, x, y]) rfl (run_loadVar_row _ _ 26 26 _ (0, 0) _ (hM2.get 0 rfl) Tryz.underlying26 rfl (by kernel_rfl))
end Go.Proofs.YtneciccdiledfaaGreatDoor

namespace Go.Proofs.YtneciccdiledfaaGreatDoor
open Go.RowKit
open Sm
set_option linter.unusedVariables false

/-- v is a slice of n elements of type e (sz cells each) that the call made, or none yet: its cells are xs; the blocks L are others. -/
def Ow (w W : World) (e : TypeId) (sz : Nat) (v : Value) (n : Nat) (xs : List Value) (L : List (Nat × Obj)) : Prop :=
  xs.length = n * sz ∧ ((v = .slice none 0 0 ∧ n = 0 ∧ Mem w W L) ∨
    ∃ g cap cur, v = .slice (some ⟨g, 0, none⟩) n cap ∧ Mem w W ((g, .cells cur e (0, 0)) :: L) ∧ n ≤ cap ∧ cap ≤ maxLen ∧ cur.size = cap * sz ∧ cur.toList.take (n * sz) = xs)
section
variable {w W W' : World} {e t ty : TypeId} {sz bytes n m : Nat} {v v' z : Value} {xs ys : List Value} {L : List (Nat × Obj)}
theorem Ow.nil (h : Mem w W L) : Ow w W e sz (.slice none 0 0) 0 [] L := ⟨by simp, Or.inl ⟨rfl, rfl, h⟩⟩
theorem Ow.mem (h : Ow w W e sz v n xs L) : Mem w W L := by
  rcases h.2 with ⟨_, _, h⟩ | ⟨g, cap, cur, _, h, _⟩
  · exact h
  · exact h.sub
theorem Ow.owns (h : Ow w W e sz v n xs L) : W.ownsRow w.heap.size e sz v n xs := by
  refine ⟨h.1, ?_⟩
  rcases h.2 with ⟨rfl, rfl, _⟩ | ⟨g, cap, cur, rfl, hm, r⟩
  · exact Or.inl ⟨rfl, rfl⟩
  · exact Or.inr ⟨g, cap, cur, rfl, hm.ge 0 rfl, hm.get 0 rfl, r⟩
theorem Ow.after (h : Ow w W e sz v n xs L) (hb : Below W.heap.size W W') : Ow w W' e sz v n xs L := by
  refine ⟨h.1, ?_⟩
  rcases h.2 with ⟨rfl, rfl, hm⟩ | ⟨g, cap, cur, rfl, hm, r⟩
  · exact Or.inl ⟨rfl, rfl, hm.after hb⟩
  · exact Or.inr ⟨g, cap, cur, rfl, hm.after hb, r⟩
theorem Ow.of (h : Ow w W e sz v n xs L) (ho : W'.ownsRow w.heap.size e sz v' m ys) (hg : W.grownBy W' v.ownBlock) (hat : v'.ownBlock = v.ownBlock ∨ v'.ownBlock = some W.heap.size) : Ow w W' e sz v' m ys L := by
  have hM := h.mem
  have hge : ∀ k, v.ownBlock = some k → w.heap.size ≤ k ∧ ∀ p ∈ L, p.1 ≠ k := by
    intro k hk
    rcases h.2 with ⟨rfl, _⟩ | ⟨g, cap, cur, rfl, hm, r⟩
    · simp [Value.ownBlock] at hk
    · simp only [Value.ownBlock, Option.some.injEq] at hk
      subst hk
      refine ⟨hm.ge 0 rfl, fun p hp e => ?_⟩
      have := (List.nodup_cons.mp hm.apart).1
      exact this (by simp only [List.mem_map]; exact ⟨p, hp, e⟩)
  have hM' : Mem w W' L := by
    refine ⟨hM.below.grown hg hM.below.size (fun k hk => (hge k hk).1), hM.low, fun p hp => ?_, hM.apart⟩
    rw [hg.block p.1 (hM.lt hp) (fun e => (hge p.1 e.symm).2 p hp rfl)]
    exact hM.at_ p hp
  refine ⟨ho.1, ?_⟩
  rcases ho.2 with ⟨rfl, rfl⟩ | ⟨g, cap, cur, rfl, hb, hh, r⟩
  · exact Or.inl ⟨rfl, rfl, hM'⟩
  · refine Or.inr ⟨g, cap, cur, rfl, ⟨hM'.below, fun p hp => ?_, fun p hp => ?_, ?_⟩, r⟩
    · rcases List.mem_cons.mp hp with rfl | hp
      · exact hb
      · exact hM'.low p hp
    · rcases List.mem_cons.mp hp with rfl | hp
      · exact hh
      · exact hM'.at_ p hp
    · rw [List.map_cons, List.nodup_cons]
      refine ⟨fun hin => ?_, hM'.apart⟩
      obtain ⟨p, hp, ep⟩ := List.mem_map.mp hin
      simp only [Value.ownBlock] at hat
      rcases hat with hat | hat
      · exact (hge g hat.symm).2 p hp ep
      · simp only [Option.some.injEq] at hat
        have := hM.lt hp
        simp only at ep
        omega
theorem ow_append (ht : Tryz.prog.underlying t = some (.slice e)) (hi : (Tryz.prog.info? e).map (fun i => (i.zero, i.size, i.bytes)) = some (some z, sz, bytes)) (hzs : z.cells.size = sz) (hsz : 0 < sz)
    (h : Ow w W e sz v n xs L) (a : Addr) (m c : Nat) (news : List Value) (hl : news.length = m * sz) (hnews : ∀ j u, news[j]? = some u → W.cell? (a.add j) = some u) (h1 : ∀ u ∈ news, u.oneCell' = true)
    (h63 : n + m ≤ maxLen) (hb : (n + m) * bytes ≤ 140737488355328) :
    ∃ v' W', (Builtin.append_ #[t, t] ty #[v, .slice (some a) m c]).run Tryz.prog W = .ok v' W' ∧ Ow w W' e sz v' (n + m) (xs ++ news) L := by
  obtain ⟨i, hi, hz, hs1, hby⟩ := info_parts hi
  obtain ⟨v', W', hr, h2, h3, _, h4⟩ := run_append_own_at (P := Tryz.prog) W w.heap.size t ty e i z sz bytes ht hi hz hs1 hby hzs hsz v n xs h.owns a m c news hl hnews h1 h63 hb h.mem.below.size
  exact ⟨v', W', hr, h.of h2 h3 h4⟩
end

theorem wpList_append_run {ops : Array Oper} {rest : List Oper} {o : Oper} {a : Act} {W : World} {Q : Exit → Act → World → Prop}
    (s x : Operand) (t tn : TypeId) (ho : o.op = .call { callee := .builtin .append, args := #[s, x], argTypes := #[t, tn] }) {vs vx : Value}
    {v' : Value} {w' : World} {ty : TypeId} (hr : (Builtin.append_ #[t, tn] ty #[vs, vx]).run Tryz.prog W = .ok v' w') (hty : o.type = ty) (hgd : Region.wanted o (yielded ops a.tmps) = true) (hs : a.eval s = vs) (hx : a.eval x = vx) (h : wpList Tryz.prog ops Q rest (a.put o.dst v') w') :
    wpList Tryz.prog ops Q (o :: rest) a W := by
  subst hty; exact wpList_wanted hgd fun K hK => wp_append_out s x t tn ho hs hx hr (hK _ _ h)

/-- Bytes of the call's own. -/
def Out (w W : World) (v : Value) (l : List Int) (L : List (Nat × Obj)) : Prop := IsBytes l ∧ Ow w W 5 1 v l.length (l.map (Value.int .u8)) L
section
variable {w W W' : World} {v : Value} {l : List Int} {L : List (Nat × Obj)}
theorem Out.mem (h : Out w W v l L) : Mem w W L := h.2.mem
theorem Out.after (h : Out w W v l L) (hb : Below W.heap.size W W') : Out w W' v l L := ⟨h.1, h.2.after hb⟩
theorem Out.nil (h : Mem w W L) : Out w W (.slice none 0 0) [] L := ⟨bytes_nil, Ow.nil h⟩
theorem Out.own (h : Out w W v l L) : W.ownsRow w.heap.size 5 1 v l.length (l.map (Value.int .u8)) := h.2.owns
theorem Out.drop {p : Nat × Obj} (h : Out w W v l (p :: L)) : Out w W v l L := by
  refine ⟨h.1, h.2.1, ?_⟩
  rcases h.2.2 with ⟨rfl, e, hm⟩ | ⟨g, cap, cur, rfl, hm, r⟩
  · exact Or.inl ⟨rfl, e, hm.sub⟩
  · exact Or.inr ⟨g, cap, cur, rfl, (hm.perm (List.Perm.swap _ _ _)).sub, r⟩
theorem Out.add {o : Obj} {g : Nat} (h : Out w W v l L) (hg : g = W.heap.size) : Out w (W.alloc o) v l ((g, o) :: L) := by
  refine ⟨h.1, h.2.1, ?_⟩
  rcases h.2.2 with ⟨rfl, e, hm⟩ | ⟨k, cap, cur, rfl, hm, r⟩
  · exact Or.inl ⟨rfl, e, (hm.push g o hg).perm List.perm_append_comm⟩
  · refine Or.inr ⟨k, cap, cur, rfl, (hm.push g o hg).perm ?_, r⟩
    exact List.perm_append_comm.trans (List.Perm.swap _ _ _)
theorem Out.perm {K : List (Nat × Obj)} (h : Out w W v l L) (hp : L.Perm K) : Out w W v l K := by
  refine ⟨h.1, h.2.1, ?_⟩
  rcases h.2.2 with ⟨rfl, e, hm⟩ | ⟨g, cap, cur, rfl, hm, r⟩
  · exact Or.inl ⟨rfl, e, hm.perm hp⟩
  · exact Or.inr ⟨g, cap, cur, rfl, hm.perm (hp.cons _), r⟩
theorem out_append (h : Out w W v l L) (ad : Addr) (m c : Nat) (k : List Int) (hk : k.length = m) (hr : Row W (some ad) k) (hb : l.length + m ≤ 1000000000) (ty : TypeId) :
    ∃ v' W', (Builtin.append_ #[49, 49] ty #[v, .slice (some ad) m c]).run Tryz.prog W = .ok v' W' ∧ Out w W' v' (l ++ k) L := by
  obtain ⟨v', W', h1, h2⟩ := ow_append (ty := ty) Tryz.underlying49 info5 rfl (by decide) h.2 ad m c (k.map (Value.int .u8)) (by simp [hk]) (by
    rcases hr.cells with e | ⟨b, off, e, _⟩
    · subst e; intro j u hj; simp at hj
    · cases e; exact hr.news) (ints_oneCell _ _) (by unfold maxLen; omega) (by omega)
  refine ⟨v', W', h1, Cf.bytes_app h.1 hr.bytes, ?_⟩
  rw [List.length_append, List.map_append, hk]
  exact h2
theorem out_one (h : Out w W v l L) (x : Int) (hx : 0 ≤ x ∧ x ≤ 255) (hb : l.length + 1 ≤ 1000000000) (ty : TypeId) :
    ∃ v' W', (Builtin.append_ #[49, 49] ty #[v, .slice (some ⟨W.heap.size, 0, none⟩) 1 1]).run Tryz.prog (W.alloc (.cells #[.int .u8 x] 5)) = .ok v' W' ∧ Out w W' v' (l ++ [x]) L := by
  have hr := row_lit W [x] (bytes_cons hx bytes_nil) (by simp) 5
  exact out_append (h.after ((Below.refl _ _).alloc (Nat.le_refl _) _)) _ 1 1 [x] rfl hr hb ty
theorem strCells_nums (s : ByteArray) : Lib.strCells s = (s.data.toList.map (fun b => (b.toNat : Int))).map (Value.int .u8) := by
  simp [Lib.strCells, Function.comp_def]
end
/-- A text's bytes as numbers. -/
def sb (s : ByteArray) : List Int := s.data.toList.map (fun b => (b.toNat : Int))
theorem sb_len (s : ByteArray) : (sb s).length = s.size := by simp only [sb, List.length_map, Array.length_toList]; rfl
theorem sb_bytes (s : ByteArray) : IsBytes (sb s) := by
  intro i
  by_cases h : i < (sb s).length
  · rw [getD_eq h]
    simp only [sb, List.getElem_map]
    have := (s.data.toList[i]'(by simpa [sb] using h)).toNat_lt
    omega
  · have : (sb s).getD i 0 = 0 := by simp [List.getD, List.getElem?_eq_none (Nat.le_of_not_lt h)]
    rw [this]; omega
theorem ok_block {a b : Value} {w w' : World} (h : (Result.ok a w : Result Value) = .ok b w') : a.ownBlock = b.ownBlock := by cases h; rfl
theorem out_str {w W : World} {v : Value} {l : List Int} {L : List (Nat × Obj)} (h : Out w W v l L) (s : ByteArray) (hb : l.length + s.size ≤ 1000000000) (ty : TypeId) :
    ∃ v' W', (Builtin.append_ #[49, 9] ty #[v, .string s]).run Tryz.prog W = .ok v' W' ∧ Out w W' v' (l ++ sb s) L := by
  obtain ⟨i, hi, hz, hs1, hby⟩ := info_parts info5
  have hM := h.mem
  have hu := Tryz.underlying49
  have hus := Tryz.underlying9
  obtain ⟨v', W', hr, h2, h3, h4⟩ := Lib.run_append_own_string (P := Tryz.prog) W w.heap.size 49 9 ty 5 i hu hus hi hz hs1 hby v l.length _ h.own s (by unfold maxLen; omega) (by omega) hM.below.size
  refine ⟨v', W', hr, Cf.bytes_app h.1 (sb_bytes s), ?_⟩
  rw [List.length_append, List.map_append, sb_len]
  rw [strCells_nums] at h2
  refine h.2.of h2 h3 ?_
  rcases h.2.2 with ⟨rfl, e, hm⟩ | ⟨g, cap, cur, rfl, hm, hnc, hcm, hcs, htake⟩
  · have e0 : l = [] := List.length_eq_zero_iff.mp e
    subst e0
    obtain ⟨v2, W2, hr2, h22, _⟩ := Lib.run_append_own_string (P := Tryz.prog) W W.heap.size 49 9 ty 5 i hu hus hi hz hs1 hby (.slice none 0 0) 0 [] (World.ownsRow_nil _ _ _ _) s (by unfold maxLen; omega) (by omega) (Nat.le_refl _)
    rw [hr] at hr2
    cases hr2
    rcases h22.2 with ⟨rfl, _⟩ | ⟨g, cap, cur, rfl, hb, hh, _⟩
    · exact Or.inl rfl
    · right
      simp only [Value.ownBlock, Option.some.injEq]
      -- the block is the next one: nothing else was made
      have hg0 := hr
      by_cases hs0 : s.size = 0
      · have := (h4.2 ⟨rfl, hs0⟩); cases this
      · have := run_append_nil_string (P := Tryz.prog) W 49 9 ty 5 i (.int .u8 0) hu hus hi hz s (by omega) (by omega) (by rw [hby]; omega)
        have e1 := ok_block (hr.symm.trans this)
        simpa [Value.ownBlock] using e1
  · by_cases hroom : l.length + s.size ≤ cap
    · have := Lib.run_append_room_string (P := Tryz.prog) W 49 9 ty 5 i hu hus hi hs1 g l.length cap cur (hm.get 0 rfl) s hroom (by omega)
      have e1 := ok_block (hr.symm.trans this)
      exact Or.inl e1
    · have := Lib.run_append_grow_string (P := Tryz.prog) W 49 9 ty 5 i (.int .u8 0) hu hus hi hz ⟨g, 0, none⟩ l.length cap (l.map (Value.int .u8)) (by rw [hs1]; simp) (World.ownsRow.cells h.own rfl) s (by omega) (by omega) (growslice_fits (by omega) (by rw [hby]; omega))
      have e1 := ok_block (hr.symm.trans this)
      exact Or.inr e1
end Go.Proofs.YtneciccdiledfaaGreatDoor

namespace Go.Proofs.YtneciccdiledfaaGreatDoor
open Go.RowKit
open Ad
open Sm (IsBytes)
set_option linter.unusedVariables false

end Go.Proofs.YtneciccdiledfaaGreatDoor

namespace Go.Proofs.YtneciccdiledfaaGreatDoor
open Go.RowKit
open Sm
open Cf
set_option linter.unusedVariables false
set_option maxRecDepth 20000

/-- A slice that reads as the bytes l. -/
structure Sl (V : World) (a : Option Addr) (l : List Int) (c : Nat) : Prop where
  row : Row V a l
  le : l.length ≤ c
  big : c ≤ 9223372036854775807
  nil : a = none → c = 0
theorem Mem.sl {w W : World} {L : List (Nat × Obj)} (h : Mem w W L) {a : Option Addr} {l : List Int} {c : Nat} (hr : Sl w a l c) : Sl W a l c := ⟨h.row hr.row, hr.le, hr.big, hr.nil⟩
theorem row_empty (V : World) (a : Option Addr) : Row V a [] := ⟨bytes_nil, by simp, Or.inl rfl⟩
/-- What a field's read answers: what was read and the others behind, or nothing. -/
def RPost {σ : Type} (w : World) (L : List (Nat × Obj)) (J : σ → World → Prop) (r : Option (σ × List Int)) (e : Ending) (W' : World) : Prop :=
  match r with
  | none => e = .returned (.tuple #[.slice none 0 0, .bool false]) ∧ Mem w W' L
  | some (s, l') => ∃ a c, e = .returned (.tuple #[.slice a l'.length c, .bool true]) ∧ Sl w a l' c ∧ J s W'
theorem RPost.mono {σ τ : Type} {w : World} {L K : List (Nat × Obj)} {J : σ → World → Prop} {H : τ → World → Prop} {r : Option (σ × List Int)} {q : Option (τ × List Int)} {e : Ending} {W' : World} (f : σ → τ) (hq : q = r.map (fun x => (f x.1, x.2)))
    (h : RPost w L J r e W') (hn : Mem w W' L → Mem w W' K) (hs : ∀ s, J s W' → H (f s) W') : RPost w K H q e W' := by
  subst hq
  cases r with
  | none => exact ⟨h.1, hn h.2⟩
  | some x => obtain ⟨a, c, h1, h2, h3⟩ := h; exact ⟨a, c, h1, h2, hs _ h3⟩

/-- What n fields write, one behind the other. -/
def cat (enc : Nat → List Int) : Nat → List Int
  | 0 => []
  | n + 1 => cat enc n ++ enc n
/-- What m fields from the i-th on read, one behind the other. -/
def sq {σ : Type} (dec : Nat → List Int → σ → Option (σ × List Int)) : Nat → Nat → List Int → σ → Option (σ × List Int)
  | _, 0, l, s => some (s, l)
  | i, m + 1, l, s => match dec i l s with
    | none => none
    | some (s', l') => sq dec (i + 1) m l' s'
/-- A text with its length ahead, up to 255 bytes of it. -/
def nm (s : ByteArray) : List Int := ((min s.size 255 : Nat) : Int) :: (sb s).take 255
/-- A text is read: its length, and so many bytes. -/
def dtxt : List Int → Option (ByteArray × List Int)
  | [] => none
  | b :: r => if r.length < b.toNat then none else some (strOfNums (r.take b.toNat), r.drop b.toNat)
theorem sb_inj {s t : ByteArray} (h : sb s = sb t) : s.data.toList = t.data.toList := by
  unfold sb at h
  exact (List.map_inj_right (fun a b e => UInt8.toNat_inj.mp (Int.ofNat_inj.mp e))).mp h
theorem text_same (s t : ByteArray) : (s.toList == t.toList) = decide (sb s = sb t) := by
  rw [ByteArray.toList_eq, ByteArray.toList_eq]
  by_cases h : s.data.toList = t.data.toList
  · simp [h, sb]
  · have : ¬ sb s = sb t := fun e => h (sb_inj e)
    rw [beq_eq_false_iff_ne.mpr h, decide_eq_false this]

end Go.Proofs.YtneciccdiledfaaGreatDoor

