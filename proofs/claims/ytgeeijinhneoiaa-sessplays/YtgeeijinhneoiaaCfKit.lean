/-
  Of no one layer: elements of a slice of the call's own that grows, beside whatever else the call made.
-/
import Derived.Test.YtgeeijinhneoiaaCfMath
import Derived.Maps.AppendAt
import Derived.Lib.AppendStr
namespace Go.Proofs.Ytgeeijinhneoiaa
open Go.RowKit
open Sm
set_option linter.unusedVariables false

/-- v is a slice of n elements of type e (sz cells each) that the call made, or none yet: its cells are xs; the blocks L are others. -/
def Ow (w W : World) (e : TypeId) (sz : Nat) (v : Value) (n : Nat) (xs : List Value) (L : List (Nat × Obj)) : Prop :=
  xs.length = n * sz ∧ ((v = .slice none 0 0 ∧ n = 0 ∧ Mem w W L) ∨
    ∃ g cap cur, v = .slice (some ⟨g, 0, none⟩) n cap ∧ Mem w W ((g, .cells cur e (0, 0)) :: L) ∧ n ≤ cap ∧ cap ≤ maxLen ∧ cur.size = cap * sz ∧ cur.toList.take (n * sz) = xs)
section
variable {w W W' : World} {e t ty : TypeId} {sz bytes n m : Nat} {v v' z : Value} {xs ys : List Value} {L : List (Nat × Obj)}
theorem Ow.nil (h : Mem w W L) : Ow w W e sz (.slice none 0 0) 0 [] L := ⟨by simp, Or.inl ⟨rfl, rfl, h⟩⟩
theorem Ow.mem (h : Ow w W e sz v n xs L) : Mem w W L := by
  rcases h.2 with ⟨_, _, h⟩ | ⟨g, cap, cur, _, h, _⟩
  · exact h
  · exact h.sub
theorem Ow.owns (h : Ow w W e sz v n xs L) : W.ownsRow w.heap.size e sz v n xs := by
  refine ⟨h.1, ?_⟩
  rcases h.2 with ⟨rfl, rfl, _⟩ | ⟨g, cap, cur, rfl, hm, r⟩
  · exact Or.inl ⟨rfl, rfl⟩
  · exact Or.inr ⟨g, cap, cur, rfl, hm.ge 0 rfl, hm.get 0 rfl, r⟩
theorem Ow.after (h : Ow w W e sz v n xs L) (hb : Below W.heap.size W W') : Ow w W' e sz v n xs L := by
  refine ⟨h.1, ?_⟩
  rcases h.2 with ⟨rfl, rfl, hm⟩ | ⟨g, cap, cur, rfl, hm, r⟩
  · exact Or.inl ⟨rfl, rfl, hm.after hb⟩
  · exact Or.inr ⟨g, cap, cur, rfl, hm.after hb, r⟩
theorem Ow.of (h : Ow w W e sz v n xs L) (ho : W'.ownsRow w.heap.size e sz v' m ys) (hg : W.grownBy W' v.ownBlock) (hat : v'.ownBlock = v.ownBlock ∨ v'.ownBlock = some W.heap.size) : Ow w W' e sz v' m ys L := by
  have hM := h.mem
  have hge : ∀ k, v.ownBlock = some k → w.heap.size ≤ k ∧ ∀ p ∈ L, p.1 ≠ k := by
    intro k hk
    rcases h.2 with ⟨rfl, _⟩ | ⟨g, cap, cur, rfl, hm, r⟩
    · simp [Value.ownBlock] at hk
    · simp only [Value.ownBlock, Option.some.injEq] at hk
      subst hk
      refine ⟨hm.ge 0 rfl, fun p hp e => ?_⟩
      have := (List.nodup_cons.mp hm.apart).1
      exact this (by simp only [List.mem_map]; exact ⟨p, hp, e⟩)
  have hM' : Mem w W' L := by
    refine ⟨hM.below.grown hg hM.below.size (fun k hk => (hge k hk).1), hM.low, fun p hp => ?_, hM.apart⟩
    rw [hg.block p.1 (hM.lt hp) (fun e => (hge p.1 e.symm).2 p hp rfl)]
    exact hM.at_ p hp
  refine ⟨ho.1, ?_⟩
  rcases ho.2 with ⟨rfl, rfl⟩ | ⟨g, cap, cur, rfl, hb, hh, r⟩
  · exact Or.inl ⟨rfl, rfl, hM'⟩
  · refine Or.inr ⟨g, cap, cur, rfl, ⟨hM'.below, fun p hp => ?_, fun p hp => ?_, ?_⟩, r⟩
    · rcases List.mem_cons.mp hp with rfl | hp
      · exact hb
      · exact hM'.low p hp
    · rcases List.mem_cons.mp hp with rfl | hp
      · exact hh
      · exact hM'.at_ p hp
    · rw [List.map_cons, List.nodup_cons]
      refine ⟨fun hin => ?_, hM'.apart⟩
      obtain ⟨p, hp, ep⟩ := List.mem_map.mp hin
      simp only [Value.ownBlock] at hat
      rcases hat with hat | hat
      · exact (hge g hat.symm).2 p hp ep
      · simp only [Option.some.injEq] at hat
        have := hM.lt hp
        simp only at ep
        omega
theorem ow_append (ht : Try.prog.underlying t = some (.slice e)) (hi : (Try.prog.info? e).map (fun i => (i.zero, i.size, i.bytes)) = some (some z, sz, bytes)) (hzs : z.cells.size = sz) (hsz : 0 < sz)
    (h : Ow w W e sz v n xs L) (a : Addr) (m c : Nat) (news : List Value) (hl : news.length = m * sz) (hnews : ∀ j u, news[j]? = some u → W.cell? (a.add j) = some u) (h1 : ∀ u ∈ news, u.oneCell' = true)
    (h63 : n + m ≤ maxLen) (hb : (n + m) * bytes ≤ 140737488355328) :
    ∃ v' W', (Builtin.append_ #[t, t] ty #[v, .slice (some a) m c]).run Try.prog W = .ok v' W' ∧ Ow w W' e sz v' (n + m) (xs ++ news) L := by
  obtain ⟨i, hi, hz, hs1, hby⟩ := info_parts hi
  obtain ⟨v', W', hr, h2, h3, _, h4⟩ := run_append_own_at (P := Try.prog) W w.heap.size t ty e i z sz bytes ht hi hz hs1 hby hzs hsz v n xs h.owns a m c news hl hnews h1 h63 hb h.mem.below.size
  exact ⟨v', W', hr, h.of h2 h3 h4⟩
end

theorem wpList_append_run {ops : Array Oper} {rest : List Oper} {o : Oper} {a : Act} {W : World} {Q : Exit → Act → World → Prop}
    (s x : Operand) (t tn : TypeId) (ho : o.op = .call { callee := .builtin .append, args := #[s, x], argTypes := #[t, tn] }) {vs vx : Value}
    {v' : Value} {w' : World} {ty : TypeId} (hr : (Builtin.append_ #[t, tn] ty #[vs, vx]).run Try.prog W = .ok v' w') (hty : o.type = ty) (hgd : Region.wanted o (yielded ops a.tmps) = true) (hs : a.eval s = vs) (hx : a.eval x = vx) (h : wpList Try.prog ops Q rest (a.put o.dst v') w') :
    wpList Try.prog ops Q (o :: rest) a W := by
  subst hty; exact wpList_wanted hgd fun K hK => wp_append_out s x t tn ho hs hx hr (hK _ _ h)

/-- Bytes of the call's own. -/
def Out (w W : World) (v : Value) (l : List Int) (L : List (Nat × Obj)) : Prop := IsBytes l ∧ Ow w W 5 1 v l.length (l.map (Value.int .u8)) L
section
variable {w W W' : World} {v : Value} {l : List Int} {L : List (Nat × Obj)}
theorem Out.mem (h : Out w W v l L) : Mem w W L := h.2.mem
theorem Out.after (h : Out w W v l L) (hb : Below W.heap.size W W') : Out w W' v l L := ⟨h.1, h.2.after hb⟩
theorem Out.nil (h : Mem w W L) : Out w W (.slice none 0 0) [] L := ⟨bytes_nil, Ow.nil h⟩
theorem Out.own (h : Out w W v l L) : W.ownsRow w.heap.size 5 1 v l.length (l.map (Value.int .u8)) := h.2.owns
theorem Out.drop {p : Nat × Obj} (h : Out w W v l (p :: L)) : Out w W v l L := by
  refine ⟨h.1, h.2.1, ?_⟩
  rcases h.2.2 with ⟨rfl, e, hm⟩ | ⟨g, cap, cur, rfl, hm, r⟩
  · exact Or.inl ⟨rfl, e, hm.sub⟩
  · exact Or.inr ⟨g, cap, cur, rfl, (hm.perm (List.Perm.swap _ _ _)).sub, r⟩
theorem Out.add {o : Obj} {g : Nat} (h : Out w W v l L) (hg : g = W.heap.size) : Out w (W.alloc o) v l ((g, o) :: L) := by
  refine ⟨h.1, h.2.1, ?_⟩
  rcases h.2.2 with ⟨rfl, e, hm⟩ | ⟨k, cap, cur, rfl, hm, r⟩
  · exact Or.inl ⟨rfl, e, (hm.push g o hg).perm List.perm_append_comm⟩
  · refine Or.inr ⟨k, cap, cur, rfl, (hm.push g o hg).perm ?_, r⟩
    exact List.perm_append_comm.trans (List.Perm.swap _ _ _)
theorem Out.perm {K : List (Nat × Obj)} (h : Out w W v l L) (hp : L.Perm K) : Out w W v l K := by
  refine ⟨h.1, h.2.1, ?_⟩
  rcases h.2.2 with ⟨rfl, e, hm⟩ | ⟨g, cap, cur, rfl, hm, r⟩
  · exact Or.inl ⟨rfl, e, hm.perm hp⟩
  · exact Or.inr ⟨g, cap, cur, rfl, hm.perm (hp.cons _), r⟩
theorem strCells_nums (s : ByteArray) : Lib.strCells s = (s.data.toList.map (fun b => (b.toNat : Int))).map (Value.int .u8) := by
  simp [Lib.strCells, Function.comp_def]
end
/-- A text's bytes as numbers. -/
def sb (s : ByteArray) : List Int := s.data.toList.map (fun b => (b.toNat : Int))
theorem sb_len (s : ByteArray) : (sb s).length = s.size := by simp only [sb, List.length_map, Array.length_toList]; rfl
theorem sb_bytes (s : ByteArray) : IsBytes (sb s) := by
  intro i
  by_cases h : i < (sb s).length
  · rw [getD_eq h]
    simp only [sb, List.getElem_map]
    have := (s.data.toList[i]'(by simpa [sb] using h)).toNat_lt
    omega
  · have : (sb s).getD i 0 = 0 := by simp [List.getD, List.getElem?_eq_none (Nat.le_of_not_lt h)]
    rw [this]; omega
theorem ok_block {a b : Value} {w w' : World} (h : (Result.ok a w : Result Value) = .ok b w') : a.ownBlock = b.ownBlock := by cases h; rfl
end Go.Proofs.Ytgeeijinhneoiaa
