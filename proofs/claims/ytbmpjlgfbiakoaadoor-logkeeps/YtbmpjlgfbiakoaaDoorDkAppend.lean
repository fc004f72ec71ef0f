/-
  Of no one layer: a slice put behind a row of slices of the call's own, and bytes put behind nothing, with all that lies beside them kept.
-/
import Derived.Test.YtbmpjlgfbiakoaaDoorDkNew
namespace Go.Proofs.YtbmpjlgfbiakoaaDoor
open Go.RowKit
open Sm
set_option linter.unusedVariables false

/-- One slice behind a row of slices. -/
theorem append_head {w W : World} {h : Nat} {hc : Array Value} {R : List (Nat × Obj)} (hM : Mem w W ((h, .cells hc 22 (0, 0)) :: R)) {n c : Nat} (hn : n ≤ c) (hc1 : c ≤ hc.size) (hs : n ≤ 1000) (ty : TypeId)
    (ad : Addr) (one : Value) (h1 : one.oneCell' = true) (hone : W.cell? ad = some one) :
    ∃ h' c' W', (Builtin.append_ #[33, 33] ty #[.slice (some ⟨h, 0, none⟩) n c, .slice (some ad) 1 1]).run Tryd.prog W = .ok (.slice (some ⟨h', 0, none⟩) (n + 1) c') W' ∧
      ∃ hc', n + 1 ≤ c' ∧ c' ≤ hc'.size ∧ hc'.toList.take (n + 1) = hc.toList.take n ++ [one] ∧ Mem w W' ((h', .cells hc' 22 (0, 0)) :: R) := by
  obtain ⟨i, hi, hz, hs1, hby⟩ := info_parts info31
  have hg := hM.get 0 rfl
  have hnews : ∀ j u, [one][j]? = some u → W.cell? (ad.add j) = some u := by
    intro j u hj
    have : j = 0 := by
      have := (List.getElem?_eq_some_iff.mp hj).1
      simpa using this
    subst this
    simp at hj; subst hj
    simpa [Addr.add] using hone
  have htl : (hc.toList.take n).length = n := by simp; omega
  by_cases hroom : n + 1 ≤ c
  · have hr := run_append_room (P := Tryd.prog) W 33 ty 22 i Tryd.underlying33 hi h n c hc hg ad 1 1 [one] (by rw [hs1]; rfl) hnews (by simpa using h1) hroom (by rw [hs1]; simp; omega)
    refine ⟨_, _, _, hr, _, hroom, ?_, ?_, hM.wrote 0 rfl (wrote_setRow W h hc _ 22 hg)⟩
    · rw [hs1]; simp; omega
    · rw [hs1, Nat.mul_one, List.toList_toArray]
      exact List.take_left' (by simp; omega)
  · have holds : ∀ j u, (hc.toList.take n)[j]? = some u → W.cell? ((⟨h, 0, none⟩ : Addr).add j) = some u := by
      intro j u hj
      have hjl := (List.getElem?_eq_some_iff.mp hj).1
      rw [htl] at hjl
      have e : ((⟨h, 0, none⟩ : Addr).add j) = ⟨h, j, none⟩ := by
        by_cases e : j = 0
        · subst e; simp [Addr.add]
        · simp [Addr.add, e]
      rw [e, hM.cell 0 rfl]
      rw [List.getElem?_take, if_pos hjl] at hj
      simpa using hj
    have hr := run_append_grow (P := Tryd.prog) W 33 ty 22 i (.slice none 0 0) Tryd.underlying33 hi hz ⟨h, 0, none⟩ n c (hc.toList.take n) (by rw [hs1, htl]; omega) holds ad 1 1 [one] (by rw [hs1]; rfl) hnews (by omega) (by omega) (growslice_fits (by omega) (by rw [hby]; omega))
    have hge := grownCap_ge W (n + 1) c 22
    refine ⟨_, _, _, hr, _, hge, ?_, ?_, ((hM.sub.drew.alloc _).perm List.perm_append_comm)⟩
    · simp only [Array.size_append, List.size_toArray, size_zeroCells, htl, Value.cells]
      simp; omega
    · simp only [Array.toList_append, List.append_assoc]
      rw [← List.append_assoc]
      exact List.take_left' (by simp; omega)

/-- One slice behind nothing. -/
theorem append_first {w W : World} {R : List (Nat × Obj)} (hM : Mem w W R) (ty : TypeId) (ad : Addr) (one : Value) (hone : W.cell? ad = some one) :
    ∃ h' c' W', (Builtin.append_ #[33, 33] ty #[.slice none 0 0, .slice (some ad) 1 1]).run Tryd.prog W = .ok (.slice (some ⟨h', 0, none⟩) 1 c') W' ∧
      ∃ hc', 1 ≤ c' ∧ c' ≤ hc'.size ∧ hc'.toList.take 1 = [one] ∧ Mem w W' ((h', .cells hc' 22 (0, 0)) :: R) := by
  obtain ⟨i, hi, hz, hs1, hby⟩ := info_parts info31
  have hnews : ∀ j u, [one][j]? = some u → W.cell? (ad.add j) = some u := by
    intro j u hj
    have : j = 0 := by
      have := (List.getElem?_eq_some_iff.mp hj).1
      simpa using this
    subst this
    simp at hj; subst hj
    simpa [Addr.add] using hone
  have hr := run_append_nil (P := Tryd.prog) W 33 ty 22 i (.slice none 0 0) Tryd.underlying33 hi hz ad 1 1 [one] (by rw [hs1]; rfl) hnews (by omega) (by omega) (by rw [hby]; omega)
  have hge := grownCap_ge W 1 0 22
  refine ⟨_, _, _, hr, _, hge, ?_, ?_, ((hM.drew.alloc _).perm List.perm_append_comm)⟩
  · simp only [Array.size_append, List.size_toArray, size_zeroCells, Value.cells]
    simp; omega
  · simp

/-- Bytes behind nothing. -/
theorem append_new (W : World) {a : Option Addr} {l : List Int} {n : Nat} (hn : l.length = n) (hr : Row W a l) (hp : 0 < n) (c : Nat) (ty : TypeId) :
    ∃ g cap W', (Builtin.append_ #[22, 22] ty #[.slice none 0 0, .slice a n c]).run Tryd.prog W = .ok (.slice (some ⟨g, 0, none⟩) n cap) W' ∧
      ∃ cur, Mem W W' [(g, .cells cur 5 (0, 0))] ∧ (Bk.mk g cap cur l).Ok n := by
  obtain ⟨i, hi, hz, hs1, hby⟩ := info_parts info5
  obtain ⟨b, off, rfl⟩ : ∃ b off, a = some ⟨b, off, none⟩ := by
    rcases hr.cells with e | ⟨b, off, e, _⟩
    · subst e; simp at hn; omega
    · exact ⟨b, off, e⟩
  have hlen := hr.len
  have h := run_append_nil (P := Tryd.prog) W 22 ty 5 i (.int .u8 0) Tryd.underlying22 hi hz ⟨b, off, none⟩ n c (l.map (Value.int .u8)) (by rw [hs1]; simp; omega) hr.news hp (by omega) (by rw [hby]; omega)
  have hge := grownCap_ge W n 0 5
  refine ⟨_, _, _, h, _, (Mem.nil W).drew.push1 rfl, ⟨hge, ?_, ?_, hn, hr.bytes⟩⟩
  · simp only [Array.size_append, List.size_toArray, size_zeroCells, Value.cells]
    simp; omega
  · simp only [Array.toList_append]
    exact List.take_left' (by simp; omega)

/-- As one step of a region that draws its order. -/
theorem step_append_run {ops : Array Oper} {o : Oper} {a : Act} {W : World} {K : Act → World → Prop} {Q : Exit → Act → World → Prop} {E : Prop} (hgd : o.guard = none)
    (s x : Operand) (t tn : TypeId) (ho : o.op = .call { callee := .builtin .append, args := #[s, x], argTypes := #[t, tn] }) {vs vx : Value} (hs : a.eval s = vs) (hx : a.eval x = vx)
    {v' : Value} {w' : World} (hr : (Builtin.append_ #[t, tn] o.type #[vs, vx]).run Tryd.prog W = .ok v' w') (h : K (a.put o.dst v') w') :
    if Region.wanted o (yielded ops a.tmps) = true then Oper.wp Tryd.prog o a W K Q else E := by
  have hw : Region.wanted o (yielded ops a.tmps) = true := by simp [Region.wanted, hgd]
  rw [if_pos hw]
  exact wp_append_out s x t tn ho hs hx hr h
end Go.Proofs.YtbmpjlgfbiakoaaDoor
