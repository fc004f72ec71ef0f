/-
  The walk of lychlaw1.SumParts where both parts have at most 1000 bytes and the first an even number: it answers true.
-/
import Derived.Test.YtlgkmoggdcjijaaBytes
import Derived.Laws.AppendOwnNone
namespace Go.Proofs.Ytlgkmoggdcjijaa
open Go.RowKit
open Sm
set_option linter.unusedVariables false

/-- Bytes, whatever their slice, put behind a row of the call's own. -/
theorem wpList_append_bytes (w : World) {ops : Array Oper} {rest : List Oper} {o : Oper} {a : Act} {Q : Exit → Act → World → Prop} (hgd : o.guard = none)
    (s x : Operand) (ho : o.op = Op.call { callee := Callee.builtin Builtin.append, args := #[s, x], argTypes := #[23, 23] }) (base : Nat)
    (v : Value) (n : Nat) (xs : List Value) (hs : a.eval s = v) (hown : w.ownsRow base 5 1 v n xs) (ao : Option Addr) (c : Nat) (l : List Int)
    (hx : a.eval x = .slice ao l.length c) (hnil : ao = none → c = 0) (hrow : Row w ao l) (hbd : n + l.length ≤ 140737488355328) (hbase : base ≤ w.heap.size)
    (h : ∀ (v' : Value) (w' : World), w'.ownsRow base 5 1 v' (n + l.length) (xs ++ l.map (Value.int .u8)) → w.grownBy w' v.ownBlock → wpList Try.prog ops Q rest (a.put o.dst v') w') :
    wpList Try.prog ops Q (o :: rest) a w := by
  obtain ⟨i0, hi, hz0, hz1, hz2⟩ := info_parts info5
  cases ao with
  | none =>
    have hl : l = [] := by
      rcases hrow.cells with e | ⟨b, off, e, _⟩
      · exact e
      · cases e
    subst hl
    rw [hnil rfl] at hx
    refine wpList_append_own_none hgd s x 23 ho base 5 i0 1 Try.underlying23 hi v n xs hs hown hx ?_
    exact h v w (by simpa using hown) ⟨rfl, rfl, rfl, Nat.le_refl _, fun _ _ _ => rfl⟩
  | some ad =>
    refine wpList_append_own w hgd s x 23 ho base 5 i0 (.int .u8 0) 1 1 Try.underlying23 hi hz0 hz1 hz2 rfl (by decide) v n xs hs hown ad l.length c (l.map (Value.int .u8)) hx (by simp) ?_ (ints_oneCell _ _) (by unfold maxLen; omega) (by omega) hbase ?_
    · rcases hrow.cells with e | ⟨b, off, e, _⟩
      · subst e; intro j u hj; simp at hj
      · cases e; exact hrow.news
    · intro v' w' h1 h2 _
      exact h v' w' h1 h2

/-- What a row of the call's own is to its readers. -/
theorem own_row {w : World} {B : Nat} {v : Value} {l : List Int} {n : Nat} (hn : n = l.length) (h : w.ownsRow B 5 1 v n (l.map (Value.int .u8))) (hb : IsBytes l) (hl : l.length ≤ 140737488351232) :
    ∃ ao cap, v = .slice ao l.length cap ∧ Row w ao l := by
  subst hn
  obtain ⟨h1, h2⟩ := h
  rcases h2 with ⟨rfl, h3⟩ | ⟨g, cap, cur, rfl, hg, r⟩
  · have e : l = [] := List.length_eq_zero_iff.mp h3
    subst e
    exact ⟨none, 0, rfl, row_nil w⟩
  · have hob : OwnB w B g cap l := ⟨h1, Or.inr ⟨g, cap, cur, rfl, hg, r⟩⟩
    exact ⟨some ⟨g, 0, none⟩, cap, rfl, hob.row hb hl⟩

namespace Sm
theorem getD_append (a b : List Int) (i : Nat) : (a ++ b).getD i 0 = if i < a.length then a.getD i 0 else b.getD (i - a.length) 0 := by
  by_cases h : i < a.length
  · rw [if_pos h]; simp [List.getD, List.getElem?_append_left h]
  · rw [if_neg h]; simp [List.getD, List.getElem?_append_right (Nat.le_of_not_lt h)]
theorem bytes_append {a b : List Int} (ha : IsBytes a) (hb : IsBytes b) : IsBytes (a ++ b) := by
  intro i; rw [getD_append]; split
  · exact ha i
  · exact hb _
theorem wd_append_left (a b : List Int) (ha : a.length % 2 = 0) (i : Nat) (hi : i < cnt a.length) : wd (a ++ b) i = wd a i := by
  unfold cnt at hi
  unfold wd; rw [getD_append, getD_append, if_pos (by omega), if_pos (by omega)]
theorem wd_append_right (a b : List Int) (ha : a.length % 2 = 0) (i : Nat) : wd (a ++ b) (cnt a.length + i) = wd b i := by
  unfold cnt
  unfold wd; rw [getD_append, getD_append, if_neg (by omega), if_neg (by omega)]
  rw [show 2 * (a.length / 2 + a.length % 2 + i) - a.length = 2 * i by omega, show 2 * (a.length / 2 + a.length % 2 + i) + 1 - a.length = 2 * i + 1 by omega]
theorem acc_append (a b : List Int) (ha : a.length % 2 = 0) (s : Int) (k : Nat) : acc (a ++ b) s (cnt a.length + k) = acc b (acc a s (cnt a.length)) k := by
  induction k with
  | zero => exact acc_same s _ (fun i hi => wd_append_left a b ha i hi)
  | succ k ih => rw [← Nat.add_assoc, acc_succ, acc_succ, ih, wd_append_right a b ha]
theorem tot_append (a b : List Int) (ha : a.length % 2 = 0) (k : Nat) : tot (a ++ b) (cnt a.length + k) = tot a (cnt a.length) + tot b k := by
  induction k with
  | zero => simp only [Nat.add_zero, tot]; rw [tot_same _ (fun i hi => wd_append_left a b ha i hi)]; omega
  | succ k ih => rw [← Nat.add_assoc, tot_succ, tot_succ, ih, wd_append_right a b ha]; omega
theorem cnt_append (a b : List Int) (ha : a.length % 2 = 0) : cnt (a ++ b).length = cnt a.length + cnt b.length := by
  unfold cnt; rw [List.length_append]; omega
theorem parts_whole (a b : List Int) (ha : a.length % 2 = 0) (s : Int) : acc (a ++ b) s (cnt (a ++ b).length) = acc b (acc a s (cnt a.length)) (cnt b.length) := by
  rw [cnt_append a b ha, acc_append a b ha]
theorem parts_back {a b : List Int} (ha : a.length % 2 = 0) (hA : IsBytes a) (hB : IsBytes b) :
    foldv (acc a (acc b 0 (cnt b.length)) (cnt a.length)) = foldv (acc (a ++ b) 0 (cnt (a ++ b).length)) := by
  have r := acc_range hB 0 (by omega) (by omega) (cnt b.length)
  rw [foldv_acc hA _ r.1 r.2, foldv_acc (bytes_append hA hB) 0 (by omega) (by omega), cnt_append a b ha, tot_append a b ha]
  have t := acc_tot hB 0 (by omega) (by omega) (cnt b.length)
  have n1 := tot_nonneg hA (cnt a.length)
  have n2 := tot_nonneg hB (cnt b.length)
  apply foldv_eq
  · omega
  · omega
theorem sameB_refl (a : Int) : sameB a a = true := by simp [sameB]
end Sm

theorem own_block_ge {w : World} {B n : Nat} {v : Value} {xs : List Value} (h : w.ownsRow B 5 1 v n xs) : ∀ k, v.ownBlock = some k → B ≤ k := by
  intro k hk
  obtain ⟨h1, h2⟩ := h
  rcases h2 with ⟨rfl, h3⟩ | ⟨g, cap, cur, rfl, hg, r⟩
  · cases hk
  · cases hk; exact hg

namespace sumParts
set_option maxHeartbeats 1000000 in
theorem core {w : World} {a b : Option Addr} {la lb : List Int} {na nb : Nat} (ha : Row w a la) (hb : Row w b lb) (hna : la.length = na) (hnb : lb.length = nb) (capa capb : Nat) (hca : a = none → capa = 0) (hcb : b = none → capb = 0)
    (h1 : na ≤ 1000) (h2 : nb ≤ 1000) (hev : na % 2 = 0) (s : Int) (s0 : 0 ≤ s) (s1 : s ≤ 4294967295) :
    Calls Try.prog 7 #[.slice a na capa, .slice b nb capb, .int .u32 s] w fun e w' => e = .returned (.bool true) ∧ Below w.heap.size w w' := by
  have hk := known_any w
  subst hna
  subst hnb
  have hev' : ((la.length : Int) % 2 != 0) = false := by simp; omega
  have HA : Hid (a = none → capa = 0) := hca
  have HB : Hid (b = none → capb = 0) := hcb
  have hbyA := ha.bytes
  have hbyB := hb.bytes
  clear hca hcb
  go_enter Try.func7, Try.ntmps7
  go_wp2_with fail
  refine hk.mono ?_
  rintro e w1 ⟨rfl, hbel⟩
  have ha1 := ha.below hbel (Nat.le_refl _)
  have hb1 := hb.below hbel (Nat.le_refl _)
  go_wp2_with (first
    | (go_at_call 13; fail)
    | (at_builtin; refine wpList_append_bytes w1 rfl (.const (.slice none 0 0)) (.tmp 24) rfl w1.heap.size (.slice none 0 0) 0 [] rfl (World.ownsRow_nil _ _ _ _) a capa la rfl HA.out ha1 (by omega) (Nat.le_refl _) ?_; intro v2 w2 hown2 hgrow2; rw [Nat.zero_add, List.nil_append] at hown2; have hbel2 := (Below.refl w1.heap.size w1).grown hgrow2 (Nat.le_refl _) (fun k hk => by cases hk); have hb2 := hb1.below hbel2 (Nat.le_refl _))
    | (at_builtin; refine wpList_append_bytes w2 rfl (.tmp 25) (.tmp 26) rfl w1.heap.size v2 la.length (la.map (Value.int .u8)) rfl hown2 b capb lb rfl HB.out hb2 (by omega) hbel2.size ?_; intro v3 w3 hown3 hgrow3; rw [← List.map_append] at hown3; have hbel3 := hbel2.grown hgrow3 hbel2.size (own_block_ge hown2); obtain ⟨ao, cp, rfl, hrow3⟩ := own_row (by simp) hown3 (bytes_append hbyA hbyB) (by simp; omega)))
  have hbelw : Below w.heap.size w w3 := hbel.trans (hbel3.mono hbel.size)
  have ha3 := ha1.below hbel3 (Nat.le_refl _)
  have hb3 := hb1.below hbel3 (Nat.le_refl _)
  have rA := acc_range hbyA s s0 s1 (cnt la.length)
  have rB := acc_range hbyB _ rA.1 rA.2 (cnt lb.length)
  have rC := acc_range hbyB 0 (by omega) (by omega) (cnt lb.length)
  have rD := acc_range hbyA _ rC.1 rC.2 (cnt la.length)
  have rE := acc_range (bytes_append hbyA hbyB) 0 (by omega) (by omega) (cnt (la ++ lb).length)
  have c1 := add_any hrow3 cp s s0 s1
  rw [parts_whole la lb hev s, List.length_append] at c1
  have c2 := add_any ha3 capa s s0 s1
  have c3 := add_any hb3 capb _ rA.1 rA.2
  have c4 := add_any hb3 capb 0 (by omega) (by omega)
  have c5 := add_any ha3 capa _ rC.1 rC.2
  have c6 := fun w => fold_any _ w rD.1 rD.2
  have c7 := add_any hrow3 cp 0 (by omega) (by omega)
  have c8 := fun w => fold_any _ w rE.1 rE.2
  have e := parts_back hev hbyA hbyB
  rw [← e] at c8
  have c9 := fun w => same_yes _ _ w (sameB_refl (foldv (acc la (acc lb 0 (cnt lb.length)) (cnt la.length))))
  rw [List.length_append] at c7 c8
  clear e hown2 hown3 hgrow2 hgrow3 hbel2 hbel3 hb2 hrow3 ha1 hb1 hbel hk ha hb rA rB rC rD rE hbyA hbyB ha3 hb3
  generalize acc lb (acc la s (cnt la.length)) (cnt lb.length) = S1 at c1 c3
  generalize acc la s (cnt la.length) = A1 at c2 c3
  generalize foldv (acc la (acc lb 0 (cnt lb.length)) (cnt la.length)) = F at c6 c8 c9
  generalize acc la (acc lb 0 (cnt lb.length)) (cnt la.length) = A2 at c5 c6
  generalize acc lb 0 (cnt lb.length) = A3 at c4 c5
  generalize acc (la ++ lb) 0 (cnt (la.length + lb.length)) = A4 at c7 c8
  refine c1.mono ?_
  rintro e w' ⟨rfl, rfl⟩
  go_wp2_with fail
  refine c2.mono ?_
  rintro e w' ⟨rfl, rfl⟩
  go_wp2_with fail
  refine c3.mono ?_
  rintro e w' ⟨rfl, rfl⟩
  go_wp2_with fail
  refine c4.mono ?_
  rintro e w' ⟨rfl, rfl⟩
  go_wp2_with fail
  refine c5.mono ?_
  rintro e w' ⟨rfl, rfl⟩
  go_wp2_with fail
  refine (c6 _).mono ?_
  rintro e w' ⟨rfl, rfl⟩
  go_wp2_with fail
  refine c7.mono ?_
  rintro e w' ⟨rfl, rfl⟩
  go_wp2_with fail
  refine (c8 _).mono ?_
  rintro e w' ⟨rfl, rfl⟩
  go_wp2_with fail
  refine (c9 _).mono ?_
  rintro e w' ⟨rfl, rfl⟩
  go_wp2_with fail
  go_ret
  exact ⟨rfl, hbelw⟩
end sumParts
end Go.Proofs.Ytlgkmoggdcjijaa
