/-
  Names: the document's own Name, at every text.
  Rows of the call's own that grow: bytes appended as a step of a region, and what lychref1's Put16 and Put32 answer.
  Rows of bytes that the call itself made: what is read of them, what a store turns, and what changing one word does to the sums.
-/
import Derived.Test.YtneciccdiledfaaGreatDoorMx04
import Derived.Lib.MapLaws
set_option linter.unusedVariables false
namespace Go.Proofs.YtneciccdiledfaaGreatDoor
open Go.RowKit
open Ad
theorem okr_yes {first : Bool} {c : Nat} (hc : c < 128) (h : okr first c = true) : (97 ≤ c ∧ c ≤ 122) ∨ (¬ 97 ≤ c ∧ first = false ∧ 48 ≤ c ∧ c ≤ 57) ∨ (¬ 97 ≤ c ∧ first = false ∧ ¬ 48 ≤ c ∧ c = 45) := by
 unfold okr mb mf at h
 cases first <;> simp at h <;> simp <;> omega
theorem okr_no {first : Bool} {c : Nat} (hc : c < 128) (h : okr first c = false) : (¬ 97 ≤ c ∧ first = true) ∨ (97 ≤ c ∧ ¬ c ≤ 122 ∧ first = true) ∨ (¬ 97 ≤ c ∧ first = false ∧ ¬ 48 ≤ c ∧ c ≠ 45) ∨ (¬ 97 ≤ c ∧ first = false ∧ 48 ≤ c ∧ ¬ c ≤ 57 ∧ c ≠ 45) ∨ (97 ≤ c ∧ ¬ c ≤ 122 ∧ first = false ∧ 48 ≤ c ∧ ¬ c ≤ 57 ∧ c ≠ 45) := by
 unfold okr mb mf at h
 cases first <;> simp at h <;> simp <;> omega
theorem decodeGo_drop (s : ByteArray) (i : Nat) (h : i < s.size) : Lib.decodeGo (s.extract i s.size) = Lib.decodeL (s.data.toList.drop i) := by
 have e : (s.extract i s.size).data.toList = s.data.toList.drop i := by
  rw [sub_text, List.take_of_length_le]
  rw [List.length_drop, text_len]; omega
 have hsz : (s.extract i s.size).size = s.size - i := by rw [← text_len, e, List.length_drop, text_len]
 unfold Lib.decodeGo
 rw [if_neg (by omega), ← Lib.decodeL_drop, List.drop_zero, e]
set_option maxHeartbeats 4000000 in
set_option maxRecDepth 20000 in
theorem rname_len {w : World} (hV : Vs w) (s : ByteArray) (h1 : 1 ≤ s.size) (h2 : s.size ≤ 32) :
  Calls Tryz.prog 56 #[.string s] w fun e w' => e = .returned (.bool (rn s.size true s.data.toList)) ∧ Below w.heap.size w w' := by
 have hlen := text_len s
 have z2 : ¬ ((32 : Int) < s.size) := by omega
 have he : (s.toList == ([] : List UInt8)) = false := by
  have := size_pos_iff s
  cases hb : (s.toList == ([] : List UInt8))
  ·rfl
  ·have := this.1 hb; omega
 obtain ⟨R, hR⟩ : ∃ R, rn s.size true s.data.toList = R := ⟨_, rfl⟩
 rw [hR]
 go_enter Tryz.func56, Tryz.ntmps56
 go_wp2_with fail
 go_loopw [3] (fun ii w' => ∃ (pos f : Nat), ii = .int .i64 pos ∧ s.size ≤ pos + f ∧ pos ≤ s.size + 4 ∧ rn f (decide (pos = 0)) (s.data.toList.drop pos) = R ∧ Below w.heap.size w w') (fun ii _ => s.size - (intOf ii).toNat)
 case atStart => exact ⟨0, s.size, rfl, by omega, by omega, by simpa using hR, Below.refl _ _⟩
 case round =>
  obtain ⟨pos, f, rfl, hf, hp4, hc, hbr⟩ := hrel
  clear hR
  have e7 : IntKind.i64.wrap ((pos : Int) + 1) = (pos : Int) + 1 := wrap64 (by omega) (by omega)
  by_cases hp : pos < s.size
  ·have hpz : (pos : Int) < s.size := by omega
   have hix : ∀ W, (Instr.index 9 (.string s) (.int .i64 pos)).run Tryz.prog W = .ok (.int .u8 ((s[pos]'hp).toNat : Int)) W := by
    intro W
    rw [run_index_string W 9 s .i64 pos Tryz.underlying9, dif_pos ⟨by omega, hpz⟩]
    simp
   have hdl : (s.data.toList.drop pos).length ≤ f := by rw [List.length_drop]; omega
   have hdc := drop_cons s pos hp
   rw [hdc] at hc hdl
   have hd0 : decide (pos + 1 = 0) = false := by simp
   by_cases hlow : (s[pos]'hp).toNat < 128
   ·have hlz : ((s[pos]'hp).toNat : Int) < 128 := by omega
    rw [rn_low hdl hlow] at hc
    clear hdc hdl
    generalize (s[pos]'hp).toNat = c at hix hc hlow hlz
    cases ho : okr (decide (pos = 0)) c with
    | true =>
     rw [ho, if_pos rfl, ← hd0] at hc
     rcases okr_yes hlow ho with ⟨a1, a2⟩ | ⟨a1, a2, a3, a4⟩ | ⟨a1, a2, a3, a4⟩
     ·have b1 : (97 : Int) ≤ c := by omega
      have b2 : (c : Int) ≤ 122 := by omega
      clear ho hlow a1 a2
      go_wp2_with fail
      go_roundw
      case rel => exact ⟨pos + 1, f - 1, by first | rfl | trivial, by omega, by omega, hc, hbr⟩
      case measure => simp [intOf]; omega
     ·have b1 : ¬ (97 : Int) ≤ c := by omega
      have b2 : (0 : Int) < pos := by have := of_decide_eq_false a2; omega
      have b3 : (48 : Int) ≤ c := by omega
      have b4 : (c : Int) ≤ 57 := by omega
      clear ho hlow a1 a2 a3 a4
      go_wp2_with fail
      go_roundw
      case rel => exact ⟨pos + 1, f - 1, by first | rfl | trivial, by omega, by omega, hc, hbr⟩
      case measure => simp [intOf]; omega
     ·have b1 : ¬ (97 : Int) ≤ c := by omega
      have b2 : (0 : Int) < pos := by have := of_decide_eq_false a2; omega
      have b3 : ¬ (48 : Int) ≤ c := by omega
      have b4 : ((c : Int) == 45) = true := by simp; omega
      clear ho hlow a1 a2 a3 a4
      go_wp2_with fail
      go_roundw
      case rel => exact ⟨pos + 1, f - 1, by first | rfl | trivial, by omega, by omega, hc, hbr⟩
      case measure => simp [intOf]; omega
    | false =>
     rw [ho] at hc
     have hR2 : R = false := hc.symm
     subst hR2
     rcases okr_no hlow ho with ⟨a1, a2⟩ | ⟨a1, a3, a2⟩ | ⟨a1, a2, a3, a4⟩ | ⟨a1, a2, a3, a4, a5⟩ | ⟨a1, a6, a2, a3, a4, a5⟩
     ·have b1 : ¬ (97 : Int) ≤ c := by omega
      have b2 : ¬ (0 : Int) < pos := by have := of_decide_eq_true a2; omega
      clear ho hlow a1 a2 hc
      go_wp2_with fail
      go_ret
      exact ⟨rfl, hbr⟩
     ·have b1 : (97 : Int) ≤ c := by omega
      have b3 : ¬ (c : Int) ≤ 122 := by omega
      have b2 : ¬ (0 : Int) < pos := by have := of_decide_eq_true a2; omega
      clear ho hlow a1 a2 a3 hc
      go_wp2_with fail
      go_ret
      exact ⟨rfl, hbr⟩
     ·have b1 : ¬ (97 : Int) ≤ c := by omega
      have b2 : (0 : Int) < pos := by have := of_decide_eq_false a2; omega
      have b3 : ¬ (48 : Int) ≤ c := by omega
      have b4 : ((c : Int) == 45) = false := by simp; omega
      clear ho hlow a1 a2 a3 a4 hc
      go_wp2_with fail
      go_ret
      exact ⟨rfl, hbr⟩
     ·have b1 : ¬ (97 : Int) ≤ c := by omega
      have b2 : (0 : Int) < pos := by have := of_decide_eq_false a2; omega
      have b3 : (48 : Int) ≤ c := by omega
      have b5 : ¬ (c : Int) ≤ 57 := by omega
      have b4 : ((c : Int) == 45) = false := by simp; omega
      clear ho hlow a1 a2 a3 a4 a5 hc
      go_wp2_with fail
      go_ret
      exact ⟨rfl, hbr⟩
     ·have b1 : (97 : Int) ≤ c := by omega
      have b6 : ¬ (c : Int) ≤ 122 := by omega
      have b2 : (0 : Int) < pos := by have := of_decide_eq_false a2; omega
      have b3 : (48 : Int) ≤ c := by omega
      have b5 : ¬ (c : Int) ≤ 57 := by omega
      have b4 : ((c : Int) == 45) = false := by simp; omega
      clear ho hlow a1 a2 a3 a4 a5 a6 hc
      go_wp2_with fail
      go_ret
      exact ⟨rfl, hbr⟩
   ·have hlz : ¬ ((s[pos]'hp).toNat : Int) < 128 := by omega
    rw [rn_high hdl hlow, ← hdc, List.drop_drop] at hc
    have hcd := decode_any (hV.below hbr) (s.extract pos s.size)
    rw [decodeGo_drop s pos hp] at hcd
    have hwd := Lib.decodeL_width (s.data.toList.drop pos)
    have hw4 : (Lib.decodeL (s.data.toList.drop pos)).2 ≤ s.size - pos := by
     have := Lib.decodeL_le (s.data.toList.drop pos) (by rw [hdc]; simp)
     rw [List.length_drop] at this
     omega
    clear hdc hdl
    generalize (s[pos]'hp).toNat = c at hix hlow hlz
    generalize (Lib.decodeL (s.data.toList.drop pos)).1 = r at hcd hc
    generalize (Lib.decodeL (s.data.toList.drop pos)).2 = q at hcd hc hwd hw4
    have hsl : ∀ W, (Instr.slice 9 (.string s) (some (.int .i64 pos)) none none).run Tryz.prog W = .ok (.string (s.extract pos s.size)) W := by
     intro W
     rw [run_slice_string_from_if W 9 s .i64 pos Tryz.underlying9, if_pos ⟨by omega, by omega⟩]
     simp
    generalize s.extract pos s.size = p at hcd hsl
    have e8 : IntKind.i64.wrap ((pos : Int) + q) = (pos : Int) + q := wrap64 (by omega) (by omega)
    by_cases hbad : r = 65533 ∧ q = 1
    ·rw [if_pos hbad] at hc
     subst hc
     have b1 : ((r : Int) == 65533) = true := by simp; omega
     have b2 : (q : Int) ≤ 1 := by omega
     clear hbad
     go_wp2_with fail
     refine hcd.mono ?_
     rintro e w1 ⟨rfl, hb1⟩
     go_wp2_with fail
     go_ret
     exact ⟨rfl, hbr.trans (hb1.mono hbr.size)⟩
    ·rw [if_neg hbad] at hc
     have hc2 : rn (f - 1) (decide (pos + q = 0)) (s.data.toList.drop (pos + q)) = R := by
      rw [show decide (pos + q = 0) = false by simp; omega]; exact hc
     have hor : ((r : Int) == 65533) = false ∨ (((r : Int) == 65533) = true ∧ ¬ (q : Int) ≤ 1) := by
      by_cases hr : r = 65533
      ·exact Or.inr ⟨by simp; omega, by omega⟩
      ·exact Or.inl (by simp; omega)
     clear hbad hc
     rcases hor with b1 | ⟨b1, b2⟩
     ·go_wp2_with fail
      refine hcd.mono ?_
      rintro e w1 ⟨rfl, hb1⟩
      go_wp2_with fail
      go_roundw
      case rel => exact ⟨pos + q, f - 1, by first | rfl | trivial, by omega, by omega, hc2, hbr.trans (hb1.mono hbr.size)⟩
      case measure => simp [intOf]; omega
     ·go_wp2_with fail
      refine hcd.mono ?_
      rintro e w1 ⟨rfl, hb1⟩
      go_wp2_with fail
      go_roundw
      case rel => exact ⟨pos + q, f - 1, by first | rfl | trivial, by omega, by omega, hc2, hbr.trans (hb1.mono hbr.size)⟩
      case measure => simp [intOf]; omega
  ·have hpz : ¬ (pos : Int) < s.size := by omega
   rw [drop_end s pos hp, rn_nil] at hc
   subst hc
   go_wp2_with fail
   go_ret
   exact ⟨rfl, hbr⟩
theorem rname_any {w : World} (hV : Vs w) (s : ByteArray) (hs : s.size ≤ 140737488355328) :
  Calls Tryz.prog 56 #[.string s] w fun e w' => e = .returned (.bool (nam s.data.toList)) ∧ Below w.heap.size w w' := by
 unfold nam
 rw [text_len]
 by_cases h : 1 ≤ s.size ∧ s.size ≤ 32
 ·rw [decide_eq_true h, Bool.true_and]
  exact rname_len hV s h.1 h.2
 ·rw [decide_eq_false h, Bool.false_and]
  by_cases h1 : s.size = 0
  ·have he : (s.toList == ([] : List UInt8)) = true := (size_pos_iff s).2 h1
   go_enter Tryz.func56, Tryz.ntmps56
   go_wp2_with fail
   go_ret
   exact ⟨rfl, Below.refl _ _⟩
  ·have he : (s.toList == ([] : List UInt8)) = false := by
    have := size_pos_iff s
    cases hb : (s.toList == ([] : List UInt8))
    ·rfl
    ·have := this.1 hb; omega
   have z2 : (32 : Int) < s.size := by omega
   go_enter Tryz.func56, Tryz.ntmps56
   go_wp2_with fail
   go_ret
   exact ⟨rfl, Below.refl _ _⟩
end Go.Proofs.YtneciccdiledfaaGreatDoor
namespace Go.Proofs.YtneciccdiledfaaGreatDoor
open Go.RowKit
open Sm
theorem own_grown {B : Nat} {w w' : World} {v : Value} {n : Nat} {xs : List Value} (h : w.ownsRow B 5 1 v n xs) (hg : w.grownBy w' v.ownBlock) (hB : B ≤ w.heap.size) : Below B w w' :=
 (Below.refl _ _).grown hg hB (own_ge h)
theorem own_after {B C : Nat} {w w' : World} {v : Value} {n : Nat} {xs : List Value} (h : w.ownsRow B 5 1 v n xs) (hb : Below C w w') (hC : w.heap.size ≤ C) : w'.ownsRow B 5 1 v n xs := by
 obtain ⟨h1, h2⟩ := h
 refine ⟨h1, ?_⟩
 rcases h2 with h2 | ⟨g, cap, cur, rfl, hg, hh, r⟩
 ·exact Or.inl h2
 ·refine Or.inr ⟨g, cap, cur, rfl, hg, ?_, r⟩
  have hlt : g < w.heap.size := (Array.getElem?_eq_some_iff.mp hh).1
  rw [hb.block g (by omega)]; exact hh
theorem Mem.over {w w' w2 : World} {L : List (Nat × Obj)} (h : Mem w w' L) {B : Nat} (hb : Below B w' w2) (hB : w.heap.size ≤ B) (hL : ∀ p ∈ L, p.1 < B) : Mem w w2 L :=
 ⟨h.below.trans (hb.mono hB), h.low, fun p hp => by rw [hb.block p.1 (hL p hp)]; exact h.at_ p hp, h.apart⟩
theorem Mem.bytes {w w' : World} {L : List (Nat × Obj)} (h : Mem w w' L) (i : Nat) {g : Nat} {c : Array Value} {t : TypeId} (hi : L[i]? = some (g, .cells c t (0, 0))) (off : Nat) (l : List Int) (hb : IsBytes l) (hl : l.length ≤ 1000)
  (hc : ∀ j, j < l.length → c[off + j]? = some (.int .u8 (l.getD j 0))) : Row w' (some ⟨g, off, none⟩) l :=
 ⟨hb, by omega, Or.inr ⟨g, off, rfl, fun j hj => by rw [h.cell i hi]; exact hc j hj⟩⟩
theorem step_append_bytes {ops : Array Oper} {o : Oper} {a : Act} {w : World} {K : Act → World → Prop} {Q : Exit → Act → World → Prop} {E : Prop} (hgd : o.guard = none)
  (s x : Operand) (ho : o.op = Op.call { callee := Callee.builtin Builtin.append, args := #[s, x], argTypes := #[49, 49] }) (base : Nat)
  (v : Value) (n : Nat) (xs : List Value) (hs : a.eval s = v) (hown : w.ownsRow base 5 1 v n xs) (ao : Option Addr) (c m : Nat) (l : List Int)
  (hx : a.eval x = .slice ao m c) (hm : l.length = m) (hnil : ao = none → c = 0) (hrow : Row w ao l) (hbd : n + m ≤ 140737488355328) (hbase : base ≤ w.heap.size)
  (h : ∀ (v' : Value) (w' : World), w'.ownsRow base 5 1 v' (n + m) (xs ++ l.map (Value.int .u8)) → Below base w w' → K (a.put o.dst v') w') :
  if Region.wanted o (yielded ops a.tmps) = true then Oper.wp Tryz.prog o a w K Q else E := by
 subst hm
 have hw : Region.wanted o (yielded ops a.tmps) = true := by simp [Region.wanted, hgd]
 rw [if_pos hw]
 obtain ⟨i0, hi, hz0, hz1, hz2⟩ := info_parts info5
 cases ao with
 | none =>
  have hl : l = [] := by
   rcases hrow.cells with e | ⟨b, off, e, _⟩
   ·exact e
   ·cases e
  subst hl
  rw [hnil rfl] at hx
  have hr := run_append_owned_none (P := Tryz.prog) w base 49 o.type 5 i0 1 Tryz.underlying49 hi v n xs hown
  exact wp_append_out s x 49 49 ho hs hx hr (h v w (by simpa using hown) (Below.refl _ _))
 | some ad =>
  refine wp_append_own w s x 49 ho base 5 i0 (.int .u8 0) 1 1 Tryz.underlying49 hi hz0 hz1 hz2 rfl (by decide) v n xs hs hown ad l.length c (l.map (Value.int .u8)) hx (by simp) ?_ (ints_oneCell _ _) (by unfold maxLen; omega) (by omega) hbase ?_
  ·rcases hrow.cells with e | ⟨b, off, e, _⟩
   ·subst e; intro j u hj; simp at hj
   ·cases e; exact hrow.news
  ·intro v' w' h1 h2 _
   exact h v' w' h1 (own_grown hown h2 hbase)
theorem row_lit (w : World) (l : List Int) (hb : IsBytes l) (hl : l.length ≤ 140737488351232) (T : TypeId) : Row (w.alloc (.cells (l.map (Value.int .u8)).toArray T)) (some ⟨w.heap.size, 0, none⟩) l :=
 ⟨hb, hl, Or.inr ⟨_, 0, rfl, fun i hi => by rw [Nat.zero_add, World.cell?_alloc_new]; simp [hi]⟩⟩
theorem bytes_two {x y : Int} (h0 : 0 ≤ x) (h1 : x ≤ 255) (h2 : 0 ≤ y) (h3 : y ≤ 255) : IsBytes [x, y] := by
 intro i
 match i with
 | 0 => exact ⟨h0, h1⟩
 | 1 => exact ⟨h2, h3⟩
 | i + 2 => simp [List.getD]
end Go.Proofs.YtneciccdiledfaaGreatDoor
namespace Go.Proofs.YtneciccdiledfaaGreatDoor
open Go.RowKit
open Sm
namespace Sm
def setw (l : List Int) (p : Nat) (x y : Int) : List Int := (l.set (2 * p) x).set (2 * p + 1) y
theorem setw_len (l : List Int) (p : Nat) (x y : Int) : (setw l p x y).length = l.length := by simp [setw]
theorem getD_set (l : List Int) (j i : Nat) (x : Int) (hj : j < l.length) : (l.set j x).getD i 0 = if i = j then x else l.getD i 0 := by
 by_cases e : i = j
 ·subst e; simp [List.getD, hj]
 ·rw [if_neg e]; simp [List.getD, List.getElem?_set_ne (Ne.symm e)]
theorem setw_getD (l : List Int) (p i : Nat) (x y : Int) (hp : 2 * p + 1 < l.length) : (setw l p x y).getD i 0 = if i = 2 * p + 1 then y else if i = 2 * p then x else l.getD i 0 := by
 unfold setw
 rw [getD_set _ _ _ _ (by simpa using hp), getD_set _ _ _ _ (by omega)]
theorem setw_bytes {l : List Int} (h : IsBytes l) (p : Nat) (x y : Int) (hp : 2 * p + 1 < l.length) (hx : 0 ≤ x ∧ x ≤ 255) (hy : 0 ≤ y ∧ y ≤ 255) : IsBytes (setw l p x y) := by
 intro i
 rw [setw_getD l p i x y hp]
 have := h i
 split
 ·exact hy
 ·split
  ·exact hx
  ·exact this
theorem wd_setw (l : List Int) (p i : Nat) (x y : Int) (hp : 2 * p + 1 < l.length) : wd (setw l p x y) i = if i = p then x * 256 + y else wd l i := by
 unfold wd
 rw [setw_getD l p _ x y hp, setw_getD l p _ x y hp]
 by_cases e : i = p
 ·subst e; rw [if_neg (by omega), if_pos rfl, if_pos rfl, if_pos rfl]
 ·rw [if_neg (by omega), if_neg (by omega), if_neg (by omega), if_neg (by omega), if_neg e]
theorem tot_setw (l : List Int) (p k : Nat) (x y : Int) (hp : 2 * p + 1 < l.length) : tot (setw l p x y) k = if p < k then tot l k - wd l p + (x * 256 + y) else tot l k := by
 induction k with
 | zero => simp [tot]
 | succ k ih =>
  rw [tot_succ, tot_succ, ih, wd_setw l p k x y hp]
  by_cases e : k = p
  ·subst e; rw [if_neg (by omega), if_pos rfl, if_pos (by omega)]; omega
  ·rw [if_neg e]
   by_cases c : p < k
   ·rw [if_pos c, if_pos (by omega)]; omega
   ·rw [if_neg c, if_neg (by omega)]
theorem stands {l : List Int} (h : IsBytes l) (p : Nat) (hp : 2 * p + 1 < l.length) :
  foldv (acc (setw (setw l p 0 0) p (ofv (setw l p 0 0) / 256) (ofv (setw l p 0 0) % 256)) 0 (cnt l.length)) = 65535 := by
 have hk : p < cnt l.length := by unfold cnt; omega
 have h1 := setw_bytes h p 0 0 hp ⟨by omega, by omega⟩ ⟨by omega, by omega⟩
 have hr := ofv_range (setw l p 0 0)
 have hp1 : 2 * p + 1 < (setw l p 0 0).length := by rw [setw_len]; exact hp
 have h2 := setw_bytes h1 p (ofv (setw l p 0 0) / 256) (ofv (setw l p 0 0) % 256) hp1 (by omega) (by omega)
 rw [foldv_acc h2 0 (by omega) (by omega), tot_setw _ _ _ _ _ hp1, if_pos hk, wd_setw l p p 0 0 hp, if_pos rfl]
 have hn := tot_nonneg h1 (cnt l.length)
 have e : ofv (setw l p 0 0) = 65535 - foldv (tot (setw l p 0 0) (cnt l.length)) := by unfold ofv; rw [setw_len]
 rw [e] at hr ⊢
 generalize tot (setw l p 0 0) (cnt l.length) = T at *
 clear hr e h2 h1
 unfold foldv
 split <;> split <;> omega
end Sm
end Go.Proofs.YtneciccdiledfaaGreatDoor
