/-
  Names: the document's own Name, at every text.
  Rows of bytes that the call itself made: what is read of them, what a store turns, and what changing one word does to the sums.
  Rows of the call's own that grow: bytes appended as a step of a region, and what lychref1's Put16 and Put32 answer.
-/
import Derived.Test.YtnddbklbgddblaaDoorPb04
import Derived.Lib.MapLaws
namespace Go.Proofs.YtnddbklbgddblaaDoor
open Go.RowKit
open Ad
set_option linter.unusedVariables false

theorem okr_yes {first : Bool} {c : Nat} (hc : c < 128) (h : okr first c = true) : (97 ≤ c ∧ c ≤ 122) ∨ (¬ 97 ≤ c ∧ first = false ∧ 48 ≤ c ∧ c ≤ 57) ∨ (¬ 97 ≤ c ∧ first = false ∧ ¬ 48 ≤ c ∧ c = 45) := by
  unfold okr mb mf at h
  cases first <;> simp at h <;> simp <;> omega
theorem okr_no {first : Bool} {c : Nat} (hc : c < 128) (h : okr first c = false) : (¬ 97 ≤ c ∧ first = true) ∨ (97 ≤ c ∧ ¬ c ≤ 122 ∧ first = true) ∨ (¬ 97 ≤ c ∧ first = false ∧ ¬ 48 ≤ c ∧ c ≠ 45) ∨ (¬ 97 ≤ c ∧ first = false ∧ 48 ≤ c ∧ ¬ c ≤ 57 ∧ c ≠ 45) ∨ (97 ≤ c ∧ ¬ c ≤ 122 ∧ first = false ∧ 48 ≤ c ∧ ¬ c ≤ 57 ∧ c ≠ 45) := by
  unfold okr mb mf at h
  cases first <;> simp at h <;> simp <;> omega
theorem decodeGo_drop (s : ByteArray) (i : Nat) (h : i < s.size) : Lib.decodeGo (s.extract i s.size) = Lib.decodeL (s.data.toList.drop i) := by
  have e : (s.extract i s.size).data.toList = s.data.toList.drop i := by
    rw [sub_text, List.take_of_length_le]
    rw [List.length_drop, text_len]; omega
  have hsz : (s.extract i s.size).size = s.size - i := by rw [← text_len, e, List.length_drop, text_len]
  unfold Lib.decodeGo
  rw [if_neg (by omega), ← Lib.decodeL_drop, List.drop_zero, e]

set_option maxHeartbeats 4000000 in
set_option maxRecDepth 20000 in
theorem rname_len {w : World} (hV : Vs w) (s : ByteArray) (h1 : 1 ≤ s.size) (h2 : s.size ≤ 32) :
    Calls Tryd.prog 28 #[.string s] w fun e w' => e = .returned (.bool (rn s.size true s.data.toList)) ∧ Below w.heap.size w w' := by
  have hlen := text_len s
  have z2 : ¬ ((32 : Int) < s.size) := by omega
  have he : (s.toList == ([] : List UInt8)) = false := by
    have := size_pos_iff s
    cases hb : (s.toList == ([] : List UInt8))
    · rfl
    · have := this.1 hb; omega
  obtain ⟨R, hR⟩ : ∃ R, rn s.size true s.data.toList = R := ⟨_, rfl⟩
  rw [hR]
  go_enter Tryd.func28, Tryd.ntmps28
  go_wp2_with fail
  go_loopw [3] (fun ii w' => ∃ (pos f : Nat), ii = .int .i64 pos ∧ s.size ≤ pos + f ∧ pos ≤ s.size + 4 ∧ rn f (decide (pos = 0)) (s.data.toList.drop pos) = R ∧ Below w.heap.size w w') (fun ii _ => s.size - (intOf ii).toNat)
  case atStart => exact ⟨0, s.size, rfl, by omega, by omega, by simpa using hR, Below.refl _ _⟩
  case round =>
    obtain ⟨pos, f, rfl, hf, hp4, hc, hbr⟩ := hrel
    clear hR
    have e7 : IntKind.i64.wrap ((pos : Int) + 1) = (pos : Int) + 1 := wrap64 (by omega) (by omega)
    by_cases hp : pos < s.size
    · have hpz : (pos : Int) < s.size := by omega
      have hix : ∀ W, (Instr.index 9 (.string s) (.int .i64 pos)).run Tryd.prog W = .ok (.int .u8 ((s[pos]'hp).toNat : Int)) W := by
        intro W
        rw [run_index_string W 9 s .i64 pos Tryd.underlying9, dif_pos ⟨by omega, hpz⟩]
        simp
      have hdl : (s.data.toList.drop pos).length ≤ f := by rw [List.length_drop]; omega
      have hdc := drop_cons s pos hp
      rw [hdc] at hc hdl
      have hd0 : decide (pos + 1 = 0) = false := by simp
      by_cases hlow : (s[pos]'hp).toNat < 128
      · have hlz : ((s[pos]'hp).toNat : Int) < 128 := by omega
        rw [rn_low hdl hlow] at hc
        clear hdc hdl
        generalize (s[pos]'hp).toNat = c at hix hc hlow hlz
        cases ho : okr (decide (pos = 0)) c with
        | true =>
          rw [ho, if_pos rfl, ← hd0] at hc
          rcases okr_yes hlow ho with ⟨a1, a2⟩ | ⟨a1, a2, a3, a4⟩ | ⟨a1, a2, a3, a4⟩
          · have b1 : (97 : Int) ≤ c := by omega
            have b2 : (c : Int) ≤ 122 := by omega
            clear ho hlow a1 a2
            go_wp2_with fail
            go_roundw
            case rel => exact ⟨pos + 1, f - 1, by first | rfl | trivial, by omega, by omega, hc, hbr⟩
            case measure => simp [intOf]; omega
          · have b1 : ¬ (97 : Int) ≤ c := by omega
            have b2 : (0 : Int) < pos := by have := of_decide_eq_false a2; omega
            have b3 : (48 : Int) ≤ c := by omega
            have b4 : (c : Int) ≤ 57 := by omega
            clear ho hlow a1 a2 a3 a4
            go_wp2_with fail
            go_roundw
            case rel => exact ⟨pos + 1, f - 1, by first | rfl | trivial, by omega, by omega, hc, hbr⟩
            case measure => simp [intOf]; omega
          · have b1 : ¬ (97 : Int) ≤ c := by omega
            have b2 : (0 : Int) < pos := by have := of_decide_eq_false a2; omega
            have b3 : ¬ (48 : Int) ≤ c := by omega
            have b4 : ((c : Int) == 45) = true := by simp; omega
            clear ho hlow a1 a2 a3 a4
            go_wp2_with fail
            go_roundw
            case rel => exact ⟨pos + 1, f - 1, by first | rfl | trivial, by omega, by omega, hc, hbr⟩
            case measure => simp [intOf]; omega
        | false =>
          rw [ho] at hc
          have hR2 : R = false := hc.symm
          subst hR2
          rcases okr_no hlow ho with ⟨a1, a2⟩ | ⟨a1, a3, a2⟩ | ⟨a1, a2, a3, a4⟩ | ⟨a1, a2, a3, a4, a5⟩ | ⟨a1, a6, a2, a3, a4, a5⟩
          · have b1 : ¬ (97 : Int) ≤ c := by omega
            have b2 : ¬ (0 : Int) < pos := by have := of_decide_eq_true a2; omega
            clear ho hlow a1 a2 hc
            go_wp2_with fail
            go_ret
            exact ⟨rfl, hbr⟩
          · have b1 : (97 : Int) ≤ c := by omega
            have b3 : ¬ (c : Int) ≤ 122 := by omega
            have b2 : ¬ (0 : Int) < pos := by have := of_decide_eq_true a2; omega
            clear ho hlow a1 a2 a3 hc
            go_wp2_with fail
            go_ret
            exact ⟨rfl, hbr⟩
          · have b1 : ¬ (97 : Int) ≤ c := by omega
            have b2 : (0 : Int) < pos := by have := of_decide_eq_false a2; omega
            have b3 : ¬ (48 : Int) ≤ c := by omega
            have b4 : ((c : Int) == 45) = false := by simp; omega
            clear ho hlow a1 a2 a3 a4 hc
            go_wp2_with fail
            go_ret
            exact ⟨rfl, hbr⟩
          · have b1 : ¬ (97 : Int) ≤ c := by omega
            have b2 : (0 : Int) < pos := by have := of_decide_eq_false a2; omega
            have b3 : (48 : Int) ≤ c := by omega
            have b5 : ¬ (c : Int) ≤ 57 := by omega
            have b4 : ((c : Int) == 45) = false := by simp; omega
            clear ho hlow a1 a2 a3 a4 a5 hc
            go_wp2_with fail
            go_ret
            exact ⟨rfl, hbr⟩
          · have b1 : (97 : Int) ≤ c := by omega
            have b6 : ¬ (c : Int) ≤ 122 := by omega
            have b2 : (0 : Int) < pos := by have := of_decide_eq_false a2; omega
            have b3 : (48 : Int) ≤ c := by omega
            have b5 : ¬ (c : Int) ≤ 57 := by omega
            have b4 : ((c : Int) == 45) = false := by simp; omega
            clear ho hlow a1 a2 a3 a4 a5 a6 hc
            go_wp2_with fail
            go_ret
            exact ⟨rfl, hbr⟩
      · have hlz : ¬ ((s[pos]'hp).toNat : Int) < 128 := by omega
        rw [rn_high hdl hlow, ← hdc, List.drop_drop] at hc
        have hcd := decode_any (hV.below hbr) (s.extract pos s.size)
        rw [decodeGo_drop s pos hp] at hcd
        have hwd := Lib.decodeL_width (s.data.toList.drop pos)
        have hw4 : (Lib.decodeL (s.data.toList.drop pos)).2 ≤ s.size - pos := by
          have := Lib.decodeL_le (s.data.toList.drop pos) (by rw [hdc]; simp)
          rw [List.length_drop] at this
          omega
        clear hdc hdl
        generalize (s[pos]'hp).toNat = c at hix hlow hlz
        generalize (Lib.decodeL (s.data.toList.drop pos)).1 = r at hcd hc
        generalize (Lib.decodeL (s.data.toList.drop pos)).2 = q at hcd hc hwd hw4
        have hsl : ∀ W, (Instr.slice 9 (.string s) (some (.int .i64 pos)) none none).run Tryd.prog W = .ok (.string (s.extract pos s.size)) W := by
          intro W
          rw [run_slice_string_from_if W 9 s .i64 pos Tryd.underlying9, if_pos ⟨by omega, by omega⟩]
          simp
        generalize s.extract pos s.size = p at hcd hsl
        have e8 : IntKind.i64.wrap ((pos : Int) + q) = (pos : Int) + q := wrap64 (by omega) (by omega)
        by_cases hbad : r = 65533 ∧ q = 1
        · rw [if_pos hbad] at hc
          subst hc
          have b1 : ((r : Int) == 65533) = true := by simp; omega
          have b2 : (q : Int) ≤ 1 := by omega
          clear hbad
          go_wp2_with fail
          refine hcd.mono ?_
          rintro e w1 ⟨rfl, hb1⟩
          go_wp2_with fail
          go_ret
          exact ⟨rfl, hbr.trans (hb1.mono hbr.size)⟩
        · rw [if_neg hbad] at hc
          have hc2 : rn (f - 1) (decide (pos + q = 0)) (s.data.toList.drop (pos + q)) = R := by
            rw [show decide (pos + q = 0) = false by simp; omega]; exact hc
          have hor : ((r : Int) == 65533) = false ∨ (((r : Int) == 65533) = true ∧ ¬ (q : Int) ≤ 1) := by
            by_cases hr : r = 65533
            · exact Or.inr ⟨by simp; omega, by omega⟩
            · exact Or.inl (by simp; omega)
          clear hbad hc
          rcases hor with b1 | ⟨b1, b2⟩
          · go_wp2_with fail
            refine hcd.mono ?_
            rintro e w1 ⟨rfl, hb1⟩
            go_wp2_with fail
            go_roundw
            case rel => exact ⟨pos + q, f - 1, by first | rfl | trivial, by omega, by omega, hc2, hbr.trans (hb1.mono hbr.size)⟩
            case measure => simp [intOf]; omega
          · go_wp2_with fail
            refine hcd.mono ?_
            rintro e w1 ⟨rfl, hb1⟩
            go_wp2_with fail
            go_roundw
            case rel => exact ⟨pos + q, f - 1, by first | rfl | trivial, by omega, by omega, hc2, hbr.trans (hb1.mono hbr.size)⟩
            case measure => simp [intOf]; omega
    · have hpz : ¬ (pos : Int) < s.size := by omega
      rw [drop_end s pos hp, rn_nil] at hc
      subst hc
      go_wp2_with fail
      go_ret
      exact ⟨rfl, hbr⟩
theorem rname_any {w : World} (hV : Vs w) (s : ByteArray) (hs : s.size ≤ 140737488355328) :
    Calls Tryd.prog 28 #[.string s] w fun e w' => e = .returned (.bool (nam s.data.toList)) ∧ Below w.heap.size w w' := by
  unfold nam
  rw [text_len]
  by_cases h : 1 ≤ s.size ∧ s.size ≤ 32
  · rw [decide_eq_true h, Bool.true_and]
    exact rname_len hV s h.1 h.2
  · rw [decide_eq_false h, Bool.false_and]
    by_cases h1 : s.size = 0
    · have he : (s.toList == ([] : List UInt8)) = true := (size_pos_iff s).2 h1
      go_enter Tryd.func28, Tryd.ntmps28
      go_wp2_with fail
      go_ret
      exact ⟨rfl, Below.refl _ _⟩
    · have he : (s.toList == ([] : List UInt8)) = false := by
        have := size_pos_iff s
        cases hb : (s.toList == ([] : List UInt8))
        · rfl
        · have := this.1 hb; omega
      have z2 : (32 : Int) < s.size := by omega
      go_enter Tryd.func28, Tryd.ntmps28
      go_wp2_with fail
      go_ret
      exact ⟨rfl, Below.refl _ _⟩
end Go.Proofs.YtnddbklbgddblaaDoor

namespace Go.Proofs.YtnddbklbgddblaaDoor
open Go.RowKit
open Sm
set_option linter.unusedVariables false

namespace Sm
end Sm
end Go.Proofs.YtnddbklbgddblaaDoor

namespace Go.Proofs.YtnddbklbgddblaaDoor
open Go.RowKit
open Sm
set_option linter.unusedVariables false

theorem own_after {B C : Nat} {w w' : World} {v : Value} {n : Nat} {xs : List Value} (h : w.ownsRow B 5 1 v n xs) (hb : Below C w w') (hC : w.heap.size ≤ C) : w'.ownsRow B 5 1 v n xs := by
  obtain ⟨h1, h2⟩ := h
  refine ⟨h1, ?_⟩
  rcases h2 with h2 | ⟨g, cap, cur, rfl, hg, hh, r⟩
  · exact Or.inl h2
  · refine Or.inr ⟨g, cap, cur, rfl, hg, ?_, r⟩
    have hlt : g < w.heap.size := (Array.getElem?_eq_some_iff.mp hh).1
    rw [hb.block g (by omega)]; exact hh

theorem Mem.over {w w' w2 : World} {L : List (Nat × Obj)} (h : Mem w w' L) {B : Nat} (hb : Below B w' w2) (hB : w.heap.size ≤ B) (hL : ∀ p ∈ L, p.1 < B) : Mem w w2 L :=
  ⟨h.below.trans (hb.mono hB), h.low, fun p hp => by rw [hb.block p.1 (hL p hp)]; exact h.at_ p hp, h.apart⟩
theorem Mem.bytes {w w' : World} {L : List (Nat × Obj)} (h : Mem w w' L) (i : Nat) {g : Nat} {c : Array Value} {t : TypeId} (hi : L[i]? = some (g, .cells c t (0, 0))) (off : Nat) (l : List Int) (hb : IsBytes l) (hl : l.length ≤ 1000)
    (hc : ∀ j, j < l.length → c[off + j]? = some (.int .u8 (l.getD j 0))) : Row w' (some ⟨g, off, none⟩) l :=
  ⟨hb, by omega, Or.inr ⟨g, off, rfl, fun j hj => by rw [h.cell i hi]; exact hc j hj⟩⟩

end Go.Proofs.YtnddbklbgddblaaDoor

