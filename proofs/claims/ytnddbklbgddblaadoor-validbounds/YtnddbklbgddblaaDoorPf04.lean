/-
  Names: the program's Name, at every text.
  What the library's variables hold when a call begins, and a world in which they hold it.
  What sum.Words answers (a new row of the words), and that the chapter's example stands (lychlaw1.known).
  What the statements' own helps answer: lychhelp.Bytes over two rows of the same bytes, lychref1's Get16, cut and Put16.
-/
import Derived.Test.YtnddbklbgddblaaDoorPf03
import Derived.Lib.ValidLaws
import Derived.Lib.TrimUEq
import Derived.Lib.TrimAscii
import Derived.Lib.LaidU8T
import Derived.PinnedBridge
import Derived.LaidMore
import Derived.Lay
import Derived.Handed
import Derived.Shelf.Vars
import Derived.Stop.Joined
import Derived.Laws.BytesArg
import Derived.Lib.BufferRead
namespace Go.Proofs.YtnddbklbgddblaaDoor
open Go.RowKit
open Ad
set_option linter.unusedVariables false

theorem mayBegin_any (r : Nat) (w : World) : Calls Tryd.prog 83 #[.int .i32 (r : Int)] w fun e w' => e = .returned (.bool (mb r)) ∧ w = w' := by
  have hc : (¬ (97 : Int) ≤ r) ∨ ((97 : Int) ≤ r ∧ (r : Int) ≤ 122) ∨ ((97 : Int) ≤ r ∧ ¬ (r : Int) ≤ 122 ∧ ¬ (127 : Int) < r) ∨ ((97 : Int) ≤ r ∧ ¬ (r : Int) ≤ 122 ∧ (127 : Int) < r) := by omega
  rcases hc with h1 | ⟨h1, h2⟩ | ⟨h1, h2, h3⟩ | ⟨h1, h2, h3⟩
  · have h3 : ¬ (127 : Int) < r := by omega
    have e : mb r = false := by unfold mb; simp; omega
    rw [e]
    go_enter Tryd.func83, Tryd.ntmps83
    go_wp2
    go_ret
    exact ⟨rfl, rfl⟩
  · have e : mb r = true := by unfold mb; simp; omega
    rw [e]
    go_enter Tryd.func83, Tryd.ntmps83
    go_wp2
    go_ret
    exact ⟨rfl, rfl⟩
  · have e : mb r = false := by unfold mb; simp; omega
    rw [e]
    go_enter Tryd.func83, Tryd.ntmps83
    go_wp2
    go_ret
    exact ⟨rfl, rfl⟩
  · have e : mb r = true := by unfold mb; simp; omega
    rw [e]
    go_enter Tryd.func83, Tryd.ntmps83
    go_wp2
    go_ret
    exact ⟨rfl, rfl⟩
theorem mayFollow_any (r : Nat) (w : World) : Calls Tryd.prog 84 #[.int .i32 (r : Int)] w fun e w' => e = .returned (.bool (mf r)) ∧ w = w' := by
  have cD := isDigit_any (r : Int)
  by_cases hd : (48 : Int) ≤ r ∧ (r : Int) ≤ 57
  · have e : mf r = true := by unfold mf; simp; omega
    rw [e]
    rw [decide_eq_true hd] at cD
    clear hd
    go_enter Tryd.func84, Tryd.ntmps84
    go_wp2_with fail
    refine (cD _).mono ?_
    rintro e w' ⟨rfl, rfl⟩
    go_wp2_with fail
    go_ret
    exact ⟨rfl, rfl⟩
  · rw [decide_eq_false hd] at cD
    by_cases h45 : r = 45
    · have e : mf r = true := by unfold mf; simp; omega
      have h45b : (((r : Nat) : Int) == 45) = true := by simp; omega
      rw [e]
      clear hd h45
      go_enter Tryd.func84, Tryd.ntmps84
      go_wp2_with fail
      refine (cD _).mono ?_
      rintro e w' ⟨rfl, rfl⟩
      go_wp2_with fail
      go_ret
      exact ⟨rfl, rfl⟩
    · have e : mf r = false := by unfold mf; simp; omega
      have h45b : (((r : Nat) : Int) == 45) = false := by simp; omega
      rw [e]
      clear hd h45
      go_enter Tryd.func84, Tryd.ntmps84
      go_wp2_with fail
      refine (cD _).mono ?_
      rintro e w' ⟨rfl, rfl⟩
      go_wp2_with fail
      go_ret
      exact ⟨rfl, rfl⟩

set_option maxHeartbeats 4000000 in
set_option maxRecDepth 20000 in
theorem name_len {w : World} (hV : Vs w) (s : ByteArray) (h1 : 1 ≤ s.size) (h2 : s.size ≤ 32) :
    Calls Tryd.prog 51 #[.string s] w fun e w' => e = .returned (.bool (rn s.size true s.data.toList)) ∧ Below w.heap.size w w' := by
  have cV := valid_any hV s (by omega)
  have hlen := text_len s
  have hpr := pn_rn s.size true s.data.toList (by omega)
  have z1 : ¬ ((s.size : Int) < 1) := by omega
  have z2 : ¬ ((32 : Int) < s.size) := by omega
  cases hv : Lib.validD s.data.toList with
  | false =>
    rw [hv, Bool.false_and] at hpr
    rw [← hpr]
    rw [hv] at cV
    clear hpr
    go_enter Tryd.func51, Tryd.ntmps51
    go_wp2_with fail
    refine cV.mono ?_
    rintro e w1 ⟨rfl, hb1⟩
    go_wp2_with fail
    go_ret
    exact ⟨rfl, hb1⟩
  | true =>
    rw [hv, Bool.true_and] at hpr
    rw [← hpr]
    rw [hv] at cV
    obtain ⟨R, hR⟩ : ∃ R, pn s.size true s.data.toList = R := ⟨_, rfl⟩
    rw [hR]
    clear hpr
    go_enter Tryd.func51, Tryd.ntmps51
    go_wp2_with fail
    refine cV.mono ?_
    rintro e w1 ⟨rfl, hb1⟩
    have hbi : ∀ pos, Below w.heap.size w (w1.iter s pos) := fun pos => hb1.trans ((iter_below w1 s pos).mono hb1.size)
    go_wp2_with fail
    go_loopw [] (fun w' => ∃ (pos f : Nat), w' = w1.iter s pos ∧ s.size ≤ pos + f ∧ pn f (decide (pos = 0)) (s.data.toList.drop pos) = R) (fun w' => s.size - w'.iterPos w1.heap.size)
    case atStart => exact ⟨0, s.size, rfl, by omega, by simpa using hR⟩
    case round =>
      obtain ⟨pos, f, rfl, hf, hc⟩ := hrel
      clear cV hR
      by_cases hp : pos < s.size
      · have hnx : ∀ ty, (Instr.next (.pointer (some ⟨w1.heap.size, 0, none⟩)) true ty).run Tryd.prog (w1.iter s pos) = _ := fun ty => run_next_any w1 s pos ty hp
        have hne : s.data.toList.drop pos ≠ [] := by rw [drop_cons s pos hp]; simp
        rw [pn_step hne (by rw [List.length_drop]; omega), Lib.decodeL_drop, List.drop_drop] at hc
        have hwd : 1 ≤ (Utf8.decode s pos).2 := by rw [← Lib.decodeL_drop]; exact Lib.decodeL_width _
        generalize (Utf8.decode s pos).1 = r at hnx hc
        generalize (Utf8.decode s pos).2 = q at hnx hc hwd
        have cB := mayBegin_any r
        have cF := mayFollow_any r
        have hgo : ∀ (hok : okr (decide (pos = 0)) r = true), pn (f - 1) (decide (pos + q = 0)) (s.data.toList.drop (pos + q)) = R := by
          intro hok
          rw [if_pos hok] at hc
          rw [show decide (pos + q = 0) = false by simp; omega]
          exact hc
        have hno : okr (decide (pos = 0)) r = false → R = false := by
          intro hok
          rw [hok] at hc
          exact hc.symm
        unfold okr at hgo hno
        clear hc hne
        cases hB : mb r with
        | true =>
          rw [hB] at cB hgo
          have hc := hgo (by simp)
          clear hgo hno cF hB
          go_wp2_with fail
          refine (cB _).mono ?_
          rintro e w' ⟨rfl, rfl⟩
          go_wp2_with fail
          go_roundw
          case rel => exact ⟨pos + q, f - 1, rfl, by omega, hc⟩
          case measure => simp; omega
        | false =>
          rw [hB] at cB hgo hno
          by_cases h0 : pos = 0
          · have hR2 := hno (by simp [h0])
            subst hR2
            have h0b : (((pos : Nat) : Int) == 0) = true := by simp [h0]
            clear hgo hno cF hB h0
            go_wp2_with fail
            refine (cB _).mono ?_
            rintro e w' ⟨rfl, rfl⟩
            go_wp2_with fail
            go_ret
            exact ⟨rfl, hbi _⟩
          · have h0b : (((pos : Nat) : Int) == 0) = false := by simp; omega
            cases hF : mf r with
            | true =>
              rw [hF] at cF hgo
              have hc := hgo (by simp [h0])
              clear hgo hno hB hF
              go_wp2_with fail
              refine (cB _).mono ?_
              rintro e w' ⟨rfl, rfl⟩
              go_wp2_with fail
              refine (cF _).mono ?_
              rintro e w' ⟨rfl, rfl⟩
              go_wp2_with fail
              go_roundw
              case rel => exact ⟨pos + q, f - 1, rfl, by omega, hc⟩
              case measure => simp; omega
            | false =>
              rw [hF] at cF hno
              have hR2 := hno (by simp)
              subst hR2
              clear hgo hno hB hF
              go_wp2_with fail
              refine (cB _).mono ?_
              rintro e w' ⟨rfl, rfl⟩
              go_wp2_with fail
              refine (cF _).mono ?_
              rintro e w' ⟨rfl, rfl⟩
              go_wp2_with fail
              go_ret
              exact ⟨rfl, hbi _⟩
      · have hnx : ∀ ty, (Instr.next (.pointer (some ⟨w1.heap.size, 0, none⟩)) true ty).run Tryd.prog (w1.iter s pos) = _ := fun ty => run_next_end w1 s pos ty hp
        rw [drop_end s pos hp, pn_nil] at hc
        subst hc
        go_wp2_with fail
        go_ret
        exact ⟨rfl, hbi _⟩
theorem name_any {w : World} (hV : Vs w) (s : ByteArray) (hs : s.size ≤ 140737488355328) :
    Calls Tryd.prog 51 #[.string s] w fun e w' => e = .returned (.bool (nam s.data.toList)) ∧ Below w.heap.size w w' := by
  unfold nam
  rw [text_len]
  by_cases h : 1 ≤ s.size ∧ s.size ≤ 32
  · rw [decide_eq_true h, Bool.true_and]
    exact name_len hV s h.1 h.2
  · rw [decide_eq_false h, Bool.false_and]
    by_cases h1 : s.size < 1
    · have z1 : (s.size : Int) < 1 := by omega
      go_enter Tryd.func51, Tryd.ntmps51
      go_wp2_with fail
      go_ret
      exact ⟨rfl, Below.refl _ _⟩
    · have z1 : ¬ (s.size : Int) < 1 := by omega
      have z2 : (32 : Int) < s.size := by omega
      go_enter Tryd.func51, Tryd.ntmps51
      go_wp2_with fail
      go_ret
      exact ⟨rfl, Below.refl _ _⟩
end Go.Proofs.YtnddbklbgddblaaDoor

namespace Go.Proofs.YtnddbklbgddblaaDoor
open Go.ChangeShapes Go.WideShapes Go.RowKit
set_option linter.unusedVariables false

abbrev laidA : List (String × DataW Unit) :=
  [("unicode/utf8.acceptRanges", Rows.laid_unicode_utf8_acceptRanges), ("unicode/utf8.first", Rows.laid_unicode_utf8_first)]
theorem la_extra : U8Extra Tryd.prog Tryd.lays196_ren := {
  n3 := by kernel_rfl
  n4 := by kernel_rfl
  y3 := by kernel_rfl
  y4 := by kernel_rfl
  c5 := by kernel_rfl
  c119 := by kernel_rfl
  c138 := by kernel_rfl }
theorem la_acc : (Rows.laid_unicode_utf8_acceptRanges : DataW Unit) = Lib.acceptData := by kernel_rfl
theorem la_first : Rows.laid_unicode_utf8_first = Lib.firstData := Pinned.utf8First_eq
theorem laid_vs {W : World} (h : laidMetH Tryd.prog laidA W) (hs : W.ShapedOpen Tryd.prog) : Vs W := by
  rw [MakeChecks.laidMetH_plain _ _ _ (by kernel_rfl)] at h
  have h3 := Lib.laidMet.reads h (n := "unicode/utf8.first") (d := Rows.laid_unicode_utf8_first) (by simp)
  have h4 := Lib.laidMet.reads h (n := "unicode/utf8.acceptRanges") (d := Rows.laid_unicode_utf8_acceptRanges) (by simp)
  rw [la_first] at h3
  rw [la_acc] at h4
  exact {
    utf := utf8Tabs_of_readsT (U8Types.of196 Tryd.lays196) la_extra h3 h4 }
theorem laidA_met (os : Os) (args : Array Value) : laidMetH Tryd.prog laidA ((World.laidAll Tryd.prog os laidA).forCall (fun _ _ => 0) ⟨#[], args, []⟩).memory := by
  rw [MakeChecks.laidMetH_plain _ _ _ (by kernel_rfl)]
  exact laidMet_laidAll _ (by kernel_rfl) (by kernel_rfl)

theorem returns_of {H : Type} {enc : TypeId × Value → H} {a : Assume} {C : Checked} {os : Os} {f : FuncId} {fn : Func} {s : ChangeSpec} {conds : List PathCond} {apart fresh handsOn again : Bool} {l : List (String × DataW Unit)}
    (own : ownKnob C.prog.godebug = none) (started : os.Started) (noInit : C.prog.inits.idxOf? f = none) (hfn : C.prog.funcs[f]? = some fn)
    (witness : ∃ (w : World) (tape : Tape) (i : Input), w.os = os ∧ (w.forCall tape i).Shaped C.prog ∧ i.vars = [] ∧ Input.okWide C.prog (w.forCall tape i) .any w.heap.size f i ∧
      ((s.pre enc C.prog fn conds apart (w.forCall tape i).memory i.args ∧ laidMetH C.prog l (w.forCall tape i).memory) ∧ sizedMet enc C.prog fn (OpenSpec.ofChange s) apart (w.forCall tape i).memory i.args) ∧ a.holds C.prog (lone (Frame.enter C.prog f i.args .normal) [] (w.forCall tape i)))
    (contract : ∀ (W : World) (base : Nat) (args : Array Value) (ds gs : List (DataW H)) (before : List MemPlace),
      (∀ (j : Nat) t v, fn.params[j]? = some t → args[j]? = some v → Value.okWide C.prog W .any base t v) →
      DataW.Whole enc C.prog fn.params.toList s.vars apart W args.toList ds gs before →
      laidMetH C.prog l W → W.ShapedOpen C.prog →
      Calls C.prog f args W fun e W' => ∃ v, e = .returned v ∧ s.post enc C.prog fn apart fresh handsOn again W args v W') :
    ReturnsInHanded a C os f .any (fun w args => (s.pre enc C.prog fn conds apart w args ∧ laidMetH C.prog l w) ∧ sizedMet enc C.prog fn (OpenSpec.ofChange s) apart w args) (s.post enc C.prog fn apart fresh handsOn again) := by
  refine returnsInHanded_of_calls own started noInit witness fun w tape i _ hsh _ hok hpre _ => ?_
  obtain ⟨_, _, _, fn', hfn', _, _, _, _, hval⟩ := hok
  obtain rfl : fn' = fn := Option.some.inj (hfn'.symm.trans hfn)
  obtain ⟨⟨⟨ds, gs, before, hw, _⟩, hl⟩, _⟩ := hpre
  refine (contract (w.forCall tape i) w.heap.size i.args ds gs before hval (DataW.Whole.of_heap (w' := w.forCall tape i) (by rfl) hw) (hl.of_heap (by rfl)) hsh).mono fun e W' hp => ?_
  obtain ⟨v, rfl, hp⟩ := hp
  exact ChangeSpec.post_blind hp
end Go.Proofs.YtnddbklbgddblaaDoor

namespace Go.Proofs.YtnddbklbgddblaaDoor
open Go.RowKit
open Sm
set_option linter.unusedVariables false

end Go.Proofs.YtnddbklbgddblaaDoor

namespace Go.Proofs.YtnddbklbgddblaaDoor
open Go.RowKit
open Sm
set_option linter.unusedVariables false

end Go.Proofs.YtnddbklbgddblaaDoor

