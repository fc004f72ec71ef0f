/-
  Names: the program's Name, at every text.
  What the library's variables hold when a call begins, and a world in which they hold it.
  What the statements' own helps answer: lychhelp.Bytes over two rows of the same bytes, lychref1's Get16, cut and Put16.
  What sum.Words answers (a new row of the words), and that the chapter's example stands (lychlaw1.known).
-/
import Derived.Test.YtneciccdiledfaaGreatDoorMo03
import Derived.Lib.ValidLaws
import Derived.Lib.TrimUEq
import Derived.Lib.TrimAscii
import Derived.Lib.LaidU8T
import Derived.PinnedBridge
import Derived.LaidMore
import Derived.Lay
import Derived.Handed
import Derived.Shelf.Vars
import Derived.Stop.Joined
import Derived.Laws.BytesArg
import Derived.Lib.BufferRead
namespace Go.Proofs.YtneciccdiledfaaGreatDoor
open Go.RowKit
open Ad
set_option linter.unusedVariables false

namespace Ad
def mb (r : Nat) : Bool := decide ((97 ≤ r ∧ r ≤ 122) ∨ 127 < r)
def mf (r : Nat) : Bool := decide ((48 ≤ r ∧ r ≤ 57) ∨ r = 45)
/-- Whether a rune may stand in a name, first or not. -/
def okr (first : Bool) (r : Nat) : Bool := mb r || (!first && mf r)
def pn : Nat → Bool → List UInt8 → Bool
  | 0, _, _ => true
  | f + 1, first, l => if l = [] then true else if okr first (Lib.decodeL l).1 then pn f false (l.drop (Lib.decodeL l).2) else false
def rn : Nat → Bool → List UInt8 → Bool
  | 0, _, _ => true
  | f + 1, first, [] => true
  | f + 1, first, b :: t => if b.toNat < 128 then (if okr first b.toNat then rn f false t else false)
    else if (Lib.decodeL (b :: t)).1 = 65533 ∧ (Lib.decodeL (b :: t)).2 = 1 then false else rn f false ((b :: t).drop (Lib.decodeL (b :: t)).2)
theorem decode_lead (b : UInt8) (t : List UInt8) (h : 128 ≤ b.toNat) : 128 ≤ (Lib.decodeL (b :: t)).1 := by
  unfold Lib.decodeL
  have hs : (⟨(b :: t).toArray⟩ : ByteArray).size = t.length + 1 := by show (b :: t).toArray.size = _; simp
  exact (decode_high ⟨(b :: t).toArray⟩ 0 (by omega) (by show 128 ≤ ((b :: t).toArray[0]).toNat; simpa using h)).1
theorem pn_rn : ∀ (f : Nat) (first : Bool) (l : List UInt8), l.length ≤ f → (Lib.validD l && pn f first l) = rn f first l
  | 0, first, l, h => by
    have : l = [] := List.eq_nil_of_length_eq_zero (by omega)
    subst this
    rfl
  | f + 1, first, [], h => by rw [pn, rn, if_pos rfl, Lib.validD_nil]; rfl
  | f + 1, first, b :: t, h => by
    have hne : b :: t ≠ [] := by simp
    have hw := Lib.decodeL_width (b :: t)
    simp only [List.length_cons] at h
    rw [pn, if_neg hne, rn, Lib.validD_step _ hne]
    by_cases ha : b.toNat < 128
    · rw [if_pos ha, Lib.decodeL_ascii b t ha, if_neg (by simp; omega)]
      simp only [List.drop_succ_cons, List.drop_zero]
      by_cases ho : okr first b.toNat = true
      · rw [if_pos ho, if_pos ho]; exact pn_rn f false t (by omega)
      · rw [if_neg ho, if_neg ho, Bool.and_false]
    · rw [if_neg ha]
      have hd := decode_lead b t (by omega)
      have ho : okr first (Lib.decodeL (b :: t)).1 = true := by
        unfold okr mb
        rw [decide_eq_true (Or.inr (by omega)), Bool.true_or]
      rw [if_pos ho]
      by_cases hbad : (Lib.decodeL (b :: t)).1 = 65533 ∧ (Lib.decodeL (b :: t)).2 = 1
      · rw [if_pos hbad, if_pos hbad, Bool.false_and]
      · rw [if_neg hbad, if_neg hbad]
        apply pn_rn
        rw [List.length_drop, List.length_cons]; omega
/-- Whether a text is a name. -/
def nam (l : List UInt8) : Bool := decide (1 ≤ l.length ∧ l.length ≤ 32) && rn l.length true l
theorem pn_nil (f : Nat) (first : Bool) : pn f first [] = true := by cases f <;> simp [pn]
theorem pn_step {f : Nat} {first : Bool} {l : List UInt8} (hne : l ≠ []) (hl : l.length ≤ f) : pn f first l = if okr first (Lib.decodeL l).1 then pn (f - 1) false (l.drop (Lib.decodeL l).2) else false := by
  cases f with
  | zero => exact absurd (List.eq_nil_of_length_eq_zero (by omega)) hne
  | succ f => rw [pn, if_neg hne]; rfl
end Ad

theorem mayBegin_any (r : Nat) (w : World) : Calls Tryz.prog 129 #[.int .i32 (r : Int)] w fun e w' => e = .returned (.bool (mb r)) ∧ w = w' := by
  have hc : (¬ (97 : Int) ≤ r) ∨ ((97 : Int) ≤ r ∧ (r : Int) ≤ 122) ∨ ((97 : Int) ≤ r ∧ ¬ (r : Int) ≤ 122 ∧ ¬ (127 : Int) < r) ∨ ((97 : Int) ≤ r ∧ ¬ (r : Int) ≤ 122 ∧ (127 : Int) < r) := by omega
  rcases hc with h1 | ⟨h1, h2⟩ | ⟨h1, h2, h3⟩ | ⟨h1, h2, h3⟩
  · have h3 : ¬ (127 : Int) < r := by omega
    have e : mb r = false := by unfold mb; simp; omega
    rw [e]
    go_enter Tryz.func129, Tryz.ntmps129
    go_wp2
    go_ret
    exact ⟨rfl, rfl⟩
  · have e : mb r = true := by unfold mb; simp; omega
    rw [e]
    go_enter Tryz.func129, Tryz.ntmps129
    go_wp2
    go_ret
    exact ⟨rfl, rfl⟩
  · have e : mb r = false := by unfold mb; simp; omega
    rw [e]
    go_enter Tryz.func129, Tryz.ntmps129
    go_wp2
    go_ret
    exact ⟨rfl, rfl⟩
  · have e : mb r = true := by unfold mb; simp; omega
    rw [e]
    go_enter Tryz.func129, Tryz.ntmps129
    go_wp2
    go_ret
    exact ⟨rfl, rfl⟩
theorem mayFollow_any (r : Nat) (w : World) : Calls Tryz.prog 130 #[.int .i32 (r : Int)] w fun e w' => e = .returned (.bool (mf r)) ∧ w = w' := by
  have cD := isDigit_any (r : Int)
  by_cases hd : (48 : Int) ≤ r ∧ (r : Int) ≤ 57
  · have e : mf r = true := by unfold mf; simp; omega
    rw [e]
    rw [decide_eq_true hd] at cD
    clear hd
    go_enter Tryz.func130, Tryz.ntmps130
    go_wp2_with fail
    refine (cD _).mono ?_
    rintro e w' ⟨rfl, rfl⟩
    go_wp2_with fail
    go_ret
    exact ⟨rfl, rfl⟩
  · rw [decide_eq_false hd] at cD
    by_cases h45 : r = 45
    · have e : mf r = true := by unfold mf; simp; omega
      have h45b : (((r : Nat) : Int) == 45) = true := by simp; omega
      rw [e]
      clear hd h45
      go_enter Tryz.func130, Tryz.ntmps130
      go_wp2_with fail
      refine (cD _).mono ?_
      rintro e w' ⟨rfl, rfl⟩
      go_wp2_with fail
      go_ret
      exact ⟨rfl, rfl⟩
    · have e : mf r = false := by unfold mf; simp; omega
      have h45b : (((r : Nat) : Int) == 45) = false := by simp; omega
      rw [e]
      clear hd h45
      go_enter Tryz.func130, Tryz.ntmps130
      go_wp2_with fail
      refine (cD _).mono ?_
      rintro e w' ⟨rfl, rfl⟩
      go_wp2_with fail
      go_ret
      exact ⟨rfl, rfl⟩

set_option maxHeartbeats 4000000 in
set_option maxRecDepth 20000 in
theorem name_len {w : World} (hV : Vs w) (s : ByteArray) (h1 : 1 ≤ s.size) (h2 : s.size ≤ 32) :
    Calls Tryz.prog 117 #[.string s] w fun e w' => e = .returned (.bool (rn s.size true s.data.toList)) ∧ Below w.heap.size w w' := by
  have cV := valid_any hV s (by omega)
  have hlen := text_len s
  have hpr := pn_rn s.size true s.data.toList (by omega)
  have z1 : ¬ ((s.size : Int) < 1) := by omega
  have z2 : ¬ ((32 : Int) < s.size) := by omega
  cases hv : Lib.validD s.data.toList with
  | false =>
    rw [hv, Bool.false_and] at hpr
    rw [← hpr]
    rw [hv] at cV
    clear hpr
    go_enter Tryz.func117, Tryz.ntmps117
    go_wp2_with fail
    refine cV.mono ?_
    rintro e w1 ⟨rfl, hb1⟩
    go_wp2_with fail
    go_ret
    exact ⟨rfl, hb1⟩
  | true =>
    rw [hv, Bool.true_and] at hpr
    rw [← hpr]
    rw [hv] at cV
    obtain ⟨R, hR⟩ : ∃ R, pn s.size true s.data.toList = R := ⟨_, rfl⟩
    rw [hR]
    clear hpr
    go_enter Tryz.func117, Tryz.ntmps117
    go_wp2_with fail
    refine cV.mono ?_
    rintro e w1 ⟨rfl, hb1⟩
    have hbi : ∀ pos, Below w.heap.size w (w1.iter s pos) := fun pos => hb1.trans ((iter_below w1 s pos).mono hb1.size)
    go_wp2_with fail
    go_loopw [] (fun w' => ∃ (pos f : Nat), w' = w1.iter s pos ∧ s.size ≤ pos + f ∧ pn f (decide (pos = 0)) (s.data.toList.drop pos) = R) (fun w' => s.size - w'.iterPos w1.heap.size)
    case atStart => exact ⟨0, s.size, rfl, by omega, by simpa using hR⟩
    case round =>
      obtain ⟨pos, f, rfl, hf, hc⟩ := hrel
      clear cV hR
      by_cases hp : pos < s.size
      · have hnx : ∀ ty, (Instr.next (.pointer (some ⟨w1.heap.size, 0, none⟩)) true ty).run Tryz.prog (w1.iter s pos) = _ := fun ty => run_next_any w1 s pos ty hp
        have hne : s.data.toList.drop pos ≠ [] := by rw [drop_cons s pos hp]; simp
        rw [pn_step hne (by rw [List.length_drop]; omega), Lib.decodeL_drop, List.drop_drop] at hc
        have hwd : 1 ≤ (Utf8.decode s pos).2 := by rw [← Lib.decodeL_drop]; exact Lib.decodeL_width _
        generalize (Utf8.decode s pos).1 = r at hnx hc
        generalize (Utf8.decode s pos).2 = q at hnx hc hwd
        have cB := mayBegin_any r
        have cF := mayFollow_any r
        have hgo : ∀ (hok : okr (decide (pos = 0)) r = true), pn (f - 1) (decide (pos + q = 0)) (s.data.toList.drop (pos + q)) = R := by
          intro hok
          rw [if_pos hok] at hc
          rw [show decide (pos + q = 0) = false by simp; omega]
          exact hc
        have hno : okr (decide (pos = 0)) r = false → R = false := by
          intro hok
          rw [hok] at hc
          exact hc.symm
        unfold okr at hgo hno
        clear hc hne
        cases hB : mb r with
        | true =>
          rw [hB] at cB hgo
          have hc := hgo (by simp)
          clear hgo hno cF hB
          go_wp2_with fail
          refine (cB _).mono ?_
          rintro e w' ⟨rfl, rfl⟩
          go_wp2_with fail
          go_roundw
          case rel => exact ⟨pos + q, f - 1, rfl, by omega, hc⟩
          case measure => simp; omega
        | false =>
          rw [hB] at cB hgo hno
          by_cases h0 : pos = 0
          · have hR2 := hno (by simp [h0])
            subst hR2
            have h0b : (((pos : Nat) : Int) == 0) = true := by simp [h0]
            clear hgo hno cF hB h0
            go_wp2_with fail
            refine (cB _).mono ?_
            rintro e w' ⟨rfl, rfl⟩
            go_wp2_with fail
            go_ret
            exact ⟨rfl, hbi _⟩
          · have h0b : (((pos : Nat) : Int) == 0) = false := by simp; omega
            cases hF : mf r with
            | true =>
              rw [hF] at cF hgo
              have hc := hgo (by simp [h0])
              clear hgo hno hB hF
              go_wp2_with fail
              refine (cB _).mono ?_
              rintro e w' ⟨rfl, rfl⟩
              go_wp2_with fail
              refine (cF _).mono ?_
              rintro e w' ⟨rfl, rfl⟩
              go_wp2_with fail
              go_roundw
              case rel => exact ⟨pos + q, f - 1, rfl, by omega, hc⟩
              case measure => simp; omega
            | false =>
              rw [hF] at cF hno
              have hR2 := hno (by simp)
              subst hR2
              clear hgo hno hB hF
              go_wp2_with fail
              refine (cB _).mono ?_
              rintro e w' ⟨rfl, rfl⟩
              go_wp2_with fail
              refine (cF _).mono ?_
              rintro e w' ⟨rfl, rfl⟩
              go_wp2_with fail
              go_ret
              exact ⟨rfl, hbi _⟩
      · have hnx : ∀ ty, (Instr.next (.pointer (some ⟨w1.heap.size, 0, none⟩)) true ty).run Tryz.prog (w1.iter s pos) = _ := fun ty => run_next_end w1 s pos ty hp
        rw [drop_end s pos hp, pn_nil] at hc
        subst hc
        go_wp2_with fail
        go_ret
        exact ⟨rfl, hbi _⟩
theorem name_any {w : World} (hV : Vs w) (s : ByteArray) (hs : s.size ≤ 140737488355328) :
    Calls Tryz.prog 117 #[.string s] w fun e w' => e = .returned (.bool (nam s.data.toList)) ∧ Below w.heap.size w w' := by
  unfold nam
  rw [text_len]
  by_cases h : 1 ≤ s.size ∧ s.size ≤ 32
  · rw [decide_eq_true h, Bool.true_and]
    exact name_len hV s h.1 h.2
  · rw [decide_eq_false h, Bool.false_and]
    by_cases h1 : s.size < 1
    · have z1 : (s.size : Int) < 1 := by omega
      go_enter Tryz.func117, Tryz.ntmps117
      go_wp2_with fail
      go_ret
      exact ⟨rfl, Below.refl _ _⟩
    · have z1 : ¬ (s.size : Int) < 1 := by omega
      have z2 : (32 : Int) < s.size := by omega
      go_enter Tryz.func117, Tryz.ntmps117
      go_wp2_with fail
      go_ret
      exact ⟨rfl, Below.refl _ _⟩
end Go.Proofs.YtneciccdiledfaaGreatDoor

namespace Go.Proofs.YtneciccdiledfaaGreatDoor
open Go.ChangeShapes Go.WideShapes Go.RowKit
set_option linter.unusedVariables false

theorem la_extra : U8Extra Tryz.prog Tryz.lays196_ren := {
  n3 := by kernel_rfl
  n4 := by kernel_rfl
  y3 := by kernel_rfl
  y4 := by kernel_rfl
  c5 := by kernel_rfl
  c119 := by kernel_rfl
  c138 := by kernel_rfl }
theorem la_pow : (Rows.laid_internal_strconv_uint64pow10 : DataW Unit) = Lib.tabData .u64 Lib.pow10Tab := by kernel_rfl
theorem la_acc : (Rows.laid_unicode_utf8_acceptRanges : DataW Unit) = Lib.acceptData := by kernel_rfl
theorem la_first : Rows.laid_unicode_utf8_first = Lib.firstData := Pinned.utf8First_eq
theorem returns_of {H : Type} {enc : TypeId × Value → H} {a : Assume} {C : Checked} {os : Os} {f : FuncId} {fn : Func} {s : ChangeSpec} {conds : List PathCond} {apart fresh handsOn again : Bool} {l : List (String × DataW Unit)}
    (own : ownKnob C.prog.godebug = none) (started : os.Started) (noInit : C.prog.inits.idxOf? f = none) (hfn : C.prog.funcs[f]? = some fn)
    (witness : ∃ (w : World) (tape : Tape) (i : Input), w.os = os ∧ (w.forCall tape i).Shaped C.prog ∧ i.vars = [] ∧ Input.okWide C.prog (w.forCall tape i) .any w.heap.size f i ∧
      ((s.pre enc C.prog fn conds apart (w.forCall tape i).memory i.args ∧ laidMetH C.prog l (w.forCall tape i).memory) ∧ sizedMet enc C.prog fn (OpenSpec.ofChange s) apart (w.forCall tape i).memory i.args) ∧ a.holds C.prog (lone (Frame.enter C.prog f i.args .normal) [] (w.forCall tape i)))
    (contract : ∀ (W : World) (base : Nat) (args : Array Value) (ds gs : List (DataW H)) (before : List MemPlace),
      (∀ (j : Nat) t v, fn.params[j]? = some t → args[j]? = some v → Value.okWide C.prog W .any base t v) →
      DataW.Whole enc C.prog fn.params.toList s.vars apart W args.toList ds gs before →
      laidMetH C.prog l W → W.ShapedOpen C.prog →
      Calls C.prog f args W fun e W' => ∃ v, e = .returned v ∧ s.post enc C.prog fn apart fresh handsOn again W args v W') :
    ReturnsInHanded a C os f .any (fun w args => (s.pre enc C.prog fn conds apart w args ∧ laidMetH C.prog l w) ∧ sizedMet enc C.prog fn (OpenSpec.ofChange s) apart w args) (s.post enc C.prog fn apart fresh handsOn again) := by
  refine returnsInHanded_of_calls own started noInit witness fun w tape i _ hsh _ hok hpre _ => ?_
  obtain ⟨_, _, _, fn', hfn', _, _, _, _, hval⟩ := hok
  obtain rfl : fn' = fn := Option.some.inj (hfn'.symm.trans hfn)
  obtain ⟨⟨⟨ds, gs, before, hw, _⟩, hl⟩, _⟩ := hpre
  refine (contract (w.forCall tape i) w.heap.size i.args ds gs before hval (DataW.Whole.of_heap (w' := w.forCall tape i) (by rfl) hw) (hl.of_heap (by rfl)) hsh).mono fun e W' hp => ?_
  obtain ⟨v, rfl, hp⟩ := hp
  exact ChangeSpec.post_blind hp
end Go.Proofs.YtneciccdiledfaaGreatDoor

namespace Go.Proofs.YtneciccdiledfaaGreatDoor
open Go.RowKit
open Sm
set_option linter.unusedVariables false

theorem row_string {w : World} {a : Option Addr} {l : List Int} (h : Row w a l) (cap : Nat) : (convert 49 9 (.slice a l.length cap)).run Tryz.prog w = .ok (.string (strOfNums l)) w := by
  rcases h.cells with e | ⟨b, off, rfl, hc⟩
  · subst e
    cases a with
    | none => exact Lib.run_convert_nil_bytes (P := Tryz.prog) w 49 9 5 cap Tryz.underlying49 Tryz.underlying5 Tryz.underlying9
    | some x => exact run_convert_bytes_back (P := Tryz.prog) w 49 9 5 x cap [] Tryz.underlying49 Tryz.underlying5 Tryz.underlying9 (fun j hj => by simp at hj)
  · rw [run_convert_bytes_string w 49 9 5 _ _ cap Tryz.underlying49 Tryz.underlying5 Tryz.underlying9]
    have hl := run_loadCells_list (P := Tryz.prog) w ⟨b, off, none⟩ (l.map (Value.int .u8)) h.news
    rw [List.length_map] at hl
    rw [run_bytesToString w ⟨b, off, none⟩ l.length cap l hl, foldl_push_bytes]
    simp [strOfNums]

theorem own_read {w : World} {B n : Nat} {v : Value} {l : List Int} (h : w.ownsRow B 5 1 v n (l.map (Value.int .u8))) (hn : l.length = n) (hb : IsBytes l) (hl : l.length ≤ 140737488351232) :
    ∃ ao cap, v = .slice ao n cap ∧ Row w ao l ∧ (ao = none → cap = 0) ∧ (∀ x, ao = some x → B ≤ x.block) ∧ n ≤ cap := by
  subst hn
  obtain ⟨h1, h2⟩ := h
  rcases h2 with ⟨rfl, h3⟩ | ⟨g, cap, cur, rfl, hg, r⟩
  · have e : l = [] := List.length_eq_zero_iff.mp h3
    subst e
    exact ⟨none, 0, rfl, row_nil w, fun _ => rfl, fun x hx => (by cases hx), Nat.le_refl _⟩
  · have hob : OwnB w B g cap l := ⟨h1, Or.inr ⟨g, cap, cur, rfl, hg, r⟩⟩
    exact ⟨some ⟨g, 0, none⟩, cap, rfl, hob.row hb hl, fun h => (by cases h), fun x hx => (by cases hx; exact hg), r.2.1⟩

end Go.Proofs.YtneciccdiledfaaGreatDoor

namespace Go.Proofs.YtneciccdiledfaaGreatDoor
open Go.RowKit
open Sm
set_option linter.unusedVariables false

end Go.Proofs.YtneciccdiledfaaGreatDoor

