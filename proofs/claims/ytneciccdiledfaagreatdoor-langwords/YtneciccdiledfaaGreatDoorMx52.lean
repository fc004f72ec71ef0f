/-
  Settings as text: the walk of LangBack: the text of settings is read back, with blanks, comments and empty lines in it too.
  What the seven laid variables hold when a call begins, and a world in which they hold it.
  Settings as text: what both readers answer, side by side.
-/
import Derived.Test.YtneciccdiledfaaGreatDoorMx51
import Derived.Test.YtneciccdiledfaaGreatDoorMx31
import Derived.Test.YtneciccdiledfaaGreatDoorMx04
import Derived.LaidHandle
import Derived.LaidLaws
import Derived.OpenShut
import Derived.Test.YtneciccdiledfaaGreatDoorMx50
set_option linter.unusedVariables false
set_option linter.unusedSimpArgs false
set_option maxRecDepth 20000
namespace Go.Proofs.YtneciccdiledfaaGreatDoor
open Go.RowKit
open La
open Ad
open Sm (IsBytes)
theorem add_big (A B : List UInt8) (h : A.length + B.length ≤ 1000000) (w : World) : (Op.stringOp .add ⟨A.toArray⟩ ⟨B.toArray⟩).run Tryz.prog w = .ok (.string ⟨(A ++ B).toArray⟩) w := by
 rw [run_string_add_sum w _ _ (by rw [str_size, str_size]; omega), ByteArray.mk_append_mk]
theorem byte_no {b : UInt8} {c : Nat} (hc : c < 256) (h : b ≠ UInt8.ofNat c) : ((b.toNat : Int) == (c : Int)) = false := by
 rw [beq_eq_false_iff_ne]; intro e
 apply h; apply UInt8.toNat_inj.1
 rw [UInt8.toNat_ofNat']; omega
theorem box_new {V : World} {A : Array Value} {g : Nat} (hg : V.heap.size = g) : (V.alloc (.cells cz 29)).heap[g]? = some (.cells cz 29) ∧ (V.alloc (.cells cz 29)).setRow g A = V.alloc (.cells A 29) :=
 ⟨by rw [← hg]; exact heap_alloc_new _ _, by rw [← hg]; exact World.setRow_alloc_new V cz A 29⟩
end Go.Proofs.YtneciccdiledfaaGreatDoor
namespace Go.Proofs.YtneciccdiledfaaGreatDoor
open Go.ChangeShapes Go.WideShapes Go.RowKit
open La
abbrev laidD : List (String × DataW Unit) := [("math/bits.deBruijn32tab", Rows.laid_math_bits_deBruijn32tab), ("math/bits.deBruijn64tab", Rows.laid_math_bits_deBruijn64tab), ("internal/strconv.uint64pow10", Rows.laid_internal_strconv_uint64pow10), ("unicode/utf8.acceptRanges", Rows.laid_unicode_utf8_acceptRanges), ("lych/lang.filterWords", Rows.laid_lych_lang_filterWords), ("unicode/utf8.first", Rows.laid_unicode_utf8_first)]
abbrev laidB : List (String × DataW Unit) := [("math/bits.deBruijn32tab", Rows.laid_math_bits_deBruijn32tab), ("math/bits.deBruijn64tab", Rows.laid_math_bits_deBruijn64tab), ("internal/strconv.uint64pow10", Rows.laid_internal_strconv_uint64pow10), ("unicode/utf8.acceptRanges", Rows.laid_unicode_utf8_acceptRanges), ("errors.errorType", Rows.laid_errors_errorType), ("lych/lang.filterWords", Rows.laid_lych_lang_filterWords), ("unicode/utf8.first", Rows.laid_unicode_utf8_first)]
theorem lb_et : Tryz.prog.globalNamed "errors.errorType" = some 0 := by kernel_rfl
theorem lb_fw : Tryz.prog.globalNamed "lych/lang.filterWords" = some 1 := by kernel_rfl
theorem lb_fwType : (Tryz.prog.globals[1]?).map (·.type) = some 180 := by kernel_rfl
theorem lb_rt : (Tryz.prog.cutTypes.find? (·.1 == "internal/reflectlite.rtype")).map (·.2) = some 154 := by kernel_rfl
theorem lb_oneRow : ((List.range 252).filter fun t => Tryz.prog.rowNamed t [101, 114, 114, 111, 114]) = [31] := by kernel_rfl
theorem lb_size : Tryz.prog.types.size = 252 := by kernel_rfl
theorem lb_strs {W : World} {fuel : Nat} {cs : List Value} {p : List MemPlace} {enc : TypeId × Value → Unit} {base : Nat} {sp : Nat → Bool} {held : Bool} (h : DataW.trod enc Tryz.prog W base sp held fuel 180 cs = some (Rows.laid_lych_lang_filterWords, p)) : cs = [.string ⟨wAny.toArray⟩, .string ⟨wAddress.toArray⟩, .string ⟨wPort.toArray⟩] := by
 obtain ⟨xs, m, -, hx, hl, hn, hi⟩ := DataW.trod_array Tryz.underlying180 h
 have c1 : Tryz.prog.cellsOf 9 = 1 := by kernel_rfl
 rw [show Tryz.prog.cellsOf 180 = 3 by kernel_rfl] at hl
 rcases cs with _ | ⟨a, _ | ⟨b, _ | ⟨c, _ | ⟨d, cs⟩⟩⟩⟩ <;> simp at hl
 rcases xs with _ | ⟨x, _ | ⟨y, _ | ⟨z, _ | ⟨u, xs⟩⟩⟩⟩ <;> simp at hn
 have h0 := hi 0 (by omega)
 have h1 := hi 1 (by omega)
 have h2 := hi 2 (by omega)
 simp [c1] at h0 h1 h2
 obtain ⟨s0, e0, rfl, -⟩ := DataW.trod_string Tryz.underlying9 h0
 obtain ⟨s1, e1, rfl, -⟩ := DataW.trod_string Tryz.underlying9 h1
 obtain ⟨s2, e2, rfl, -⟩ := DataW.trod_string Tryz.underlying9 h2
 unfold Rows.laid_lych_lang_filterWords at hx
 simp at hx e0 e1 e2
 obtain ⟨⟨q0, q1, q2⟩, -⟩ := hx
 subst e0 e1 e2
 have f : ∀ (s : ByteArray) (l : List UInt8), s.data.toList = l → s = ⟨l.toArray⟩ := fun s l e => by rw [← e]
 rw [f s0 _ q0.symm, f s1 _ q1.symm, f s2 _ q2.symm]
 rfl
theorem laid_lw {W : World} (h : laidMetH Tryz.prog laidB W) (hs : W.ShapedOpen Tryz.prog) : Lw W := by
 have h' : laidMet Tryz.prog laidD W ∧ handlesMet Tryz.prog [("errors.errorType", Rows.laid_errors_errorType)] W := h
 refine ⟨⟨?_, ?_, ?_⟩, ?_, ?_⟩
 ·exact cell_of_shapedOpen_int (t := 3) (zero := #[.int .i64 0]) hs (by decide +kernel) (by kernel_rfl) rfl (by kernel_rfl) (by kernel_rfl) Tryz.underlying3
 ·obtain ⟨g, t, cs, fuel, p, hg, ht, hvar, hd⟩ := Lib.laidMet.reads h'.1 (n := "internal/strconv.uint64pow10") (d := Rows.laid_internal_strconv_uint64pow10) (by simp)
  obtain rfl := Option.some.inj ((show Tryz.prog.globalNamed "internal/strconv.uint64pow10" = some 4 by kernel_rfl).symm.trans hg)
  obtain rfl := Option.some.inj ((show (Tryz.prog.globals[4]?).map (·.type) = some 215 by kernel_rfl).symm.trans ht)
  rw [la_pow] at hd
  unfold Lib.TabIs
  rw [hvar, ← Lib.cells_of_tab (n := 20) (e := 94) Tryz.underlying215 Tryz.underlying94 (by kernel_rfl) (by kernel_rfl) hd]
 ·have h3 := Lib.laidMet.reads h'.1 (n := "unicode/utf8.first") (d := Rows.laid_unicode_utf8_first) (by simp)
  have h4 := Lib.laidMet.reads h'.1 (n := "unicode/utf8.acceptRanges") (d := Rows.laid_unicode_utf8_acceptRanges) (by simp)
  rw [la_first] at h3
  rw [la_acc] at h4
  exact utf8Tabs_of_readsT (U8Types.of196 Tryz.lays196) la_extra h3 h4
 ·obtain ⟨g, t, cs, fuel, p, hg, ht, hvar, hd⟩ := Lib.laidMet.reads h'.1 (n := "lych/lang.filterWords") (d := Rows.laid_lych_lang_filterWords) (by simp)
  obtain rfl := Option.some.inj (lb_fw.symm.trans hg)
  obtain rfl := Option.some.inj (lb_fwType.symm.trans ht)
  have hcs : cs = #[.string ⟨wAny.toArray⟩, .string ⟨wAddress.toArray⟩, .string ⟨wPort.toArray⟩] := Array.toList_inj.1 (lb_strs hd)
  subst hcs
  exact ⟨by simpa using World.var?_cell lb_fw hvar 0, by simpa using World.var?_cell lb_fw hvar 1, by simpa using World.var?_cell lb_fw hvar 2⟩
 ·obtain ⟨name, u, ty, e1, e2, e3, e4, e5⟩ := h'.2 _ (List.mem_singleton.2 rfl)
  have en : name = [101, 114, 114, 111, 114] := (Option.some.inj e1).symm
  subst en
  obtain rfl := Option.some.inj (lb_rt.symm.trans e2)
  have hm : ty ∈ (List.range 252).filter fun t => Tryz.prog.rowNamed t [101, 114, 114, 111, 114] := List.mem_filter.2 ⟨List.mem_range.2 (by rw [← lb_size]; exact e3), e4⟩
  rw [lb_oneRow] at hm
  obtain rfl := List.mem_singleton.1 hm
  have hh : typeHandle Tryz.prog 31 = .pointer (some ⟨8, 31, none⟩) := by kernel_rfl
  rw [hh] at e5
  show W.cell? ⟨0, 0, none⟩ = _
  simpa using World.var?_cell lb_et e5 0
noncomputable def laidWB (os : Os) : World :=
 { World.laidAll Tryz.prog os laidD with heap := (World.laidAll Tryz.prog os laidD).heap.modify 0 fun
   | .cells _ t frozen => .cells #[.iface 154 (.agg #[.pointer (some ⟨8, 31, none⟩)])] t frozen
   | o => o }
theorem laidWB_met (os : Os) (args : Array Value) : laidMetH Tryz.prog laidB ((laidWB os).forCall (fun _ _ => 0) ⟨#[], args, []⟩).memory :=
 laidMetH_of_parts (laidMet_of_run' 8 (by kernel_rfl) (by kernel_rfl)) (by kernel_rfl)
theorem laidWB_os (os : Os) : (laidWB os).os = os := World.laidAll_os Tryz.prog os laidD
end Go.Proofs.YtneciccdiledfaaGreatDoor
namespace Go.Proofs.YtneciccdiledfaaGreatDoor
open Go.RowKit
open La
open Ad
theorem cv_zero (X : World) : CV X (.agg cz) cfg0 := ⟨cfg0_len, nilV, rfl, [], rfl, ⟨none, 0, rfl, Nat.le_refl _, by omega, fun _ => rfl, Or.inl rfl⟩, fun z hz => by cases hz⟩
def pcf (r : Except Nat Cgf) : Cgf := match r with
 | .error _ => cfg0
 | .ok c => c
def pat (r : Except Nat Cgf) : Nat := match r with
 | .error a => a
 | .ok _ => 0
def per (r : Except Nat Cgf) : Nat := match r with
 | .error _ => 60
 | .ok _ => 0
def Row29 (V : World) (A : Array Value) (c : Cgf) : Prop := A.size = 29 ∧ A.all (·.oneCell') = true ∧ ∀ X, Below V.heap.size V X → CV X (.agg A) c
theorem row_zero (V : World) : Row29 V cz cfg0 := ⟨by decide, by kernel_rfl, fun X _ => cv_zero X⟩
theorem parse_both {w : World} (hw : Lw w) (s : ByteArray) : Calls Tryz.prog 10 #[.string s] w fun e V => ∃ A ev, e = .returned (.tuple #[.agg A, ev]) ∧ ev.oneCell' = true ∧ Row29 V A (pcf (parse s)) ∧ Below w.heap.size w V ∧ ∀ X, Below V.heap.size V X → Calls Tryz.prog 11 #[ev] X fun e V' => e = .returned (.tuple #[.int .i64 (pat (parse s)), .int .i64 (per (parse s))]) ∧ Below X.heap.size X V' := by
 refine (parse_any hw.vs hw.fw s).mono ?_
 cases hp : parse s with
 | error a =>
  rintro e V ⟨g, rfl, hM⟩
  refine ⟨cz, _, rfl, rfl, row_zero V, hM.below, fun X hX => ?_⟩
  exact told_place hw.ey (hM.after hX)
 | ok c =>
  rintro e V ⟨hb, v, rfl, hCV⟩
  obtain ⟨A, rfl, hsz, hone, i29, hcv⟩ := cv_row hCV hb
  refine ⟨A, _, rfl, rfl, ⟨hsz, hone, hcv⟩, hb, fun X hX => ?_⟩
  refine (told_nil X).mono ?_
  rintro e V' ⟨rfl, rfl⟩
  exact ⟨rfl, Below.refl _ _⟩
theorem rparse_both {w : World} (hw : Lw w) (s : ByteArray) : Calls Tryz.prog 12 #[.string s] w fun e V => ∃ A, e = .returned (.tuple #[.agg A, .int .i64 (pat (parse s)), .int .i64 (per (parse s))]) ∧ Row29 V A (pcf (parse s)) ∧ Below w.heap.size w V := by
 refine (rparse_any hw.vs s).mono ?_
 cases hp : parse s with
 | error a =>
  rintro e V ⟨hb, rfl⟩
  exact ⟨cz, rfl, row_zero V, hb⟩
 | ok c =>
  rintro e V ⟨hb, v, rfl, hCV⟩
  obtain ⟨A, rfl, hsz, hone, i29, hcv⟩ := cv_row hCV hb
  exact ⟨A, rfl, ⟨hsz, hone, hcv⟩, hb⟩
end Go.Proofs.YtneciccdiledfaaGreatDoor
