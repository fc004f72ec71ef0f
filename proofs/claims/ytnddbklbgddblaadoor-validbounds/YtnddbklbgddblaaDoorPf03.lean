/-
  Laws of no one program: bytes copied into a row of the call's own, whatever lies beside it; bytes made; a cell of a block.
  Names, in plain bytes.
  What this program calls of Go's library, in this text's own words: a text cut at a sign, texts joined, a number's text, runes.
  What each function of package sum (and each of the document's own, lychref1) answers, as contracts: whatever the arguments, in whatever memory.
  Numbers as text: the document's own Num, at every text, and a number's own text.
-/
import Derived.Test.YtnddbklbgddblaaDoorPf02
import Derived.Laws.CopyOwn
import Derived.Deep.OwnRows
import Derived.Deep.RegionHeld3
import Derived.Deep.QuietTactic
import Derived.BigQuiet
import Derived.Deep.DeepCutAuto
import Derived.Lib.ValidLaws
import Derived.Lib.TrimUEq
import Derived.Lib.TrimAscii
import Derived.Test.YtnddbklbgddblaaDoorPf01
namespace Go.Proofs.YtnddbklbgddblaaDoor
open Go.RowKit
open Sm
set_option linter.unusedVariables false

/-- What a write into block g leaves: g itself anew, all else as it was. -/
structure Wrote (w w' : World) (g : Nat) (new : Array Value) (t : TypeId) : Prop where
  here : w'.heap[g]? = some (.cells new t (0, 0))
  there : ∀ k, k ≠ g → w'.heap[k]? = w.heap[k]?
  size : w'.heap.size = w.heap.size
  below : ∀ B w0, B ≤ g → Below B w0 w → Below B w0 w'

theorem wrote_setRow (w : World) (g : Nat) (cur new : Array Value) (t : TypeId) (hg : w.heap[g]? = some (.cells cur t (0, 0))) : Wrote w (w.setRow g new) g new t :=
  ⟨setRow_heap w g cur _ t _ hg, fun k hk => setRow_other w g k _ (fun e => hk e), by simp [World.setRow], fun B w0 h hb => below_setRow hb h _⟩

theorem cell_of {w : World} {g : Nat} {c : Array Value} {t : TypeId} (h : w.heap[g]? = some (.cells c t (0, 0))) (i : Nat) : w.cell? ⟨g, i, none⟩ = c[i]? := by
  simp [World.cell?, h]

theorem wrap16_small (x : Int) (h0 : 0 ≤ x) (h1 : x ≤ 65535) : IntKind.u16.wrap x = x := by
  rw [show IntKind.u16.wrap x = x % 65536 by simp [IntKind.wrap, IntKind.bits, IntKind.signed]]; omega
theorem wrap8_small (x : Int) (h0 : 0 ≤ x) (h1 : x ≤ 255) : IntKind.u8.wrap x = x := by
  rw [show IntKind.u8.wrap x = x % 256 by simp [IntKind.wrap, IntKind.bits, IntKind.signed]]; omega

theorem Row.cellAt {w : World} {b off : Nat} {l : List Int} (h : Row w (some ⟨b, off, none⟩) l) (i : Nat) (hi : i < l.length) : w.cell? ⟨b, off + i, none⟩ = some (.int .u8 (l.getD i 0)) := by
  rcases h.cells with e | ⟨b', off', e, hc⟩
  · subst e; simp at hi
  · simp only [Option.some.injEq, Addr.mk.injEq] at e
    obtain ⟨rfl, rfl, -⟩ := e
    exact hc i hi
theorem Row.part {w : World} {b off : Nat} {l : List Int} (h : Row w (some ⟨b, off, none⟩) l) (i m : Nat) (hi : i + m ≤ l.length) : Row w (some ⟨b, off + i, none⟩) ((l.drop i).take m) := by
  have hl := h.len
  have hlen : ((l.drop i).take m).length = m := by simp; omega
  refine ⟨fun j => ?_, by omega, Or.inr ⟨b, off + i, rfl, fun j hj => ?_⟩⟩
  · by_cases hj : j < m
    · have : ((l.drop i).take m).getD j 0 = l.getD (i + j) 0 := by simp [List.getD, hj]
      rw [this]; exact h.bytes _
    · have : ((l.drop i).take m).getD j 0 = 0 := by simp [List.getD, List.getElem?_eq_none (show ((l.drop i).take m).length ≤ j by omega)]
      rw [this]; omega
  · have e : ((l.drop i).take m).getD j 0 = l.getD (i + j) 0 := by simp [List.getD, show j < m by omega]
    rw [e, Nat.add_assoc]
    exact h.cellAt (i + j) (by omega)

/-- What the call has made so far: the blocks L (number, content) behind all that was there, and nothing that was there turned. -/
structure Mem (w w' : World) (L : List (Nat × Obj)) : Prop where
  below : Below w.heap.size w w'
  low : ∀ p ∈ L, w.heap.size ≤ p.1
  at_ : ∀ p ∈ L, w'.heap[p.1]? = some p.2
  apart : (L.map Prod.fst).Nodup
theorem Mem.nil (w : World) : Mem w w [] := ⟨Below.refl _ _, fun p h => by simp at h, fun p h => by simp at h, by simp⟩
theorem Mem.lt {w w' : World} {L : List (Nat × Obj)} (h : Mem w w' L) {p : Nat × Obj} (hp : p ∈ L) : p.1 < w'.heap.size := by
  have := h.at_ p hp
  exact (Array.getElem?_eq_some_iff.mp this).1
theorem Mem.alloc {w w' : World} {L : List (Nat × Obj)} (h : Mem w w' L) (o : Obj) : Mem w (w'.alloc o) (L ++ [(w'.heap.size, o)]) := by
  have hs := h.below.size
  refine ⟨h.below.alloc hs o, fun p hp => ?_, fun p hp => ?_, ?_⟩
  · rcases List.mem_append.mp hp with hp | hp
    · exact h.low p hp
    · simp at hp; subst hp; exact hs
  · rcases List.mem_append.mp hp with hp | hp
    · rw [Below.heap_alloc _ _ _ (h.lt hp)]; exact h.at_ p hp
    · simp at hp; subst hp; exact heap_alloc_new _ _
  · rw [List.map_append, List.nodup_append]
    refine ⟨h.apart, by simp, fun a ha b hb => ?_⟩
    obtain ⟨p, hp, rfl⟩ := List.mem_map.mp ha
    simp at hb
    have := h.lt hp
    omega
theorem Mem.push {w w' : World} {L : List (Nat × Obj)} (h : Mem w w' L) (g : Nat) (o : Obj) (hg : g = w'.heap.size) : Mem w (w'.alloc o) (L ++ [(g, o)]) := by subst hg; exact h.alloc o
theorem Mem.drew {w w' : World} {L : List (Nat × Obj)} (h : Mem w w' L) : Mem w w'.drew L := ⟨h.below.drew, h.low, h.at_, h.apart⟩
theorem Mem.perm {w w' : World} {L L' : List (Nat × Obj)} (h : Mem w w' L) (hp : L.Perm L') : Mem w w' L' :=
  ⟨h.below, fun p q => h.low p (hp.symm.subset q), fun p q => h.at_ p (hp.symm.subset q), (hp.map Prod.fst).nodup_iff.mp h.apart⟩
theorem Mem.sub {w w' : World} {p : Nat × Obj} {L : List (Nat × Obj)} (h : Mem w w' (p :: L)) : Mem w w' L :=
  ⟨h.below, fun q hq => h.low q (List.mem_cons_of_mem _ hq), fun q hq => h.at_ q (List.mem_cons_of_mem _ hq), (List.nodup_cons.mp h.apart).2⟩
theorem Mem.get {w w' : World} {L : List (Nat × Obj)} (h : Mem w w' L) (i : Nat) {g : Nat} {o : Obj} (hi : L[i]? = some (g, o)) : w'.heap[g]? = some o := h.at_ (g, o) (List.mem_of_getElem? hi)
theorem Mem.ge {w w' : World} {L : List (Nat × Obj)} (h : Mem w w' L) (i : Nat) {g : Nat} {o : Obj} (hi : L[i]? = some (g, o)) : w.heap.size ≤ g := h.low (g, o) (List.mem_of_getElem? hi)
theorem Mem.wrote {w w' w2 : World} {L : List (Nat × Obj)} (h : Mem w w' L) (i : Nat) {g : Nat} {o : Obj} (hi : L[i]? = some (g, o)) {new : Array Value} {t : TypeId} (hw : Wrote w' w2 g new t) : Mem w w2 (L.set i (g, .cells new t (0, 0))) := by
  have hil := (List.getElem?_eq_some_iff.mp hi).1
  have he : L[i] = (g, o) := (List.getElem?_eq_some_iff.mp hi).2
  have hm : (L.set i (g, .cells new t (0, 0))).map Prod.fst = L.map Prod.fst := by
    rw [List.map_set]
    apply List.ext_getElem? ; intro j
    by_cases e : i = j
    · subst e; simp [hil, he]
    · rw [List.getElem?_set_ne e]
  have key : ∀ p ∈ L.set i (g, .cells new t (0, 0)), p = (g, .cells new t (0, 0)) ∨ (p ∈ L ∧ p.1 ≠ g) := by
    intro p hp
    obtain ⟨j, hj, rfl⟩ := List.mem_iff_getElem.mp hp
    by_cases e : i = j
    · subst e; left; simp
    · right
      have hjl : j < L.length := by simpa using hj
      rw [List.getElem_set_ne e]
      refine ⟨List.getElem_mem hjl, fun c => e ?_⟩
      have hpw := List.pairwise_iff_getElem.mp h.apart
      have hil' : i < (L.map Prod.fst).length := by simpa using hil
      have hjl' : j < (L.map Prod.fst).length := by simpa using hjl
      have c' : (L.map Prod.fst)[i] = (L.map Prod.fst)[j] := by simp [he, c]
      rcases Nat.lt_trichotomy i j with q | q | q
      · exact absurd c' (hpw i j hil' hjl' q)
      · exact q
      · exact absurd c'.symm (hpw j i hjl' hil' q)
  refine ⟨hw.below _ _ (h.ge i hi) h.below, fun p hp => ?_, fun p hp => ?_, by rw [hm]; exact h.apart⟩
  · rcases key p hp with rfl | ⟨q, _⟩
    · exact h.ge i hi
    · exact h.low p q
  · rcases key p hp with rfl | ⟨q, c⟩
    · exact hw.here
    · rw [hw.there _ c]; exact h.at_ p q
theorem Mem.after {w w' w2 : World} {L : List (Nat × Obj)} (h : Mem w w' L) (hb : Below w'.heap.size w' w2) : Mem w w2 L :=
  ⟨h.below.trans (hb.mono h.below.size), h.low, fun p hp => by rw [hb.block p.1 (h.lt hp)]; exact h.at_ p hp, h.apart⟩
theorem Mem.old {w w' : World} {L : List (Nat × Obj)} (h : Mem w w' L) {b i : Nat} (hb : b < w.heap.size) : w'.cell? ⟨b, i, none⟩ = w.cell? ⟨b, i, none⟩ := h.below.cell (p := ⟨b, i, none⟩) hb
theorem Mem.row {w w' : World} {L : List (Nat × Obj)} (h : Mem w w' L) {a : Option Addr} {l : List Int} (hr : Row w a l) : Row w' a l := hr.below h.below (Nat.le_refl _)
theorem Mem.cell {w w' : World} {L : List (Nat × Obj)} (h : Mem w w' L) (i : Nat) {g : Nat} {c : Array Value} {t : TypeId} (hi : L[i]? = some (g, .cells c t (0, 0))) (j : Nat) : w'.cell? ⟨g, j, none⟩ = c[j]? := cell_of (h.get i hi) j
theorem Mem.free {w w' : World} {L : List (Nat × Obj)} (h : Mem w w' L) (i : Nat) {g : Nat} {c : Array Value} {t : TypeId} (hi : L[i]? = some (g, .cells c t (0, 0))) (j : Nat) : w'.frozen? ⟨g, j, none⟩ = false := by
  simp [World.frozen?, h.get i hi]
theorem Mem.set {w w' : World} {L : List (Nat × Obj)} (h : Mem w w' L) (i : Nat) {g : Nat} {c : Array Value} {t : TypeId} (hi : L[i]? = some (g, .cells c t (0, 0))) (j : Nat) (v : Value) : Mem w (w'.setCell ⟨g, j, none⟩ v) (L.set i (g, .cells (c.setIfInBounds j v) t (0, 0))) := by
  have e := setCell_eq_setRow w' g j c t (0, 0) v (h.get i hi)
  rw [e]
  exact h.wrote i hi (wrote_setRow w' g c _ t (h.get i hi))
theorem Mem.own {w w' : World} {L : List (Nat × Obj)} (h : Mem w w' L) (i : Nat) {g : Nat} {l : List Int} {t : TypeId} (hi : L[i]? = some (g, .cells (l.map (Value.int .u8)).toArray t (0, 0))) (hb : IsBytes l) (hl : l.length ≤ 140737488351232) : Row w' (some ⟨g, 0, none⟩) l :=
  ⟨hb, hl, Or.inr ⟨g, 0, rfl, fun j hj => by rw [h.cell i hi, Nat.zero_add]; simp [hj]⟩⟩

theorem Row.setCell {w : World} {b off : Nat} {l : List Int} (h : Row w (some ⟨b, off, none⟩) l) {p : Addr} (hp : p.block ≠ b) (v : Value) : Row (w.setCell p v) (some ⟨b, off, none⟩) l :=
  ⟨h.bytes, h.len, Or.inr ⟨b, off, rfl, fun i hi => by rw [World.cell?_setCell_other _ _ _ _ (fun e => hp (by rw [e]))]; exact h.cellAt i hi⟩⟩
theorem wp_letter {P : Program} {c : Code} {Q : Exit → Act → World → Prop} {a : Act} {W : World} (R : World → Prop) (h : R W) (k : ∀ W', R W' → Code.wp P c Q a W') : Code.wp P c Q a W := k W h
end Go.Proofs.YtnddbklbgddblaaDoor

namespace Go.Proofs.YtnddbklbgddblaaDoor
open Go.RowKit
open Ad
set_option linter.unusedVariables false

namespace Ad
def mb (r : Nat) : Bool := decide ((97 ≤ r ∧ r ≤ 122) ∨ 127 < r)
def mf (r : Nat) : Bool := decide ((48 ≤ r ∧ r ≤ 57) ∨ r = 45)
/-- Whether a rune may stand in a name, first or not. -/
def okr (first : Bool) (r : Nat) : Bool := mb r || (!first && mf r)
def pn : Nat → Bool → List UInt8 → Bool
  | 0, _, _ => true
  | f + 1, first, l => if l = [] then true else if okr first (Lib.decodeL l).1 then pn f false (l.drop (Lib.decodeL l).2) else false
def rn : Nat → Bool → List UInt8 → Bool
  | 0, _, _ => true
  | f + 1, first, [] => true
  | f + 1, first, b :: t => if b.toNat < 128 then (if okr first b.toNat then rn f false t else false)
    else if (Lib.decodeL (b :: t)).1 = 65533 ∧ (Lib.decodeL (b :: t)).2 = 1 then false else rn f false ((b :: t).drop (Lib.decodeL (b :: t)).2)
theorem decode_lead (b : UInt8) (t : List UInt8) (h : 128 ≤ b.toNat) : 128 ≤ (Lib.decodeL (b :: t)).1 := by
  unfold Lib.decodeL
  have hs : (⟨(b :: t).toArray⟩ : ByteArray).size = t.length + 1 := by show (b :: t).toArray.size = _; simp
  exact (decode_high ⟨(b :: t).toArray⟩ 0 (by omega) (by show 128 ≤ ((b :: t).toArray[0]).toNat; simpa using h)).1
theorem pn_rn : ∀ (f : Nat) (first : Bool) (l : List UInt8), l.length ≤ f → (Lib.validD l && pn f first l) = rn f first l
  | 0, first, l, h => by
    have : l = [] := List.eq_nil_of_length_eq_zero (by omega)
    subst this
    rfl
  | f + 1, first, [], h => by rw [pn, rn, if_pos rfl, Lib.validD_nil]; rfl
  | f + 1, first, b :: t, h => by
    have hne : b :: t ≠ [] := by simp
    have hw := Lib.decodeL_width (b :: t)
    simp only [List.length_cons] at h
    rw [pn, if_neg hne, rn, Lib.validD_step _ hne]
    by_cases ha : b.toNat < 128
    · rw [if_pos ha, Lib.decodeL_ascii b t ha, if_neg (by simp; omega)]
      simp only [List.drop_succ_cons, List.drop_zero]
      by_cases ho : okr first b.toNat = true
      · rw [if_pos ho, if_pos ho]; exact pn_rn f false t (by omega)
      · rw [if_neg ho, if_neg ho, Bool.and_false]
    · rw [if_neg ha]
      have hd := decode_lead b t (by omega)
      have ho : okr first (Lib.decodeL (b :: t)).1 = true := by
        unfold okr mb
        rw [decide_eq_true (Or.inr (by omega)), Bool.true_or]
      rw [if_pos ho]
      by_cases hbad : (Lib.decodeL (b :: t)).1 = 65533 ∧ (Lib.decodeL (b :: t)).2 = 1
      · rw [if_pos hbad, if_pos hbad, Bool.false_and]
      · rw [if_neg hbad, if_neg hbad]
        apply pn_rn
        rw [List.length_drop, List.length_cons]; omega
/-- Whether a text is a name. -/
def nam (l : List UInt8) : Bool := decide (1 ≤ l.length ∧ l.length ≤ 32) && rn l.length true l
theorem pn_nil (f : Nat) (first : Bool) : pn f first [] = true := by cases f <;> simp [pn]
theorem pn_step {f : Nat} {first : Bool} {l : List UInt8} (hne : l ≠ []) (hl : l.length ≤ f) : pn f first l = if okr first (Lib.decodeL l).1 then pn (f - 1) false (l.drop (Lib.decodeL l).2) else false := by
  cases f with
  | zero => exact absurd (List.eq_nil_of_length_eq_zero (by omega)) hne
  | succ f => rw [pn, if_neg hne]; rfl
end Ad
end Go.Proofs.YtnddbklbgddblaaDoor

namespace Go.Proofs.YtnddbklbgddblaaDoor
open Go.RowKit
open Ad
set_option linter.unusedVariables false

/-- What the library's own variables hold: a number; a table of tens; two tables of UTF-8. -/
structure Vs (w : World) : Prop where
  utf : Lib.Utf8Tabs 0 1 w
theorem cell_in {w : World} {p : Addr} {v : Value} (h : w.cell? p = some v) : p.block < w.heap.size := by
  by_cases hc : p.block < w.heap.size
  · exact hc
  · have : w.heap[p.block]? = none := by simp; omega
    simp [World.cell?, this] at h
theorem Vs.below {w w' : World} (h : Vs w) (hb : Below w.heap.size w w') : Vs w' where
  utf := Utf8Tabs_below h.utf hb
theorem valid_any {w : World} (hV : Vs w) (s : ByteArray) (hs : s.size ≤ 1000000) :
    Calls Tryd.prog 82 #[.string s] w fun e w' => e = .returned (.bool (Lib.validD s.data.toList)) ∧ Below w.heap.size w w' :=
  Any.utf8_ValidString Tryd.lays196 s w (by omega) hV.utf
end Go.Proofs.YtnddbklbgddblaaDoor

namespace Go.Proofs.YtnddbklbgddblaaDoor
open Go.RowKit
open Sm
set_option linter.unusedVariables false

/-- Where Place falls, among n of them. -/
def plc (at_ n : Int) : Int := if at_.tmod n < 0 then at_.tmod n + n else at_.tmod n
theorem plc_range (a n : Int) (hn : 0 < n) : 0 ≤ plc a n ∧ plc a n < n := by
  have h1 := Int.tmod_lt_of_pos a hn
  have h2 : -n < a.tmod n := by
    have := Int.lt_tmod_of_pos a hn
    omega
  unfold plc; split <;> omega

set_option maxHeartbeats 400000 in
theorem place_any (a n : Int) (w : World) (h0 : -9223372036854775808 ≤ a) (h1 : a ≤ 9223372036854775807) (hn : 0 < n) (hn1 : n ≤ 140737488351232) :
    Calls Tryd.prog 17 #[.int .i64 a, .int .i64 n] w fun e w' => e = .returned (.int .i64 (plc a n)) ∧ w = w' := by
  have b1 := Int.tmod_lt_of_pos a hn
  have b2 := Int.lt_tmod_of_pos a hn
  by_cases hc : a.tmod n < 0
  · go_enter Tryd.func17, Tryd.ntmps17
    go_wp2
    go_ret
    exact ⟨ret_int (by unfold plc; rw [if_pos hc]), rfl⟩
  · go_enter Tryd.func17, Tryd.ntmps17
    go_wp2
    go_ret
    exact ⟨ret_int (by unfold plc; rw [if_neg (by omega)]), rfl⟩
end Go.Proofs.YtnddbklbgddblaaDoor

namespace Go.Proofs.YtnddbklbgddblaaDoor
open Go.RowKit
open Ad
set_option linter.unusedVariables false

end Go.Proofs.YtnddbklbgddblaaDoor

