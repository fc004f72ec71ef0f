/-
  What this program calls of Go's library, in this text's own words: a text cut at a sign, texts joined, a number's text, runes.
-/
import Derived.Test.YtkkbnagfndphpaaDoorShelf
import Derived.Test.YtkkbnagfndphpaaDoorAdCutMath
import Derived.Test.YtkkbnagfndphpaaDoorAdNum
namespace Go.Proofs.YtkkbnagfndphpaaDoor
open Go.RowKit
open Ad
set_option linter.unusedVariables false

/-- What the library's own variables hold: a number; a table of tens; two tables of UTF-8. -/
structure Vs (w : World) : Prop where
  len : ∃ m, w.cell? ⟨2, 0, none⟩ = some (.int .i64 m)
  pow : Lib.TabIs Tryd.prog w "internal/strconv.uint64pow10" .u64 Lib.pow10Tab
  utf : Lib.Utf8Tabs 0 1 w
theorem cell_in {w : World} {p : Addr} {v : Value} (h : w.cell? p = some v) : p.block < w.heap.size := by
  by_cases hc : p.block < w.heap.size
  · exact hc
  · have : w.heap[p.block]? = none := by simp; omega
    simp [World.cell?, this] at h
theorem tab_below {w w' : World} {name : String} {k : IntKind} {zs : List Int} (h : Lib.TabIs Tryd.prog w name k zs) (hb : Below w.heap.size w w') : Lib.TabIs Tryd.prog w' name k zs := by
  unfold Lib.TabIs World.var? at *
  cases hg : Tryd.prog.globalNamed name with
  | none => simp [hg] at h
  | some g =>
    simp only [hg, Option.bind_some] at h ⊢
    have hlt : g < w.heap.size := by
      by_cases hc : g < w.heap.size
      · exact hc
      · have : w.heap[g]? = none := by simp; omega
        rw [this] at h; simp at h
    rw [hb.block g hlt]
    exact h
theorem Vs.below {w w' : World} (h : Vs w) (hb : Below w.heap.size w w') : Vs w' := by
  refine ⟨?_, tab_below h.pow hb, Utf8Tabs_below h.utf hb⟩
  obtain ⟨m, hm⟩ := h.len
  exact ⟨m, (hb.cell (cell_in hm)).trans hm⟩
theorem Vs.under {w w' : World} (h : Vs w) {B : Nat} (hb : Below B w w') (hB : w.heap.size ≤ B) : Vs w' := h.below (hb.mono hB)

/-- strings.SplitN at a sign of one byte. -/
theorem split_any {w : World} (hV : Vs w) (s : ByteArray) (c : UInt8) (n m : Nat) (hs : s.size ≤ 1000000) (hm : m < n) (hn : n ≤ 1000) (N : Int) (hN : N = (n : Int)) :
    Calls Tryd.prog 26 #[.string s, .string ⟨#[c]⟩, .int .i64 N] w fun e w' => ∃ (P : List ByteArray) (cap : Nat), e = .returned (.slice (some ⟨w.heap.size, 0, none⟩) P.length cap) ∧ P.length ≤ cap ∧
      (∀ (j : Nat) x, P[j]? = some x → w'.cell? ⟨w.heap.size, j, none⟩ = some (.string x)) ∧ Below w.heap.size w w' ∧
      ((P.length = m ∧ P.map (·.data.toList) = cut c s.data.toList ∧ (cut c s.data.toList).length = m) ∨ (P.length ≠ m ∧ (cut c s.data.toList).length ≠ m)) := by
  subst hN
  obtain ⟨q, hq⟩ := hV.len
  refine (Tryd.strings_SplitN s ⟨#[c]⟩ n q w (by omega) hq (Nat.le_refl 1) (by omega) (by omega)).mono ?_
  rintro e w' ⟨rfl, rfl⟩
  have hle : (Lib.splitB ⟨#[c]⟩ 0 (min n (s.size + 1) - 1) s).length ≤ min n (s.size + 1) := by
    have := Lib.splitB_length_le ⟨#[c]⟩ 0 (min n (s.size + 1) - 1) s
    omega
  refine ⟨_, _, rfl, hle, ?_, (Below.refl _ w).alloc (Nat.le_refl _) _, split_n c s n m hm⟩
  generalize Lib.splitB ⟨#[c]⟩ 0 (min n (s.size + 1) - 1) s = P at hle ⊢
  intro j x hj
  have hjl := (List.getElem?_eq_some_iff.1 hj).1
  have hh := heap_alloc_new w (.cells (Lib.cellsOf P (min n (s.size + 1))) 9)
  rw [cell_of_row _ _ _ _ _ _ hh]
  unfold Lib.cellsOf
  rw [List.getElem?_toArray, List.getElem?_append_left (by simpa using hjl), List.getElem?_map, hj]
  rfl
/-- strings.Join. -/
theorem join_any {w : World} {g c n : Nat} (xs : List ByteArray) (hn : xs.length = n) (sep : ByteArray) (hcells : ∀ (j : Nat) x, xs[j]? = some x → w.cell? ⟨g, 0 + j, none⟩ = some (.string x)) (hg : g < w.heap.size) (hc : n ≤ c) (hN : n ≤ 100000)
    (hlen : (Lib.join (xs.map (·.data.toList)) sep.data.toList).length ≤ 100000000) :
    Calls Tryd.prog 36 #[.slice (some ⟨g, 0, none⟩) n c, .string sep] w fun e w' => e = .returned (.string ⟨(Lib.join (xs.map (·.data.toList)) sep.data.toList).toArray⟩) ∧ Below w.heap.size w w' := by
  subst hn
  exact Tryd.strings_Join g 0 c xs sep w hcells hg (by omega) hc (by omega)
theorem below_drewN' {B : Nat} {a w : World} (h : Below B a w) : ∀ q, Below B a (w.drewN q)
  | 0 => h
  | q + 1 => (below_drewN' h q).drew
theorem below_grow (w : World) (os : Array Obj) : Below w.heap.size w (Go.Sort.grow w os) := by
  refine ⟨rfl, rfl, rfl, by simp [Go.Sort.grow], fun k hk => ?_⟩
  show (w.heap ++ os)[k]? = _
  rw [Array.getElem?_append_left hk]
/-- strconv.Itoa. -/
theorem itoa_any {w : World} (hV : Vs w) (n : Nat) (hn : n ≤ 4294967295) :
    Calls Tryd.prog 35 #[.int .i64 (n : Int)] w fun e w' => e = .returned (.string ⟨(Lib.itoa n).toArray⟩) ∧ Below w.heap.size w w' := by
  refine (Tryd.strconv_Itoa n (by omega) (by omega) w hV.pow).mono ?_
  rintro e w' ⟨rfl, k, os, rfl⟩
  have h1 := below_drewN' (Below.refl w.heap.size w) k
  exact ⟨rfl, h1.trans ((below_grow _ os).mono h1.size)⟩
theorem decode_any {w : World} (hV : Vs w) (s : ByteArray) :
    Calls Tryd.prog 34 #[.string s] w fun e w' => e = .returned (.tuple #[.int .i32 (Lib.decodeGo s).1, .int .i64 (Lib.decodeGo s).2]) ∧ Below w.heap.size w w' :=
  Tryd.utf8_DecodeRuneInString s w hV.utf
theorem valid_any {w : World} (hV : Vs w) (s : ByteArray) (hs : s.size ≤ 1000000) :
    Calls Tryd.prog 31 #[.string s] w fun e w' => e = .returned (.bool (Lib.validD s.data.toList)) ∧ Below w.heap.size w w' :=
  Any.utf8_ValidString Tryd.lays196 s w (by omega) hV.utf
end Go.Proofs.YtkkbnagfndphpaaDoor
