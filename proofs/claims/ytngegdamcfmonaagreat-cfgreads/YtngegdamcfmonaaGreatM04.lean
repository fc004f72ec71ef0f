/-
  What the statements' own helps answer: lychhelp.Bytes over two rows of the same bytes, lychref1's Get16, cut and Put16.
  What sum.Words answers (a new row of the words), and that the chapter's example stands (lychlaw1.known).
-/
import Derived.Test.YtngegdamcfmonaaGreatM03
import Derived.Laws.BytesArg
import Derived.Lib.BufferRead
namespace Go.Proofs.YtngegdamcfmonaaGreat
open Go.RowKit
open Sm
set_option linter.unusedVariables false

/-- Bytes as a string. -/
theorem row_string {w : World} {a : Option Addr} {l : List Int} (h : Row w a l) (cap : Nat) : (convert 40 9 (.slice a l.length cap)).run Tryz.prog w = .ok (.string (strOfNums l)) w := by
  rcases h.cells with e | ⟨b, off, rfl, hc⟩
  · subst e
    cases a with
    | none => exact Lib.run_convert_nil_bytes (P := Tryz.prog) w 40 9 5 cap Tryz.underlying40 Tryz.underlying5 Tryz.underlying9
    | some x => exact run_convert_bytes_back (P := Tryz.prog) w 40 9 5 x cap [] Tryz.underlying40 Tryz.underlying5 Tryz.underlying9 (fun j hj => by simp at hj)
  · rw [run_convert_bytes_string w 40 9 5 _ _ cap Tryz.underlying40 Tryz.underlying5 Tryz.underlying9]
    have hl := run_loadCells_list (P := Tryz.prog) w ⟨b, off, none⟩ (l.map (Value.int .u8)) h.news
    rw [List.length_map] at hl
    rw [run_bytesToString w ⟨b, off, none⟩ l.length cap l hl, foldl_push_bytes]
    simp [strOfNums]

set_option maxHeartbeats 400000 in
theorem hbytes_yes {w : World} {a b : Option Addr} {l : List Int} (ha : Row w a l) (hb : Row w b l) (n m : Nat) (hn : l.length = n) (hm : l.length = m) (ca cb : Nat) :
    Calls Tryz.prog 12 #[.slice a n ca, .slice b m cb] w fun e w' => e = .returned (.bool true) ∧ w = w' := by
  subst hm
  subst hn
  have h1 := row_string ha ca
  have h2 := row_string hb cb
  generalize strOfNums l = s at h1 h2
  go_enter Tryz.func12, Tryz.ntmps12
  go_wp2
  go_ret
  exact ⟨by simp, rfl⟩

/-- A new row of bytes, as its readers see it. -/
theorem own_read {w : World} {B n : Nat} {v : Value} {l : List Int} (h : w.ownsRow B 5 1 v n (l.map (Value.int .u8))) (hn : l.length = n) (hb : IsBytes l) (hl : l.length ≤ 140737488351232) :
    ∃ ao cap, v = .slice ao n cap ∧ Row w ao l ∧ (ao = none → cap = 0) ∧ (∀ x, ao = some x → B ≤ x.block) ∧ n ≤ cap := by
  subst hn
  obtain ⟨h1, h2⟩ := h
  rcases h2 with ⟨rfl, h3⟩ | ⟨g, cap, cur, rfl, hg, r⟩
  · have e : l = [] := List.length_eq_zero_iff.mp h3
    subst e
    exact ⟨none, 0, rfl, row_nil w, fun _ => rfl, fun x hx => (by cases hx), Nat.le_refl _⟩
  · have hob : OwnB w B g cap l := ⟨h1, Or.inr ⟨g, cap, cur, rfl, hg, r⟩⟩
    exact ⟨some ⟨g, 0, none⟩, cap, rfl, hob.row hb hl, fun h => (by cases h), fun x hx => (by cases hx; exact hg), r.2.1⟩

end Go.Proofs.YtngegdamcfmonaaGreat

namespace Go.Proofs.YtngegdamcfmonaaGreat
open Go.RowKit
open Sm
set_option linter.unusedVariables false

theorem info29 : (Tryz.prog.info? 30).map (fun i => (i.zero, i.size, i.bytes)) = some (some (.int .u16 0), 1, 2) := by kernel_rfl

/-- The words as values. -/
def wvs (l : List Int) (k : Nat) : List Value := (List.range k).map fun i => .int .u16 (wd l i)
theorem wvs_len (l : List Int) (k : Nat) : (wvs l k).length = k := by simp [wvs]
/-- The words that are there, and noughts behind. -/
def wvn (l : List Int) (n k : Nat) : List Value := (List.range n).map fun i => .int .u16 (if i < k then wd l i else 0)
theorem wvn_zero (l : List Int) (n : Nat) : wvn l n 0 = List.replicate n (.int .u16 0) := by
  apply List.ext_getElem <;> simp [wvn]
theorem wvn_succ (l : List Int) (n k : Nat) : wvn l n (k + 1) = (wvn l n k).set k (.int .u16 (wd l k)) := by
  apply List.ext_getElem
  · simp [wvn]
  · intro i h1 h2
    simp only [wvn, List.length_map, List.length_range] at h1
    by_cases e : k = i
    · subst e; simp [wvn]
    · rw [List.getElem_set_ne e]
      simp only [wvn, List.getElem_map, List.getElem_range]
      by_cases c : i < k
      · rw [if_pos c, if_pos (by omega)]
      · rw [if_neg c, if_neg (by omega)]
theorem wvn_full (l : List Int) (n : Nat) : wvn l n n = wvs l n := by
  apply List.ext_getElem
  · simp [wvn, wvs]
  · intro i h1 h2
    simp only [wvn, List.length_map, List.length_range] at h1
    simp [wvn, wvs, h1]

end Go.Proofs.YtngegdamcfmonaaGreat

