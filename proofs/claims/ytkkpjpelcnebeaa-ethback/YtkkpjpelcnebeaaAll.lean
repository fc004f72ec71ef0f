/-
  eth.Parse and the document's own over any bytes: the same frame and the same error.
-/
import Derived.Test.YtkkpjpelcnebeaaRefEth
namespace Go.Proofs.Ytkkpjpelcnebeaa
open Go.RowKit
open Sm
set_option linter.unusedVariables false

/-- The document's reading: a byte of the frame, its body, its error. -/
def fld (l : List Int) (i : Nat) : Int := if 14 ≤ l.length ∧ l.length ≤ 1600 then l.getD i 0 else 0
def fbody (l : List Int) : List Int := if 14 ≤ l.length ∧ l.length ≤ 1600 then l.drop 14 else []
def ferr (l : List Int) : Int := if 1600 < l.length then 23 else if l.length < 14 then 20 else 0

theorem split14 (l : List Int) (h : 14 ≤ l.length) : ∃ x0 x1 x2 x3 x4 x5 x6 x7 x8 x9 x10 x11 x12 x13 body, l = x0 :: x1 :: x2 :: x3 :: x4 :: x5 :: x6 :: x7 :: x8 :: x9 :: x10 :: x11 :: x12 :: x13 :: body := by
  rcases l with _ | ⟨x0, l⟩
  · simp at h
  rcases l with _ | ⟨x1, l⟩
  · simp at h
  rcases l with _ | ⟨x2, l⟩
  · simp at h
  rcases l with _ | ⟨x3, l⟩
  · simp at h
  rcases l with _ | ⟨x4, l⟩
  · simp at h
  rcases l with _ | ⟨x5, l⟩
  · simp at h
  rcases l with _ | ⟨x6, l⟩
  · simp at h
  rcases l with _ | ⟨x7, l⟩
  · simp at h
  rcases l with _ | ⟨x8, l⟩
  · simp at h
  rcases l with _ | ⟨x9, l⟩
  · simp at h
  rcases l with _ | ⟨x10, l⟩
  · simp at h
  rcases l with _ | ⟨x11, l⟩
  · simp at h
  rcases l with _ | ⟨x12, l⟩
  · simp at h
  rcases l with _ | ⟨x13, l⟩
  · simp at h
  exact ⟨x0, x1, x2, x3, x4, x5, x6, x7, x8, x9, x10, x11, x12, x13, l, rfl⟩

theorem parse_all {w : World} {a : Option Addr} {l : List Int} (h : Row w a l) (n cap : Nat) (hn : l.length = n) (hc : n ≤ cap) :
    Calls Try.prog 8 #[.slice a n cap] w fun e w' => ∃ ao c, e = .returned (.tuple #[.agg (ethA (fld l 0) (fld l 1) (fld l 2) (fld l 3) (fld l 4) (fld l 5) (fld l 6) (fld l 7) (fld l 8) (fld l 9) (fld l 10) (fld l 11) (fld l 12 * 256 + fld l 13) (.slice ao (fbody l).length c)), .int .i64 (ferr l)]) ∧ Row w' ao (fbody l) ∧ Below w.heap.size w w' := by
  by_cases h1 : 1600 < n
  · have e1 : fbody l = [] := by unfold fbody; rw [if_neg (by omega)]
    have e2 : ferr l = 23 := by unfold ferr; rw [if_pos (by omega)]
    have e3 : ∀ i, fld l i = 0 := fun i => by unfold fld; rw [if_neg (by omega)]
    refine (parse_big a n cap w h1).mono ?_
    rintro e w' ⟨rfl, hb⟩
    refine ⟨none, 0, ?_, by rw [e1]; exact row_nil _, hb⟩
    simp only [e1, e2, e3]; rfl
  by_cases h2 : n < 14
  · have e1 : fbody l = [] := by unfold fbody; rw [if_neg (by omega)]
    have e2 : ferr l = 20 := by unfold ferr; rw [if_neg (by omega), if_pos (by omega)]
    have e3 : ∀ i, fld l i = 0 := fun i => by unfold fld; rw [if_neg (by omega)]
    refine (parse_short a n cap w h2).mono ?_
    rintro e w' ⟨rfl, hb⟩
    refine ⟨none, 0, ?_, by rw [e1]; exact row_nil _, hb⟩
    simp only [e1, e2, e3]; rfl
  · have e1 : fbody l = l.drop 14 := by unfold fbody; rw [if_pos (by omega)]
    have e2 : ferr l = 0 := by unfold ferr; rw [if_neg (by omega), if_neg (by omega)]
    have e3 : ∀ i, fld l i = l.getD i 0 := fun i => by unfold fld; rw [if_pos (by omega)]
    simp only [e1, e2, e3]
    obtain ⟨x0, x1, x2, x3, x4, x5, x6, x7, x8, x9, x10, x11, x12, x13, body, rfl⟩ := split14 l (by omega)
    rcases h.cells with e | ⟨b, off, rfl, -⟩
    · cases e
    refine (parse_ok b off cap w x0 x1 x2 x3 x4 x5 x6 x7 x8 x9 x10 x11 x12 x13 body h n body.length rfl (by simp only [List.length_cons] at hn; omega) (by simp only [List.length_cons] at hn; omega) hc).mono ?_
    rintro e w' ⟨ao, c, rfl, hr, _, hb⟩
    exact ⟨ao, c, rfl, hr, hb⟩

theorem reth_all {w : World} {a : Option Addr} {l : List Int} (h : Row w a l) (n cap : Nat) (hn : l.length = n) (hc : n ≤ cap) :
    Calls Try.prog 9 #[.slice a n cap] w fun e w' => ∃ ao c, e = .returned (.tuple #[.agg (ethA (fld l 0) (fld l 1) (fld l 2) (fld l 3) (fld l 4) (fld l 5) (fld l 6) (fld l 7) (fld l 8) (fld l 9) (fld l 10) (fld l 11) (fld l 12 * 256 + fld l 13) (.slice ao (fbody l).length c)), .int .i64 (ferr l)]) ∧ Row w' ao (fbody l) ∧ Below w.heap.size w w' := by
  by_cases h1 : 1600 < n
  · have e1 : fbody l = [] := by unfold fbody; rw [if_neg (by omega)]
    have e2 : ferr l = 23 := by unfold ferr; rw [if_pos (by omega)]
    have e3 : ∀ i, fld l i = 0 := fun i => by unfold fld; rw [if_neg (by omega)]
    refine (reth_big a n cap w h1).mono ?_
    rintro e w' ⟨rfl, hb⟩
    refine ⟨none, 0, ?_, by rw [e1]; exact row_nil _, hb⟩
    simp only [e1, e2, e3]; rfl
  by_cases h2 : n < 14
  · have e1 : fbody l = [] := by unfold fbody; rw [if_neg (by omega)]
    have e2 : ferr l = 20 := by unfold ferr; rw [if_neg (by omega), if_pos (by omega)]
    have e3 : ∀ i, fld l i = 0 := fun i => by unfold fld; rw [if_neg (by omega)]
    refine (reth_short a n cap w h2).mono ?_
    rintro e w' ⟨rfl, hb⟩
    refine ⟨none, 0, ?_, by rw [e1]; exact row_nil _, hb⟩
    simp only [e1, e2, e3]; rfl
  · have e1 : fbody l = l.drop 14 := by unfold fbody; rw [if_pos (by omega)]
    have e2 : ferr l = 0 := by unfold ferr; rw [if_neg (by omega), if_neg (by omega)]
    have e3 : ∀ i, fld l i = l.getD i 0 := fun i => by unfold fld; rw [if_pos (by omega)]
    simp only [e1, e2, e3]
    obtain ⟨x0, x1, x2, x3, x4, x5, x6, x7, x8, x9, x10, x11, x12, x13, body, rfl⟩ := split14 l (by omega)
    rcases h.cells with e | ⟨b, off, rfl, -⟩
    · cases e
    refine (reth_ok b off cap w x0 x1 x2 x3 x4 x5 x6 x7 x8 x9 x10 x11 x12 x13 body h n body.length rfl (by simp only [List.length_cons] at hn; omega) (by simp only [List.length_cons] at hn; omega) hc).mono ?_
    rintro e w' ⟨ao, c, rfl, hr, hb⟩
    exact ⟨ao, c, rfl, hr, hb⟩
end Go.Proofs.Ytkkpjpelcnebeaa
