/-
  Datagrams as lists of numbers: what bytes read as, what a datagram is written as, its checksum and whether it is right; each is the other's inverse.
-/
import Derived.Test.YtjalpbkfpjfigaaGreatKit
namespace Go.Proofs.YtjalpbkfpjfigaaGreat
open Sm
namespace Sm
set_option linter.unusedVariables false

structure Dg where
  src : Int
  dst : Int
  sum : Int
  body : List Int
def Dg.zero : Dg := ⟨0, 0, 0, []⟩
structure Dg.Ok (u : Dg) : Prop where
  src : 0 ≤ u.src ∧ u.src ≤ 65535
  dst : 0 ≤ u.dst ∧ u.dst ≤ 65535
  sum : 0 ≤ u.sum ∧ u.sum ≤ 65535
  body : IsBytes u.body

/-- The length that it tells. -/
def ulen (l : List Int) : Nat := (w16 l 4).toNat
/-- What P4.1 answers. -/
def udErr (l : List Int) : Int := if l.length < 8 then 20 else if ulen l < 8 then 21 else if l.length < ulen l then 20 else 0
def udDg (l : List Int) : Dg := ⟨w16 l 0, w16 l 2, w16 l 6, (l.drop 8).take (ulen l - 8)⟩
def udRes (l : List Int) : Dg := if udErr l = 0 then udDg l else Dg.zero
def udbErr (u : Dg) : Int := if 65527 < u.body.length then 23 else 0
/-- The first eight bytes. -/
def ud8 (n : Nat) (s d c : Int) : List Int := [s / 256, s % 256, d / 256, d % 256, (n : Int) / 256, (n : Int) % 256, c / 256, c % 256]
def udb (u : Dg) : List Int := ud8 (8 + u.body.length) u.src u.dst u.sum ++ u.body
def udOut (u : Dg) : List Int := if udbErr u = 0 then udb u else []

theorem udb_len (u : Dg) : (udb u).length = 8 + u.body.length := by simp [udb, ud8]; omega
theorem udb_bytes {u : Dg} (h : u.Ok) (hn : u.body.length ≤ 65527) : IsBytes (udb u) := by
  obtain ⟨h1, h2, h3, h4⟩ := h
  unfold udb ud8
  simp only [List.cons_append, List.nil_append]
  iterate 8 (refine bytes_cons ⟨by omega, by omega⟩ ?_)
  exact h4
theorem udbErr_zero (u : Dg) : udbErr u = 0 ↔ u.body.length ≤ 65527 := by unfold udbErr; split <;> omega
theorem udOut_facts {u : Dg} (h : u.Ok) : IsBytes (udOut u) ∧ (udOut u).length ≤ 65535 := by
  unfold udOut
  by_cases e : udbErr u = 0
  · rw [if_pos e]; have := (udbErr_zero u).mp e; exact ⟨udb_bytes h this, by rw [udb_len]; omega⟩
  · rw [if_neg e]; exact ⟨bytes_nil, by simp⟩
theorem udRes_ok {l : List Int} (h : IsBytes l) : (udRes l).Ok := by
  unfold udRes
  split
  · exact ⟨w16_range h 0, w16_range h 2, w16_range h 6, bytes_part h _ _⟩
  · exact ⟨by decide, by decide, by decide, bytes_nil⟩

theorem back_ulen (u : Dg) (hn : u.body.length ≤ 65527) : ulen (udb u) = 8 + u.body.length := by
  unfold ulen w16 udb ud8
  simp only [List.cons_append, List.nil_append, List.getD_cons_zero, List.getD_cons_succ]
  omega
theorem back_uerr (u : Dg) (hn : u.body.length ≤ 65527) : udErr (udb u) = 0 := by
  unfold udErr
  rw [back_ulen u hn, udb_len, if_neg (by omega), if_neg (by omega), if_neg (by omega)]
theorem back_ures {u : Dg} (h : u.Ok) (hn : u.body.length ≤ 65527) : udRes (udb u) = u := by
  unfold udRes
  rw [if_pos (back_uerr u hn)]
  unfold udDg
  rw [back_ulen u hn]
  obtain ⟨h1, h2, h3, h4⟩ := h
  obtain ⟨s, d, c, b⟩ := u
  simp only at h1 h2 h3
  have e : ((udb ⟨s, d, c, b⟩).drop 8).take (8 + b.length - 8) = b := by
    have : (udb ⟨s, d, c, b⟩).drop 8 = b := rfl
    rw [this, Nat.add_sub_cancel_left]; exact List.take_of_length_le (Nat.le_refl _)
  rw [e]
  unfold w16 udb ud8
  simp only [List.cons_append, List.nil_append, List.getD_cons_zero, List.getD_cons_succ, Dg.mk.injEq, and_true]
  omega

/-! ### Checksums. -/
/-- All words, with the pseudo ones, folded. -/
def utot (s d : Int) (u : Dg) : Int := foldv (acc (udb u) (psv s d 17 (8 + u.body.length : Nat)) (cnt (8 + u.body.length)))
def Dg.at (u : Dg) (c : Int) : Dg := ⟨u.src, u.dst, c, u.body⟩
/-- What P4.2 answers. -/
def usum (s d : Int) (u : Dg) : Int := if udbErr u ≠ 0 then 0 else if utot s d (u.at 0) = 65535 then 65535 else 65535 - utot s d (u.at 0)
def uright (s d : Int) (u : Dg) : Bool := decide (u.sum = 0) || (decide (udbErr u = 0) && decide (utot s d u = 65535))

theorem psv_range (s d p n : Int) (h0 : 0 ≤ s) (h1 : 0 ≤ d) (h2 : 1 ≤ p) : 1 ≤ psv s d p n ∧ psv s d p n ≤ 65535 := by
  unfold psv foldv
  rw [if_neg (by omega)]
  omega
theorem utot_range (s d : Int) (u : Dg) : 0 ≤ utot s d u ∧ utot s d u ≤ 65535 := foldv_range _
theorem udErr_at (u : Dg) (c : Int) : udbErr (u.at c) = udbErr u := rfl
theorem Dg.Ok.at {u : Dg} (h : u.Ok) {c : Int} (h0 : 0 ≤ c) (h1 : c ≤ 65535) : (u.at c).Ok := ⟨h.src, h.dst, ⟨h0, h1⟩, h.body⟩

theorem utot_at {u : Dg} (h : u.Ok) (hn : u.body.length ≤ 65527) (s d : Int) (hs : 0 ≤ s) (hd : 0 ≤ d) : ∃ P : Int, 1 ≤ P ∧ ∀ c, 0 ≤ c → c ≤ 65535 → utot s d (u.at c) = foldv (P + c) := by
  have hp := psv_range s d 17 (8 + u.body.length : Nat) hs hd (by omega)
  have hb0 := udb_bytes (h.at (c := 0) (by omega) (by omega)) hn
  have ht := tot_nonneg hb0 (cnt (8 + u.body.length))
  refine ⟨psv s d 17 (8 + u.body.length : Nat) + tot (udb (u.at 0)) (cnt (8 + u.body.length)), by omega, fun c c0 c1 => ?_⟩
  have hb := udb_bytes (h.at c0 c1) hn
  have e : udb (u.at c) = setw (udb (u.at 0)) 3 (c / 256) (c % 256) := rfl
  have hl : 2 * 3 + 1 < (udb (u.at 0)).length := by rw [udb_len]; omega
  have hk : 3 < cnt (8 + u.body.length) := by unfold cnt; omega
  have hw : wd (udb (u.at 0)) 3 = 0 := rfl
  show foldv (acc (udb (u.at c)) (psv s d 17 (8 + u.body.length : Nat)) (cnt (8 + u.body.length))) = _
  rw [foldv_acc hb _ (by omega) (by omega), e, tot_setw _ _ _ _ _ hl, if_pos hk, hw]
  congr 1
  omega

theorem usum_range (s d : Int) (u : Dg) : 0 ≤ usum s d u ∧ usum s d u ≤ 65535 := by
  have := utot_range s d (u.at 0)
  unfold usum
  split
  · omega
  · split <;> omega
theorem usum_some {u : Dg} (hn : u.body.length ≤ 65527) (s d : Int) : usum s d u ≠ 0 := by
  have := utot_range s d (u.at 0)
  have e := (udbErr_zero u).mpr hn
  unfold usum
  rw [if_neg (by omega)]
  split <;> omega
/-- One with its own checksum is right, with any other not, but for none. -/
theorem uright_at {u : Dg} (h : u.Ok) (hn : u.body.length ≤ 65527) (s d : Int) (hs : 0 ≤ s) (hd : 0 ≤ d) (c : Int) (c0 : 0 ≤ c) (c1 : c ≤ 65535) :
    uright s d (u.at c) = (decide (c = usum s d u) || decide (c = 0)) := by
  obtain ⟨P, hP, hu⟩ := utot_at h hn s d hs hd
  have e := (udbErr_zero u).mpr hn
  have e0 := hu 0 (by omega) (by omega)
  unfold uright
  rw [udErr_at, e, hu c c0 c1]
  unfold usum
  rw [if_neg (by omega), e0, Int.add_zero]
  have key : (foldv (P + c) = 65535 ∧ c ≠ 0) ↔ (c = (if foldv P = 65535 then 65535 else 65535 - foldv P) ∧ c ≠ 0) := by
    have a1 : ¬ P + c = 0 := by omega
    have a2 : ¬ P = 0 := by omega
    unfold foldv
    simp only [if_neg a1, if_neg a2]
    split <;> constructor <;> intro h <;> omega
  have q : (u.at c).sum = c := rfl
  rw [q]
  by_cases z : c = 0
  · simp [z]
  · by_cases f : foldv (P + c) = 65535
    · have := (key.mp ⟨f, z⟩).1
      simp [z, f, ← this]
    · have : ¬ c = (if foldv P = 65535 then 65535 else 65535 - foldv P) := fun x => f (key.mpr ⟨x, z⟩).1
      simp [z, f, this]
end Sm
end Go.Proofs.YtjalpbkfpjfigaaGreat
