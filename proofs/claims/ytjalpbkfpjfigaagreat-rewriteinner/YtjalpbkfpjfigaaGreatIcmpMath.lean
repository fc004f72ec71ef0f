/-
  Messages as lists of numbers: what bytes read as, what a message is written as, its checksum and whether it is right; each is the other's inverse.
-/
import Derived.Test.YtjalpbkfpjfigaaGreatKit
namespace Go.Proofs.YtjalpbkfpjfigaaGreat
open Sm
namespace Sm
set_option linter.unusedVariables false

structure Mg where
  typ : Int
  code : Int
  sum : Int
  rest : Int
  body : List Int
def Mg.zero : Mg := ⟨0, 0, 0, 0, []⟩
structure Mg.Ok (q : Mg) : Prop where
  typ : 0 ≤ q.typ ∧ q.typ ≤ 255
  code : 0 ≤ q.code ∧ q.code ≤ 255
  sum : 0 ≤ q.sum ∧ q.sum ≤ 65535
  rest : 0 ≤ q.rest ∧ q.rest ≤ 4294967295
  body : IsBytes q.body

/-- What P6.1 answers. -/
def mgErr (l : List Int) : Int := if l.length < 8 then 20 else 0
def mgMg (l : List Int) : Mg := ⟨l.getD 0 0, l.getD 1 0, w16 l 2, w32 l 4, (l.drop 8).take (l.length - 8)⟩
def mgRes (l : List Int) : Mg := if mgErr l = 0 then mgMg l else Mg.zero
def mgbErr (q : Mg) : Int := if 65507 < q.body.length then 23 else 0
/-- The first eight bytes. -/
def mg8 (t k c r : Int) : List Int := [t, k, c / 256, c % 256, r / 16777216, r / 65536 % 256, r / 256 % 256, r % 256]
def mgb (q : Mg) : List Int := mg8 q.typ q.code q.sum q.rest ++ q.body
def mgOut (q : Mg) : List Int := if mgbErr q = 0 then mgb q else []
/-- The whole length. -/
def mlen (q : Mg) : Nat := 8 + q.body.length

theorem mfits_iff (q : Mg) : mgbErr q = 0 ↔ q.body.length ≤ 65507 := by
  unfold mgbErr
  constructor
  · intro h
    split at h <;> omega
  · intro h
    rw [if_neg (by omega)]
theorem mgb_len (q : Mg) : (mgb q).length = mlen q := by simp [mgb, mg8, mlen]; omega
theorem mgb_bytes {q : Mg} (h : q.Ok) : IsBytes (mgb q) := by
  obtain ⟨h1, h2, h3, h4, h5⟩ := h
  unfold mgb mg8
  simp only [List.cons_append, List.nil_append]
  iterate 8 (refine bytes_cons ⟨by omega, by omega⟩ ?_)
  exact h5
theorem mgOut_facts {q : Mg} (h : q.Ok) : IsBytes (mgOut q) ∧ (mgOut q).length ≤ 65515 := by
  unfold mgOut
  by_cases e : mgbErr q = 0
  · rw [if_pos e]; have f := (mfits_iff q).mp e; exact ⟨mgb_bytes h, by rw [mgb_len]; unfold mlen; omega⟩
  · rw [if_neg e]; exact ⟨bytes_nil, by simp⟩
theorem mgRes_ok {l : List Int} (h : IsBytes l) : (mgRes l).Ok := by
  unfold mgRes
  split
  · exact ⟨h 0, h 1, w16_range h 2, w32_range h 4, bytes_part h _ _⟩
  · exact ⟨by decide, by decide, by decide, by decide, bytes_nil⟩

theorem back_merr (q : Mg) : mgErr (mgb q) = 0 := by
  unfold mgErr
  rw [mgb_len, mlen, if_neg (by omega)]
theorem back_mres {q : Mg} (h : q.Ok) : mgRes (mgb q) = q := by
  unfold mgRes
  rw [if_pos (back_merr q)]
  unfold mgMg
  rw [mgb_len]
  obtain ⟨h1, h2, h3, h4, h5⟩ := h
  obtain ⟨t, k, c, r, b⟩ := q
  simp only at h1 h2 h3 h4
  have e0 : ((mgb ⟨t, k, c, r, b⟩).drop 8).take (mlen ⟨t, k, c, r, b⟩ - 8) = b := by
    show b.take (8 + b.length - 8) = b
    rw [Nat.add_sub_cancel_left]; exact List.take_length
  rw [e0]
  unfold w32 w16 mgb mg8
  simp only [List.cons_append, List.nil_append, List.getD_cons_zero, List.getD_cons_succ, Mg.mk.injEq, and_true, true_and]
  refine ⟨?_, ?_⟩ <;> omega

/-! ### Checksums. -/
def Mg.at (q : Mg) (c : Int) : Mg := ⟨q.typ, q.code, c, q.rest, q.body⟩
/-- All words, folded. -/
def mtot (q : Mg) : Int := foldv (acc (mgb q) 0 (cnt (mlen q)))
/-- What P6.1 answers. -/
def msum (q : Mg) : Int := if mgbErr q ≠ 0 then 0 else ofv (mgb (q.at 0))
def mright (q : Mg) : Bool := decide (mgbErr q = 0) && decide (mtot q = 65535)

theorem mgErr_at (q : Mg) (c : Int) : mgbErr (q.at c) = mgbErr q := rfl
theorem mlen_at (q : Mg) (c : Int) : mlen (q.at c) = mlen q := rfl
theorem Mg.Ok.at {q : Mg} (h : q.Ok) {c : Int} (h0 : 0 ≤ c) (h1 : c ≤ 65535) : (q.at c).Ok := ⟨h.typ, h.code, ⟨h0, h1⟩, h.rest, h.body⟩
theorem mtot_range (q : Mg) : 0 ≤ mtot q ∧ mtot q ≤ 65535 := foldv_range _
theorem mtot_at {q : Mg} (h : q.Ok) : ∃ P : Int, 0 ≤ P ∧ ofv (mgb (q.at 0)) = 65535 - foldv P ∧ ∀ c, 0 ≤ c → c ≤ 65535 → mtot (q.at c) = foldv (P + c) := by
  have hb0 := mgb_bytes (h.at (c := 0) (by omega) (by omega))
  refine ⟨tot (mgb (q.at 0)) (cnt (mlen q)), tot_nonneg hb0 _, ?_, fun c c0 c1 => ?_⟩
  · unfold ofv; rw [mgb_len, mlen_at]
  have hb := mgb_bytes (h.at c0 c1)
  have e : mgb (q.at c) = setw (mgb (q.at 0)) 1 (c / 256) (c % 256) := rfl
  have hl : 2 * 1 + 1 < (mgb (q.at 0)).length := by rw [mgb_len]; unfold mlen; omega
  have hk : 1 < cnt (mlen q) := by unfold cnt mlen; omega
  have hw : wd (mgb (q.at 0)) 1 = 0 := rfl
  unfold mtot
  rw [mlen_at, foldv_acc hb _ (by omega) (by omega), e, tot_setw _ _ _ _ _ hl, if_pos hk, hw]
  congr 1
  omega
theorem msum_range (q : Mg) : 0 ≤ msum q ∧ msum q ≤ 65535 := by
  have := ofv_range (mgb (q.at 0))
  unfold msum
  split <;> omega
/-- One with its own checksum is right. -/
theorem mright_own {q : Mg} (h : q.Ok) (f : mgbErr q = 0) : mright (q.at (msum q)) = true := by
  obtain ⟨P, hP, ho, hu⟩ := mtot_at h
  have r := foldv_range P
  have e : msum q = 65535 - foldv P := by unfold msum; rw [if_neg (by omega), ho]
  unfold mright
  rw [mgErr_at, f, e, hu _ (by omega) (by omega)]
  have key : foldv (P + (65535 - foldv P)) = 65535 := by
    unfold foldv
    split <;> split <;> omega
  simp [key]

/-! ### Kinds. -/
/-- What P6.2 answers. -/
def mecho (q : Mg) : Bool := decide (q.typ = 8 ∨ q.typ = 0) && decide (q.code = 0)
def merror (q : Mg) : Bool := decide (q.typ = 3 ∨ q.typ = 11 ∨ q.typ = 12)
end Sm
end Go.Proofs.YtjalpbkfpjfigaaGreat
