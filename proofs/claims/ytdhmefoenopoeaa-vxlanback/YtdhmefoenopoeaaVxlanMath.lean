/-
  Tunnels' bytes as lists of numbers: what bytes read as, what a network and a body are written as; each is the other's inverse. And the laws on bits that they ask for.
-/
import Derived.Test.YtdhmefoenopoeaaKit
namespace Go.Proofs.Ytdhmefoenopoeaa
open Sm
namespace Sm
set_option linter.unusedVariables false

/-! ### Bits. -/
set_option maxRecDepth 20000 in
theorem bit8_all : ∀ n : Fin 256, (bits .and .u8 (n.val : Int) 8 = if (n.val : Int) / 8 % 2 = 0 then 0 else 8) ∧ (bits .or .u8 (n.val : Int) 8 = if (n.val : Int) / 8 % 2 = 0 then (n.val : Int) + 8 else (n.val : Int)) ∧ (bits .andNot .u8 (n.val : Int) 8 = if (n.val : Int) / 8 % 2 = 0 then (n.val : Int) else (n.val : Int) - 8) := by
  decide +kernel
theorem bit8 (x : Int) (h0 : 0 ≤ x) (h1 : x ≤ 255) : (bits .and .u8 x 8 = if x / 8 % 2 = 0 then 0 else 8) ∧ (bits .or .u8 x 8 = if x / 8 % 2 = 0 then x + 8 else x) ∧ (bits .andNot .u8 x 8 = if x / 8 % 2 = 0 then x else x - 8) := by
  have h := bit8_all ⟨x.toNat, by omega⟩
  have e : ((x.toNat : Nat) : Int) = x := by omega
  simp only [e] at h
  exact h
theorem and8_no (x : Int) (h0 : 0 ≤ x) (h1 : x ≤ 255) (h : x / 8 % 2 = 0) : bits .and .u8 x 8 = 0 := by rw [(bit8 x h0 h1).1, if_pos h]
theorem and8_yes (x : Int) (h0 : 0 ≤ x) (h1 : x ≤ 255) (h : ¬ x / 8 % 2 = 0) : bits .and .u8 x 8 = 8 := by rw [(bit8 x h0 h1).1, if_neg h]
theorem or8_facts (x : Int) (h0 : 0 ≤ x) (h1 : x ≤ 255) : ∃ y, bits .or .u8 x 8 = y ∧ 0 ≤ y ∧ y ≤ 255 ∧ ¬ y / 8 % 2 = 0 := by
  refine ⟨_, rfl, ?_⟩
  rw [(bit8 x h0 h1).2.1]
  split <;> omega
theorem not8_facts (x : Int) (h0 : 0 ≤ x) (h1 : x ≤ 255) : ∃ y, bits .andNot .u8 x 8 = y ∧ 0 ≤ y ∧ y ≤ 255 ∧ y / 8 % 2 = 0 := by
  refine ⟨_, rfl, ?_⟩
  rw [(bit8 x h0 h1).2.2]
  split <;> omega
theorem low24 (x : Int) (h0 : 0 ≤ x) (h1 : x ≤ 4294967295) : bits .and .u32 x 16777215 = x % 16777216 := bits_mask .u32 32 (by decide) wraps_u32 24 (by decide) x h0 (by omega)
theorem join16 (x y : Int) (h0 : 0 ≤ x) (h1 : x ≤ 255) (h2 : 0 ≤ y) (h3 : y ≤ 255) : bits .or .u32 (x * 65536) (y * 256) = x * 65536 + y * 256 :=
  bits_join .u32 32 (by decide) wraps_u32 16 (x * 65536) (y * 256) (by omega) (by omega) (by omega) (by omega) (by omega) (by omega)
theorem join8 (x y : Int) (h0 : 0 ≤ x) (h1 : x ≤ 65535) (h2 : 0 ≤ y) (h3 : y ≤ 255) (X : Int) (hX : X = x * 256) : bits .or .u32 X y = X + y := by
  subst hX
  exact bits_join .u32 32 (by decide) wraps_u32 8 (x * 256) y (by omega) (by omega) (by omega) (by omega) (by omega) (by omega)

/-! ### What P7.1 answers. -/
/-- Three bytes as a number. -/
def w24 (l : List Int) (i : Nat) : Int := l.getD i 0 * 65536 + l.getD (i + 1) 0 * 256 + l.getD (i + 2) 0
theorem w24_range {l : List Int} (h : IsBytes l) (i : Nat) : 0 ≤ w24 l i ∧ w24 l i ≤ 16777215 := by
  have a := h i; have b := h (i + 1); have c := h (i + 2); unfold w24; omega
theorem w24_w32 {l : List Int} (h : IsBytes l) (i : Nat) : w32 l i / 256 = w24 l i := by
  have a := h i; have b := h (i + 1); have c := h (i + 2); have d := h (i + 2 + 1)
  unfold w32 w16 w24; omega
def vxErr (l : List Int) : Int := if l.length < 8 then 20 else if l.getD 0 0 / 8 % 2 = 0 then 21 else 0
def vxNet (l : List Int) : Int := if vxErr l = 0 then w24 l 4 else 0
def vxBody (l : List Int) : List Int := if vxErr l = 0 then (l.drop 8).take (l.length - 8) else []
def vxbErr (v : Int) (b : List Int) : Int := if 16777215 < v then 21 else if 1592 < b.length then 23 else 0
/-- The first eight bytes. -/
def vx8 (v : Int) : List Int := [8, 0, 0, 0, v / 65536, v / 256 % 256, v % 256, 0]
def vxb (v : Int) (b : List Int) : List Int := vx8 v ++ b
def vxOut (v : Int) (b : List Int) : List Int := if vxbErr v b = 0 then vxb v b else []

theorem vx_e20 {l : List Int} (h : l.length < 8) : vxErr l = 20 ∧ vxNet l = 0 ∧ vxBody l = [] := by
  have e : vxErr l = 20 := by unfold vxErr; rw [if_pos h]
  exact ⟨e, if_neg (by rw [e]; decide), if_neg (by rw [e]; decide)⟩
theorem vx_e21 {l : List Int} (h : ¬ l.length < 8) (h0 : l.getD 0 0 / 8 % 2 = 0) : vxErr l = 21 ∧ vxNet l = 0 ∧ vxBody l = [] := by
  have e : vxErr l = 21 := by unfold vxErr; rw [if_neg h, if_pos h0]
  exact ⟨e, if_neg (by rw [e]; decide), if_neg (by rw [e]; decide)⟩
theorem vx_e0 {l : List Int} (h : ¬ l.length < 8) (h0 : ¬ l.getD 0 0 / 8 % 2 = 0) : vxErr l = 0 ∧ vxNet l = w24 l 4 ∧ vxBody l = (l.drop 8).take (l.length - 8) := by
  have e : vxErr l = 0 := by unfold vxErr; rw [if_neg h, if_neg h0]
  exact ⟨e, if_pos e, if_pos e⟩
theorem vxBody_bytes {l : List Int} (h : IsBytes l) : IsBytes (vxBody l) := by
  unfold vxBody
  split
  · exact bytes_part h _ _
  · exact bytes_nil
theorem vxBody_len (l : List Int) : (vxBody l).length ≤ l.length := by
  unfold vxBody
  split <;> simp
theorem vxfits_iff (v : Int) (b : List Int) : vxbErr v b = 0 ↔ v ≤ 16777215 ∧ b.length ≤ 1592 := by
  unfold vxbErr
  constructor
  · intro h
    split at h
    · omega
    · split at h <;> omega
  · intro h
    rw [if_neg (by omega), if_neg (by omega)]
theorem vxb_len (v : Int) (b : List Int) : (vxb v b).length = 8 + b.length := by simp [vxb, vx8]; omega
theorem vxb_bytes {v : Int} {b : List Int} (h0 : 0 ≤ v) (h1 : v ≤ 16777215) (h : IsBytes b) : IsBytes (vxb v b) := by
  unfold vxb vx8
  simp only [List.cons_append, List.nil_append]
  iterate 8 (refine bytes_cons ⟨by omega, by omega⟩ ?_)
  exact h
theorem vxOut_facts {v : Int} {b : List Int} (h0 : 0 ≤ v) (h : IsBytes b) : IsBytes (vxOut v b) ∧ (vxOut v b).length ≤ 1600 := by
  unfold vxOut
  by_cases e : vxbErr v b = 0
  · rw [if_pos e]; have f := (vxfits_iff v b).mp e; exact ⟨vxb_bytes h0 f.1 h, by rw [vxb_len]; omega⟩
  · rw [if_neg e]; exact ⟨bytes_nil, by simp⟩
theorem vxb_no {v : Int} {b : List Int} {E : Int} (e : vxbErr v b = E) (h : E ≠ 0) : vxOut v b = [] := by unfold vxOut; rw [if_neg (by rw [e]; exact h)]
theorem vx_back {v : Int} {b : List Int} (h0 : 0 ≤ v) (h1 : v ≤ 16777215) : vxErr (vxb v b) = 0 ∧ vxNet (vxb v b) = v ∧ vxBody (vxb v b) = b := by
  have hl := vxb_len v b
  obtain ⟨e, en, eb⟩ := vx_e0 (l := vxb v b) (by omega) (by show ¬ (8 : Int) / 8 % 2 = 0; decide)
  refine ⟨e, ?_, ?_⟩
  · rw [en]
    show v / 65536 * 65536 + v / 256 % 256 * 256 + v % 256 = v
    omega
  · rw [eb, hl]
    show b.take (8 + b.length - 8) = b
    rw [Nat.add_sub_cancel_left]; exact List.take_length
end Sm
end Go.Proofs.Ytdhmefoenopoeaa
