/-
  Sessions: the numbers of SessFull.
-/
import Derived.Test.YtgeeijinhneoiaaSsFace
namespace Go.Proofs.Ytgeeijinhneoiaa
open Go.RowKit
open Sm
open Po
open Wh
set_option linter.unusedVariables false
set_option linter.unusedSimpArgs false
set_option maxRecDepth 20000

namespace Ss
/-- The j-th session; the first i of them. -/
def fs (j : Nat) : Sn := ⟨6, j, 0, 9, j, 0, [], 0, 0⟩
def fl (i : Nat) : List Sn := (List.range i).map fs
theorem fl_length (i : Nat) : (fl i).length = i := by simp [fl]
theorem fl_mem {i : Nat} {x : Sn} (h : x ∈ fl i) : ∃ j, j < i ∧ x = fs j := by
  obtain ⟨j, hj, rfl⟩ := List.mem_map.1 h
  exact ⟨j, List.mem_range.1 hj, rfl⟩
theorem fl_next (i : Nat) : fl (i + 1) = fl i ++ [fs i] := by simp [fl, List.range_succ]
theorem fo_no {p : Int} {q : Pn} : ∀ {xs : List Sn}, (∀ x ∈ xs, ¬ (x.pr = p ∧ (x.oip, x.op) = q)) → fo p q xs = none
  | [], _ => rfl
  | x :: r, h => by
    have h0 := h x (List.mem_cons_self ..)
    rw [fo, if_neg h0]
    exact fo_no fun y hy => h y (List.mem_cons_of_mem _ hy)
theorem fk_yes {k : Ky} : ∀ {xs : List Sn}, (∃ x ∈ xs, key x = k) → (fk k xs).isSome = true
  | [], h => by obtain ⟨x, hx, -⟩ := h; simp at hx
  | x :: r, h => by
    rw [fk]
    split
    · rfl
    · next hn =>
      obtain ⟨y, hy, e⟩ := h
      rcases List.mem_cons.1 hy with rfl | hy
      · exact absurd e hn
      · exact fk_yes ⟨y, hy, e⟩
theorem dk_len {k : Ky} : ∀ {xs : List Sn}, (fk k xs).isSome = true → (dk k xs).length + 1 = xs.length
  | [], h => by simp [fk] at h
  | x :: r, h => by
    rw [fk] at h
    rw [dk]
    split at h
    · next e => rw [if_pos e]; rfl
    · next e =>
      rw [if_neg e]
      have := dk_len h
      simp only [List.length_cons]
      omega
theorem dk_mem {k : Ky} : ∀ {xs : List Sn} {x : Sn}, x ∈ dk k xs → x ∈ xs
  | [], _, h => h
  | y :: r, x, h => by
    rw [dk] at h
    split at h
    · exact List.mem_cons_of_mem _ h
    · rcases List.mem_cons.1 h with rfl | h
      · exact List.mem_cons_self ..
      · exact List.mem_cons_of_mem _ (dk_mem h)
theorem fl_fk {i j : Nat} (h : i ≤ j) : fk (key (fs j)) (fl i) = none := (dk_no fun x hx => by
  obtain ⟨t, ht, rfl⟩ := fl_mem hx
  intro e
  simp only [key, fs, Prod.mk.injEq, true_and, and_true] at e
  omega).1
theorem fl_fo {i j : Nat} (h : i ≤ j) : fo (fs j).pr ((fs j).oip, (fs j).op) (fl i) = none := fo_no fun x hx e => by
  obtain ⟨t, ht, rfl⟩ := fl_mem hx
  simp only [fs, Prod.mk.injEq, true_and] at e
  omega
theorem fl_ins (i : Nat) : ins (fs i) (fl i) = fl (i + 1) := by
  rw [ins_at (k := i) (by rw [fl_length]; exact Nat.le_refl _) ?_ fun h => by rw [fl_length] at h; omega]
  · rw [fl_next, List.take_of_length_le (by rw [fl_length]; exact Nat.le_refl _), List.drop_eq_nil_of_le (by rw [fl_length]; exact Nat.le_refl _)]
  · intro x hx
    obtain ⟨t, ht, rfl⟩ := fl_mem (List.mem_of_mem_take hx)
    refine Or.inr ⟨rfl, Or.inl ?_⟩
    show (t : Int) < i
    omega
/-- One more of them: there is room; there is none. -/
theorem fl_room {i m : Nat} (h : i < m) : ac (fs i) m (fl i) = 0 ∧ ax (fs i) m (fl i) = fl (i + 1) := by
  obtain ⟨e1, e2⟩ := ac_fits (s := fs i) (most := m) (xs := fl i) (by rw [fl_fk (Nat.le_refl _)]; rfl) (by rw [fl_fo (Nat.le_refl _)]; rfl) (by rw [fl_length]; omega)
  exact ⟨e1, by rw [e2, fl_ins]⟩
theorem fl_full {i m : Nat} (h : m ≤ i) : ac (fs i) m (fl m) = 130 ∧ ax (fs i) m (fl m) = fl m :=
  ac_full (by rw [fl_fk h]; rfl) (by rw [fl_fo h]; rfl) (by rw [fl_length]; exact Int.le_refl _)
/-- One goes, another comes. -/
def fz : Sn := ⟨0, 0, 0, 99, 0, 0, [], 0, 0⟩
theorem fl_goes {j m : Nat} (h : j < m) : (fk (6, (j : Int), 0) (fl m)).isSome = true :=
  fk_yes ⟨fs j, List.mem_map.2 ⟨j, List.mem_range.2 h, rfl⟩, rfl⟩
theorem fl_comes {j m : Nat} (h : j < m) : ac fz m (dk (6, (j : Int), 0) (fl m)) = 0 ∧ (ax fz m (dk (6, (j : Int), 0) (fl m))).length = m := by
  have hl := dk_len (fl_goes h)
  rw [fl_length] at hl
  obtain ⟨e1, e2⟩ := ac_fits (s := fz) (most := m) (xs := dk (6, (j : Int), 0) (fl m)) (by
    rw [(dk_no fun x hx => by
      obtain ⟨t, ht, rfl⟩ := fl_mem (dk_mem hx)
      intro e
      simp [key, fs, fz] at e).1]
    rfl) (by
    rw [fo_no fun x hx e => by
      obtain ⟨t, ht, rfl⟩ := fl_mem (dk_mem hx)
      simp [fs, fz] at e]
    rfl) (by omega)
  exact ⟨e1, by rw [e2, ins_len]; exact hl⟩
theorem fs_in {j : Nat} (h : j < 50) : SIn (fs j) := by
  refine ⟨⟨⟨by show (0:Int) ≤ 6; omega, by show (6:Int) ≤ 255; omega⟩, ⟨by show (0:Int) ≤ j; omega, by show (j:Int) ≤ 4294967295; omega⟩, ⟨by show (0:Int) ≤ 0; omega, by show (0:Int) ≤ 65535; omega⟩⟩, ⟨⟨by show (0:Int) ≤ 9; omega, by show (9:Int) ≤ 4294967295; omega⟩, ⟨by show (0:Int) ≤ j; omega, by show (j:Int) ≤ 65535; omega⟩⟩, ⟨by show (0:Int) ≤ 0; omega, by show (0:Int) ≤ 4294967295; omega⟩, fun q hq => by simp [fs] at hq, ⟨by show (-9223372036854775808:Int) ≤ 0; omega, by show (0:Int) ≤ 9223372036854775807; omega⟩, ⟨by show (0:Int) ≤ 0; omega, by show (0:Int) ≤ 4294967295; omega⟩⟩
theorem fz_in : SIn fz := by simp [SIn, KIn, PIn, fz, key]
end Ss
end Go.Proofs.Ytgeeijinhneoiaa
