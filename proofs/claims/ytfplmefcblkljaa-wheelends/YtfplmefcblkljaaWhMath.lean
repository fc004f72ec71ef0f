/-
  Wheel: what is due when, as a list in order.
-/
import Derived.Test.YtfplmefcblkljaaWhKit
namespace Go.Proofs.Ytfplmefcblkljaa
open Go.RowKit
open Sm
open Po
open Wh
set_option linter.unusedVariables false
set_option linter.unusedSimpArgs false
set_option maxRecDepth 20000

namespace Wh
abbrev Du := Int × Int
def dc (d : Du) : List Value := [.int .i64 d.1, .int .u32 d.2]
def dx (l : List Du) : List (List Value) := l.map dc
theorem dx_len {l : List Du} : ∀ x ∈ dx l, x.length = 2 := by
  intro x hx
  obtain ⟨d, -, rfl⟩ := List.mem_map.1 hx
  rfl
theorem dx_size (l : List Du) : (dx l).length = l.length := by simp [dx]
theorem df_len : ∀ (xs : List Du), (dx xs).flatten.length = xs.length * 2
  | [] => rfl
  | x :: xs => by
    have := df_len xs
    show (dc x ++ (dx xs).flatten).length = _
    rw [List.length_append, this, List.length_cons]
    show 2 + _ = _
    omega
theorem df_drop : ∀ (xs : List Du) (k : Nat), (dx (xs.drop k)).flatten = (dx xs).flatten.drop (k * 2)
  | xs, 0 => by simp
  | [], k + 1 => by simp [dx]
  | x :: xs, k + 1 => by
    rw [List.drop_succ_cons, df_drop xs k]
    show _ = (dc x ++ (dx xs).flatten).drop _
    have e1 : (dc x).drop ((k + 1) * 2) = [] := List.drop_eq_nil_of_le (by show 2 ≤ _; omega)
    rw [List.drop_append, e1, List.nil_append, show (dc x).length = 2 from rfl, show (k + 1) * 2 - 2 = k * 2 by omega]
theorem df_take : ∀ (xs : List Du) (k : Nat), (dx (xs.take k)).flatten = (dx xs).flatten.take (k * 2)
  | xs, 0 => by simp [dx]
  | [], k + 1 => by simp [dx]
  | x :: xs, k + 1 => by
    rw [List.take_succ_cons]
    show dc x ++ (dx (xs.take k)).flatten = (dc x ++ (dx xs).flatten).take _
    have e1 : (dc x).take ((k + 1) * 2) = dc x := List.take_of_length_le (by show 2 ≤ _; omega)
    rw [df_take xs k, List.take_append, e1, show (dc x).length = 2 from rfl, show (k + 1) * 2 - 2 = k * 2 by omega]
theorem df_app (xs ys : List Du) : (dx (xs ++ ys)).flatten = (dx xs).flatten ++ (dx ys).flatten := by simp [dx]
theorem df_at {xs : List Du} {i : Nat} (hi : i < xs.length) : (dx xs).flatten[i * 2]? = some (.int .i64 xs[i].1) ∧ (dx xs).flatten[i * 2 + 1]? = some (.int .u32 xs[i].2) := by
  have e : (dx xs).getD i [] = dc xs[i] := by simp [dx, List.getD, List.getElem?_eq_getElem hi]
  have h0 := flat_at (dx xs) i 0 (.int .i64 xs[i].1) dx_len (by rw [e]; rfl)
  have h1 := flat_at (dx xs) i 1 (.int .u32 xs[i].2) dx_len (by rw [e]; rfl)
  exact ⟨h0, h1⟩
theorem dx_one {xs : List Du} : ∀ u ∈ (dx xs).flatten, u.oneCell' = true := by
  intro u hu
  rw [List.mem_flatten] at hu
  obtain ⟨l, hl, hu⟩ := hu
  obtain ⟨m, -, rfl⟩ := List.mem_map.1 hl
  simp only [dc, List.mem_cons, List.not_mem_nil, or_false] at hu
  rcases hu with rfl | rfl <;> rfl
/-- When a number is due. -/
def wat (id : Int) : List Du → Option Int
  | [] => none
  | d :: r => if d.1 = id then some d.2 else wat id r
def wdel (id : Int) : List Du → List Du
  | [] => []
  | d :: r => if d.1 = id then r else d :: wdel id r
def dlt (a b : Du) : Prop := a.2 < b.2 ∨ (a.2 = b.2 ∧ a.1 < b.1)
instance (a b : Du) : Decidable (dlt a b) := by unfold dlt; infer_instance
def wins (d : Du) : List Du → List Du
  | [] => [d]
  | e :: r => if dlt e d then e :: wins d r else d :: e :: r
def wset (l : List Du) (id t : Int) : List Du := wins (id, t) (wdel id l)
/-- What is told at a tick, and what is left. -/
def wout (now : Int) : List Du → List Int
  | [] => []
  | d :: r => if d.2 ≤ now then d.1 :: wout now r else []
def wrest (now : Int) : List Du → List Du
  | [] => []
  | d :: r => if d.2 ≤ now then wrest now r else d :: r
theorem wat_at {id : Int} : ∀ {xs : List Du} {i : Nat} (hi : i < xs.length), (∀ d ∈ xs.take i, d.1 ≠ id) → xs[i].1 = id → wat id xs = some xs[i].2 ∧ wdel id xs = xs.take i ++ xs.drop (i + 1)
  | d :: r, 0, _, _, h => by
    have h' : d.1 = id := h
    simp [wat, wdel, h']
  | d :: r, i + 1, hi, hn, h => by
    have h0 : d.1 ≠ id := hn d (by simp)
    obtain ⟨h1, h2⟩ := wat_at (id := id) (xs := r) (i := i) (by simpa using hi) (fun e he => hn e (by simp [he])) h
    simp [wat, wdel, h0, h1, h2]
theorem wat_no {id : Int} : ∀ {xs : List Du}, (∀ d ∈ xs, d.1 ≠ id) → wat id xs = none ∧ wdel id xs = xs
  | [], _ => ⟨rfl, rfl⟩
  | d :: r, hn => by
    have h0 : d.1 ≠ id := hn d (by simp)
    obtain ⟨h1, h2⟩ := wat_no (id := id) (xs := r) fun e he => hn e (by simp [he])
    simp [wat, wdel, h0, h1, h2]
theorem wdel_le (id : Int) : ∀ xs : List Du, (wdel id xs).length ≤ xs.length
  | [] => Nat.le_refl _
  | d :: r => by
    unfold wdel
    split
    · simp
    · have := wdel_le id r
      simp only [List.length_cons]
      omega
theorem wins_len (d : Du) : ∀ xs : List Du, (wins d xs).length = xs.length + 1
  | [] => rfl
  | e :: r => by
    unfold wins
    split
    · simp only [List.length_cons, wins_len d r]
    · rfl
theorem wset_le (xs : List Du) (id t : Int) : (wset xs id t).length ≤ xs.length + 1 := by
  unfold wset
  rw [wins_len]
  have := wdel_le id xs
  omega
theorem wins_at {d : Du} : ∀ {xs : List Du} {k : Nat}, k ≤ xs.length → (∀ e ∈ xs.take k, dlt e d) → (∀ (h : k < xs.length), ¬ dlt xs[k] d) → wins d xs = xs.take k ++ d :: xs.drop k
  | [], 0, _, _, _ => rfl
  | e :: r, 0, _, _, h => by
    have h0 : ¬ dlt e d := h (by simp)
    simp [wins, h0]
  | e :: r, k + 1, hk, h1, h2 => by
    have h0 : dlt e d := h1 e (by simp)
    have := wins_at (d := d) (xs := r) (k := k) (by simpa using hk) (fun x hx => h1 x (by simp [hx])) (fun h => h2 (by simpa using h))
    simp [wins, h0, this]
theorem wrest_len (now : Int) : ∀ xs : List Du, (wrest now xs).length ≤ xs.length
  | [] => Nat.le_refl _
  | d :: r => by
    unfold wrest
    split
    · have := wrest_len now r
      simp only [List.length_cons]
      omega
    · exact Nat.le_refl _
theorem wout_len (now : Int) : ∀ xs : List Du, (wout now xs).length ≤ xs.length
  | [] => Nat.le_refl _
  | d :: r => by
    unfold wout
    split
    · have := wout_len now r
      simp only [List.length_cons]
      omega
    · simp
end Wh
end Go.Proofs.Ytfplmefcblkljaa
