/-
  Ports: acts of a script; which scripts are asked; a place in a list.
-/
import Derived.Test.YtkbjiackjefkkaaDoorPoFace
namespace Go.Proofs.YtkbjiackjefkkaaDoor
open Go.RowKit
open Sm
open Po
set_option linter.unusedVariables false
set_option linter.unusedSimpArgs false
set_option maxRecDepth 20000

namespace Po
/-- An act: its numbers, its pool as a list and as the slice that it is. -/
structure A17 where
  what : Int
  pr : Int
  pool : List Int
  pv : Value
  lo : Int
  hi : Int
  want : Int
  ip : Int
  port : Int
  k : Int
def ac (x : A17) : List Value := [.int .i64 x.what, .int .u8 x.pr, x.pv, .int .u16 x.lo, .int .u16 x.hi, .int .u16 x.want, .int .u32 x.ip, .int .u16 x.port, .int .i64 x.k]
structure A17W (w : World) (x : A17) : Prop where
  pr : 0 ≤ x.pr ∧ x.pr ≤ 255
  lo : 0 ≤ x.lo ∧ x.lo ≤ 65535
  hi : 0 ≤ x.hi ∧ x.hi ≤ 65535
  want : 0 ≤ x.want ∧ x.want ≤ 65535
  ip : 0 ≤ x.ip ∧ x.ip ≤ 4294967295
  port : 0 ≤ x.port ∧ x.port ≤ 65535
  k : -9223372036854775808 ≤ x.k ∧ x.k ≤ 9223372036854775807
  row : Rw w 1 x.pv (ux x.pool)
  few : ∀ y ∈ x.pool, 0 ≤ y ∧ y ≤ 4294967295
/-- Acts in a slice. -/
def ActsV (W : World) (a : Option Addr) (n : Nat) (X : Nat → A17) : Prop :=
  ∀ i, i < n → A17W W (X i) ∧ ∃ b off, a = some ⟨b, off, none⟩ ∧ ∀ j u, (ac (X i))[j]? = some u → W.cell? ⟨b, off + i * 9 + j, none⟩ = some u
theorem ActsV.at_ {W V : World} {a : Option Addr} {n : Nat} {X : Nat → A17} (h : ActsV W a n X) (hb : Below W.heap.size W V) : ActsV V a n X := by
  intro i hi
  obtain ⟨hx, b, off, e, hc⟩ := h i hi
  refine ⟨{ hx with row := hx.row.below (fun x hx => by simp only [ux, List.mem_map] at hx; obtain ⟨y, -, rfl⟩ := hx; simp) hb (Nat.le_refl _) }, b, off, e, fun j u hj => ?_⟩
  have := hc j u hj
  rw [hb.cell (p := ⟨b, off + i * 9 + j, none⟩) (cell_lt this)]
  exact this
theorem A17W.slice {w : World} {x : A17} (h : A17W w x) : ∃ a c, x.pv = .slice a x.pool.length c := by
  obtain ⟨a, c, e, -⟩ := h.row
  have : (ux x.pool).length = x.pool.length := by simp [ux]
  rw [this] at e
  exact ⟨a, c, e⟩
/-- What the look at a script answers. -/
def LiQ (W : World) (n : Nat) (X : Nat → A17) (e : Ending) (W' : World) : Prop := ∃ b : Bool, e = .returned (.bool b) ∧ W = W' ∧ (b = true → n ≤ 60 ∧ ∀ i, i < n → (X i).pool.length ≤ 10)
set_option maxHeartbeats 4000000 in
theorem light17_any {W : World} {a : Option Addr} {n cap : Nat} {X : Nat → A17} (h : ActsV W a n X) :
    Calls Tryd.prog 8 #[.slice a n cap] W (LiQ W n X) := by
  have HX : Hid (∀ i, i < n → ∃ b off pa pc, a = some ⟨b, off, none⟩ ∧ W.cell? ⟨b, off + i * 9 + 2, none⟩ = some (.slice pa (X i).pool.length pc)) := by
    intro i hi
    obtain ⟨hx, b, off, e, hc⟩ := h i hi
    obtain ⟨pa, pc, ep⟩ := hx.slice
    refine ⟨b, off, pa, pc, e, ?_⟩
    rw [← ep]
    exact hc 2 _ rfl
  clear h
  have H0 : Hid (∀ i, i < 0 → (X i).pool.length ≤ 10) := fun i hi => absurd hi (by omega)
  go_enter Tryd.func8, Tryd.ntmps8
  go_wp2_with fail
  go_loopw [3] (fun u3 w' => ∃ i : Nat, i ≤ n ∧ i ≤ 60 ∧ u3 = .int .i64 i ∧ W = w' ∧ Hid (∀ j, j < i → (X j).pool.length ≤ 10)) (fun u3 w' => n - (intOf u3).toNat)
  case atStart => exact ⟨0, Nat.zero_le _, Nat.zero_le _, rfl, rfl, H0.out⟩
  case round =>
    obtain ⟨i, hi, hi2, rfl, rfl, HR⟩ := hrel
    clear H0
    by_cases h1 : i < n
    · have h1' : (i : Int) < n := by omega
      by_cases h2 : i < 60
      · have h2' : (i : Int) < 60 := by omega
        obtain ⟨b, off, pa, pc, rfl, c2⟩ := HX.out i h1
        by_cases h3 : (10 : Int) < ((X i).pool.length : Int)
        · clear HX HR
          go_wp2_with fail
          go_ret
          exact ⟨false, rfl, rfl, nofun⟩
        · have HN : Hid (∀ j, j < i + 1 → (X j).pool.length ≤ 10) := fun j hj => by
            by_cases e : j = i
            · subst e; omega
            · exact HR.out j (by omega)
          clear HX HR
          go_wp2_with fail
          go_roundw
          case rel => exact ⟨i + 1, by omega, by omega, by go_num, (by first | rfl | trivial), HN.out⟩
          case measure => simp [intOf]; omega
      · have h2' : ¬ ((i : Int) < 60) := by omega
        have h4 : ¬ ((n : Int) ≤ 60) := by omega
        clear HX HR
        go_wp2_with fail
        go_ret
        exact ⟨false, rfl, rfl, nofun⟩
    · have h1' : ¬ ((i : Int) < n) := by omega
      have h4 : (n : Int) ≤ 60 := by omega
      have HN : Hid (n ≤ 60 ∧ ∀ j, j < n → (X j).pool.length ≤ 10) := ⟨by omega, fun j hj => HR.out j (by omega)⟩
      clear HX HR
      go_wp2_with fail
      go_ret
      exact ⟨true, rfl, rfl, fun _ => HN.out⟩
/-- A place in a list of n. -/
def plc (k : Int) (n : Nat) : Nat := (if Int.tmod k n < 0 then Int.tmod k n + n else Int.tmod k n).toNat
theorem plc_lt (k : Int) {n : Nat} (hn : 0 < n) : plc k n < n := by
  have hlt : Int.tmod k n < n := Int.tmod_lt_of_pos k (by omega)
  have hgt : - (n : Int) < Int.tmod k n := Int.lt_tmod_of_pos k (by omega)
  unfold plc
  split <;> omega
theorem place17_any {W : World} (k : Int) (n : Nat) (hk : -9223372036854775808 ≤ k ∧ k ≤ 9223372036854775807) (hn : 0 < n) (hn2 : n ≤ 1000) :
    Calls Tryd.prog 10 #[.int .i64 k, .int .i64 n] W fun e W' => e = .returned (.int .i64 (plc k n)) ∧ W = W' := by
  have z : ¬ ((n : Int) = 0) := by omega
  have hlt : Int.tmod k n < n := Int.tmod_lt_of_pos k (by omega)
  have hgt : - (n : Int) < Int.tmod k n := Int.lt_tmod_of_pos k (by omega)
  obtain ⟨q, hq⟩ : ∃ q, Int.tmod k n = q := ⟨_, rfl⟩
  have hp : ((plc k n : Nat) : Int) = if q < 0 then q + n else q := by unfold plc; rw [hq] at hlt hgt ⊢; split <;> omega
  rw [hq] at hlt hgt
  have w1 : IntKind.i64.wrap q = q := by rw [IntKind.wrap_i64]; omega
  have w2 : IntKind.i64.wrap (q + n) = q + n := by rw [IntKind.wrap_i64]; omega
  by_cases h : q < 0
  · have HN : Hid (((plc k n : Nat) : Int) = q + n) := by show _ = _; rw [hp, if_pos h]
    clear hp
    go_enter Tryd.func10, Tryd.ntmps10
    go_wp2_with fail
    go_ret
    exact ⟨by rw [HN.out]; rfl, rfl⟩
  · have HN : Hid (((plc k n : Nat) : Int) = q) := by show _ = _; rw [hp, if_neg h]
    clear hp
    go_enter Tryd.func10, Tryd.ntmps10
    go_wp2_with fail
    go_ret
    exact ⟨by rw [HN.out]; rfl, rfl⟩
end Po
end Go.Proofs.YtkbjiackjefkkaaDoor
