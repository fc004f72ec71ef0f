/-
  Sessions: SessPlays' own helpers: whether a script is light; a place in a list.
-/
import Derived.Test.YtgeeijinhneoiaaSsOpen
import Derived.Test.YtgeeijinhneoiaaSsFd
namespace Go.Proofs.Ytgeeijinhneoiaa
open Go.RowKit
open Sm
open Po
open Wh
set_option linter.unusedVariables false
set_option linter.unusedSimpArgs false
set_option maxRecDepth 20000

namespace Ss
def LiQ (W : World) (n : Nat) (X : Nat → A19) (e : Ending) (W' : World) : Prop := ∃ r : Bool, e = .returned (.bool r) ∧ W = W' ∧ (r = true → n ≤ 60 ∧ ∀ j, j < n → (X j).s.ps.length ≤ 20)
set_option maxHeartbeats 4000000 in
theorem light19_any {W : World} {a : Option Addr} {n cap : Nat} {X : Nat → A19} (h : Acts19 W a n X) :
    Calls Try.prog 10 #[.slice a n cap] W (LiQ W n X) := by
  have HX : Hid (∀ i, i < n → ∃ b off pa pc, a = some ⟨b, off, none⟩ ∧ W.cell? ⟨b, off + i * 13 + 7, none⟩ = some (.slice pa (X i).s.ps.length pc)) := by
    intro i hi
    obtain ⟨hw, b, off, pv, e, hp, hc⟩ := h i hi
    obtain ⟨pa, pc, rfl, -⟩ := pr_at hp
    exact ⟨b, off, pa, pc, e, hc 7 _ rfl⟩
  clear h
  have H0 : Hid (∀ i, i < 0 → (X i).s.ps.length ≤ 20) := fun i hi => absurd hi (by omega)
  go_enter Try.func10, Try.ntmps10
  go_wp2_with fail
  go_loopw [3] (fun u3 w' => ∃ i : Nat, i ≤ n ∧ i ≤ 60 ∧ u3 = .int .i64 i ∧ W = w' ∧ Hid (∀ j, j < i → (X j).s.ps.length ≤ 20)) (fun u3 w' => n - (intOf u3).toNat)
  case atStart => exact ⟨0, Nat.zero_le _, Nat.zero_le _, rfl, rfl, H0.out⟩
  case round =>
    obtain ⟨i, hi, hi2, rfl, rfl, HR⟩ := hrel
    clear H0
    by_cases h1 : i < n
    · have h1' : (i : Int) < n := by omega
      by_cases h2 : i < 60
      · have h2' : (i : Int) < 60 := by omega
        obtain ⟨b, off, pa, pc, rfl, c2⟩ := HX.out i h1
        by_cases h3 : (20 : Int) < ((X i).s.ps.length : Int)
        · clear HX HR
          go_wp2_with fail
          go_ret
          exact ⟨false, rfl, rfl, nofun⟩
        · have HN : Hid (∀ j, j < i + 1 → (X j).s.ps.length ≤ 20) := fun j hj => by
            by_cases e : j = i
            · subst e; omega
            · exact HR.out j (by omega)
          clear HX HR
          go_wp2_with fail
          go_roundw
          case rel => exact ⟨i + 1, by omega, by omega, by go_num, (by first | rfl | trivial), HN.out⟩
          case measure => simp [intOf]; omega
      · have h2' : ¬ ((i : Int) < 60) := by omega
        have h4 : ¬ ((n : Int) ≤ 60) := by omega
        clear HX HR
        go_wp2_with fail
        go_ret
        exact ⟨false, rfl, rfl, nofun⟩
    · have h1' : ¬ ((i : Int) < n) := by omega
      have h4 : (n : Int) ≤ 60 := by omega
      have HN : Hid (n ≤ 60 ∧ ∀ j, j < n → (X j).s.ps.length ≤ 20) := ⟨by omega, fun j hj => HR.out j (by omega)⟩
      clear HX HR
      go_wp2_with fail
      go_ret
      exact ⟨true, rfl, rfl, fun _ => HN.out⟩
/-- A place in a list of n. -/
def plc (k : Int) (n : Nat) : Nat := (if Int.tmod k n < 0 then Int.tmod k n + n else Int.tmod k n).toNat
theorem plc_lt (k : Int) {n : Nat} (hn : 0 < n) : plc k n < n := by
  have hlt : Int.tmod k n < n := Int.tmod_lt_of_pos k (by omega)
  have hgt : - (n : Int) < Int.tmod k n := Int.lt_tmod_of_pos k (by omega)
  unfold plc
  split <;> omega
theorem place19_any {W : World} (k : Int) (n : Nat) (hk : -9223372036854775808 ≤ k ∧ k ≤ 9223372036854775807) (hn : 0 < n) (hn2 : n ≤ 2000) :
    Calls Try.prog 12 #[.int .i64 k, .int .i64 n] W fun e W' => e = .returned (.int .i64 (plc k n)) ∧ W = W' := by
  have z : ¬ ((n : Int) = 0) := by omega
  have hlt : Int.tmod k n < n := Int.tmod_lt_of_pos k (by omega)
  have hgt : - (n : Int) < Int.tmod k n := Int.lt_tmod_of_pos k (by omega)
  obtain ⟨q, hq⟩ : ∃ q, Int.tmod k n = q := ⟨_, rfl⟩
  have hp : ((plc k n : Nat) : Int) = if q < 0 then q + n else q := by unfold plc; rw [hq] at hlt hgt ⊢; split <;> omega
  rw [hq] at hlt hgt
  have w1 : IntKind.i64.wrap q = q := by rw [IntKind.wrap_i64]; omega
  have w2 : IntKind.i64.wrap (q + n) = q + n := by rw [IntKind.wrap_i64]; omega
  by_cases h : q < 0
  · have HN : Hid (((plc k n : Nat) : Int) = q + n) := by show _ = _; rw [hp, if_pos h]
    clear hp
    go_enter Try.func12, Try.ntmps12
    go_wp2_with fail
    go_ret
    exact ⟨by rw [HN.out]; rfl, rfl⟩
  · have HN : Hid (((plc k n : Nat) : Int) = q) := by show _ = _; rw [hp, if_neg h]
    clear hp
    go_enter Try.func12, Try.ntmps12
    go_wp2_with fail
    go_ret
    exact ⟨by rw [HN.out]; rfl, rfl⟩
end Ss
end Go.Proofs.Ytgeeijinhneoiaa
