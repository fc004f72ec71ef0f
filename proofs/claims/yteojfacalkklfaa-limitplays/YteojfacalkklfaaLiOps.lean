/-
  Tokens: the program's bucket and the document's: what each call makes of its box of three numbers.
-/
import Derived.Test.YteojfacalkklfaaKit
import Derived.Lib.MinMax
import Derived.BigRegion
namespace Go.Proofs.Yteojfacalkklfaa
open Go.RowKit
open Sm
set_option linter.unusedVariables false
set_option linter.unusedSimpArgs false
set_option maxRecDepth 20000

namespace Li
/-- A box of three numbers: so many more at each tick, so many at most, so many now. -/
abbrev Bk (T : TypeId) (p : Nat) (r b l : Int) : Nat × Obj := (p, .cells #[.int .u32 r, .int .u32 b, .int .u32 l] T (0, 0))
def U (x : Int) : Prop := 0 ≤ x ∧ x ≤ 4294967295
/-- What is left behind n taken; behind a tick. -/
def lef (l n : Int) : Int := if n ≤ l then l - n else l
def tik (r b l : Int) : Int := if l + r ≤ b then l + r else b
def sml (l b : Int) : Int := if l ≤ b then l else b
section
variable {w V : World} {p : Nat} {r b l : Int} {L : List (Nat × Obj)}
theorem new_any (r b : Int) (W : World) : Calls Try.prog 7 #[.int .u32 r, .int .u32 b] W fun e W' => ∃ p, e = .returned (.pointer (some ⟨p, 0, none⟩)) ∧ Mem W W' [Bk 43 p r b b] := by
  obtain ⟨g, hg⟩ : ∃ g, W.heap.size = g := ⟨_, rfl⟩
  have HM : Hid (Mem W (W.alloc (.cells #[.int .u32 r, .int .u32 b, .int .u32 b] 43)) [Bk 43 g r b b]) := (Mem.nil W).push1 hg.symm
  go_enter Try.func7, Try.ntmps7
  go_wp2_with fail
  go_ret
  exact ⟨g, rfl, HM.out⟩
theorem level_any (hM : Mem w V (Bk 43 p r b l :: L)) : Calls Try.prog 14 #[.pointer (some ⟨p, 0, none⟩)] V fun e V' => e = .returned (.int .u32 l) ∧ V = V' := by
  have c2 : V.cell? ⟨p, 2, none⟩ = some (.int .u32 l) := hM.cell 0 rfl 2
  clear hM
  go_enter Try.func14, Try.ntmps14
  go_wp2_with fail
  go_ret
  exact ⟨rfl, rfl⟩
theorem take_any (hM : Mem w V (Bk 43 p r b l :: L)) (hl : U l) (n : Int) (hn : U n) : Calls Try.prog 8 #[.pointer (some ⟨p, 0, none⟩), .int .u32 n] V fun e V' => e = .returned (.bool (decide (n ≤ l))) ∧ Mem w V' (Bk 43 p r b (lef l n) :: L) := by
  have c2 : V.cell? ⟨p, 2, none⟩ = some (.int .u32 l) := hM.cell 0 rfl 2
  have f2 : V.frozen? ⟨p, 2, none⟩ = false := hM.free 0 rfl 2
  unfold U at hl hn
  unfold lef
  by_cases h : n ≤ l
  · have h1 : ¬ (l < n) := by omega
    have w1 : IntKind.u32.wrap (l - n) = l - n := by rw [IntKind.wrap_u32]; omega
    have HM : Hid (Mem w (V.setCell ⟨p, 2, none⟩ (.int .u32 (l - n))) (Bk 43 p r b (l - n) :: L)) := hM.set 0 rfl 2 (.int .u32 (l - n))
    rw [if_pos h, decide_eq_true h]
    clear hM
    go_enter Try.func8, Try.ntmps8
    go_wp2_with fail
    go_ret
    exact ⟨rfl, HM.out⟩
  · have h1 : l < n := by omega
    have HM : Hid (Mem w V (Bk 43 p r b l :: L)) := hM
    rw [if_neg h, decide_eq_false h]
    clear hM
    go_enter Try.func8, Try.ntmps8
    go_wp2_with fail
    go_ret
    exact ⟨rfl, HM.out⟩
set_option maxHeartbeats 4000000 in
theorem tick_any (hM : Mem w V (Bk 43 p r b l :: L)) (hr : U r) (hb : U b) (hl : 0 ≤ l ∧ l ≤ b) : Calls Try.prog 10 #[.pointer (some ⟨p, 0, none⟩)] V fun e V' => e = .returned (.tuple #[]) ∧ Mem w V' (Bk 43 p r b (tik r b l) :: L) := by
  have c0 : V.cell? ⟨p, 0, none⟩ = some (.int .u32 r) := hM.cell 0 rfl 0
  have c1 : V.cell? ⟨p, 1, none⟩ = some (.int .u32 b) := hM.cell 0 rfl 1
  have c2 : V.cell? ⟨p, 2, none⟩ = some (.int .u32 l) := hM.cell 0 rfl 2
  have f2 : V.frozen? ⟨p, 2, none⟩ = false := hM.free 0 rfl 2
  unfold U at hr hb
  have w1 : IntKind.u32.wrap (b - l) = b - l := by rw [IntKind.wrap_u32]; omega
  have w2 : IntKind.u32.wrap (l + min r (b - l)) = tik r b l := by
    unfold tik
    rw [IntKind.wrap_u32, Int.min_def]
    split <;> split <;> omega
  have HM : Hid (Mem w (V.setCell ⟨p, 2, none⟩ (.int .u32 (tik r b l))) (Bk 43 p r b (tik r b l) :: L)) := hM.set 0 rfl 2 (.int .u32 (tik r b l))
  clear hM
  generalize tik r b l = t at *
  go_enter Try.func10, Try.ntmps10
  go_wp2_with fail
  go_region
  all_goals
  go_wp2_with fail
  exact bodyPost_end (v := .tuple #[]) (by simp [results, Try.results10, go_sem]) rfl ⟨rfl, HM.out.drew⟩
theorem set_any (hM : Mem w V (Bk 43 p r b l :: L)) (r' b' : Int) : Calls Try.prog 12 #[.pointer (some ⟨p, 0, none⟩), .int .u32 r', .int .u32 b'] V fun e V' => e = .returned (.tuple #[]) ∧ Mem w V' (Bk 43 p r' b' (sml l b') :: L) := by
  have c0 : V.cell? ⟨p, 0, none⟩ = some (.int .u32 r) := hM.cell 0 rfl 0
  have c1 : V.cell? ⟨p, 1, none⟩ = some (.int .u32 b) := hM.cell 0 rfl 1
  have c2 : V.cell? ⟨p, 2, none⟩ = some (.int .u32 l) := hM.cell 0 rfl 2
  have f0 : V.frozen? ⟨p, 0, none⟩ = false := hM.free 0 rfl 0
  have hM0 : Mem w (V.setCell ⟨p, 0, none⟩ (.int .u32 r')) (Bk 43 p r' b l :: L) := hM.set 0 rfl 0 (.int .u32 r')
  have d1 : (V.setCell ⟨p, 0, none⟩ (.int .u32 r')).cell? ⟨p, 1, none⟩ = some (.int .u32 b) := hM0.cell 0 rfl 1
  have f1 : (V.setCell ⟨p, 0, none⟩ (.int .u32 r')).frozen? ⟨p, 1, none⟩ = false := hM0.free 0 rfl 1
  have hM1 : Mem w ((V.setCell ⟨p, 0, none⟩ (.int .u32 r')).setCell ⟨p, 1, none⟩ (.int .u32 b')) (Bk 43 p r' b' l :: L) := hM0.set 0 rfl 1 (.int .u32 b')
  have d2 : ((V.setCell ⟨p, 0, none⟩ (.int .u32 r')).setCell ⟨p, 1, none⟩ (.int .u32 b')).cell? ⟨p, 2, none⟩ = some (.int .u32 l) := hM1.cell 0 rfl 2
  have f2 : ((V.setCell ⟨p, 0, none⟩ (.int .u32 r')).setCell ⟨p, 1, none⟩ (.int .u32 b')).frozen? ⟨p, 2, none⟩ = false := hM1.free 0 rfl 2
  have e1 : min l b' = sml l b' := Int.min_def ..
  have HM : Hid (Mem w (((V.setCell ⟨p, 0, none⟩ (.int .u32 r')).setCell ⟨p, 1, none⟩ (.int .u32 b')).setCell ⟨p, 2, none⟩ (.int .u32 (sml l b'))) (Bk 43 p r' b' (sml l b') :: L)) := hM1.set 0 rfl 2 (.int .u32 (sml l b'))
  clear hM hM0 hM1
  generalize sml l b' = t at *
  go_enter Try.func12, Try.ntmps12
  go_wp2_with fail
  exact bodyPost_end (v := .tuple #[]) (by simp [results, Try.results12, go_sem]) rfl ⟨rfl, HM.out⟩
/-! ### The document's own. -/
theorem rtake_any (hM : Mem w V (Bk 29 p r b l :: L)) (hl : U l) (n : Int) (hn : U n) : Calls Try.prog 9 #[.pointer (some ⟨p, 0, none⟩), .int .u32 n] V fun e V' => e = .returned (.bool (decide (n ≤ l))) ∧ Mem w V' (Bk 29 p r b (lef l n) :: L) := by
  have c2 : V.cell? ⟨p, 2, none⟩ = some (.int .u32 l) := hM.cell 0 rfl 2
  have f2 : V.frozen? ⟨p, 2, none⟩ = false := hM.free 0 rfl 2
  unfold U at hl hn
  unfold lef
  by_cases h : n ≤ l
  · have h1 : ¬ (l < n) := by omega
    have w1 : IntKind.u32.wrap (l - n) = l - n := by rw [IntKind.wrap_u32]; omega
    have HM : Hid (Mem w (V.setCell ⟨p, 2, none⟩ (.int .u32 (l - n))) (Bk 29 p r b (l - n) :: L)) := hM.set 0 rfl 2 (.int .u32 (l - n))
    rw [if_pos h, decide_eq_true h]
    clear hM
    go_enter Try.func9, Try.ntmps9
    go_wp2_with fail
    go_ret
    exact ⟨rfl, HM.out⟩
  · have h1 : l < n := by omega
    have HM : Hid (Mem w V (Bk 29 p r b l :: L)) := hM
    rw [if_neg h, decide_eq_false h]
    clear hM
    go_enter Try.func9, Try.ntmps9
    go_wp2_with fail
    go_ret
    exact ⟨rfl, HM.out⟩
set_option maxHeartbeats 4000000 in
theorem rtick_any (hM : Mem w V (Bk 29 p r b l :: L)) (hr : U r) (hb : U b) (hl : U l) : Calls Try.prog 11 #[.pointer (some ⟨p, 0, none⟩)] V fun e V' => e = .returned (.tuple #[]) ∧ Mem w V' (Bk 29 p r b (tik r b l) :: L) := by
  have c0 : V.cell? ⟨p, 0, none⟩ = some (.int .u32 r) := hM.cell 0 rfl 0
  have c1 : V.cell? ⟨p, 1, none⟩ = some (.int .u32 b) := hM.cell 0 rfl 1
  have c2 : V.cell? ⟨p, 2, none⟩ = some (.int .u32 l) := hM.cell 0 rfl 2
  have f2 : V.frozen? ⟨p, 2, none⟩ = false := hM.free 0 rfl 2
  unfold U at hr hb hl
  have v1 : IntKind.u64.wrap r = r := by rw [IntKind.wrap_u64]; omega
  have v2 : IntKind.u64.wrap b = b := by rw [IntKind.wrap_u64]; omega
  have v3 : IntKind.u64.wrap l = l := by rw [IntKind.wrap_u64]; omega
  have w1 : IntKind.u64.wrap (l + r) = l + r := by rw [IntKind.wrap_u64]; omega
  have w2 : IntKind.u32.wrap (min (l + r) b) = tik r b l := by
    unfold tik
    rw [IntKind.wrap_u32, Int.min_def]
    split <;> omega
  have HM : Hid (Mem w (V.setCell ⟨p, 2, none⟩ (.int .u32 (tik r b l))) (Bk 29 p r b (tik r b l) :: L)) := hM.set 0 rfl 2 (.int .u32 (tik r b l))
  clear hM
  generalize tik r b l = t at *
  go_enter Try.func11, Try.ntmps11
  go_wp2_with fail
  go_region
  all_goals
  go_wp2_with fail
  exact bodyPost_end (v := .tuple #[]) (by simp [results, Try.results11, go_sem]) rfl ⟨rfl, HM.out.drew⟩
theorem rset_any (hM : Mem w V (Bk 29 p r b l :: L)) (r' b' : Int) : Calls Try.prog 13 #[.pointer (some ⟨p, 0, none⟩), .int .u32 r', .int .u32 b'] V fun e V' => e = .returned (.tuple #[]) ∧ Mem w V' (Bk 29 p r' b' (sml l b') :: L) := by
  have c0 : V.cell? ⟨p, 0, none⟩ = some (.int .u32 r) := hM.cell 0 rfl 0
  have c1 : V.cell? ⟨p, 1, none⟩ = some (.int .u32 b) := hM.cell 0 rfl 1
  have c2 : V.cell? ⟨p, 2, none⟩ = some (.int .u32 l) := hM.cell 0 rfl 2
  have f0 : V.frozen? ⟨p, 0, none⟩ = false := hM.free 0 rfl 0
  have hM0 : Mem w (V.setCell ⟨p, 0, none⟩ (.int .u32 r')) (Bk 29 p r' b l :: L) := hM.set 0 rfl 0 (.int .u32 r')
  have d1 : (V.setCell ⟨p, 0, none⟩ (.int .u32 r')).cell? ⟨p, 1, none⟩ = some (.int .u32 b) := hM0.cell 0 rfl 1
  have f1 : (V.setCell ⟨p, 0, none⟩ (.int .u32 r')).frozen? ⟨p, 1, none⟩ = false := hM0.free 0 rfl 1
  have hM1 : Mem w ((V.setCell ⟨p, 0, none⟩ (.int .u32 r')).setCell ⟨p, 1, none⟩ (.int .u32 b')) (Bk 29 p r' b' l :: L) := hM0.set 0 rfl 1 (.int .u32 b')
  have d2 : ((V.setCell ⟨p, 0, none⟩ (.int .u32 r')).setCell ⟨p, 1, none⟩ (.int .u32 b')).cell? ⟨p, 2, none⟩ = some (.int .u32 l) := hM1.cell 0 rfl 2
  have f2 : ((V.setCell ⟨p, 0, none⟩ (.int .u32 r')).setCell ⟨p, 1, none⟩ (.int .u32 b')).frozen? ⟨p, 2, none⟩ = false := hM1.free 0 rfl 2
  have e1 : min l b' = sml l b' := Int.min_def ..
  have HM : Hid (Mem w (((V.setCell ⟨p, 0, none⟩ (.int .u32 r')).setCell ⟨p, 1, none⟩ (.int .u32 b')).setCell ⟨p, 2, none⟩ (.int .u32 (sml l b'))) (Bk 29 p r' b' (sml l b') :: L)) := hM1.set 0 rfl 2 (.int .u32 (sml l b'))
  clear hM hM0 hM1
  generalize sml l b' = t at *
  go_enter Try.func13, Try.ntmps13
  go_wp2_with fail
  exact bodyPost_end (v := .tuple #[]) (by simp [results, Try.results13, go_sem]) rfl ⟨rfl, HM.out⟩
end
end Li
end Go.Proofs.Yteojfacalkklfaa
