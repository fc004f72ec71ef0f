/-
  Wheel: the document's own: At.
-/
import Derived.Test.YtfplmefcblkljaaWhMath
namespace Go.Proofs.Ytfplmefcblkljaa
open Go.RowKit
open Sm
open Po
open Wh
set_option linter.unusedVariables false
set_option linter.unusedSimpArgs false
set_option maxRecDepth 20000

namespace Wh
/-- The document's box and its list: what is due, and now. -/
def RW (xs : List Du) (now : Int) (m : Nat) (B : List (Nat × Obj)) : Prop := ∃ v C, SlF 59 2 v xs.length (dx xs).flatten C ∧ B = (m, .cells #[v, .int .u32 now] 30 (0, 0)) :: C
theorem slf_cells {w V : World} {T : TypeId} {v : Value} {xs : List Du} {B L : List (Nat × Obj)} (h : SlF T 2 v xs.length (dx xs).flatten B) (hM : Mem w V (B ++ L)) :
    ∃ a cap, v = .slice a xs.length cap ∧ xs.length ≤ cap ∧ cap ≤ maxLen ∧ ∀ i (hi : i < xs.length), ∃ b off, a = some ⟨b, off, none⟩ ∧ V.cell? ⟨b, off + i * 2, none⟩ = some (.int .i64 xs[i].1) ∧ V.cell? ⟨b, off + i * 2 + 1, none⟩ = some (.int .u32 xs[i].2) := by
  obtain ⟨a, cap, e, h1, h2, -, h4⟩ := h.read hM
  refine ⟨a, cap, e, h1, h2, fun i hi => ?_⟩
  rcases h4 with h0 | ⟨b, off, rfl, hc⟩
  · omega
  · obtain ⟨c0, c1⟩ := df_at hi
    exact ⟨b, off, rfl, hc _ _ c0, by rw [Nat.add_assoc]; exact hc _ _ c1⟩
theorem RW.box {w V : World} {xs : List Du} {now : Int} {m : Nat} {B L : List (Nat × Obj)} (h : RW xs now m B) (hM : Mem w V (B ++ L)) :
    ∃ a cap, V.cell? ⟨m, 0, none⟩ = some (.slice a xs.length cap) ∧ V.cell? ⟨m, 1, none⟩ = some (.int .u32 now) ∧ xs.length ≤ cap ∧ cap ≤ maxLen ∧ ∀ i (hi : i < xs.length), ∃ b off, a = some ⟨b, off, none⟩ ∧ V.cell? ⟨b, off + i * 2, none⟩ = some (.int .i64 xs[i].1) ∧ V.cell? ⟨b, off + i * 2 + 1, none⟩ = some (.int .u32 xs[i].2) := by
  obtain ⟨v, C, hs, rfl⟩ := h
  have c0 : V.cell? ⟨m, 0, none⟩ = some v := hM.cell 0 rfl 0
  have c1 : V.cell? ⟨m, 1, none⟩ = some (.int .u32 now) := hM.cell 0 rfl 1
  obtain ⟨a, cap, rfl, h1, h2, h3⟩ := slf_cells hs hM.sub
  exact ⟨a, cap, c0, c1, h1, h2, h3⟩
set_option maxHeartbeats 4000000 in
theorem rat_any {w W : World} {m : Nat} {xs : List Du} {now : Int} {B L : List (Nat × Obj)} (h : RW xs now m B) (hM : Mem w W (B ++ L)) (id : Int) :
    Calls Try.prog 17 #[.pointer (some ⟨m, 0, none⟩), .int .i64 id] W fun e W' => e = .returned (.tuple #[.int .u32 ((wat id xs).getD 0), .bool (wat id xs).isSome]) ∧ W = W' := by
  obtain ⟨a, cap, c0, -, h1, h2, hx⟩ := h.box hM
  have HX : Hid (∀ i (hi : i < xs.length), ∃ b off, a = some ⟨b, off, none⟩ ∧ W.cell? ⟨b, off + i * 2, none⟩ = some (.int .i64 xs[i].1) ∧ W.cell? ⟨b, off + i * 2 + 1, none⟩ = some (.int .u32 xs[i].2)) := hx
  have h2' : cap ≤ 9223372036854775807 := by simp only [maxLen] at h2; omega
  obtain ⟨R, hR⟩ : ∃ R, wat id xs = R := ⟨_, rfl⟩
  rw [hR]
  have HR : Hid (wat id xs = R) := hR
  clear hx hR h hM h2
  go_enter Try.func17, Try.ntmps17
  go_wp2_with fail
  go_loopw [6] (fun u6 w' => ∃ i : Nat, i ≤ xs.length ∧ u6 = .int .i64 i ∧ W = w' ∧ Hid (∀ d ∈ xs.take i, d.1 ≠ id)) (fun u6 w' => xs.length - (intOf u6).toNat)
  case atStart => exact ⟨0, Nat.zero_le _, rfl, rfl, fun d hd => by simp at hd⟩
  case round =>
    obtain ⟨i, hi, rfl, rfl, HN⟩ := hrel
    by_cases hlt : i < xs.length
    · have k1 : (i : Int) < xs.length := by omega
      obtain ⟨b, off, rfl, q0, q1⟩ := HX.out i hlt
      have HA : Hid (xs[i].1 = id → R = some xs[i].2) := fun e => by rw [← HR.out]; exact (wat_at hlt HN.out e).1
      have HB : Hid (xs[i].1 ≠ id → ∀ d ∈ xs.take (i + 1), d.1 ≠ id) := fun e d hd => by
        rw [List.take_add_one, List.getElem?_eq_getElem hlt] at hd
        rcases List.mem_append.1 hd with hd | hd
        · exact HN.out d hd
        · simp at hd; subst hd; exact e
      clear HN HX HR
      generalize xs[i] = d at *
      by_cases e : d.1 = id
      · have hq : (d.1 == id) = true := by simpa using e
        have HRR : Hid (R = some d.2) := HA.out e
        clear HA HB
        go_wp2_with fail
        refine bodyPost_ret (v := .tuple #[.int .u32 d.2, .bool true]) (by simp [results, Try.results17, go_sem]) rfl ⟨?_, rfl⟩
        rw [HRR.out]
        rfl
      · have hq : (d.1 == id) = false := by simpa using e
        have HN : Hid (∀ d ∈ xs.take (i + 1), d.1 ≠ id) := HB.out e
        clear HA HB
        go_wp2_with fail
        go_roundw
        case rel => exact ⟨i + 1, by omega, by go_num, by first | rfl | trivial, HN.out⟩
        case measure => simp [intOf]; omega
    · obtain rfl : i = xs.length := by omega
      have HRR : Hid (R = none) := by
        show R = none
        rw [← HR.out]
        exact (wat_no fun d hd => HN.out d (by rw [List.take_length]; exact hd)).1
      have k1 : ¬ ((xs.length : Int) < xs.length) := by omega
      clear HN HX HR
      go_wp2_with fail
      refine bodyPost_ret (v := .tuple #[.int .u32 0, .bool false]) (by simp [results, Try.results17, go_sem]) rfl ⟨?_, rfl⟩
      rw [HRR.out]
      rfl
end Wh
end Go.Proofs.Ytfplmefcblkljaa
