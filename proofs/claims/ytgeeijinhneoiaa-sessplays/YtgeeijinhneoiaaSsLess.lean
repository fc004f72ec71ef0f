/-
  Sessions: the document's own order of keys.
-/
import Derived.Test.YtgeeijinhneoiaaSsPut
namespace Go.Proofs.Ytgeeijinhneoiaa
open Go.RowKit
open Sm
open Po
open Wh
set_option linter.unusedVariables false
set_option linter.unusedSimpArgs false
set_option maxRecDepth 20000

namespace Ss
def klt (a b : Ky) : Prop := a.1 < b.1 ∨ a.1 = b.1 ∧ (a.2.1 < b.2.1 ∨ a.2.1 = b.2.1 ∧ a.2.2 < b.2.2)
instance (a b : Ky) : Decidable (klt a b) := by unfold klt; infer_instance
set_option maxHeartbeats 4000000 in
theorem rless_any (W : World) (a b : Ky) : Calls Try.prog 38 #[.agg #[.int .u8 a.1, .int .u32 a.2.1, .int .u16 a.2.2], .agg #[.int .u8 b.1, .int .u32 b.2.1, .int .u16 b.2.2]] W fun e W' => e = .returned (.bool (decide (klt a b))) ∧ Below W.heap.size W W' := by
  obtain ⟨a1, a2, a3⟩ := a
  obtain ⟨b1, b2, b3⟩ := b
  simp only
  obtain ⟨R, hR⟩ : ∃ R, decide (klt (a1, a2, a3) (b1, b2, b3)) = R := ⟨_, rfl⟩
  rw [hR]
  have HR : Hid (decide (klt (a1, a2, a3) (b1, b2, b3)) = R) := hR
  clear hR
  obtain ⟨g, hg⟩ : ∃ g, W.heap.size = g := ⟨_, rfl⟩
  have HG : Hid (W.heap.size = g) := hg
  have HM0 : Hid (Mem W ((W.alloc (.cells #[.int .u8 a1, .int .u32 a2, .int .u16 a3] 36)).alloc (.cells #[.int .u8 b1, .int .u32 b2, .int .u16 b3] 36)) [(g, .cells #[.int .u8 a1, .int .u32 a2, .int .u16 a3] 36 (0, 0)), (g + 1, .cells #[.int .u8 b1, .int .u32 b2, .int .u16 b3] 36 (0, 0))]) := ((Mem.nil W).push1 hg.symm).push2 (by rw [World.size_alloc, hg])
  go_enter Try.func38, Try.ntmps38
  go_upto_region 1 with fail
  refine wp_letter (fun X => Mem W X [(g, .cells #[.int .u8 a1, .int .u32 a2, .int .u16 a3] 36 (0, 0)), (g + 1, .cells #[.int .u8 b1, .int .u32 b2, .int .u16 b3] 36 (0, 0))]) (by exact HM0.out) ?_
  intro V hM
  try simp only [hg]
  have q0 : V.cell? ⟨g, 0, none⟩ = some (.int .u8 a1) := hM.cell 0 rfl 0
  have q1 : V.cell? ⟨g, 1, none⟩ = some (.int .u32 a2) := hM.cell 0 rfl 1
  have q2 : V.cell? ⟨g, 2, none⟩ = some (.int .u16 a3) := hM.cell 0 rfl 2
  have r0 : V.cell? ⟨g + 1, 0, none⟩ = some (.int .u8 b1) := hM.cell 1 rfl 0
  have r1 : V.cell? ⟨g + 1, 1, none⟩ = some (.int .u32 b2) := hM.cell 1 rfl 1
  have r2 : V.cell? ⟨g + 1, 2, none⟩ = some (.int .u16 b3) := hM.cell 1 rfl 2
  have HB : Hid (Below W.heap.size W V) := hM.below
  clear HM0 hM hg HG
  by_cases e1 : a1 = b1
  · have n1 : (a1 != b1) = false := by simp [e1]
    by_cases e2 : a2 = b2
    · have n2 : (a2 != b2) = false := by simp [e2]
      have HRR : Hid (decide (a3 < b3) = R) := by
        show _ = _
        rw [← HR.out]
        simp [klt, e1, e2]
      clear HR
      go_wp2_with fail
      go_ret
      exact ⟨by rw [← HRR.out]; rfl, HB.out⟩
    · have n2 : (a2 != b2) = true := by simp [e2]
      have HRR : Hid (decide (a2 < b2) = R) := by
        show _ = _
        rw [← HR.out]
        simp [klt, e1, e2]
      clear HR
      go_wp2_with fail
      go_ret
      exact ⟨by rw [← HRR.out]; rfl, HB.out⟩
  · have n1 : (a1 != b1) = true := by simp [e1]
    have HRR : Hid (decide (a1 < b1) = R) := by
      show _ = _
      rw [← HR.out]
      simp [klt, e1]
    clear HR
    go_wp2_with fail
    go_ret
    exact ⟨by rw [← HRR.out]; rfl, HB.out⟩
/-- A new one, in its place. -/
def ins (s : Sn) : List Sn → List Sn
  | [] => [s]
  | x :: r => if klt (key x) (key s) then x :: ins s r else s :: x :: r
theorem ins_at {s : Sn} : ∀ {xs : List Sn} {k : Nat}, k ≤ xs.length → (∀ x ∈ xs.take k, klt (key x) (key s)) → (∀ h : k < xs.length, ¬ klt (key xs[k]) (key s)) → ins s xs = xs.take k ++ s :: xs.drop k
  | [], k, hk, _, _ => by
    simp at hk
    subst hk
    rfl
  | x :: r, 0, _, _, h => by
    have := h (by simp)
    simp at this
    simp [ins, this]
  | x :: r, k + 1, hk, hn, h => by
    have h0 : klt (key x) (key s) := hn x (by simp)
    have ih := ins_at (s := s) (xs := r) (k := k) (by simpa using hk) (fun y hy => hn y (by simp [hy])) (fun hl => by
      have := h (by simpa using hl)
      simpa using this)
    simp [ins, h0, ih]
theorem ins_len (s : Sn) : ∀ xs : List Sn, (ins s xs).length = xs.length + 1
  | [] => rfl
  | x :: r => by
    unfold ins
    split
    · simp [ins_len s r]
    · simp
/-- What an add answers, and what it leaves. -/
def ac (s : Sn) (most : Int) (xs : List Sn) : Int := if (fk (key s) xs).isSome then 131 else if (fo s.pr (s.oip, s.op) xs).isSome then 131 else if most ≤ xs.length then 130 else 0
def ax (s : Sn) (most : Int) (xs : List Sn) : List Sn := if ac s most xs = 0 then ins s xs else xs
end Ss
end Go.Proofs.Ytgeeijinhneoiaa
