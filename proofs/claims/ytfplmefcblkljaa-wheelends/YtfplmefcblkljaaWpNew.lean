/-
  Wheel, the program's own: New; a slot taken out whole.
-/
import Derived.Test.YtfplmefcblkljaaWpOps
namespace Go.Proofs.Ytfplmefcblkljaa
open Go.RowKit
open Sm
open Po
open Wh
set_option linter.unusedVariables false
set_option linter.unusedSimpArgs false
set_option maxRecDepth 20000

namespace Wp
theorem zero_wheel : Try.zeroCells55 = (.int .u32 0 :: .map none :: List.replicate 128 (.map none)).toArray := by kernel_rfl
theorem build_wheel (now : Int) (g : Nat) (C0 : Array Value) (h : (Try.zeroCells55.setIfInBounds 0 (.int .u32 now)).setIfInBounds 1 (.map (some g)) = C0) : C0.size = 130 ∧ C0[0]? = some (.int .u32 now) ∧ C0[1]? = some (.map (some g)) ∧ ∀ i, i < 128 → C0[i + 2]? = some (.map none) := by
  subst h
  rw [zero_wheel]
  have hs : (Value.int .u32 0 :: Value.map none :: List.replicate 128 (Value.map none)).toArray.size = 130 := by simp
  generalize hz : (Value.int .u32 0 :: Value.map none :: List.replicate 128 (Value.map none)).toArray = Z at hs ⊢
  refine ⟨by simp [hs], ?_, ?_, fun i hi => ?_⟩
  · rw [Array.getElem?_setIfInBounds, if_neg (by omega), Array.getElem?_setIfInBounds, if_pos rfl, if_pos (by omega)]
  · rw [Array.getElem?_setIfInBounds, if_pos rfl, if_pos (by simp; omega)]
  · rw [Array.getElem?_setIfInBounds, if_neg (by omega), Array.getElem?_setIfInBounds, if_neg (by omega), ← hz]
    rw [List.getElem?_toArray, List.getElem?_cons_succ, List.getElem?_cons_succ, List.getElem?_replicate, if_pos hi]
set_option maxHeartbeats 4000000 in
theorem new_any (W : World) (now : Int) (hn : 0 ≤ now ∧ now ≤ 4294967295) : Calls Try.prog 8 #[.int .u32 now] W fun e W' => ∃ p mb C, e = .returned (.pointer (some ⟨p, 0, none⟩)) ∧ StW now (fun _ => none) (fun _ => none) C mb #[] 0 (fun _ => none) ∧ Mem W W' [(p, .cells C 55 (0, 0)), (mb, .map #[] 0)] := by
  obtain ⟨g, hg⟩ : ∃ g, W.heap.size = g := ⟨_, rfl⟩
  obtain ⟨C0, hC0⟩ : ∃ C0, (Try.zeroCells55.setIfInBounds 0 (.int .u32 now)).setIfInBounds 1 (.map (some g)) = C0 := ⟨_, rfl⟩
  obtain ⟨hs, h0, h1, h2⟩ := build_wheel now g C0 hC0
  have HS : Hid (StW now (fun _ => none) (fun _ => none) C0 g #[] 0 (fun _ => none)) := by
    refine ⟨hs, h0, h1, h2, MI.nil fun k => rfl, fun i hi => ⟨fun _ k h => (by cases h), fun x hx => (by cases hx)⟩, ⟨[], by simp, fun k hk => absurd rfl hk⟩, fun k hk => absurd rfl hk, fun k hk => absurd rfl hk, fun k t hk => (by cases hk), fun k i hk => (by cases hk), hn⟩
  have hmk : (Instr.makeMap 50 none).run Try.prog W = .ok (.map (some g)) (W.alloc (.map #[] 0)) := by rw [← hg]; rfl
  have hz1 : (W.alloc (.map #[] 0)).heap.size = g + 1 := by rw [World.size_alloc, hg]
  have HM : Hid (Mem W ((W.alloc (.map #[] 0)).alloc (.cells C0 55)) [(g, .map #[] 0), (g + 1, .cells C0 55 (0, 0))]) := ((Mem.nil W).push1 hg.symm).push2 hz1.symm
  clear hs h0 h1 h2
  go_enter Try.func8, Try.ntmps8
  go_wp2_with fail
  go_ret
  exact ⟨g + 1, g, C0, rfl, HS.out, HM.out.perm (List.Perm.swap ..)⟩
/-- Without what lies in one slot. -/
def clr (F : Int → Option Nat) (i : Nat) : Int → Option Nat := fun k => if F k = some i then none else F k
theorem StW.clear {now : Int} {A : Int → Option Int} {F : Int → Option Nat} {C : Array Value} {mb : Nat} {es : Array MapEntry} {clock : Nat} {sl : Sl} (h : StW now A F C mb es clock sl) {i : Nat} (hi : i < 128) :
    StW now A (clr F i) (C.setIfInBounds (i + 2) (.map none)) mb es clock (ups sl i none) where
  size := by rw [Array.size_setIfInBounds]; exact h.size
  c0 := by rw [Array.getElem?_setIfInBounds]; simp; exact h.c0
  c1 := by rw [Array.getElem?_setIfInBounds]; simp; exact h.c1
  cs := fun j hj => by
    have hs := h.size
    rw [Array.getElem?_setIfInBounds]
    by_cases e : j = i
    · subst e
      rw [if_pos rfl, ups_at, if_pos (by omega)]
      rfl
    · rw [if_neg (by omega), ups_off _ _ e]
      exact h.cs j hj
  when := h.when
  slots := fun j hj => by
    by_cases e : j = i
    · subst e
      rw [ups_at]
      refine ⟨fun _ q hq => ?_, fun x hx => by cases hx⟩
      unfold clr at hq
      split at hq
      · cases hq
      · rename_i h1; exact h1 hq
    · rw [ups_off _ _ e]
      obtain ⟨a, b⟩ := h.slots j hj
      have hc : ∀ q, mrk (clr F i) j q = mrk F j q := fun q => by
        unfold mrk clr
        by_cases hq : F q = some i
        · have : F q ≠ some j := by rw [hq]; simpa using Ne.symm e
          rw [hq]
          simp [Ne.symm e]
        · rw [if_neg hq]
      refine ⟨fun hn q hq => ?_, fun y hy => (b y hy).congr hc⟩
      unfold clr at hq
      split at hq
      · cases hq
      · exact a hn q hq
  dom := h.dom
  inA := fun q hq => by
    refine h.inA q fun e => hq ?_
    unfold clr
    rw [e]
    simp
  keys := h.keys
  vals := h.vals
  low := fun q j hq => by
    unfold clr at hq
    split at hq
    · cases hq
    · exact h.low q j hq
  nows := h.nows
end Wp
end Go.Proofs.Ytfplmefcblkljaa
