/-
  What the document's own lychref8.inner answers, whatever bytes it is handed.
-/
import Derived.Test.YtjalpbkfpjfigaaGreatRwRefInOk
import Derived.Test.YtjalpbkfpjfigaaGreatRwRefInMsg
import Derived.Test.YtjalpbkfpjfigaaGreatRwRefInNo
namespace Go.Proofs.YtjalpbkfpjfigaaGreat
open Go.RowKit
open Sm
set_option linter.unusedVariables false

theorem rinner_yes {w : World} {a : Option Addr} {n c : Nat} {l : List Int} (hr : Row w a l) (hn : l.length = n) (hi : inOk l = true) :
    Calls Tryz.prog 40 #[.slice a n c] w fun e w' => e = .returned (.tuple #[.agg #[.int .u32 (inSrc l).ip, .int .u16 (inSrc l).port], .agg #[.int .u32 (inDst l).ip, .int .u16 (inDst l).port], .int .u8 (l.getD 9 0), .int .i64 (hdl l : Nat), .bool true]) ∧ Below w.heap.size w w' := by
  obtain ⟨h20, h4, hh, h8⟩ := inHead_facts (inOk_head hi)
  have hk := inOk_kind hi
  rcases hr.cells with e | ⟨b, off, rfl, -⟩
  · rw [e] at h20; simp at h20
  by_cases y1 : l.getD 9 0 = 1
  · have hb : (l.getD (hdl l) 0 = 8 ∨ l.getD (hdl l) 0 = 0) ∧ l.getD (hdl l + 1) 0 = 0 := by
      unfold inKind at hk
      rw [y1] at hk
      simpa using hk
    have e1 : inSrc l = ⟨w32 l 12, w16 l (hdl l + 4)⟩ := by unfold inSrc; rw [if_pos y1]
    have e2 : inDst l = ⟨w32 l 16, w16 l (hdl l + 4)⟩ := by unfold inDst; rw [if_pos y1]
    rw [e1, e2, y1]
    rcases hb with ⟨ht | ht, hc⟩
    · exact rin_ask hr hn (by omega) h4 hh (by omega) y1 ht hc
    · exact rin_say hr hn (by omega) h4 hh (by omega) y1 ht hc
  · have e1 : inSrc l = ⟨w32 l 12, w16 l (hdl l)⟩ := by unfold inSrc; rw [if_neg y1]
    have e2 : inDst l = ⟨w32 l 16, w16 l (hdl l + 2)⟩ := by unfold inDst; rw [if_neg y1]
    rw [e1, e2]
    by_cases y17 : l.getD 9 0 = 17
    · rw [y17]
      exact rin_udp hr hn (by omega) h4 hh (by omega) y17
    · have y6 : l.getD 9 0 = 6 := by
        unfold inKind at hk
        rw [Bool.or_eq_true] at hk
        rcases hk with hk | hk
        · rcases of_decide_eq_true hk with h | h
          · exact absurd h y17
          · exact h
        · rw [Bool.and_eq_true] at hk
          exact absurd (of_decide_eq_true hk.1) y1
      rw [y6]
      exact rin_tcp hr hn (by omega) h4 hh (by omega) y6
theorem rinner_no {w : World} {a : Option Addr} {n c : Nat} {l : List Int} (hr : Row w a l) (hn : l.length = n) (hi : inOk l = false) :
    Calls Tryz.prog 40 #[.slice a n c] w fun e w' => e = .returned (.tuple #[.agg #[.int .u32 0, .int .u16 0], .agg #[.int .u32 0, .int .u16 0], .int .u8 0, .int .i64 0, .bool false]) ∧ Below w.heap.size w w' := by
  by_cases h20 : n < 20
  · exact rin_short a n c h20
  rcases hr.cells with e | ⟨b, off, rfl, -⟩
  · rw [e] at hn; simp at hn; omega
  by_cases h4 : l.getD 0 0 / 16 = 4
  · by_cases hh : hdl l < 20
    · exact rin_low hr hn (by omega) h4 hh
    by_cases h8 : n < hdl l + 8
    · exact rin_cut hr hn (by omega) h4 (by omega) h8
    have hk : inKind l = false := by rw [← inOk_yes ⟨by omega, h4, by omega, by omega⟩]; exact hi
    unfold inKind at hk
    rw [Bool.or_eq_false_iff] at hk
    have q1 := of_decide_eq_false hk.1
    by_cases y1 : l.getD 9 0 = 1
    · have q2 : ¬ ((l.getD (hdl l) 0 = 8 ∨ l.getD (hdl l) 0 = 0) ∧ l.getD (hdl l + 1) 0 = 0) := by
        have := hk.2
        rw [decide_eq_true y1, Bool.true_and] at this
        exact of_decide_eq_false this
      by_cases t8 : l.getD (hdl l) 0 = 8
      · exact rin_code8 hr hn (by omega) h4 (by omega) (by omega) y1 t8 (fun h => q2 ⟨Or.inl t8, h⟩)
      · by_cases t0 : l.getD (hdl l) 0 = 0
        · exact rin_code0 hr hn (by omega) h4 (by omega) (by omega) y1 t0 (fun h => q2 ⟨Or.inr t0, h⟩)
        · exact rin_type hr hn (by omega) h4 (by omega) (by omega) y1 t8 t0
    · exact rin_other hr hn (by omega) h4 (by omega) (by omega) (fun h => q1 (Or.inl h)) (fun h => q1 (Or.inr h)) y1
  · exact rin_version hr hn (by omega) h4
end Go.Proofs.YtjalpbkfpjfigaaGreat
