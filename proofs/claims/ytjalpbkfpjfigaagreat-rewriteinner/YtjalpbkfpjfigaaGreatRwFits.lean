/-
  A packet that was read fits, and with one hop less too: what the document's own leaves unasked.
-/
import Derived.Test.YtjalpbkfpjfigaaGreatRwOut
namespace Go.Proofs.YtjalpbkfpjfigaaGreat
open Go.RowKit
open Sm
set_option linter.unusedVariables false
namespace Sm
theorem pk_fits {l : List Int} (h : IsBytes l) (h0 : ipErr l = 0) : Fits (ipPk l) ∧ 20 + (ipPk l).opts.length + (ipPk l).body.length = whl l := by
  have hp := ip_parts h0
  have hh := hdl_le h
  have hw := w16_range h 6
  have h2 := w16_range h 2
  have hwl : whl l ≤ 65535 := by unfold whl; omega
  have h4 : hdl l % 4 = 0 := by unfold hdl; omega
  have lo : (ipPk l).opts.length = hdl l - 20 := by simp only [ipPk, List.length_take, List.length_drop]; omega
  have lb : (ipPk l).body.length = whl l - hdl l := by simp only [ipPk, List.length_take, List.length_drop]; omega
  refine ⟨⟨by rw [lo]; omega, by rw [lo]; omega, ?_, ?_, by rw [lo, lb]; omega⟩, by rw [lo, lb]; omega⟩
  · show w16 l 6 / 8192 ≤ 7; omega
  · show w16 l 6 % 8192 ≤ 8191; omega
theorem hop_err {l : List Int} (h : IsBytes l) : hopErr l = if ipErr l ≠ 0 then ipErr l else if (ipPk l).ttl = 0 then 21 else 0 := by
  unfold hopErr
  by_cases e : ipErr l = 0
  · have f := (pk_fits h e).1
    have e2 : ipbErr (ipPk l).hop = 0 := (fits_iff _).mpr ⟨f.o4, f.o40, f.flags, f.off, f.n⟩
    rw [e2]
  · rw [if_pos e, if_pos e]
end Sm
end Go.Proofs.YtjalpbkfpjfigaaGreat
