/-
  What Hop and Change hand back are bytes, no more than 65535.
-/
import Derived.Test.YtjalpbkfpjfigaaGreatRwChangeTop
import Derived.Test.YtjalpbkfpjfigaaGreatRwHop
namespace Go.Proofs.YtjalpbkfpjfigaaGreat
open Go.RowKit
open Sm
set_option linter.unusedVariables false
namespace Sm
theorem ipOut_bytes {p : Pk} (h : p.Ok) : IsBytes (ipOut p) ∧ (ipOut p).length ≤ 65535 := by
  unfold ipOut
  by_cases e : ipbErr p = 0
  · rw [if_pos e]
    have f := (fits_iff p).mp e
    exact ⟨ipb_bytes h f, by rw [ipb_len]; exact f.n⟩
  · rw [if_neg e]; exact ⟨bytes_nil, by simp⟩
theorem ipPk_ok {l : List Int} (h : IsBytes l) (h0 : ipErr l = 0) : (ipPk l).Ok := by
  have := ipRes_ok h
  rwa [show ipRes l = ipPk l from if_pos h0] at this
theorem hop_ok {p : Pk} (h : p.Ok) (ht : p.ttl ≠ 0) : p.hop.Ok := by
  have := h.ttl
  exact ⟨h.tos, ⟨by simp only [Pk.hop]; omega, by simp only [Pk.hop]; omega⟩, h.proto, h.id, h.flags, h.off, h.src, h.dst, h.opts, h.body⟩
theorem hopOut_bytes {l : List Int} (h : IsBytes l) : IsBytes (hopOut l) ∧ (hopOut l).length ≤ 65535 := by
  unfold hopOut
  by_cases e : ipErr l = 0
  · rw [if_neg (by omega)]
    by_cases t : (ipPk l).ttl = 0
    · rw [if_pos t]; exact ⟨bytes_nil, by simp⟩
    · rw [if_neg t]; exact ipOut_bytes (hop_ok (ipPk_ok h e) t)
  · rw [if_pos e]; exact ⟨bytes_nil, by simp⟩
theorem chOut_bytes {l : List Int} (h : IsBytes l) {s d : Pt} (hs : s.Ok) (hd : d.Ok) : IsBytes (chOut l s d) ∧ (chOut l s d).length ≤ 65535 := by
  unfold chOut
  by_cases e : lkErr l = 0
  · rw [if_neg (by omega)]
    split
    · exact ⟨bytes_nil, by simp⟩
    · exact ipOut_bytes (chPk_ok (ipPk_ok h (lk_parts e).1) _ hs hd)
  · rw [if_pos e]; exact ⟨bytes_nil, by simp⟩
end Sm
end Go.Proofs.YtjalpbkfpjfigaaGreat
