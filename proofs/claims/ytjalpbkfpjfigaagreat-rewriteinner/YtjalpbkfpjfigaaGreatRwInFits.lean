/-
  The packet within an error, changed: what is changed fits, and is bytes.
-/
import Derived.Test.YtjalpbkfpjfigaaGreatRwInnerTop
import Derived.Test.YtjalpbkfpjfigaaGreatRwRefChange
namespace Go.Proofs.YtjalpbkfpjfigaaGreat
open Go.RowKit
open Sm
set_option linter.unusedVariables false
namespace Sm
theorem in_mgerr {l : List Int} (h0 : lkErr l = 0) (hi : (flFl (ipPk l)).inner.length ≠ 0) : (ipPk l).proto = 1 ∧ mgErr (ipPk l).body = 0 := by
  obtain ⟨-, b, -, -⟩ := lk_parts h0
  obtain ⟨p1, p2, -⟩ := inner_some hi
  rcases bd_kind b with ⟨k, -⟩ | ⟨k, -⟩ | ⟨k, e⟩
  · exact absurd k p1
  · exact absurd k p2
  · exact ⟨k, e⟩
theorem msl_body (M : Mg) : (msl M).body = M.body := rfl
theorem inMg_len (m : Mg) (s d : Pt) : (inMg m s d).body.length = m.body.length := by
  unfold inMg
  rw [msl_body]
  show (inPut m.body s d).length = _
  exact inPut_len _ _ _
theorem mgOut_le (M : Mg) (n : Nat) (h : 8 + M.body.length ≤ n) : (mgOut M).length ≤ n := by
  unfold mgOut
  split
  · rw [mgb_len]; exact h
  · simp
theorem bod_fits {p : Pk} (f : Fits p) (b : List Int) (h : b.length ≤ p.body.length) : ipbErr (p.bod b) = 0 :=
  (fits_iff _).mpr ⟨f.o4, f.o40, f.flags, f.off, by have := f.n; show 20 + p.opts.length + b.length ≤ 65535; omega⟩
theorem in_err {l : List Int} (h : IsBytes l) (h0 : lkErr l = 0) (hi : (flFl (ipPk l)).inner.length ≠ 0) (s d : Pt) : ipbErr (inPk (ipPk l) s d) = 0 := by
  have f := (pk_fits h (lk_parts h0).1).1
  have e := (in_mgerr h0 hi).2
  generalize ipPk l = p at *
  unfold inPk
  refine bod_fits f _ ?_
  have hl := mg_len8 e
  generalize mgRes p.body = m at *
  have hb := inMg_len m s d
  generalize inMg m s d = M at *
  exact mgOut_le M _ (by omega)
theorem inOut_bytes {l : List Int} (h : IsBytes l) {s d : Pt} (hs : s.Ok) (hd : d.Ok) : IsBytes (inOut l s d) ∧ (inOut l s d).length ≤ 65535 := by
  unfold inOut
  split
  · exact ⟨bytes_nil, by simp⟩
  · rename_i h0
    have h0 : lkErr l = 0 := by omega
    split
    · exact ⟨bytes_nil, by simp⟩
    · rename_i hi
      split
      · exact ⟨bytes_nil, by simp⟩
      · have ok := ipPk_ok h (lk_parts h0).1
        obtain ⟨-, -, hin⟩ := inner_some hi
        obtain ⟨h20, -, -, h8⟩ := inHead_facts (inOk_head hin)
        exact ipOut_bytes (pkbod_ok ok (mgOut_facts (inMg_ok (mgRes_ok ok.body) h20 h8 hs hd)).1)
end Sm
/-- The document's own Get16 over a row of the call's own. -/
theorem get16_own {W : World} {B g cap : Nat} {l : List Int} (h : OwnB W B g cap l) (hb : IsBytes l) (hl : l.length ≤ 70000) (i n c : Nat) (hn : l.length = n) (hi : i + 1 < n) :
    Calls Tryz.prog 41 #[.slice (some ⟨g, 0, none⟩) n c, .int .i64 i] W fun e w' => e = .returned (.int .u16 (w16 l i)) ∧ OwnB w' B g cap l ∧ Only g W w' := by
  refine (get16_at (h.row hb (by omega)) i n c hn hi _ rfl).mono ?_
  rintro e w' ⟨rfl, q, rfl⟩
  exact ⟨rfl, h.drewN q, (Only.refl g W).drewN q⟩
end Go.Proofs.YtjalpbkfpjfigaaGreat
