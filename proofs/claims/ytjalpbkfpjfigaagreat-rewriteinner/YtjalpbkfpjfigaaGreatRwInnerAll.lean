/-
  rewrite.putPorts and rewrite.innerChanged, whatever they are handed.
-/
import Derived.Test.YtjalpbkfpjfigaaGreatRwInner
namespace Go.Proofs.YtjalpbkfpjfigaaGreat
open Go.RowKit
open Sm
set_option linter.unusedVariables false
set_option maxRecDepth 20000

set_option maxHeartbeats 4000000 in
theorem putP_any {W : World} {B g cap n c : Nat} {l : List Int} (h : OwnB W B g cap l) (hb : IsBytes l) (hn : l.length = n) (h20 : 20 ≤ n) (h8 : hdl l + 8 ≤ n) (hl : n ≤ 70000) (hc : n ≤ c) (s d : Int) (s0 : 0 ≤ s) (s1 : s ≤ 65535) (d0 : 0 ≤ d) (d1 : d ≤ 65535) :
    Calls Tryz.prog 73 #[.slice (some ⟨g, 0, none⟩) n c, .int .u16 s, .int .u16 d] W fun e w' => e = .returned (.tuple #[]) ∧ OwnB w' B g cap (putP l s d) ∧ Only g W w' := by
  have hh := xhead_any (c := c) (h.row hb (by omega)) hn (by omega)
  have he := xecho_any (c := c) (h.row hb (by omega)) hn h20
  have HF : Hid (putP l s d = if l.getD 9 0 = 1 then putw l (hdl l + 4) s else putw (putw l (hdl l) s) (hdl l + 2) d) := rfl
  have HO : Hid (OwnB W B g cap l) := h
  have HR : Hid ((0 ≤ s ∧ s ≤ 65535) ∧ (0 ≤ d ∧ d ≤ 65535)) := ⟨⟨s0, s1⟩, d0, d1⟩
  generalize hdl l = H at *
  generalize putP l s d = R at *
  have HL : Hid (l.length = n ∧ H + 8 ≤ n ∧ n ≤ c) := ⟨hn, h8, hc⟩
  have b0 : (0 : Int) ≤ H := by omega
  have b1 : (H : Int) ≤ n := by omega
  have b2 : (H : Int) ≤ c := by omega
  have b3 : (n : Int) ≤ c := by omega
  have b4 : H ≤ n := by omega
  have b5 : H ≤ c := by omega
  have b6 : (4 : Int) ≤ ((n - H : Nat) : Int) := by omega
  have b7 : ((n - H : Nat) : Int) ≤ ((c - H : Nat) : Int) := by omega
  have b8 : (4 : Int) ≤ ((c - H : Nat) : Int) := by omega
  have b9 : (2 : Int) ≤ ((n - H : Nat) : Int) := by omega
  have n1 : ¬ c = H := by omega
  have n2 : ¬ c - H = 4 := by omega
  have n3 : ¬ c - H = 2 := by omega
  have n4 : ¬ c - H = 0 := by omega
  have n5 : ¬ H = c := by omega
  clear h hb hn h20 h8 hl hc s0 s1 d0 d1
  by_cases hz : l.getD 9 0 = 1
  · rw [if_pos hz] at HF
    simp only [hz, decide_true] at he
    go_enter Tryz.func73, Tryz.ntmps73
    go_wp2_with fail
    refine hh.mono ?_
    rintro e w1 ⟨rfl, rfl⟩
    go_wp2_with fail
    refine he.mono ?_
    rintro e w1 ⟨rfl, rfl⟩
    go_wp2_with fail
    refine (put_own HO.out (H + 4) (by have := HL.out; omega) (n - H - 4) (c - H - 4) (by have := HL.out; omega) _ HR.out.1.1 HR.out.1.2).mono ?_
    rintro e w9 ⟨rfl, hop, hon⟩
    rw [← HF.out] at hop
    have HZ : Hid (OwnB w9 B g cap R ∧ Only g W w9) := ⟨hop, hon⟩
    clear hop hon
    go_wp2_with fail
    refine bodyPost_ret (v := .tuple #[]) (results_none (by rfl) _ _ _) rfl ?_
    exact ⟨rfl, HZ.out⟩
  · rw [if_neg hz] at HF
    simp only [hz, decide_false] at he
    go_enter Tryz.func73, Tryz.ntmps73
    go_wp2_with fail
    refine hh.mono ?_
    rintro e w1 ⟨rfl, rfl⟩
    go_wp2_with fail
    refine he.mono ?_
    rintro e w1 ⟨rfl, rfl⟩
    go_wp2_with fail
    refine (put_own HO.out H (by have := HL.out; omega) (n - H) (c - H) (by have := HL.out; omega) _ HR.out.1.1 HR.out.1.2).mono ?_
    rintro e w8 ⟨rfl, hop, hon⟩
    have HY : Hid (OwnB w8 B g cap (putw l H s) ∧ Only g W w8) := ⟨hop, hon⟩
    clear hop hon
    go_wp2_with fail
    refine (put_own HY.out.1 (H + 2) (by rw [putw_len]; have := HL.out; omega) (n - H - 2) (c - H - 2) (by have := HL.out; omega) _ HR.out.2.1 HR.out.2.2).mono ?_
    rintro e w9 ⟨rfl, hop, hon⟩
    rw [← HF.out] at hop
    have HZ : Hid (OwnB w9 B g cap R ∧ Only g W w9) := ⟨hop, HY.out.2.trans hon⟩
    clear hop hon
    go_wp2_with fail
    go_end0
    exact ⟨rfl, HZ.out⟩
end Go.Proofs.YtjalpbkfpjfigaaGreat
