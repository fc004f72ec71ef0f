/-
  What rewrite.standsIn and rewrite.innerPoints answer.
-/
import Derived.Test.YtjalpbkfpjfigaaGreatRwWords
import Derived.Test.YtjalpbkfpjfigaaGreatIcmpParse
import Derived.Test.YtjalpbkfpjfigaaGreatIcmpKind
import Derived.Test.YtjalpbkfpjfigaaGreatIcmpSum
namespace Go.Proofs.YtjalpbkfpjfigaaGreat
open Go.RowKit
open Sm
set_option linter.unusedVariables false
set_option maxRecDepth 20000

namespace Sm
theorem inOk_no {l : List Int} (h : ¬ (20 ≤ l.length ∧ l.getD 0 0 / 16 = 4 ∧ 20 ≤ hdl l ∧ hdl l + 8 ≤ l.length)) : inOk l = false := by
  unfold inOk inHead; rw [decide_eq_false h]; rfl
theorem inOk_yes {l : List Int} (h : 20 ≤ l.length ∧ l.getD 0 0 / 16 = 4 ∧ 20 ≤ hdl l ∧ hdl l + 8 ≤ l.length) : inOk l = inKind l := by
  unfold inOk inHead; rw [decide_eq_true h]; rfl
/-- What stands behind the header, as a message. -/
theorem drop_getD (l : List Int) (h j : Nat) : (l.drop h).getD j 0 = l.getD (h + j) 0 := by simp [List.getD]
theorem inner_msg {l : List Int} (h8 : hdl l + 8 ≤ l.length) (h1 : l.getD 9 0 = 1) : mgErr (l.drop (hdl l)) = 0 ∧ mecho (mgRes (l.drop (hdl l))) = inKind l := by
  have e : mgErr (l.drop (hdl l)) = 0 := by unfold mgErr; rw [if_neg (by simp; omega)]
  refine ⟨e, ?_⟩
  unfold mgRes
  rw [if_pos e]
  unfold mecho mgMg inKind
  simp only [drop_getD, h1, Nat.add_zero]
  simp
end Sm

set_option maxHeartbeats 1000000 in
theorem stands_few (w : World) (a : Option Addr) (n c : Nat) (h : n < 20) :
    Calls Tryz.prog 112 #[.slice a n c] w fun e w' => e = .returned (.bool false) ∧ w = w' := by
  have h' : (n : Int) < 20 := by omega
  clear h
  go_enter Tryz.func112, Tryz.ntmps112
  go_wp2_with fail
  go_ret
  exact ⟨rfl, rfl⟩

set_option maxHeartbeats 2000000 in
theorem stands_any {w : World} {a : Option Addr} {n c : Nat} {l : List Int} (hr : Row w a l) (hn : l.length = n) (hc : n ≤ c) :
    Calls Tryz.prog 112 #[.slice a n c] w fun e w' => e = .returned (.bool (inOk l)) ∧ Below w.heap.size w w' := by
  by_cases h20 : n < 20
  · rw [inOk_no (by omega)]
    refine (stands_few w a n c h20).mono ?_
    rintro e w' ⟨rfl, rfl⟩
    exact ⟨rfl, Below.refl _ _⟩
  obtain ⟨b, off, rfl, -⟩ : ∃ b off, a = some ⟨b, off, none⟩ ∧ ∀ i, i < l.length → w.cell? ⟨b, off + i, none⟩ = some (.int .u8 (l.getD i 0)) := by
    rcases hr.cells with e | e
    · subst e; simp at hn; omega
    · exact e
  have hn0 := hr.len
  have c0 : w.cell? ⟨b, off, none⟩ = some (.int .u8 (l.getD 0 0)) := hr.cellAt 0 (by omega)
  have c9 : w.cell? ⟨b, off + 9, none⟩ = some (.int .u8 (l.getD 9 0)) := hr.cellAt 9 (by omega)
  have r := hr.bytes 0
  have hcall := xhead_any (c := c) hr hn (by omega)
  have hh := hdl_le hr.bytes
  have i0' : (0 : Int) < n := by omega
  have i0 : 0 < n := by omega
  have i9' : (9 : Int) < n := by omega
  have i9 : 9 < n := by omega
  have i20 : ¬ (n : Int) < 20 := by omega
  have v8 := wrap64_small (((hdl l : Nat) : Int) + 8) (by omega) (by omega)
  have hN : (n : Int) ≤ 140737488351232 := by omega
  by_cases hv : l.getD 0 0 / 16 = 4
  · by_cases hH : 20 ≤ hdl l ∧ hdl l + 8 ≤ n
    · have HK : Hid (inOk l = inKind l) := inOk_yes ⟨by omega, hv, hH.1, by omega⟩
      have g1 : ¬ ((hdl l : Nat) : Int) < 20 := by omega
      have g2 : ¬ (n : Int) < ((hdl l : Nat) : Int) + 8 := by omega
      by_cases h17 : l.getD 9 0 = 17
      · have HV : Hid (inKind l = true) := by show _ = _; unfold inKind; rw [decide_eq_true (Or.inl h17)]; rfl
        rw [h17] at c9
        clear hr hn0 hc hh hH h17 h20
        generalize ((hdl l : Nat) : Int) = H at *
        generalize l.getD 0 0 = x0 at *
        go_enter Tryz.func112, Tryz.ntmps112
        go_wp2_with fail
        refine hcall.mono ?_
        rintro e w' ⟨rfl, rfl⟩
        go_wp2_with fail
        go_ret
        exact ⟨by rw [HK.out, HV.out] <;> rfl, Below.refl _ _⟩
      by_cases h6 : l.getD 9 0 = 6
      · have HV : Hid (inKind l = true) := by show _ = _; unfold inKind; rw [decide_eq_true (Or.inr h6)]; rfl
        rw [h6] at c9
        clear hr hn0 hc hh hH h6 h17 h20
        generalize ((hdl l : Nat) : Int) = H at *
        generalize l.getD 0 0 = x0 at *
        go_enter Tryz.func112, Tryz.ntmps112
        go_wp2_with fail
        refine hcall.mono ?_
        rintro e w' ⟨rfl, rfl⟩
        go_wp2_with fail
        go_ret
        exact ⟨by rw [HK.out, HV.out] <;> rfl, Below.refl _ _⟩
      by_cases h1 : l.getD 9 0 = 1
      · obtain ⟨q1, q2⟩ := inner_msg (l := l) (by omega) h1
        have hp := hr.part (hdl l) (n - hdl l) (by omega)
        rw [List.take_of_length_le (by simp; omega)] at hp
        have hP := mparse_any hp (n := n - hdl l) (c := c - hdl l) (by simp; omega) (by omega)
        have HV : Hid (inKind l = mecho (mgRes (l.drop (hdl l)))) := q2.symm
        rw [q1] at hP
        rw [h1] at c9
        have hT : ((hdl l : Nat) : Int).toNat = hdl l := by omega
        have g3 : (0 : Int) ≤ ((hdl l : Nat) : Int) := by omega
        have g4 : ((hdl l : Nat) : Int) ≤ (n : Int) := by omega
        have g5 : ((hdl l : Nat) : Int) ≤ (c : Int) := by omega
        have g6 : (n : Int) ≤ c := by omega
        have g7 : ¬ c = hdl l := by omega
        have g8 : ¬ (hdl l : Nat) = c := by omega
        clear hr hn0 hc hh hH h6 h17 h20 h1 q1 q2 hp
        generalize mgRes (l.drop (hdl l)) = m at *
        generalize l.drop (hdl l) = l2 at *
        generalize hHN : ((hdl l : Nat) : Int) = H at *
        generalize hdl l = hd at *
        have HHN : Hid _ := hHN
        generalize l.getD 0 0 = x0 at *
        clear hHN
        go_enter Tryz.func112, Tryz.ntmps112
        go_wp2_with fail
        refine hcall.mono ?_
        rintro e w' ⟨rfl, rfl⟩
        go_wp2_with fail
        refine hP.mono ?_
        rintro e w1 ⟨v, rfl, hv1, hb1⟩
        obtain ⟨bo, cb, rfl, hrest⟩ := hv1
        have hv1 : MgV w1 w.heap.size (.agg (mgB m bo m.body.length cb)) m := ⟨bo, cb, rfl, hrest⟩
        clear hrest
        go_upto_region 12 with fail
        refine wp_letter (fun W => Mem w W [(w1.heap.size, .cells (mgB m bo m.body.length cb) mgT)] ∧ MgV W 0 (.agg (mgB m bo m.body.length cb)) m) ⟨((Mem.nil w).after hb1).push w1.heap.size _ rfl, mgv_box (hv1.mono (Nat.zero_le _)) _⟩ ?_
        intro w2 ⟨hM2, hv2⟩
        have kc : ∀ i, w2.cell? ⟨w1.heap.size, i, none⟩ = (mgB m bo m.body.length cb)[i]? := hM2.cell 0 rfl
        have hE := mecho_any hv2
        have HM : Hid _ := hM2
        clear hM2 hv2 hv1 hb1 hP hcall c0 c9
        generalize w1.heap.size = P at *
        generalize m.body.length = lb at *
        generalize mecho m = R at *
        go_wp2_with fail
        refine hE.mono ?_
        rintro e w3 ⟨rfl, hb3⟩
        have HB : Hid _ := (HM.out.after hb3).below
        clear hb3 HM kc hE
        go_wp2_with fail
        go_ret
        exact ⟨by rw [HK.out, HV.out] <;> rfl, HB.out⟩
      · have HV : Hid (inKind l = false) := by show _ = _; unfold inKind; rw [decide_eq_false (fun h => h.elim h17 h6), decide_eq_false h1]; rfl
        clear hr hn0 hc hh hH h20
        generalize ((hdl l : Nat) : Int) = H at *
        generalize l.getD 0 0 = x0 at *
        generalize l.getD 9 0 = x9 at *
        go_enter Tryz.func112, Tryz.ntmps112
        go_wp2_with fail
        refine hcall.mono ?_
        rintro e w' ⟨rfl, rfl⟩
        go_wp2_with fail
        go_ret
        exact ⟨by rw [HK.out, HV.out] <;> rfl, Below.refl _ _⟩
    · have HK : Hid (inOk l = false) := inOk_no (fun h => hH ⟨h.2.2.1, by omega⟩)
      have hH' : ((hdl l : Nat) : Int) < 20 ∨ (¬ ((hdl l : Nat) : Int) < 20 ∧ (n : Int) < ((hdl l : Nat) : Int) + 8) := by omega
      clear hr hn0 hc hh h20 hH c9
      generalize ((hdl l : Nat) : Int) = H at *
      generalize l.getD 0 0 = x0 at *
      rcases hH' with g1 | ⟨g1, g2⟩
      all_goals
        go_enter Tryz.func112, Tryz.ntmps112
        go_wp2_with fail
        refine hcall.mono ?_
        rintro e w' ⟨rfl, rfl⟩
        go_wp2_with fail
        go_ret
        exact ⟨by rw [HK.out] <;> rfl, Below.refl _ _⟩
  · have HK : Hid (inOk l = false) := inOk_no (fun h => hv h.2.1)
    clear hr hn0 hc hh h20 hcall c9
    generalize l.getD 0 0 = x0 at *
    go_enter Tryz.func112, Tryz.ntmps112
    go_wp2_with fail
    go_ret
    exact ⟨by rw [HK.out] <;> rfl, Below.refl _ _⟩
end Go.Proofs.YtjalpbkfpjfigaaGreat
