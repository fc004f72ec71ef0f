/-
  What rewrite.innerPoints answers: the two points of the packet within an error.
-/
import Derived.Test.YtjalpbkfpjfigaaGreatRwStands
namespace Go.Proofs.YtjalpbkfpjfigaaGreat
open Go.RowKit
open Sm
set_option linter.unusedVariables false
set_option maxRecDepth 20000

abbrev ptT : TypeId := 32
/-- Two points' cells. -/
abbrev pt2 (s d : Pt) : Array Value := #[.int .u32 s.ip, .int .u16 s.port, .int .u32 d.ip, .int .u16 d.port]

set_option maxHeartbeats 4000000 in
theorem points_any {w : World} {b off n c : Nat} {l : List Int} (hr : Row w (some ⟨b, off, none⟩) l) (hn : l.length = n) (hc : n ≤ c) (hi : inHead l = true) :
    Calls Tryz.prog 113 #[.slice (some ⟨b, off, none⟩) n c] w fun e w' => ∃ g, e = .returned (.slice (some ⟨g, 0, none⟩) 2 2) ∧ Mem w w' [(g, .cells (pt2 (inSrc l) (inDst l)) ptT (0, 0))] := by
  obtain ⟨h20, -, hH, h8⟩ := inHead_facts hi
  have hh := hdl_le hr.bytes
  have hcall := xhead_any (c := c) hr hn (by omega)
  have C0 : ∀ W M C, Row W (some ⟨b, off, none⟩) l → 2 ≤ M → Calls Tryz.prog 93 #[.slice (some ⟨b, off + hdl l, none⟩) M C] W _ := fun W M C hW hM => xword_at hW (hdl l) (off + hdl l) rfl (by omega) _ rfl M hM C
  have C2 : ∀ W M C, Row W (some ⟨b, off, none⟩) l → 2 ≤ M → Calls Tryz.prog 93 #[.slice (some ⟨b, off + hdl l + 2, none⟩) M C] W _ := fun W M C hW hM => xword_at hW (hdl l + 2) (off + hdl l + 2) (by omega) (by omega) _ rfl M hM C
  have C4 : ∀ W M C, Row W (some ⟨b, off, none⟩) l → 2 ≤ M → Calls Tryz.prog 93 #[.slice (some ⟨b, off + hdl l + 4, none⟩) M C] W _ := fun W M C hW hM => xword_at hW (hdl l + 4) (off + hdl l + 4) (by omega) (by omega) _ rfl M hM C
  have CE : ∀ W, Row W (some ⟨b, off, none⟩) l → Calls Tryz.prog 71 #[.slice (some ⟨b, off, none⟩) n c] W _ := fun W hW => xecho_any hW hn (by omega)
  have L1 : ∀ W M C, Row W (some ⟨b, off, none⟩) l → 4 ≤ M → M ≤ C → Calls Tryz.prog 121 #[.slice (some ⟨b, off + 12, none⟩) M C] W _ := fun W M C hW hM hC => xlong_at hW 12 (off + 12) rfl (by omega) _ rfl M hM C hC
  have L2 : ∀ W M C, Row W (some ⟨b, off, none⟩) l → 4 ≤ M → M ≤ C → Calls Tryz.prog 121 #[.slice (some ⟨b, off + 16, none⟩) M C] W _ := fun W M C hW hM hC => xlong_at hW 16 (off + 16) rfl (by omega) _ rfl M hM C hC
  have HN : Hid (2 ≤ n - hdl l ∧ 2 ≤ n - hdl l - 2 ∧ 2 ≤ n - hdl l - 4 ∧ 4 ≤ n - 12 ∧ n - 12 ≤ c - 12 ∧ 4 ≤ n - 16 ∧ n - 16 ≤ c - 16) := ⟨by omega, by omega, by omega, by omega, by omega, by omega, by omega⟩
  have hT : ((hdl l : Nat) : Int).toNat = hdl l := by omega
  have g3 : (0 : Int) ≤ ((hdl l : Nat) : Int) := by omega
  have g4 : ((hdl l : Nat) : Int) ≤ (n : Int) := by omega
  have g5 : ((hdl l : Nat) : Int) ≤ (c : Int) := by omega
  have g6 : (n : Int) ≤ c := by omega
  have g7 : ¬ c = hdl l := by omega
  have s0 : ¬ c - hdl l = 0 := by omega
  have s2 : ¬ c - hdl l = 2 := by omega
  have s4 : ¬ c - hdl l = 4 := by omega
  have s12 : ¬ c = 12 := by omega
  have s16 : ¬ c = 16 := by omega
  have t2 : (2 : Int) ≤ ((n - hdl l : Nat) : Int) := by omega
  have t4 : (4 : Int) ≤ ((n - hdl l : Nat) : Int) := by omega
  have t2' : (2 : Int) ≤ ((c - hdl l : Nat) : Int) := by omega
  have t4' : (4 : Int) ≤ ((c - hdl l : Nat) : Int) := by omega
  have t0' : (0 : Int) ≤ ((c - hdl l : Nat) : Int) := by omega
  have t0 : (0 : Int) ≤ ((n - hdl l : Nat) : Int) := by omega
  have tc : ((n - hdl l : Nat) : Int) ≤ ((c - hdl l : Nat) : Int) := by omega
  have t12 : (12 : Int) ≤ (n : Int) := by omega
  have t16 : (16 : Int) ≤ (n : Int) := by omega
  have t12c : (12 : Int) ≤ (c : Int) := by omega
  have t16c : (16 : Int) ≤ (c : Int) := by omega
  have HS : Hid (inSrc l = ⟨w32 l 12, if l.getD 9 0 = 1 then w16 l (hdl l + 4) else w16 l (hdl l)⟩) := rfl
  have HD : Hid (inDst l = ⟨w32 l 16, if l.getD 9 0 = 1 then w16 l (hdl l + 4) else w16 l (hdl l + 2)⟩) := rfl
  have HR : Hid (Row w (some ⟨b, off, none⟩) l) := hr
  clear hr hn hc hi h20 hH h8 hh
  generalize inSrc l = S at *
  generalize inDst l = D at *
  generalize w16 l (hdl l) = X0 at *
  generalize w16 l (hdl l + 2) = X2 at *
  generalize w16 l (hdl l + 4) = X4 at *
  generalize w32 l 12 = A at *
  generalize w32 l 16 = Z at *
  generalize l.getD 9 0 = x9 at *
  generalize hHN : ((hdl l : Nat) : Int) = H at *
  generalize hdl l = hd at *
  have K0 : Hid _ := C0
  have K2 : Hid _ := C2
  have K4 : Hid _ := C4
  have KE : Hid _ := CE
  have M1 : Hid _ := L1
  have M2 : Hid _ := L2
  clear C0 C2 C4 CE L1 L2 hHN
  go_enter Tryz.func113, Tryz.ntmps113
  go_wp2_with fail
  refine hcall.mono ?_
  rintro e w' ⟨rfl, rfl⟩
  have hrow := HR.out
  go_upto_region 2 with fail
  generalize n - hd = nh at *
  generalize c - hd = ch at *
  go_region_held3 (fun w' => Row w' (some ⟨b, off, none⟩) l) (repeat (first | assumption | refine row_drewN ?_ | refine row_drew ?_))
    (first
      | (go_at_call 93; with_reducible refine (K0.out _ _ _ (by assumption) HN.out.1).mono ?_; rintro e w5 ⟨rfl, q5, rfl⟩)
      | (go_at_call 93; with_reducible refine (K2.out _ _ _ (by assumption) HN.out.2.1).mono ?_; rintro e w6 ⟨rfl, q6, rfl⟩))
  all_goals
    go_upto_region 3 with fail
    refine wp_letter (fun W => Row W (some ⟨b, off, none⟩) l ∧ Mem w W []) ⟨by repeat (first | assumption | refine row_drewN ?_ | refine row_drew ?_), by repeat (first | exact Mem.nil _ | refine Mem.drewN ?_ _ | refine Mem.drew ?_)⟩ ?_
    intro w1 ⟨hrow1, hM1⟩
    have HM1 : Hid _ := hM1
    have hE := KE.out w1 hrow1
    clear hM1 hrow hcall
    go_wp2_with fail
    refine hE.mono ?_
    rintro e w' ⟨rfl, rfl⟩
    clear hE
    by_cases h9 : x9 = 1
    · rw [decide_eq_true h9]
      rw [if_pos h9] at HS HD
      clear h9
      go_wp2_with fail
      refine (K4.out _ _ _ hrow1 HN.out.2.2.1).mono ?_
      rintro e w2 ⟨rfl, q2, rfl⟩
      have HM2 : Hid _ := HM1.out.drewN q2
      have hrow2 := row_drewN (n := q2) hrow1
      generalize w1.drewN q2 = w2 at *
      clear hrow1 HM1
      go_wp2_with fail
      go_region_held3 (fun w' => Row w' (some ⟨b, off, none⟩) l) (repeat (first | assumption | refine row_drewN ?_ | refine row_drew ?_ | refine row_alloc ?_))
        (first
          | (go_at_call 121; with_reducible refine (M1.out _ _ _ (by assumption) HN.out.2.2.2.1 HN.out.2.2.2.2.1).mono ?_; rintro e w5 ⟨rfl, q5, rfl⟩)
          | (go_at_call 121; with_reducible refine (M2.out _ _ _ (by assumption) HN.out.2.2.2.2.2.1 HN.out.2.2.2.2.2.2).mono ?_; rintro e w6 ⟨rfl, q6, rfl⟩))
      all_goals
        go_wp2_with fail
        go_ret
        refine ⟨_, rfl, ?_⟩
        rw [HS.out, HD.out]
        repeat (first | refine Mem.drew ?_ | refine Mem.drewN ?_ _ | refine Mem.push1 ?_ rfl | exact HM2.out)
    · rw [decide_eq_false h9]
      rw [if_neg h9] at HS HD
      clear h9
      go_wp2_with fail
      go_region_held3 (fun w' => Row w' (some ⟨b, off, none⟩) l) (repeat (first | assumption | refine row_drewN ?_ | refine row_drew ?_ | refine row_alloc ?_))
        (first
          | (go_at_call 121; with_reducible refine (M1.out _ _ _ (by assumption) HN.out.2.2.2.1 HN.out.2.2.2.2.1).mono ?_; rintro e w5 ⟨rfl, q5, rfl⟩)
          | (go_at_call 121; with_reducible refine (M2.out _ _ _ (by assumption) HN.out.2.2.2.2.2.1 HN.out.2.2.2.2.2.2).mono ?_; rintro e w6 ⟨rfl, q6, rfl⟩))
      all_goals
        go_wp2_with fail
        go_ret
        refine ⟨_, rfl, ?_⟩
        rw [HS.out, HD.out]
        repeat (first | refine Mem.drew ?_ | refine Mem.drewN ?_ _ | refine Mem.push1 ?_ rfl | exact HM1.out)
end Go.Proofs.YtjalpbkfpjfigaaGreat
