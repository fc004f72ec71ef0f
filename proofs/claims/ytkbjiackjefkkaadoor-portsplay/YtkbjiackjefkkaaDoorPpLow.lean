/-
  Ports: the lowest free port of a class in a block.
-/
import Derived.Test.YtkbjiackjefkkaaDoorPpCls
import Derived.Shelf.Spec.TrailingZeros
namespace Go.Proofs.YtkbjiackjefkkaaDoor
open Go.RowKit
open Sm
open Po
set_option linter.unusedVariables false
set_option linter.unusedSimpArgs false
set_option maxRecDepth 20000

namespace Po
theorem tz_core (x k idx : Nat) (w : World) (hx0 : ((x : Int) == 0) = false)
    (key : IntKind.u64.wrap (bits BinOp.and IntKind.u64 (x : Int) (IntKind.u64.wrap (-(x : Int))) * 285870213051353865) / 288230376151711744 = (idx : Int))
    (hi : idx < 64) (hk : k < 64) (hcell : w.cell? ⟨0, idx, none⟩ = some (.int .u8 k)) :
    Calls Tryd.prog 30 #[.int .u64 x] w fun e w' => e = .returned (.int .i64 k) ∧ w = w' := by
  go_enter Tryd.func30, Tryd.ntmps30
  go_wp2_with (simp only [key])
  go_ret
  exact ⟨rfl, rfl⟩
theorem tz_any {x : Nat} {w : World} (hx : x < 18446744073709551616) (hx0 : x ≠ 0) (hT : TabAt 0 Lib.deBruijn64tab w) :
    Calls Tryd.prog 30 #[.int .u64 x] w fun e w' => e = .returned (.int .i64 (Lib.ctz 64 x)) ∧ w = w' := by
  obtain ⟨hlow, hk⟩ := Lib.lowest_bit 64 x hx0 hx
  obtain ⟨hi, htab⟩ := Lib.deBruijn64_at _ hk
  have hcell := hT _ hi
  rw [htab] at hcell
  exact tz_core x _ _ w (by simp; omega) (tz64_key x _ hx hx0 hlow) hi hk hcell
theorem tab_below {g : Nat} {tab : List Nat} {w V : World} (h : TabAt g tab w) (hb : Below w.heap.size w V) : TabAt g tab V := fun j hj => by
  have := h j hj
  rw [hb.cell (p := ⟨g, j, none⟩) (cell_lt this)]
  exact this
/-- The least of the numbers from a to b that is P, if there is one. -/
def LQ (P : Int → Prop) (a b r : Int) (ok : Bool) : Prop := (ok = true ∧ a ≤ r ∧ r < b ∧ P r ∧ ∀ p, a ≤ p → p < r → ¬ P p) ∨ (ok = false ∧ r = 0 ∧ ∀ p, a ≤ p → p < b → ¬ P p)
set_option maxHeartbeats 4000000 in
theorem lowestb_raw {W : World} (hT : TabAt 0 Lib.deBruijn64tab W) (f A X c : Nat → Nat) (P : Int → Prop) (first lo hi : Int) (pw : Nat) (hfirst : 0 ≤ first ∧ first ≤ 65536)
    (hA : ∀ (V : World) (i : Nat), i < 16 → Calls Tryd.prog 29 #[.agg (clw lo hi pw), .int .i64 (first + i * 64)] V fun e V' => e = .returned (.int .u64 (A i : Nat)) ∧ Below V.heap.size V V')
    (hX : ∀ i, i < 16 → bits .andNot .u64 (A i : Nat) (f i : Nat) = (X i : Nat))
    (hn : ∀ i, i < 16 → X i ≠ 0 → X i < 18446744073709551616 ∧ Lib.ctz 64 (X i) = c i ∧ c i < 64 ∧ P (first + i * 64 + c i) ∧ ∀ b : Nat, b < c i → ¬ P (first + i * 64 + b))
    (h0 : ∀ i, i < 16 → X i = 0 → ∀ b : Nat, b < 64 → ¬ P (first + i * 64 + b)) :
    Calls Tryd.prog 26 #[.agg (blv f), .int .i64 first, .agg (clw lo hi pw)] W fun e W' => (∃ r ok, e = .returned (.tuple #[.int .i64 r, .bool ok]) ∧ LQ P first (first + 1024) r ok) ∧ Below W.heap.size W W' := by
  obtain ⟨g, hg⟩ : ∃ g, W.heap.size = g := ⟨_, rfl⟩
  have HM0 : Hid (Mem W ((W.alloc (.cells (blv f) 67)).alloc (.cells (clw lo hi pw) 61)) [(g, .cells (blv f) 67 (0, 0)), (g + 1, .cells (clw lo hi pw) 61 (0, 0))]) := ((Mem.nil W).push1 hg.symm).push2 (by rw [World.size_alloc, hg])
  have HA : Hid (∀ (V : World) (i : Nat), i < 16 → Calls Tryd.prog 29 #[.agg (clw lo hi pw), .int .i64 (first + i * 64)] V fun e V' => e = .returned (.int .u64 (A i : Nat)) ∧ Below V.heap.size V V') := hA
  have HX : Hid (∀ i, i < 16 → bits .andNot .u64 (A i : Nat) (f i : Nat) = (X i : Nat)) := hX
  have HN : Hid (∀ i, i < 16 → X i ≠ 0 → X i < 18446744073709551616 ∧ Lib.ctz 64 (X i) = c i ∧ c i < 64 ∧ P (first + i * 64 + c i) ∧ ∀ b : Nat, b < c i → ¬ P (first + i * 64 + b)) := hn
  have H0 : Hid (∀ i, i < 16 → X i = 0 → ∀ b : Nat, b < 64 → ¬ P (first + i * 64 + b)) := h0
  have HT : Hid (TabAt 0 Lib.deBruijn64tab W) := hT
  clear hA hX hn h0 hT
  go_enter Tryd.func26, Tryd.ntmps26
  go_upto_region 1 with fail
  refine wp_letter (fun X => Mem W X [(g, .cells (blv f) 67 (0, 0)), (g + 1, .cells (clw lo hi pw) 61 (0, 0))]) (by exact HM0.out) ?_
  intro V0 hM0
  try simp only [hg]
  have HM1 : Hid (Mem W V0 [(g, .cells (blv f) 67 (0, 0)), (g + 1, .cells (clw lo hi pw) 61 (0, 0))]) := hM0
  clear HM0 hM0
  go_wp2_with fail
  go_loopw [11] (fun u11 w' => ∃ i : Nat, i ≤ 16 ∧ u11 = .int .i64 i ∧ Hid (Mem W w' [(g, .cells (blv f) 67 (0, 0)), (g + 1, .cells (clw lo hi pw) 61 (0, 0))] ∧ ∀ p : Int, first ≤ p → p < first + 64 * i → ¬ P p)) (fun u11 w' => 16 - (intOf u11).toNat)
  case atStart => exact ⟨0, by omega, rfl, HM1.out, fun p a b => by omega⟩
  case round =>
    obtain ⟨i, hi16, rfl, HR⟩ := hrel
    clear HM1
    by_cases hlt : i < 16
    · have h1 : (i : Int) < 16 := by omega
      have w1 : IntKind.i64.wrap ((i : Int) * 64) = i * 64 := by rw [IntKind.wrap_i64]; omega
      have w2 : IntKind.i64.wrap (first + i * 64) = first + i * 64 := by rw [IntKind.wrap_i64]; omega
      have HM : Hid (Mem W wr [(g, .cells (blv f) 67 (0, 0)), (g + 1, .cells (clw lo hi pw) 61 (0, 0))]) := HR.out.1
      have HP : Hid (∀ p : Int, first ≤ p → p < first + 64 * i → ¬ P p) := HR.out.2
      have HS : Hid (∀ V, Mem W V [(g, .cells (blv f) 67 (0, 0)), (g + 1, .cells (clw lo hi pw) 61 (0, 0))] → (fun V => V.cell? ⟨g, i, none⟩ = some (.int .u64 (f i : Nat)) ∧ V.cell? ⟨g + 1, 0, none⟩ = some (.int .i64 lo) ∧ V.cell? ⟨g + 1, 1, none⟩ = some (.int .i64 hi) ∧ V.cell? ⟨g + 1, 2, none⟩ = some (.int .u64 (pw : Int))) V) := fun V h => ⟨blv_cell h i hlt, h.cell 1 rfl 0, h.cell 1 rfl 1, h.cell 1 rfl 2⟩
      have hx := HX.out i hlt
      clear HR HX
      go_upto_region 5 with fail
      refine wp_region_held_drew (S := (fun V => V.cell? ⟨g, i, none⟩ = some (.int .u64 (f i : Nat)) ∧ V.cell? ⟨g + 1, 0, none⟩ = some (.int .i64 lo) ∧ V.cell? ⟨g + 1, 1, none⟩ = some (.int .i64 hi) ∧ V.cell? ⟨g + 1, 2, none⟩ = some (.int .u64 (pw : Int)))) (by kernel_rfl) (HS.out _ HM.out.drew) (fun hHeld => ?_)
      refine wpAnyH_take (i := 0) (v := ?_) rfl (by kernel_rfl) (by kernel_rfl) (by kernel_rfl) (fun _ _ _ h => h) (Or.inl ⟨by rfl, ?z1⟩) (by assumption) ?_
      case z1 =>
       intro w hSw
       (try dsimp only at hSw)
       go_simp
       all_goals with_reducible rfl
      try simp only [List.getElem_toArray, List.getElem_cons_zero, List.getElem_cons_succ, Act.put, List.setIfInBounds_toArray, List.set_cons_zero, List.set_cons_succ]
      refine wpAnyH_take (i := 1) (v := ?_) rfl (by kernel_rfl) (by kernel_rfl) (by kernel_rfl) (fun _ _ _ h => h) (Or.inl ⟨by rfl, ?z2⟩) (by assumption) ?_
      case z2 =>
       intro w hSw
       (try dsimp only at hSw)
       go_simp
       all_goals with_reducible rfl
      try simp only [List.getElem_toArray, List.getElem_cons_zero, List.getElem_cons_succ, Act.put, List.setIfInBounds_toArray, List.set_cons_zero, List.set_cons_succ]
      refine wpAnyH_take (i := 3) (v := ?_) rfl (by kernel_rfl) (by kernel_rfl) (by kernel_rfl) (fun _ _ _ h => h) (Or.inl ⟨by rfl, ?z3⟩) (by assumption) ?_
      case z3 =>
       intro w hSw
       (try dsimp only at hSw)
       go_simp
       all_goals with_reducible rfl
      try simp only [List.getElem_toArray, List.getElem_cons_zero, List.getElem_cons_succ, Act.put, List.setIfInBounds_toArray, List.set_cons_zero, List.set_cons_succ]
      refine wpAnyH_take (i := 4) (v := ?_) rfl (by kernel_rfl) (by kernel_rfl) (by kernel_rfl) (fun _ _ _ h => h) (Or.inl ⟨by rfl, ?z4⟩) (by assumption) ?_
      case z4 =>
       intro w hSw
       (try dsimp only at hSw)
       go_simp
       all_goals with_reducible rfl
      try simp only [List.getElem_toArray, List.getElem_cons_zero, List.getElem_cons_succ, Act.put, List.setIfInBounds_toArray, List.set_cons_zero, List.set_cons_succ]
      refine wpAnyH_take (i := 5) (v := ?_) rfl (by kernel_rfl) (by kernel_rfl) (by kernel_rfl) (fun _ _ _ h => h) (Or.inl ⟨by rfl, ?z5⟩) (by assumption) ?_
      case z5 =>
       intro w hSw
       (try dsimp only at hSw)
       go_simp
       all_goals with_reducible rfl
      try simp only [List.getElem_toArray, List.getElem_cons_zero, List.getElem_cons_succ, Act.put, List.setIfInBounds_toArray, List.set_cons_zero, List.set_cons_succ]
      refine wpAnyH_ready (rs := [2]) (by kernel_rfl) (by simp) ?_
      refine AllReadyH.cons rfl (fun K hK => ?_) AllReadyH.nil
      go_simp
      with_reducible refine (HA.out _ i hlt).mono ?_
      rintro e V1 ⟨rfl, hV⟩
      try go_wp2_with fail
      have HM1 : Hid (Mem W V1 [(g, .cells (blv f) 67 (0, 0)), (g + 1, .cells (clw lo hi pw) 61 (0, 0))]) := (HM.out.drew).after hV
      clear hV
      refine hK.out _ _ (HS.out _ HM1.out) (fun hHeld => ?_)
      clear hK K
      try simp only [List.getElem_toArray, List.getElem_cons_zero, List.getElem_cons_succ, Act.put, List.setIfInBounds_toArray, List.set_cons_zero, List.set_cons_succ]
      refine wpAnyH_take (i := 6) (v := ?_) rfl (by kernel_rfl) (by kernel_rfl) (by kernel_rfl) (fun _ _ _ h => h) (Or.inl ⟨by rfl, ?z6⟩) (by assumption) ?_
      case z6 =>
       intro w hSw
       (try dsimp only at hSw)
       go_simp
       all_goals with_reducible rfl
      try simp only [List.getElem_toArray, List.getElem_cons_zero, List.getElem_cons_succ, Act.put, List.setIfInBounds_toArray, List.set_cons_zero, List.set_cons_succ]
      refine wpAnyH_take (i := 7) (v := ?_) rfl (by kernel_rfl) (by kernel_rfl) (by kernel_rfl) (fun _ _ _ h => h) (Or.inl ⟨by rfl, ?z7⟩) (by assumption) ?_
      case z7 =>
       intro w hSw
       (try dsimp only at hSw)
       go_simp
       all_goals with_reducible rfl
      try simp only [List.getElem_toArray, List.getElem_cons_zero, List.getElem_cons_succ, Act.put, List.setIfInBounds_toArray, List.set_cons_zero, List.set_cons_succ]
      refine wpAnyH_done (by kernel_rfl) ?_ _
      clear HS HA
      have HMd : Hid (Mem W V1 [(g, .cells (blv f) 67 (0, 0)), (g + 1, .cells (clw lo hi pw) 61 (0, 0))]) := HM1.out
      by_cases hz : X i = 0
      · have HZ : Hid (∀ b : Nat, b < 64 → ¬ P (first + i * 64 + b)) := H0.out i hlt hz
        rw [hz] at hx
        have z1 : ((X i : Int) == 0) = true := by simp [hz]
        clear HN H0
        go_wp2_with fail
        go_roundw
        case rel =>
          refine ⟨i + 1, by omega, by go_num, HMd.out, fun p a b => ?_⟩
          by_cases hp : p < first + 64 * i
          · exact HP.out p a hp
          · have := HZ.out (p - (first + i * 64)).toNat (by omega)
            rw [show first + (i : Int) * 64 + ((p - (first + i * 64)).toNat : Int) = p by omega] at this
            exact this
        case measure => simp [intOf]; omega
      · obtain ⟨hx1, hx2, hx3, hx4, hx5⟩ := HN.out i hlt hz
        have z1 : ((X i : Int) == 0) = false := by simp [hz]
        have C3 := tz_any hx1 hz (tab_below HT.out HMd.out.below)
        rw [hx2] at C3
        have w3 : IntKind.i64.wrap (first + i * 64 + c i) = first + i * 64 + c i := by rw [IntKind.wrap_i64]; omega
        have HL : Hid (LQ P first (first + 1024) (first + i * 64 + c i) true) := Or.inl ⟨rfl, by omega, by omega, hx4, fun p a b => by
          by_cases hp : p < first + 64 * i
          · exact HP.out p a hp
          · have := hx5 (p - (first + i * 64)).toNat (by omega)
            rw [show first + (i : Int) * 64 + ((p - (first + i * 64)).toNat : Int) = p by omega] at this
            exact this⟩
        clear HN H0 hx4 hx5 hx2 HP HT
        go_wp2_with fail
        refine C3.mono ?_
        rintro e V2 ⟨rfl, rfl⟩
        clear C3
        go_wp2_with fail
        exact bodyPost_ret (v := .tuple #[.int .i64 (first + i * 64 + c i), .bool true]) (by simp [results, Tryd.results26, go_sem]) rfl ⟨⟨_, _, rfl, HL.out⟩, HMd.out.below⟩
    · obtain rfl : i = 16 := by omega
      have HL : Hid (LQ P first (first + 1024) 0 false) := Or.inr ⟨rfl, rfl, fun p a b => HR.out.2 p a (by omega)⟩
      have HB : Hid (Below W.heap.size W wr) := HR.out.1.below
      clear HR HX HN H0
      go_wp2_with fail
      exact bodyPost_ret (v := .tuple #[.int .i64 0, .bool false]) (by simp [results, Tryd.results26, go_sem]) rfl ⟨⟨_, _, rfl, HL.out⟩, HB.out⟩
/-- A port of a class that isn't held. -/
def Fr (lo hi q : Int) (h : Int → Bool) (p : Int) : Prop := lo ≤ p ∧ p ≤ hi ∧ p % 2 = q ∧ h p = false
/-- The words of a block that begins with port first. -/
def wds (h : Int → Bool) (first : Int) (i : Nat) : Nat := mkw 64 (fun b => h (first + i * 64 + b))
theorem lowestb_any {W : World} (hT : TabAt 0 Lib.deBruijn64tab W) (h : Int → Bool) (first lo hi q : Int) (hfirst : 0 ≤ first ∧ first ≤ 65536) (hev : first % 2 = 0) (hlo : 0 ≤ lo ∧ lo ≤ 65536) (hhi : 0 ≤ hi ∧ hi ≤ 65536) :
    Calls Tryd.prog 26 #[.agg (blv (wds h first)), .int .i64 first, .agg (clv lo hi q)] W fun e W' => (∃ r ok, e = .returned (.tuple #[.int .i64 r, .bool ok]) ∧ LQ (Fr lo hi q h) first (first + 1024) r ok) ∧ Below W.heap.size W W' := by
  have hbit : ∀ (i : Nat) (b : Nat), (inw lo hi q (first + i * 64) b && !h (first + i * 64 + b)) = true ↔ Fr lo hi q h (first + i * 64 + b) := by
    intro i b
    unfold inw Fr
    rw [Bool.and_eq_true, decide_eq_true_eq, Bool.not_eq_true']
    constructor
    · rintro ⟨⟨a1, a2, a3⟩, a4⟩
      exact ⟨a1, a2, by omega, a4⟩
    · rintro ⟨a1, a2, a3, a4⟩
      exact ⟨⟨a1, a2, by omega⟩, a4⟩
  refine lowestb_raw hT (wds h first) (fun i => mkw 64 (inw lo hi q (first + i * 64))) (fun i => mkw 64 (fun b => inw lo hi q (first + i * 64) b && !h (first + i * 64 + b))) (fun i => Lib.ctz 64 (mkw 64 (fun b => inw lo hi q (first + i * 64) b && !h (first + i * 64 + b)))) (Fr lo hi q h) first lo hi (mkw 64 (fun i => decide ((i : Int) % 2 = q))) hfirst ?_ ?_ ?_ ?_
  · intro V i hi16
    exact inWord_any V lo hi q (first + i * 64) hlo hhi (by omega)
  · intro i hi16
    exact andNot_mkw (inw lo hi q (first + i * 64)) (fun b => h (first + i * 64 + b))
  · intro i hi16 hne
    obtain ⟨h1, h2, h3⟩ := ctz_mkw hne
    refine ⟨mkw64 _, rfl, h1, (hbit i _).1 h2, fun b hb hP => ?_⟩
    have := h3 b hb
    rw [(hbit i b).2 hP] at this
    cases this
  · intro i hi16 hz b hb hP
    have := (mkw_zero.1 hz) b hb
    rw [(hbit i b).2 hP] at this
    cases this
end Po
end Go.Proofs.YtkbjiackjefkkaaDoor
