/-
  What the document's own Words, Add and Of (lychref1) answer, and lychhelp.Words over two rows of the same words.
-/
import Derived.Test.YtjalpbkfpjfigaaGreatBytes
import Derived.Deep.QuietTactic
import Derived.BigQuiet
namespace Go.Proofs.YtjalpbkfpjfigaaGreat
open Go.RowKit
open Sm
set_option linter.unusedVariables false

theorem wvs_succ (l : List Int) (k : Nat) : wvs l (k + 1) = wvs l k ++ [.int .u16 (wd l k)] := by
  simp [wvs, List.range_succ]

set_option maxRecDepth 20000 in
set_option maxHeartbeats 1000000 in
theorem rwords_any {w : World} {a : Option Addr} {l : List Int} (h : Row w a l) (hsm : l.length ≤ 70000) (cap : Nat) :
    Calls Tryz.prog 92 #[.slice a l.length cap] w fun e w' => ∃ v, e = .returned v ∧
      w'.ownsRow w.heap.size 30 1 v (cnt l.length) (wvs l (cnt l.length)) ∧ Below w.heap.size w w' := by
  obtain ⟨i0, hi, hz0, hz1, hz2⟩ := info_parts info29
  obtain ⟨n, hn⟩ : ∃ n, n = cnt l.length := ⟨_, rfl⟩
  have hnl : 2 * n ≤ l.length + 1 := by rw [hn]; unfold cnt; omega
  have hnl2 : l.length ≤ 2 * n := by rw [hn]; unfold cnt; omega
  rw [← hn]
  clear hn
  go_enter Tryz.func92, Tryz.ntmps92
  go_wp2
  go_loopw [3, 4] (fun v i wr => ∃ k : Nat, k ≤ n ∧ i = .int .i64 (2 * (k : Int)) ∧ wr.ownsRow w.heap.size 30 1 v k (wvs l k) ∧ Below w.heap.size w wr) (fun _ i _ => 2 * n - (intOf i).toNat)
  case atStart => exact ⟨0, Nat.zero_le _, rfl, World.ownsRow_nil _ _ _ _, Below.refl _ _⟩
  case round =>
    obtain ⟨k, hk, rfl, hown, hbel⟩ := hrel
    by_cases hlt : k < n
    · have hrow := h.below hbel (Nat.le_refl _)
      have b0 := h.bytes (2 * k)
      have b1 := h.bytes (2 * k + 1)
      have hne : l ≠ [] := by rintro rfl; simp at hnl hnl2; omega
      obtain ⟨b, off, rfl, hc⟩ : ∃ b off, a = some ⟨b, off, none⟩ ∧ ∀ i, i < l.length → wr.cell? ⟨b, off + i, none⟩ = some (.int .u8 (l.getD i 0)) := by
        rcases hrow.cells with e | e
        · exact absurd e hne
        · exact e
      have c0 := hc (2 * k) (by omega)
      have HW : Hid (wd l k = l.getD (2 * k) 0 * 256 + l.getD (2 * k + 1) 0) := rfl
      have e0 : (2 * (k : Int)).toNat = 2 * k := by omega
      have e1 : (2 * (k : Int) + 1).toNat = 2 * k + 1 := by omega
      by_cases h1 : 2 * k + 1 < l.length
      · have c1 := hc (2 * k + 1) h1
        generalize l.getD (2 * k) 0 = x0 at b0 c0 HW
        generalize l.getD (2 * k + 1) 0 = x1 at b1 c1 HW
        obtain ⟨r00, r01⟩ := b0
        obtain ⟨r10, r11⟩ := b1
        have hor := sm_word x0 x1 r00 r01 r10 r11
        clear hrow h hc
        go_wp2_with (at_builtin; refine wpList_append_own _ rfl (.tmp 31) (.tmp 33) 92 rfl w.heap.size 30 i0 (.int .u16 0) 1 2 Tryz.underlying92 hi hz0 hz1 hz2 rfl (by decide) _ _ _ rfl (hown.alloc _) ⟨wr.heap.size, 0, none⟩ 1 1 [.int .u16 (x0 * 256 + x1)] rfl rfl (cell_one_new _ _ _) (one_cell_int _) (by unfold maxLen; omega) (by omega) (Nat.le_trans hbel.size (by simp)) ?_; intro v' w1 hown' hgrow _)
        have hown2 : w1.ownsRow w.heap.size 30 1 v' (k + 1) (wvs l (k + 1)) := by rw [wvs_succ, HW.out]; exact hown'
        have hbel2 : Below w.heap.size w w1 := (hbel.alloc hbel.size _).grown hgrow (Nat.le_trans hbel.size (by simp)) (own_ge hown)
        clear hown' hgrow hown c0 c1 hor
        go_wp2
        go_roundw
        case rel => exact ⟨k + 1, by omega, by go_num, hown2, hbel2⟩
        case measure => simp [intOf]; omega
      · have hx1 : l.getD (2 * k + 1) 0 = 0 := by simp [List.getD, List.getElem?_eq_none (show l.length ≤ 2 * k + 1 by omega)]
        rw [hx1] at HW
        generalize l.getD (2 * k) 0 = x0 at b0 c0 HW
        obtain ⟨r00, r01⟩ := b0
        clear hrow h hc hx1 b1
        go_wp2_with (at_builtin; refine wpList_append_own _ rfl (.tmp 31) (.tmp 33) 92 rfl w.heap.size 30 i0 (.int .u16 0) 1 2 Tryz.underlying92 hi hz0 hz1 hz2 rfl (by decide) _ _ _ rfl (hown.alloc _) ⟨wr.heap.size, 0, none⟩ 1 1 [.int .u16 (x0 * 256)] rfl rfl (cell_one_new _ _ _) (one_cell_int _) (by unfold maxLen; omega) (by omega) (Nat.le_trans hbel.size (by simp)) ?_; intro v' w1 hown' hgrow _)
        have hown2 : w1.ownsRow w.heap.size 30 1 v' (k + 1) (wvs l (k + 1)) := by rw [wvs_succ, HW.out, Int.add_zero]; exact hown'
        have hbel2 : Below w.heap.size w w1 := (hbel.alloc hbel.size _).grown hgrow (Nat.le_trans hbel.size (by simp)) (own_ge hown)
        clear hown' hgrow hown c0
        go_wp2
        go_roundw
        case rel => exact ⟨k + 1, by omega, by go_num, hown2, hbel2⟩
        case measure => simp [intOf]; omega
    · have HK : Hid (k = n) := (by omega : k = n)
      go_wp2
      go_ret
      rw [HK.out] at hown
      exact ⟨_, rfl, hown, hbel⟩

/-- A slice whose elements are the first n words of l. -/
def WRow (w : World) (a : Option Addr) (l : List Int) (n : Nat) : Prop := n = 0 ∨ ∃ b off, a = some ⟨b, off, none⟩ ∧ ∀ i, i < n → w.cell? ⟨b, off + i, none⟩ = some (.int .u16 (wd l i))

theorem wrow_own {w : World} {B n : Nat} {v : Value} {l : List Int} (h : w.ownsRow B 30 1 v n (wvs l n)) : ∃ ao cap, v = .slice ao n cap ∧ WRow w ao l n := by
  obtain ⟨h1, h2⟩ := h
  rcases h2 with ⟨rfl, h3⟩ | ⟨g, cap, cur, rfl, hg, r⟩
  · subst h3; exact ⟨none, 0, rfl, Or.inl rfl⟩
  · refine ⟨_, cap, rfl, Or.inr ⟨g, 0, rfl, fun i hi => ?_⟩⟩
    have hob : w.ownsRow B 30 1 (.slice (some ⟨g, 0, none⟩) n cap) n (wvs l n) := ⟨h1, Or.inr ⟨g, cap, cur, rfl, hg, r⟩⟩
    rw [Nat.zero_add, hob.cellAt i (by omega)]
    simp [wvs, hi]

theorem WRow.below {w w' : World} {a : Option Addr} {l : List Int} {n : Nat} (h : WRow w a l n) {B : Nat} (hb : Below B w w') (hB : w.heap.size ≤ B) : WRow w' a l n := by
  rcases h with e | ⟨b, off, rfl, hc⟩
  · exact Or.inl e
  · refine Or.inr ⟨b, off, rfl, fun i hi => ?_⟩
    have := cell_lt (hc i hi)
    rw [hb.cell (p := ⟨b, off + i, none⟩) (by simp at this ⊢; omega)]
    exact hc i hi

set_option maxRecDepth 20000 in
set_option maxHeartbeats 1000000 in
theorem radd_any {w : World} {a : Option Addr} {l : List Int} (h : Row w a l) (hsm : l.length ≤ 70000) (cap : Nat) (s : Int) (h0 : 0 ≤ s) (h1 : s ≤ 4294967295) :
    Calls Tryz.prog 68 #[.int .u32 s, .slice a l.length cap] w fun e w' => e = .returned (.int .u32 (acc l s (cnt l.length))) ∧ Below w.heap.size w w' := by
  have cW := rwords_any h hsm cap
  have hnl : cnt l.length ≤ 70000 := by unfold cnt; omega
  have hby := h.bytes
  generalize cnt l.length = n at cW hnl ⊢
  clear h
  go_enter Tryz.func68, Tryz.ntmps68
  go_wp2_with fail
  refine cW.mono ?_
  rintro e w1 ⟨v, rfl, hown, hbel⟩
  obtain ⟨ao, cp, rfl, hwr⟩ := wrow_own hown
  clear cW hown
  go_wp2_with fail
  go_loop [5, 7] (fun t i => ∃ k : Nat, k ≤ n ∧ i = .int .i64 k ∧ t = .int .u64 (acc l s k)) (fun _ i => n - (intOf i).toNat)
  case atStart => exact ⟨0, Nat.zero_le _, rfl, rfl⟩
  case round =>
    obtain ⟨k, hk, rfl, rfl⟩ := hrel
    have ra := acc_range hby s h0 h1 k
    have rw' := wd_range hby k
    obtain ⟨ra0, ra1⟩ := ra
    obtain ⟨rw0, rw1⟩ := rw'
    by_cases hlt : k < n
    · have HS : Hid (acc l s (k + 1) = addc (acc l s k) (wd l k)) := rfl
      obtain ⟨b, off, rfl, hc⟩ : ∃ b off, ao = some ⟨b, off, none⟩ ∧ ∀ i, i < n → w1.cell? ⟨b, off + i, none⟩ = some (.int .u16 (wd l i)) := by
        rcases hwr with e | e
        · omega
        · exact e
      have c0 := hc k hlt
      clear hc hwr
      by_cases hc : acc l s k + wd l k ≤ 4294967295
      · go_wp2
        go_round
        case rel => exact ⟨k + 1, by omega, by go_num, by rw [HS.out]; unfold addc; rw [if_pos hc]⟩
        case measure => simp [intOf]; omega
      · go_wp2
        go_round
        case rel => exact ⟨k + 1, by omega, by go_num, by rw [HS.out]; unfold addc; rw [if_neg (by omega)]; go_num⟩
        case measure => simp [intOf]; omega
    · go_wp2
      go_ret
      exact ⟨ret_int (by rw [show k = n by omega]), hbel⟩

set_option maxHeartbeats 400000 in
theorem rof_any {w : World} {a : Option Addr} {l : List Int} (h : Row w a l) (hsm : l.length ≤ 70000) (cap : Nat) :
    Calls Tryz.prog 54 #[.slice a l.length cap] w fun e w' => e = .returned (.int .u16 (ofv l)) ∧ Below w.heap.size w w' := by
  have ra := acc_range h.bytes 0 (by omega) (by omega) (cnt l.length)
  have HF : Hid (foldv (acc l 0 (cnt l.length)) = foldv (0 + tot l (cnt l.length))) := foldv_acc h.bytes 0 (by omega) (by omega) (cnt l.length)
  have hr := foldv_range (acc l 0 (cnt l.length))
  have hx := sm_not16 _ hr.1 hr.2
  have hs : IntKind.u16.signed = false := rfl
  go_enter Tryz.func54, Tryz.ntmps54
  go_wp2_with (first | (go_at_call 68; refine (radd_any h hsm _ _ (by omega) (by omega)).mono ?_; rintro e w' ⟨rfl, hbel⟩) | (go_at_call 67; refine (rfold_any _ _ (by omega) (by omega)).mono ?_; rintro e w' ⟨rfl, rfl⟩))
  go_ret
  exact ⟨ret_int (by unfold ofv; rw [HF.out, Int.zero_add]), hbel⟩

end Go.Proofs.YtjalpbkfpjfigaaGreat
