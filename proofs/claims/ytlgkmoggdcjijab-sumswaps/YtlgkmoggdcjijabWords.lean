/-
  What sum.Words answers (a new row of the words), and that the chapter's example stands (lychlaw1.known).
-/
import Derived.Test.YtlgkmoggdcjijabSum
namespace Go.Proofs.Ytlgkmoggdcjijab
open Go.RowKit
open Sm
set_option linter.unusedVariables false

theorem cell_lt {w : World} {p : Addr} {v : Value} (h : w.cell? p = some v) : p.block < w.heap.size := by
  by_cases hc : p.block < w.heap.size
  · exact hc
  · have : w.heap[p.block]? = none := by simp; omega
    simp [World.cell?, this] at h

theorem Row.below {w w' : World} {a : Option Addr} {l : List Int} (h : Row w a l) {B : Nat} (hb : Below B w w') (hB : w.heap.size ≤ B) : Row w' a l := by
  refine ⟨h.bytes, h.len, ?_⟩
  rcases h.cells with e | ⟨b, off, rfl, hc⟩
  · exact Or.inl e
  · refine Or.inr ⟨b, off, rfl, fun i hi => ?_⟩
    have := cell_lt (hc i hi)
    rw [hb.cell (p := ⟨b, off + i, none⟩) (by simp at this ⊢; omega)]
    exact hc i hi

theorem info29 : (Try.prog.info? 25).map (fun i => (i.zero, i.size, i.bytes)) = some (some (.int .u16 0), 1, 2) := by kernel_rfl
theorem info5 : (Try.prog.info? 5).map (fun i => (i.zero, i.size, i.bytes)) = some (some (.int .u8 0), 1, 1) := by kernel_rfl

/-- The words as values. -/
def wvs (l : List Int) (k : Nat) : List Value := (List.range k).map fun i => .int .u16 (wd l i)
theorem wvs_len (l : List Int) (k : Nat) : (wvs l k).length = k := by simp [wvs]
/-- The words that are there, and noughts behind. -/
def wvn (l : List Int) (n k : Nat) : List Value := (List.range n).map fun i => .int .u16 (if i < k then wd l i else 0)
theorem wvn_zero (l : List Int) (n : Nat) : wvn l n 0 = List.replicate n (.int .u16 0) := by
  apply List.ext_getElem <;> simp [wvn]
theorem wvn_succ (l : List Int) (n k : Nat) : wvn l n (k + 1) = (wvn l n k).set k (.int .u16 (wd l k)) := by
  apply List.ext_getElem
  · simp [wvn]
  · intro i h1 h2
    simp only [wvn, List.length_map, List.length_range] at h1
    by_cases e : k = i
    · subst e; simp [wvn]
    · rw [List.getElem_set_ne e]
      simp only [wvn, List.getElem_map, List.getElem_range]
      by_cases c : i < k
      · rw [if_pos c, if_pos (by omega)]
      · rw [if_neg c, if_neg (by omega)]
theorem wvn_full (l : List Int) (n : Nat) : wvn l n n = wvs l n := by
  apply List.ext_getElem
  · simp [wvn, wvs]
  · intro i h1 h2
    simp only [wvn, List.length_map, List.length_range] at h1
    simp [wvn, wvs, h1]

set_option maxHeartbeats 1000000 in
theorem words_any {w : World} {a : Option Addr} {l : List Int} (h : Row w a l) (cap : Nat) :
    Calls Try.prog 9 #[.slice a l.length cap] w fun e w' => e = .returned (.slice (some ⟨w.heap.size, 0, none⟩) (cnt l.length) (cnt l.length)) ∧
      w'.ownsRow w.heap.size 25 1 (.slice (some ⟨w.heap.size, 0, none⟩) (cnt l.length) (cnt l.length)) (cnt l.length) (wvs l (cnt l.length)) ∧ Below w.heap.size w w' := by
  have hlen := h.len
  obtain ⟨i0, hi, hz0, hz1, hz2⟩ := info_parts info29
  have hcl : cnt l.length ≤ l.length := by unfold cnt; omega
  obtain ⟨n, hn⟩ : ∃ n, n = cnt l.length := ⟨_, rfl⟩
  have hnl : n ≤ 140737488351232 := by omega
  have HN : Hid (n = cnt l.length) := hn
  rw [← hn]
  clear hcl hn
  go_enter Try.func9, Try.ntmps9
  go_wp2_with (first
    | (go_at_call 13; refine (count_any _ _ _ _ hlen).mono ?_; rintro e w' ⟨rfl, rfl⟩; rw [← HN.out])
    | (at_make; refine wpList_make_full _ rfl (.tmp 6) (.tmp 6) 31 rfl _ 25 i0 (.int .u16 0) 1 Try.underlying31 hi hz0 hz1 .i64 .i64 n n n rfl rfl rfl rfl (by rw [hz2]; omega) (by unfold maxLen; omega) (Nat.le_refl _) ?_; intro w1 hown hgrow))
  have hown0 : w1.ownsRow w.heap.size 25 1 (.slice (some ⟨w.heap.size, 0, none⟩) n n) n (wvn l n 0) := by
    rw [wvn_zero]
    have e : (madeCells (Value.int IntKind.u16 0).cells (n * 1)).toList = List.replicate n (.int .u16 0) := by
      rw [Nat.mul_one]; exact toList_madeCells_one _ _
    rw [← e]; exact hown
  have hbel0 : Below w.heap.size w w1 := (Below.refl _ _).grown hgrow (Nat.le_refl _) (fun k hk => by cases hk)
  clear hown hgrow
  go_loopw [10] (fun i wr => ∃ k : Nat, k ≤ n ∧ i = .int .i64 k ∧ wr.ownsRow w.heap.size 25 1 (.slice (some ⟨w.heap.size, 0, none⟩) n n) n (wvn l n k) ∧ Below w.heap.size w wr) (fun i _ => n - (intOf i).toNat)
  case atStart => exact ⟨0, Nat.zero_le _, rfl, hown0, hbel0⟩
  case round =>
    obtain ⟨k, hk, rfl, hown, hbel⟩ := hrel
    by_cases hlt : k < n
    · have hrow := h.below hbel (Nat.le_refl _)
      obtain ⟨v0, hc⟩ : ∃ v0, wr.cell? ⟨w.heap.size, k, none⟩ = some v0 := by
        rw [hown.cellAt k (by omega)]; exact ⟨_, List.getElem?_eq_getElem (by simp [wvn]; exact hlt)⟩
      have hf := hown.frozenAt k
      have hst := hown.stored k (.int .u16 (wd l k))
      rw [← wvn_succ] at hst
      have hb2 := hbel.setCell (p := ⟨w.heap.size, k, none⟩) (Nat.le_refl _) (.int .u16 (wd l k))
      have hrg := wd_range h.bytes k
      obtain ⟨hst1, hst2⟩ := hst
      clear hown0 hbel0 hst2
      have H1 : Hid (_) := hst1
      have H2 : Hid (_) := hb2
      clear hst1 hb2 hown hbel
      go_wp2_with (go_at_call 14; refine (word_row hrow _ _ (by rw [← HN.out]; exact hlt)).mono ?_; rintro e w' ⟨rfl, rfl⟩)
      go_roundw
      case rel => exact ⟨k + 1, by omega, by go_num, H1.out, H2.out⟩
      case measure => simp [intOf]; omega
    · have ek : k = n := by omega
      have HK : Hid (k = n) := ek
      clear ek
      go_wp2
      go_ret
      refine ⟨rfl, ?_, hbel⟩
      rw [HK.out, wvn_full] at hown
      exact hown
end Go.Proofs.Ytlgkmoggdcjijab
