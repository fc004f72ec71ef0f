/-
  What the statements' own helps answer: lychhelp.Bytes over two rows of the same bytes, lychref1's Get16, cut and Put16.
  What sum.Words answers (a new row of the words), and that the chapter's example stands (lychlaw1.known).
-/
import Derived.Test.YtjalpbkfpjfigaaGreatM03
import Derived.Laws.BytesArg
import Derived.Lib.BufferRead
namespace Go.Proofs.YtjalpbkfpjfigaaGreat
open Go.RowKit
open Sm
set_option linter.unusedVariables false

/-- Bytes as a string. -/
theorem row_string {w : World} {a : Option Addr} {l : List Int} (h : Row w a l) (cap : Nat) : (convert 22 9 (.slice a l.length cap)).run Tryz.prog w = .ok (.string (strOfNums l)) w := by
  rcases h.cells with e | ⟨b, off, rfl, hc⟩
  · subst e
    cases a with
    | none => exact Lib.run_convert_nil_bytes (P := Tryz.prog) w 22 9 5 cap Tryz.underlying22 Tryz.underlying5 Tryz.underlying9
    | some x => exact run_convert_bytes_back (P := Tryz.prog) w 22 9 5 x cap [] Tryz.underlying22 Tryz.underlying5 Tryz.underlying9 (fun j hj => by simp at hj)
  · rw [run_convert_bytes_string w 22 9 5 _ _ cap Tryz.underlying22 Tryz.underlying5 Tryz.underlying9]
    have hl := run_loadCells_list (P := Tryz.prog) w ⟨b, off, none⟩ (l.map (Value.int .u8)) h.news
    rw [List.length_map] at hl
    rw [run_bytesToString w ⟨b, off, none⟩ l.length cap l hl, foldl_push_bytes]
    simp [strOfNums]

set_option maxHeartbeats 400000 in
theorem hbytes_yes {w : World} {a b : Option Addr} {l : List Int} (ha : Row w a l) (hb : Row w b l) (n m : Nat) (hn : l.length = n) (hm : l.length = m) (ca cb : Nat) :
    Calls Tryz.prog 11 #[.slice a n ca, .slice b m cb] w fun e w' => e = .returned (.bool true) ∧ w = w' := by
  subst hm
  subst hn
  have h1 := row_string ha ca
  have h2 := row_string hb cb
  generalize strOfNums l = s at h1 h2
  go_enter Tryz.func11, Tryz.ntmps11
  go_wp2
  go_ret
  exact ⟨by simp, rfl⟩

set_option maxHeartbeats 400000 in
theorem get16_row {w : World} {b off : Nat} (i : Nat) (x y : Int) (c0 : w.cell? ⟨b, off + i, none⟩ = some (.int .u8 x)) (c1 : w.cell? ⟨b, off + (i + 1), none⟩ = some (.int .u8 y))
    (r0 : 0 ≤ x) (r1 : x ≤ 255) (r2 : 0 ≤ y) (r3 : y ≤ 255) (n cap : Nat) (hi : i + 1 < n) (hn : n ≤ 140737488351232) :
    Calls Tryz.prog 41 #[.slice (some ⟨b, off, none⟩) n cap, .int .i64 i] w fun e w' => e = .returned (.int .u16 (x * 256 + y)) ∧ ∃ q, w' = w.drewN q := by
  have hor := sm_word x y r0 r1 r2 r3
  have hlt0 : (i : Int) < n := by omega
  have hlt1 : (i : Int) + 1 < n := by omega
  have e1 : ((i : Int) + 1).toNat = i + 1 := by omega
  have w0 := wrap16_small x r0 (by omega)
  have w1 := wrap16_small y r2 (by omega)
  have w2 := wrap16_small (x * 256) (by omega) (by omega)
  have hwi : IntKind.i64.wrap ((i : Int) + 1) = (i : Int) + 1 := by rw [IntKind.wrap_i64]; omega
  go_enter Tryz.func41, Tryz.ntmps41
  go_wp2
  go_quiet (fail)
  go_wp2
  go_ret
  exact ⟨rfl, _, rfl⟩

/-- A new row of bytes, as its readers see it. -/
theorem own_read {w : World} {B n : Nat} {v : Value} {l : List Int} (h : w.ownsRow B 5 1 v n (l.map (Value.int .u8))) (hn : l.length = n) (hb : IsBytes l) (hl : l.length ≤ 140737488351232) :
    ∃ ao cap, v = .slice ao n cap ∧ Row w ao l ∧ (ao = none → cap = 0) ∧ (∀ x, ao = some x → B ≤ x.block) ∧ n ≤ cap := by
  subst hn
  obtain ⟨h1, h2⟩ := h
  rcases h2 with ⟨rfl, h3⟩ | ⟨g, cap, cur, rfl, hg, r⟩
  · have e : l = [] := List.length_eq_zero_iff.mp h3
    subst e
    exact ⟨none, 0, rfl, row_nil w, fun _ => rfl, fun x hx => (by cases hx), Nat.le_refl _⟩
  · have hob : OwnB w B g cap l := ⟨h1, Or.inr ⟨g, cap, cur, rfl, hg, r⟩⟩
    exact ⟨some ⟨g, 0, none⟩, cap, rfl, hob.row hb hl, fun h => (by cases h), fun x hx => (by cases hx; exact hg), r.2.1⟩

set_option maxHeartbeats 400000 in
theorem cut_row {w : World} {b off : Nat} {l : List Int} (h : Row w (some ⟨b, off, none⟩) l) (n cap i m : Nat) (hn : l.length = n) (hc : n ≤ cap) (him : i + m ≤ n) (hsm : m ≤ 70000) :
    Calls Tryz.prog 66 #[.slice (some ⟨b, off, none⟩) n cap, .int .i64 i, .int .i64 ((i + m : Nat) : Int)] w fun e w' => ∃ v, e = .returned v ∧
      w'.ownsRow w.heap.size 5 1 v m (((l.drop i).take m).map (Value.int .u8)) ∧ Below w.heap.size w w' := by
  have hl := h.len
  have hp := h.part i m (by omega)
  have hpl : ((l.drop i).take m).length = m := by simp; omega
  generalize ((l.drop i).take m) = p at hp hpl
  have HP : Hid (Row w (some ⟨b, off + i, none⟩) p) := hp
  have HL : Hid (p.length = m) := hpl
  have h1 : ((i + m : Nat) : Int) ≤ cap := by omega
  have h2 : (i : Int) ≤ ((i + m : Nat) : Int) := by omega
  have h3 : i + m - i = m := by omega
  clear h hn him hl hp hpl
  by_cases hm0 : m = 0
  · subst hm0
    obtain rfl : p = [] := List.eq_nil_of_length_eq_zero HL.out
    by_cases hic : i = cap
    all_goals
      go_enter Tryz.func66, Tryz.ntmps66
      go_wp2_with (at_builtin; refine wpList_append_bytesG _ rfl _ _ rfl w.heap.size _ 0 [] rfl (World.ownsRow_nil _ _ _ _) _ _ [] rfl (fun e => by cases e) ⟨fun i => by simp, by simp, Or.inl rfl⟩ (by simp) (Nat.le_refl _) ?_; intro v1 w1 hown hgrow)
      go_ret
      exact ⟨_, rfl, by simpa using hown, (Below.refl _ _).grown hgrow (Nat.le_refl _) (fun k hk => by cases hk)⟩
  · have hic : ¬ i = cap := by omega
    have h4 : (i : Int) < cap := by omega
    go_enter Tryz.func66, Tryz.ntmps66
    go_wp2_with (at_builtin; refine wpList_append_bytesG _ rfl _ _ rfl w.heap.size _ 0 [] rfl (World.ownsRow_nil _ _ _ _) (some ⟨b, off + i, none⟩) (cap - i) p (by simp [Act.eval, HL.out]) (fun e => by cases e) HP.out (by rw [HL.out]; omega) (Nat.le_refl _) ?_; intro v1 w1 hown hgrow)
    go_ret
    exact ⟨_, rfl, by simpa [HL.out] using hown, (Below.refl _ _).grown hgrow (Nat.le_refl _) (fun k hk => by cases hk)⟩

end Go.Proofs.YtjalpbkfpjfigaaGreat

namespace Go.Proofs.YtjalpbkfpjfigaaGreat
open Go.RowKit
open Sm
set_option linter.unusedVariables false

theorem info29 : (Tryz.prog.info? 30).map (fun i => (i.zero, i.size, i.bytes)) = some (some (.int .u16 0), 1, 2) := by kernel_rfl

/-- The words as values. -/
def wvs (l : List Int) (k : Nat) : List Value := (List.range k).map fun i => .int .u16 (wd l i)
theorem wvs_len (l : List Int) (k : Nat) : (wvs l k).length = k := by simp [wvs]
/-- The words that are there, and noughts behind. -/
def wvn (l : List Int) (n k : Nat) : List Value := (List.range n).map fun i => .int .u16 (if i < k then wd l i else 0)
theorem wvn_zero (l : List Int) (n : Nat) : wvn l n 0 = List.replicate n (.int .u16 0) := by
  apply List.ext_getElem <;> simp [wvn]
theorem wvn_succ (l : List Int) (n k : Nat) : wvn l n (k + 1) = (wvn l n k).set k (.int .u16 (wd l k)) := by
  apply List.ext_getElem
  · simp [wvn]
  · intro i h1 h2
    simp only [wvn, List.length_map, List.length_range] at h1
    by_cases e : k = i
    · subst e; simp [wvn]
    · rw [List.getElem_set_ne e]
      simp only [wvn, List.getElem_map, List.getElem_range]
      by_cases c : i < k
      · rw [if_pos c, if_pos (by omega)]
      · rw [if_neg c, if_neg (by omega)]
theorem wvn_full (l : List Int) (n : Nat) : wvn l n n = wvs l n := by
  apply List.ext_getElem
  · simp [wvn, wvs]
  · intro i h1 h2
    simp only [wvn, List.length_map, List.length_range] at h1
    simp [wvn, wvs, h1]

end Go.Proofs.YtjalpbkfpjfigaaGreat

