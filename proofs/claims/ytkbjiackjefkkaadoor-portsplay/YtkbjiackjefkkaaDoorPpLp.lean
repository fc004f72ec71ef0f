/-
  Ports: the lowest free port of a class at an address.
-/
import Derived.Test.YtkbjiackjefkkaaDoorPpHf
namespace Go.Proofs.YtkbjiackjefkkaaDoor
open Go.RowKit
open Sm
open Po
set_option linter.unusedVariables false
set_option linter.unusedSimpArgs false
set_option maxRecDepth 20000

namespace Po
/-- The least of the numbers that are P, if there is one. -/
def LA (P : Int → Prop) (r : Int) (ok : Bool) : Prop := (ok = true ∧ P r ∧ ∀ p, p < r → ¬ P p) ∨ (ok = false ∧ r = 0 ∧ ∀ p, ¬ P p)
theorem pt1_some {xs : List Mk} {pr ip t r : Int} : ∀ (n : Nat) (f : Int), cnt f t = n → f ≤ r → r ≤ t → r % 2 = f % 2 → (pr, ip, r) ∉ xs → (∀ p, f ≤ p → p < r → p % 2 = f % 2 → (pr, ip, p) ∈ xs) → t1 xs pr ip n f = some r
  | 0, f, hn, h1, h2, h3, h4, h5 => by unfold cnt at hn; omega
  | n + 1, f, hn, h1, h2, h3, h4, h5 => by
    unfold t1
    by_cases e : f = r
    · subst e
      rw [if_neg h4]
    · rw [if_pos (h5 f (by omega) (by omega) rfl)]
      have hc := cnt_more (k := f) (t := t) (by omega)
      exact pt1_some n (f + 2) (by omega) (by omega) h2 (by omega) h4 fun p a b c => h5 p (by omega) b (by omega)
theorem pt1_none {xs : List Mk} {pr ip t : Int} : ∀ (n : Nat) (f : Int), cnt f t = n → (∀ p, f ≤ p → p ≤ t → p % 2 = f % 2 → (pr, ip, p) ∈ xs) → t1 xs pr ip n f = none
  | 0, f, hn, h5 => rfl
  | n + 1, f, hn, h5 => by
    unfold t1
    have hft : f ≤ t := by unfold cnt at hn; omega
    rw [if_pos (h5 f (by omega) hft rfl)]
    have hc := cnt_more (k := f) (t := t) hft
    exact pt1_none n (f + 2) (by omega) fun p a b c => h5 p (by omega) b (by omega)
theorem la_t1 {xs : List Mk} {pr ip lo hi want r : Int} {ok : Bool} (h : LA (Fr (plo lo want) (upt hi want) (want % 2) (hld xs pr ip)) r ok) :
    t1 xs pr ip (cnt (frm lo want) (upt hi want)) (frm lo want) = if ok then some r else none := by
  have hf : frm lo want % 2 = want % 2 ∧ plo lo want ≤ frm lo want ∧ frm lo want ≤ plo lo want + 1 := by
    unfold frm plo
    split <;> split <;> omega
  obtain ⟨f1, f2, f3⟩ := hf
  generalize frm lo want = f at *
  generalize plo lo want = a at *
  generalize upt hi want = t at *
  have hh : ∀ p, hld xs pr ip p = false ↔ (pr, ip, p) ∉ xs := fun p => by unfold hld; simp
  rcases h with ⟨rfl, ⟨g1, g2, g3, g4⟩, h2⟩ | ⟨rfl, -, h2⟩
  · simp only [if_true]
    refine pt1_some _ f rfl (by omega) g2 (by omega) ((hh r).1 g4) fun p p1 p2 p3 => ?_
    have := h2 p p2
    apply Classical.byContradiction
    intro hno
    exact this ⟨by omega, by omega, by omega, (hh p).2 hno⟩
  · simp only [Bool.false_eq_true, if_false]
    refine pt1_none _ f rfl fun p p1 p2 p3 => ?_
    apply Classical.byContradiction
    intro hno
    exact h2 p ⟨by omega, by omega, by omega, (hh p).2 hno⟩
set_option maxHeartbeats 8000000 in
theorem lowestp_any {w W : World} {p mb : Nat} {n : Int} {xs : List Mk} {es : Array MapEntry} {clock : Nat} {L : List (Nat × Obj)} (hT : TabAt 0 Lib.deBruijn64tab W) (hM : Mem w W ((p, .cells #[.map (some mb), .int .i64 n] 58 (0, 0)) :: (mb, .map es clock) :: L)) (hE : MB xs es clock) {pr ip lo hi q : Int} (hpr : 0 ≤ pr ∧ pr ≤ 255) (hip : 0 ≤ ip ∧ ip ≤ 4294967295) (hlo : 0 ≤ lo ∧ lo ≤ 65535) (hhi : 0 ≤ hi ∧ hi ≤ 65535) :
    Calls Tryd.prog 21 #[.pointer (some ⟨p, 0, none⟩), .int .u8 pr, .int .u32 ip, .agg (clv lo hi q)] W fun e W' => (∃ r ok, e = .returned (.tuple #[.int .u16 r, .bool ok]) ∧ LA (Fr lo hi q (hld xs pr ip)) r ok) ∧ Below W.heap.size W W' := by
  have hmb : W.heap[mb]? = some (.map es clock) := hM.get 1 rfl
  have hmlt : mb < W.heap.size := (Array.getElem?_eq_some_iff.mp hmb).1
  have HP00 : Hid (∀ V, Below W.heap.size W V → V.cell? ⟨p, 0, none⟩ = some (.map (some mb))) := fun V hV => by
    have h := hM.cell 0 rfl 0
    rw [hV.cell (p := ⟨p, 0, none⟩) (cell_lt h)]
    exact h
  obtain ⟨pw, hpw⟩ : ∃ x, mkw 64 (fun i => decide ((i : Int) % 2 = q)) = x := ⟨_, rfl⟩
  obtain ⟨F, hF⟩ : ∃ F : Int → Nat → Nat, (fun nb => wdp xs pr ip nb) = F := ⟨_, rfl⟩
  obtain ⟨P, hP⟩ : ∃ P, Fr lo hi q (hld xs pr ip) = P := ⟨_, rfl⟩
  have HPlo : Hid (∀ x, P x → lo ≤ x ∧ x ≤ hi) := fun x hx => by rw [← hP] at hx; exact ⟨hx.1, hx.2.1⟩
  have HC : Hid (∀ V nb, Below W.heap.size W V → 0 ≤ nb ∧ nb ≤ 64 → Calls Tryd.prog 26 #[.agg (blv (F nb)), .int .i64 (nb * 1024), .agg (clw lo hi pw)] V fun e W' => (∃ r ok, e = .returned (.tuple #[.int .i64 r, .bool ok]) ∧ LQ P (nb * 1024) (nb * 1024 + 1024) r ok) ∧ Below V.heap.size V W') := fun V nb hV hnb => by
    have := lowestb_any (tab_below hT hV) (hld xs pr ip) (nb * 1024) lo hi q (by omega) (by omega) (by omega) (by omega)
    rw [hP] at this
    rw [← hF, ← hpw]
    exact this
  have HL : Hid (∀ V nb, Below W.heap.size W V → 0 ≤ nb ∧ nb ≤ 64 → (Instr.lookup 56 (.map (some mb)) (.agg #[.int .u8 pr, .int .u32 ip, .int .i64 nb]) false).run Tryd.prog V = .ok (.agg (blv (F nb))) V) := fun V nb hV hnb => by
    have := hE.look (b := mb) (by rw [hV.block mb hmlt]; exact hmb) hpr hip (nb := nb) (by omega)
    rw [← hF]
    exact this
  have hcl : (clv lo hi q) = clw lo hi pw := by rw [← hpw]
  rw [hcl, hP]
  clear hP hF hpw hcl hE hT hmb hmlt
  obtain ⟨fb, hfb⟩ : ∃ x, lo / 1024 = x := ⟨_, rfl⟩
  obtain ⟨hb, hhb⟩ : ∃ x, hi / 1024 = x := ⟨_, rfl⟩
  have d1 : Int.tdiv lo 1024 = fb := by rw [Int.tdiv_eq_ediv_of_nonneg hlo.1]; exact hfb
  have d2 : Int.tdiv hi 1024 = hb := by rw [Int.tdiv_eq_ediv_of_nonneg hhi.1]; exact hhb
  have w1 : IntKind.i64.wrap (hb - fb) = hb - fb := by rw [IntKind.wrap_i64]; omega
  have w2 : IntKind.i64.wrap (hb - fb + 1) = hb - fb + 1 := by rw [IntKind.wrap_i64]; omega
  have hfb2 : fb * 1024 ≤ lo ∧ 0 ≤ fb ∧ fb ≤ 63 := by omega
  have hhb2 : hi < hb * 1024 + 1024 ∧ 0 ≤ hb ∧ hb ≤ 63 := by omega
  obtain ⟨g, hg⟩ : ∃ g, W.heap.size = g := ⟨_, rfl⟩
  have HM0 : Hid (Mem W (W.alloc (.cells (clw lo hi pw) 61)) [(g, .cells (clw lo hi pw) 61 (0, 0))]) := mem_front (Mem.nil W) hg _
  clear hM hfb hhb
  go_enter Tryd.func21, Tryd.ntmps21
  go_upto_region 1 with fail
  refine wp_letter (fun X => Mem W X [(g, .cells (clw lo hi pw) 61 (0, 0))]) (by exact HM0.out) ?_
  intro V0 hM0
  try simp only [hg]
  have HM1 : Hid (Mem W V0 [(g, .cells (clw lo hi pw) 61 (0, 0))]) := hM0
  have a0 : V0.cell? ⟨g, 0, none⟩ = some (.int .i64 lo) := hM0.cell 0 rfl 0
  have a1 : V0.cell? ⟨g, 1, none⟩ = some (.int .i64 hi) := hM0.cell 0 rfl 1
  clear HM0 hM0
  go_wp2_with fail
  clear a0 a1
  go_loopw [25] (fun u25 w' => ∃ i : Nat, (i = 0 ∨ (i : Int) ≤ hb - fb + 1) ∧ u25 = .int .i64 i ∧ Hid (Mem W w' [(g, .cells (clw lo hi pw) 61 (0, 0))] ∧ ∀ x : Int, x < (fb + i) * 1024 → ¬ P x)) (fun u25 w' => (hb - fb + 1).toNat - (intOf u25).toNat)
  case atStart => exact ⟨0, Or.inl rfl, rfl, HM1.out, fun x hx h => by have := HPlo.out x h; omega⟩
  case round =>
    obtain ⟨i, hi16, rfl, HR⟩ := hrel
    clear HM1
    by_cases hlt : (i : Int) < hb - fb + 1
    · obtain ⟨nb, hnb⟩ : ∃ x, fb + (i : Int) = x := ⟨_, rfl⟩
      have hnb2 : 0 ≤ nb ∧ nb ≤ 64 := by omega
      have w3 : IntKind.i64.wrap nb = nb := by rw [IntKind.wrap_i64]; omega
      have w4 : IntKind.i64.wrap (nb * 1024) = nb * 1024 := by rw [IntKind.wrap_i64]; omega
      have hM := HR.out.1
      have HP0 : Hid (∀ x : Int, x < nb * 1024 → ¬ P x) := by rw [← hnb]; exact HR.out.2
      have c0 : wr.cell? ⟨p, 0, none⟩ = some (.map (some mb)) := HP00.out wr hM.below
      obtain ⟨A, hA⟩ : ∃ A, blv (F nb) = A := ⟨_, rfl⟩
      have hl := HL.out wr nb hM.below hnb2
      rw [hA] at hl
      have hAs : A.size = 16 := by rw [← hA]; rfl
      have HA : Hid (blv (F nb) = A) := hA
      obtain ⟨g2, hg2⟩ : ∃ x, wr.heap.size = x := ⟨_, rfl⟩
      have hM2 : Mem W (wr.alloc (.cells #[.int .u64 0, .int .u64 0, .int .u64 0, .int .u64 0, .int .u64 0, .int .u64 0, .int .u64 0, .int .u64 0, .int .u64 0, .int .u64 0, .int .u64 0, .int .u64 0, .int .u64 0, .int .u64 0, .int .u64 0, .int .u64 0] 67)) [(g2, .cells #[.int .u64 0, .int .u64 0, .int .u64 0, .int .u64 0, .int .u64 0, .int .u64 0, .int .u64 0, .int .u64 0, .int .u64 0, .int .u64 0, .int .u64 0, .int .u64 0, .int .u64 0, .int .u64 0, .int .u64 0, .int .u64 0] 67 (0, 0)), (g, .cells (clw lo hi pw) 61 (0, 0))] := mem_front hM hg2 _
      have hst := storeCells_row17 (wr.alloc (.cells #[.int .u64 0, .int .u64 0, .int .u64 0, .int .u64 0, .int .u64 0, .int .u64 0, .int .u64 0, .int .u64 0, .int .u64 0, .int .u64 0, .int .u64 0, .int .u64 0, .int .u64 0, .int .u64 0, .int .u64 0, .int .u64 0] 67)) g2 _ A _ (hM2.get 0 rfl) (by rw [hAs]; rfl) (by rw [← hA]; exact blv_one _)
      have HM2 : Hid (Mem W ((wr.alloc (.cells #[.int .u64 0, .int .u64 0, .int .u64 0, .int .u64 0, .int .u64 0, .int .u64 0, .int .u64 0, .int .u64 0, .int .u64 0, .int .u64 0, .int .u64 0, .int .u64 0, .int .u64 0, .int .u64 0, .int .u64 0, .int .u64 0] 67)).setRow g2 A) [(g2, .cells A 67 (0, 0)), (g, .cells (clw lo hi pw) 61 (0, 0))]) := hM2.wrote 0 rfl (wrote_setRow _ g2 _ _ _ (hM2.get 0 rfl))
      clear hA hM HR hM2
      go_upto_region 7 with fail
      refine wp_letter (fun X => Mem W X [(g2, .cells A 67 (0, 0)), (g, .cells (clw lo hi pw) 61 (0, 0))]) (by exact HM2.out) ?_
      intro V1 hM1
      try simp only [hg2]
      rw [← HA.out] at hM1
      clear HM2 hst hl hAs HA hg2 c0
      have C1 := HC.out V1 nb hM1.below hnb2
      have HM1 : Hid (Mem W V1 [(g, .cells (clw lo hi pw) 61 (0, 0))]) := hM1.sub
      have cc := blv_cell hM1
      obtain ⟨f1, hf1⟩ : ∃ f, F nb = f := ⟨_, rfl⟩
      rw [hf1] at cc C1
      have u900 : V1.cell? ⟨g2, 0, none⟩ = some (.int .u64 (f1 0 : Nat)) := cc 0 (by decide)
      have u901 : V1.cell? ⟨g2, 1, none⟩ = some (.int .u64 (f1 1 : Nat)) := cc 1 (by decide)
      have u902 : V1.cell? ⟨g2, 2, none⟩ = some (.int .u64 (f1 2 : Nat)) := cc 2 (by decide)
      have u903 : V1.cell? ⟨g2, 3, none⟩ = some (.int .u64 (f1 3 : Nat)) := cc 3 (by decide)
      have u904 : V1.cell? ⟨g2, 4, none⟩ = some (.int .u64 (f1 4 : Nat)) := cc 4 (by decide)
      have u905 : V1.cell? ⟨g2, 5, none⟩ = some (.int .u64 (f1 5 : Nat)) := cc 5 (by decide)
      have u906 : V1.cell? ⟨g2, 6, none⟩ = some (.int .u64 (f1 6 : Nat)) := cc 6 (by decide)
      have u907 : V1.cell? ⟨g2, 7, none⟩ = some (.int .u64 (f1 7 : Nat)) := cc 7 (by decide)
      have u908 : V1.cell? ⟨g2, 8, none⟩ = some (.int .u64 (f1 8 : Nat)) := cc 8 (by decide)
      have u909 : V1.cell? ⟨g2, 9, none⟩ = some (.int .u64 (f1 9 : Nat)) := cc 9 (by decide)
      have u910 : V1.cell? ⟨g2, 10, none⟩ = some (.int .u64 (f1 10 : Nat)) := cc 10 (by decide)
      have u911 : V1.cell? ⟨g2, 11, none⟩ = some (.int .u64 (f1 11 : Nat)) := cc 11 (by decide)
      have u912 : V1.cell? ⟨g2, 12, none⟩ = some (.int .u64 (f1 12 : Nat)) := cc 12 (by decide)
      have u913 : V1.cell? ⟨g2, 13, none⟩ = some (.int .u64 (f1 13 : Nat)) := cc 13 (by decide)
      have u914 : V1.cell? ⟨g2, 14, none⟩ = some (.int .u64 (f1 14 : Nat)) := cc 14 (by decide)
      have u915 : V1.cell? ⟨g2, 15, none⟩ = some (.int .u64 (f1 15 : Nat)) := cc 15 (by decide)
      have b0 : V1.cell? ⟨g, 0, none⟩ = some (.int .i64 lo) := hM1.cell 1 rfl 0
      have b1 : V1.cell? ⟨g, 1, none⟩ = some (.int .i64 hi) := hM1.cell 1 rfl 1
      have b2 : V1.cell? ⟨g, 2, none⟩ = some (.int .u64 (pw : Int)) := hM1.cell 1 rfl 2
      clear cc hf1 hM1
      go_wp2_with fail
      refine C1.mono ?_
      rintro e V2 ⟨⟨r, ok, rfl, hQ⟩, hV⟩
      have HM3 : Hid (Mem W V2 [(g, .cells (clw lo hi pw) 61 (0, 0))]) := HM1.out.after hV
      clear C1 hV HM1 b0 b1 b2
      clear u900 u901 u902 u903 u904 u905 u906 u907 u908 u909 u910 u911 u912 u913 u914 u915
      rcases hQ with ⟨rfl, q1, q2, q3, q4⟩ | ⟨rfl, rfl, q4⟩
      · have HR2 : Hid (LA P r true) := Or.inl ⟨rfl, q3, fun x hx => by
          by_cases hx2 : x < nb * 1024
          · exact HP0.out x hx2
          · exact q4 x (by omega) hx⟩
        have hr := HPlo.out r q3
        have w5 : IntKind.u16.wrap r = r := by rw [IntKind.wrap_u16]; omega
        have HZ : Hid (Below W.heap.size W V2) := HM3.out.below
        clear HM3 q3 q4 HP0 HPlo HC HL
        go_wp2_with fail
        exact bodyPost_ret (v := .tuple #[.int .u16 r, .bool true]) (by simp [results, Tryd.results21, go_sem]) rfl ⟨⟨r, true, rfl, HR2.out⟩, HZ.out⟩
      · have HP1 : Hid (∀ x : Int, x < (nb + 1) * 1024 → ¬ P x) := fun x hx => by
          by_cases hx2 : x < nb * 1024
          · exact HP0.out x hx2
          · exact q4 x (by omega) (by omega)
        clear q4 HP0
        go_wp2_with fail
        go_roundw
        case rel => exact ⟨i + 1, Or.inr (by omega), by go_num, HM3.out, fun x hx => HP1.out x (by omega)⟩
        case measure => simp [intOf]; omega
    · have HR2 : Hid (LA P 0 false) := Or.inr ⟨rfl, rfl, fun x h => by
        have h1 := HPlo.out x h
        exact HR.out.2 x (by omega) h⟩
      have HZ : Hid (Below W.heap.size W wr) := HR.out.1.below
      clear HR HPlo HC HL
      go_wp2_with fail
      exact bodyPost_ret (v := .tuple #[.int .u16 0, .bool false]) (by simp [results, Tryd.results21, go_sem]) rfl (by first | exact ⟨⟨0, false, rfl, HR2.out⟩, HZ.out⟩ | exact ⟨⟨0, Or.inl ⟨rfl, HR2.out⟩⟩, HZ.out⟩ | exact ⟨⟨0, Or.inl ⟨rfl, HR2.out⟩⟩, by rw [← hg]; exact HZ.out⟩ | exact ⟨⟨0, false, rfl, HR2.out⟩, by rw [← hg]; exact HZ.out⟩)
end Po
end Go.Proofs.YtkbjiackjefkkaaDoor
