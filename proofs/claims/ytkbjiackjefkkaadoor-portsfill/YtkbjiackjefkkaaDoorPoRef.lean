/-
  Ports: the document's own: find, Has.
-/
import Derived.Test.YtkbjiackjefkkaaDoorPoKit
import Derived.Laws.StructEq
import Derived.Deep.CutBlock
namespace Go.Proofs.YtkbjiackjefkkaaDoor
open Go.RowKit
open Sm
open Po
set_option linter.unusedVariables false
set_option linter.unusedSimpArgs false
set_option maxRecDepth 20000

namespace Po
theorem pt_eq (a b c d : Int) (w : World) : (Op.equalIn 10000 35 (.agg #[.int .u32 a, .int .u16 b]) (.agg #[.int .u32 c, .int .u16 d])).run Tryd.prog w = .ok (a == c && b == d) w := by
  have u3 := Tryd.underlying33
  have u5 := Tryd.underlying32
  rw [show (10000 : Nat) = 9999 + 1 from rfl, run_equalIn_agg w 9999 35 _ _ (by kernel_rfl) (by kernel_rfl)]
  simp only [Program.fieldsOf, Tryd.underlying35]
  go_simp
  by_cases h1 : a = c <;> by_cases h2 : b = d <;> simp [h1, h2]
/-- The i-th mark of a list, by its cells. -/
theorem mark_at {V : World} {v : Value} {xs : List Mk} (h : Rw V 3 v (mx xs)) : ∃ a c, v = .slice a xs.length c ∧ xs.length ≤ c ∧ c ≤ 9223372036854775807 ∧ ∀ i (hi : i < xs.length), ∃ b off, a = some ⟨b, off, none⟩ ∧ ∀ W, Below V.heap.size V W → W.cell? ⟨b, off + i * 3, none⟩ = some (.int .u8 xs[i].1) ∧ W.cell? ⟨b, off + i * 3 + 1, none⟩ = some (.int .u32 xs[i].2.1) ∧ W.cell? ⟨b, off + i * 3 + 2, none⟩ = some (.int .u16 xs[i].2.2) := by
  obtain ⟨a, c, rfl, h1, h2, -, h4⟩ := h
  have hl : (mx xs).length = xs.length := by simp [mx]
  rw [hl] at h1 h4 ⊢
  refine ⟨a, c, rfl, h1, h2, fun i hi => ?_⟩
  rcases h4 with e | ⟨b, off, rfl, hc⟩
  · have : xs = [] := by simpa [mx] using e
    subst this
    cases hi
  · refine ⟨b, off, rfl, fun W hW => ?_⟩
    have e : (mx xs).getD i [] = mc xs[i] := by simp [mx, List.getD, List.getElem?_eq_getElem hi]
    have k := hc i hi
    rw [e] at k
    have k0 := k 0 _ rfl
    have k1 := k 1 _ rfl
    have k2 := k 2 _ rfl
    rw [Nat.add_zero] at k0
    exact ⟨by rw [hW.cell (p := ⟨b, _, none⟩) (cell_lt k0)]; exact k0, by rw [hW.cell (p := ⟨b, _, none⟩) (cell_lt k1)]; exact k1, by rw [hW.cell (p := ⟨b, _, none⟩) (cell_lt k2)]; exact k2⟩
set_option maxHeartbeats 4000000 in
theorem rfind17_any {W : World} {p : Nat} {v : Value} {xs : List Mk} (hp : W.cell? ⟨p, 0, none⟩ = some v) (hv : Rw W 3 v (mx xs)) (pr a b : Int) :
    Calls Tryd.prog 23 #[.pointer (some ⟨p, 0, none⟩), .int .u8 pr, .agg #[.int .u32 a, .int .u16 b]] W fun e W' => e = .returned (.int .i64 (fnd (pr, a, b) xs 0)) ∧ Below W.heap.size W W' := by
  obtain ⟨av, cv, rfl, hlc, hcb, hx⟩ := mark_at hv
  obtain ⟨R, hR⟩ : ∃ R, fnd (pr, a, b) xs 0 = R := ⟨_, rfl⟩
  rw [hR]
  have HX : Hid (∀ i (hi : i < xs.length), ∃ b off, av = some ⟨b, off, none⟩ ∧ ∀ V, Below W.heap.size W V → V.cell? ⟨b, off + i * 3, none⟩ = some (.int .u8 xs[i].1) ∧ V.cell? ⟨b, off + i * 3 + 1, none⟩ = some (.int .u32 xs[i].2.1) ∧ V.cell? ⟨b, off + i * 3 + 2, none⟩ = some (.int .u16 xs[i].2.2)) := hx
  have HR0 : Hid (fnd (pr, a, b) (xs.drop 0) 0 = R) := hR
  have HP : Hid (W.cell? ⟨p, 0, none⟩ = some (.slice av xs.length cv)) := hp
  have hplt := cell_lt hp
  obtain ⟨g, hg⟩ : ∃ g, W.heap.size = g := ⟨_, rfl⟩
  have HM0 : Hid (Mem W (W.alloc (.cells #[.int .u32 a, .int .u16 b] 35)) [(g, .cells #[.int .u32 a, .int .u16 b] 35 (0, 0))]) := (Mem.nil W).push1 hg.symm
  clear hx hR hv hp
  go_enter Tryd.func23, Tryd.ntmps23
  go_upto_region 1 with fail
  refine wp_letter (fun X => Mem W X [(g, .cells #[.int .u32 a, .int .u16 b] 35 (0, 0))]) (by exact HM0.out) ?_
  intro V0 hM0
  try simp only [hg]
  have H0 : Hid (Mem W V0 [(g, .cells #[.int .u32 a, .int .u16 b] 35 (0, 0))]) := hM0
  clear HM0 hM0
  go_wp2_with fail
  go_loopw [7] (fun u7 w' => ∃ i : Nat, i ≤ xs.length ∧ u7 = .int .i64 i ∧ Hid (Mem W w' [(g, .cells #[.int .u32 a, .int .u16 b] 35 (0, 0))] ∧ fnd (pr, a, b) (xs.drop i) i = R)) (fun u7 w' => xs.length - (intOf u7).toNat)
  case atStart => exact ⟨0, Nat.zero_le _, rfl, H0.out, HR0.out⟩
  case round =>
    obtain ⟨i, hi, rfl, HR⟩ := hrel
    clear H0 HR0
    have kp : wr.cell? ⟨p, 0, none⟩ = some (.slice av xs.length cv) := by rw [HR.out.1.old hplt]; exact HP.out
    by_cases hlt : i < xs.length
    · have h1 : (i : Int) < xs.length := by omega
      obtain ⟨mb, off, rfl, hV⟩ := HX.out i hlt
      obtain ⟨c0, c1, c2⟩ := hV _ HR.out.1.below
      have q0 : wr.cell? ⟨g, 0, none⟩ = some (.int .u32 a) := HR.out.1.cell 0 rfl 0
      have q1 : wr.cell? ⟨g, 1, none⟩ = some (.int .u16 b) := HR.out.1.cell 0 rfl 1
      have hd : xs.drop i = xs[i] :: xs.drop (i + 1) := List.drop_eq_getElem_cons hlt
      have hF := HR.out.2
      rw [hd, fnd] at hF
      have HF : Hid ((if xs[i] = (pr, a, b) then (i : Int) else fnd (pr, a, b) (xs.drop (i + 1)) (i + 1)) = R) := hF
      have HB : Hid (Mem W wr [(g, .cells #[.int .u32 a, .int .u16 b] 35 (0, 0))]) := HR.out.1
      clear hd hF HR hV HX
      generalize xs[i] = m at *
      obtain ⟨m0, m1, m2⟩ := m
      simp only at c0 c1 c2
      have heq := pt_eq m1 m2 a b
      by_cases e0 : m0 = pr
      · subst e0
        have hq0 : (m0 == m0) = true := by simp
        by_cases e1 : m1 = a ∧ m2 = b
        · obtain ⟨rfl, rfl⟩ := e1
          have hRi : R = (i : Int) := by rw [← HF.out]; simp
          simp only [BEq.rfl, Bool.and_self] at heq
          clear HF
          go_wp2_with fail
          go_quiet (fail)
          go_wp2_with fail
          go_ret
          exact ⟨by rw [hRi]; rfl, by first | exact HB.out.below | exact below_drewN HB.out.below _⟩
        · have hRi : fnd (m0, a, b) (xs.drop (i + 1)) (i + 1) = R := by
            rw [← HF.out, if_neg]
            intro e
            simp only [Prod.mk.injEq, true_and] at e
            exact e1 e
          have hne : (m1 == a && m2 == b) = false := by
            rw [Bool.eq_false_iff]
            intro h
            simp at h
            exact e1 h
          rw [hne] at heq
          have HQ : Hid (fnd (m0, a, b) (xs.drop (i + 1)) (i + 1) = R) := hRi
          clear HF hRi e1 hne
          go_wp2_with fail
          go_quiet (fail)
          go_wp2_with fail
          go_roundw
          case rel => exact ⟨i + 1, by omega, by go_num, HB.out.drewN _, HQ.out⟩
          case measure => simp [intOf]; omega
      · have hq0 : (m0 == pr) = false := by simpa using e0
        have HQ : Hid (fnd (pr, a, b) (xs.drop (i + 1)) (i + 1) = R) := by
          have := HF.out
          rw [if_neg (fun e => e0 (by simp only [Prod.mk.injEq] at e; exact e.1))] at this
          exact this
        clear HF e0
        go_wp2_with fail
        go_quiet (fail)
        go_wp2_with fail
        go_roundw
        case rel => exact ⟨i + 1, by omega, by go_num, HB.out.drewN _, HQ.out⟩
        case measure => simp [intOf]; omega
    · have h1 : ¬ ((i : Int) < xs.length) := by omega
      obtain rfl : i = xs.length := by omega
      have hF := HR.out.2
      rw [List.drop_length, fnd] at hF
      subst hF
      have HB : Hid (Below W.heap.size W wr) := HR.out.1.below
      clear HR HX
      go_wp2_with fail
      go_ret
      exact ⟨rfl, by first | exact HB.out | (rw [← hg]; exact HB.out)⟩
end Po
end Go.Proofs.YtkbjiackjefkkaaDoor
