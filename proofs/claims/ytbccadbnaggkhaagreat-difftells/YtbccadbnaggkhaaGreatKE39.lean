/-
  What is changed: lychhelp.Changes, where both are the same changes.
  What is changed: the document's set.
-/
import Derived.Test.YtbccadbnaggkhaaGreatKE38
namespace Go.Proofs.YtbccadbnaggkhaaGreat
open Go.RowKit
open Sm
open Cf
open Df
set_option linter.unusedVariables false
set_option linter.unusedSimpArgs false
set_option maxRecDepth 20000

namespace Df
theorem yz_same {ys : List Hv} {l : List Chg} (h : ys.map Prod.fst = l) {i : Nat} (hi : i < ys.length) (hl : i < l.length) : ys[i].1 = l[i] := by
  subst h
  simp
set_option maxHeartbeats 8000000 in
theorem hchs_yes {w : World} {va vb : Value} {xs ys : List Hv} {l : List Chg} (ha : YV w va xs) (hb : YV w vb ys) (hx : xs.map Prod.fst = l) (hy : ys.map Prod.fst = l) (hf : ∀ h ∈ l, TIn h.t) :
    Calls Tryz.prog 16 #[va, vb] w fun e w' => e = .returned (.bool true) ∧ Below w.heap.size w w' := by
  obtain ⟨sa, sc, rfl, hlc, hcb, hX⟩ := ha.parts
  obtain ⟨ta, tc', rfl, hlc', hcb', hY⟩ := hb.parts
  have lx : xs.length = l.length := by rw [← hx, List.length_map]
  have ly : ys.length = l.length := by rw [← hy, List.length_map]
  have HX : Hid (∀ i, i < l.length → ∃ b off xl b' off' yl p n, sa = some ⟨b, off, none⟩ ∧ ta = some ⟨b', off', none⟩ ∧ xl.length = 33 ∧ yl.length = 33 ∧ ∀ V, Below w.heap.size w V → (V.cell? ⟨b, off + i * 35, none⟩ = some (.bool p) ∧ V.cell? ⟨b, off + i * 35 + 1, none⟩ = some (.string n) ∧ V.rangeAt b (off + i * 35 + 2) xl ∧ V.cell? ⟨b', off' + i * 35, none⟩ = some (.bool p) ∧ V.cell? ⟨b', off' + i * 35 + 1, none⟩ = some (.string n) ∧ V.rangeAt b' (off' + i * 35 + 2) yl) ∧
      Calls Tryz.prog 15 #[.agg xl.toArray, .agg yl.toArray] V fun e V' => e = .returned (.bool true) ∧ Below V.heap.size V V') := by
    intro i hi
    have hix : i < xs.length := by omega
    have hiy : i < ys.length := by omega
    obtain ⟨b, off, e1, h1⟩ := hX i hix
    obtain ⟨b', off', f1, h2⟩ := hY i hiy
    have ex := yz_same hx hix hi
    have ey := yz_same hy hiy hi
    have kx := ha.each _ (List.getElem_mem hix)
    have ky := hb.each _ (List.getElem_mem hiy)
    have key : ∀ (y : Hv) (b off : Nat) (V : World), V.rangeAt b off (yc y) → V.cell? ⟨b, off, none⟩ = some (.bool y.1.put) ∧ V.cell? ⟨b, off + 1, none⟩ = some (.string y.1.name) ∧ V.rangeAt b (off + 2) (zc (yz y)) := by
      intro y b off V h
      refine ⟨h 0 (.bool y.1.put) rfl, h 1 (.string y.1.name) rfl, fun j x hj => ?_⟩
      have := h (j + 2) x (by rw [yc_eq, List.getElem?_cons_succ, List.getElem?_cons_succ]; exact hj)
      rw [show off + 2 + j = off + (j + 2) by omega]
      exact this
    refine ⟨b, off, zc (yz xs[i]), b', off', zc (yz ys[i]), l[i].put, l[i].name, e1, f1, zc33 kx.1, zc33 ky.1, fun V hV => ⟨?_, ?_⟩⟩
    · obtain ⟨p1, p2, p3⟩ := key _ _ _ V (h1 V hV)
      obtain ⟨q1, q2, q3⟩ := key _ _ _ V (h2 V hV)
      rw [ex] at p1 p2
      rw [ey] at q1 q2
      exact ⟨p1, p2, p3, q1, q2, q3⟩
    · have hin := hf _ (List.getElem_mem hi)
      have t1 : TV V (tv (yz xs[i])) xs[i].1.t := tv_tv (z := yz xs[i]) kx.1 (Rws.at_ kx.2 hV)
      have t2 : TV V (tv (yz ys[i])) ys[i].1.t := tv_tv (z := yz ys[i]) ky.1 (Rws.at_ ky.2 hV)
      rw [ex] at t1
      rw [ey] at t2
      exact htenant_yes t1 t2 ⟨hin.pool, hin.stat, hin.twi⟩ (TSame.refl' _)
  have HB : Hid (Below w.heap.size w w) := Below.refl _ _
  rw [lx] at hlc
  rw [lx, ly]
  clear ha hb hX hY hx hy hf lx ly hlc'
  generalize l.length = N at *
  go_enter Tryz.func16, Tryz.ntmps16
  go_wp2_with fail
  go_loopw [5] (fun u5 w' => ∃ i : Nat, i ≤ N ∧ u5 = .int .i64 i ∧ Hid (Below w.heap.size w w')) (fun u5 w' => N - (intOf u5).toNat)
  case atStart => exact ⟨0, Nat.zero_le _, rfl, HB⟩
  case round =>
    obtain ⟨i, hi, rfl, HR⟩ := hrel
    clear HB
    by_cases hlt : i < N
    · have h1 : (i : Int) < N := by omega
      obtain ⟨b, off, xl, b', off', yl, p, n, rfl, rfl, hs1, hs2, hV⟩ := HX.out i hlt
      have i1 : (Tryz.prog.info? 34).map (·.size) = some xl.length := by rw [hs1]; kernel_rfl
      have i2 : (Tryz.prog.info? 34).map (·.size) = some yl.length := by rw [hs2]; kernel_rfl
      have en : (n.toList == n.toList) = true := by simp
      have hd : Below w.heap.size w wr.drew := HR.out.drew
      obtain ⟨rr, CT⟩ := hV _ hd
      have HS : Hid (∀ V, Below w.heap.size w V → V.cell? ⟨b, off + i * 35, none⟩ = some (.bool p) ∧ V.cell? ⟨b, off + i * 35 + 1, none⟩ = some (.string n) ∧ V.rangeAt b (off + i * 35 + 2) xl ∧ V.cell? ⟨b', off' + i * 35, none⟩ = some (.bool p) ∧ V.cell? ⟨b', off' + i * 35 + 1, none⟩ = some (.string n) ∧ V.rangeAt b' (off' + i * 35 + 2) yl) := fun V h => (hV V h).1
      have HD : Hid (Below w.heap.size w wr.drew) := hd
      clear hV hd hs1 hs2 HR HX
      go_upto_region 6 with fail
      refine wp_region_held_drew (S := fun V => V.cell? ⟨b, off + i * 35, none⟩ = some (.bool p) ∧ V.cell? ⟨b, off + i * 35 + 1, none⟩ = some (.string n) ∧ V.rangeAt b (off + i * 35 + 2) xl ∧ V.cell? ⟨b', off' + i * 35, none⟩ = some (.bool p) ∧ V.cell? ⟨b', off' + i * 35 + 1, none⟩ = some (.string n) ∧ V.rangeAt b' (off' + i * 35 + 2) yl) (by kernel_rfl) rr (fun hHeld => ?_)
      refine wpAnyH_take (i := 0) (v := ?_) rfl (by kernel_rfl) (by kernel_rfl) (by kernel_rfl) (fun _ _ _ h => h) (Or.inl ⟨by rfl, ?qy0⟩) (by assumption) ?qr0
      case qy0 =>
        intro w hSw
        (try dsimp only at hSw)
        go_simp
        all_goals with_reducible rfl
      try simp only [List.getElem_toArray, List.getElem_cons_zero, List.getElem_cons_succ, Act.put, List.setIfInBounds_toArray, List.set_cons_zero, List.set_cons_succ]
      refine wpAnyH_take (i := 1) (v := ?_) rfl (by kernel_rfl) (by kernel_rfl) (by kernel_rfl) (fun _ _ _ h => h) (Or.inl ⟨by rfl, ?qy1⟩) (by assumption) ?qr1
      case qy1 =>
        intro w hSw
        (try dsimp only at hSw)
        go_simp
        all_goals with_reducible rfl
      try simp only [List.getElem_toArray, List.getElem_cons_zero, List.getElem_cons_succ, Act.put, List.setIfInBounds_toArray, List.set_cons_zero, List.set_cons_succ]
      refine wpAnyH_take (i := 2) (v := ?_) rfl (by kernel_rfl) (by kernel_rfl) (by kernel_rfl) (fun _ _ _ h => h) (Or.inl ⟨by rfl, ?qy2⟩) (by assumption) ?qr2
      case qy2 =>
        intro w hSw
        (try dsimp only at hSw)
        go_simp
        all_goals with_reducible rfl
      try simp only [List.getElem_toArray, List.getElem_cons_zero, List.getElem_cons_succ, Act.put, List.setIfInBounds_toArray, List.set_cons_zero, List.set_cons_succ]
      refine wpAnyH_take (i := 3) (v := ?_) rfl (by kernel_rfl) (by kernel_rfl) (by kernel_rfl) (fun _ _ _ h => h) (Or.inl ⟨by rfl, ?qy3⟩) (by assumption) ?qr3
      case qy3 =>
        intro w hSw
        (try dsimp only at hSw)
        go_simp
        all_goals with_reducible rfl
      try simp only [List.getElem_toArray, List.getElem_cons_zero, List.getElem_cons_succ, Act.put, List.setIfInBounds_toArray, List.set_cons_zero, List.set_cons_succ]
      refine wpAnyH_take (i := 4) (v := ?_) rfl (by kernel_rfl) (by kernel_rfl) (by kernel_rfl) (fun _ _ _ h => h) (Or.inl ⟨by rfl, ?qy4⟩) (by assumption) ?qr4
      case qy4 =>
        intro w hSw
        (try dsimp only at hSw)
        go_simp
        all_goals with_reducible rfl
      try simp only [List.getElem_toArray, List.getElem_cons_zero, List.getElem_cons_succ, Act.put, List.setIfInBounds_toArray, List.set_cons_zero, List.set_cons_succ]
      refine wpAnyH_take (i := 5) (v := ?_) rfl (by kernel_rfl) (by kernel_rfl) (by kernel_rfl) (fun _ _ _ h => h) (Or.inl ⟨by rfl, ?qy5⟩) (by assumption) ?qr5
      case qy5 =>
        intro w hSw
        (try dsimp only at hSw)
        go_simp
        all_goals with_reducible rfl
      try simp only [List.getElem_toArray, List.getElem_cons_zero, List.getElem_cons_succ, Act.put, List.setIfInBounds_toArray, List.set_cons_zero, List.set_cons_succ]
      refine wpAnyH_take (i := 6) (v := ?_) rfl (by kernel_rfl) (by kernel_rfl) (by kernel_rfl) (fun _ _ _ h => h) (Or.inl ⟨by rfl, ?qy6⟩) (by assumption) ?qr6
      case qy6 =>
        intro w hSw
        (try dsimp only at hSw)
        go_simp
        all_goals with_reducible rfl
      try simp only [List.getElem_toArray, List.getElem_cons_zero, List.getElem_cons_succ, Act.put, List.setIfInBounds_toArray, List.set_cons_zero, List.set_cons_succ]
      refine wpAnyH_take (i := 7) (v := ?_) rfl (by kernel_rfl) (by kernel_rfl) (by kernel_rfl) (fun _ _ _ h => h) (Or.inl ⟨by rfl, ?qy7⟩) (by assumption) ?qr7
      case qy7 =>
        intro w hSw
        (try dsimp only at hSw)
        go_simp
        all_goals with_reducible rfl
      try simp only [List.getElem_toArray, List.getElem_cons_zero, List.getElem_cons_succ, Act.put, List.setIfInBounds_toArray, List.set_cons_zero, List.set_cons_succ]
      refine wpAnyH_take (i := 8) (v := ?_) rfl (by kernel_rfl) (by kernel_rfl) (by kernel_rfl) (fun _ _ _ h => h) (Or.inl ⟨by rfl, ?qy8⟩) (by assumption) ?qr8
      case qy8 =>
        intro w hSw
        (try dsimp only at hSw)
        go_simp
        all_goals with_reducible rfl
      try simp only [List.getElem_toArray, List.getElem_cons_zero, List.getElem_cons_succ, Act.put, List.setIfInBounds_toArray, List.set_cons_zero, List.set_cons_succ]
      refine wpAnyH_take (i := 9) (v := ?_) rfl (by kernel_rfl) (by kernel_rfl) (by kernel_rfl) (fun _ _ _ h => h) (Or.inl ⟨by rfl, ?qy9⟩) (by assumption) ?qr9
      case qy9 =>
        intro w hSw
        (try dsimp only at hSw)
        go_simp
        all_goals with_reducible rfl
      try simp only [List.getElem_toArray, List.getElem_cons_zero, List.getElem_cons_succ, Act.put, List.setIfInBounds_toArray, List.set_cons_zero, List.set_cons_succ]
      refine wpAnyH_take (i := 10) (v := ?_) rfl (by kernel_rfl) (by kernel_rfl) (by kernel_rfl) (fun _ _ _ h => h) (Or.inl ⟨by rfl, ?qy10⟩) (by assumption) ?qr10
      case qy10 =>
        intro w hSw
        (try dsimp only at hSw)
        go_simp
        all_goals with_reducible rfl
      try simp only [List.getElem_toArray, List.getElem_cons_zero, List.getElem_cons_succ, Act.put, List.setIfInBounds_toArray, List.set_cons_zero, List.set_cons_succ]
      refine wpAnyH_take (i := 11) (v := ?_) rfl (by kernel_rfl) (by kernel_rfl) (by kernel_rfl) (fun _ _ _ h => h) (Or.inl ⟨by rfl, ?qy11⟩) (by assumption) ?qr11
      case qy11 =>
        intro w hSw
        (try dsimp only at hSw)
        go_simp
        all_goals with_reducible rfl
      try simp only [List.getElem_toArray, List.getElem_cons_zero, List.getElem_cons_succ, Act.put, List.setIfInBounds_toArray, List.set_cons_zero, List.set_cons_succ]
      refine wpAnyH_take (i := 12) (v := ?_) rfl (by kernel_rfl) (by kernel_rfl) (by kernel_rfl) (fun _ _ _ h => h) (Or.inl ⟨by rfl, ?qy12⟩) (by assumption) ?qr12
      case qy12 =>
        intro w hSw
        (try dsimp only at hSw)
        go_simp
        all_goals with_reducible rfl
      try simp only [List.getElem_toArray, List.getElem_cons_zero, List.getElem_cons_succ, Act.put, List.setIfInBounds_toArray, List.set_cons_zero, List.set_cons_succ]
      refine wpAnyH_take (i := 13) (v := ?_) rfl (by kernel_rfl) (by kernel_rfl) (by kernel_rfl) (fun _ _ _ h => h) (Or.inl ⟨by rfl, ?qy13⟩) (by assumption) ?qr13
      case qy13 =>
        intro w hSw
        (try dsimp only at hSw)
        go_simp
        all_goals with_reducible rfl
      try simp only [List.getElem_toArray, List.getElem_cons_zero, List.getElem_cons_succ, Act.put, List.setIfInBounds_toArray, List.set_cons_zero, List.set_cons_succ]
      refine wpAnyH_take (i := 14) (v := ?_) rfl (by kernel_rfl) (by kernel_rfl) (by kernel_rfl) (fun _ _ _ h => h) (Or.inl ⟨by rfl, ?qy14⟩) (by assumption) ?qr14
      case qy14 =>
        intro w hSw
        (try dsimp only at hSw)
        go_simp
        all_goals with_reducible rfl
      try simp only [List.getElem_toArray, List.getElem_cons_zero, List.getElem_cons_succ, Act.put, List.setIfInBounds_toArray, List.set_cons_zero, List.set_cons_succ]
      refine wpAnyH_take (i := 15) (v := ?_) rfl (by kernel_rfl) (by kernel_rfl) (by kernel_rfl) (fun _ _ _ h => h) (Or.inl ⟨by rfl, ?qy15⟩) (by assumption) ?qr15
      case qy15 =>
        intro w hSw
        (try dsimp only at hSw)
        go_simp
        all_goals with_reducible rfl
      try simp only [List.getElem_toArray, List.getElem_cons_zero, List.getElem_cons_succ, Act.put, List.setIfInBounds_toArray, List.set_cons_zero, List.set_cons_succ]
      refine wpAnyH_take (i := 16) (v := ?_) rfl (by kernel_rfl) (by kernel_rfl) (by kernel_rfl) (fun _ _ _ h => h) (Or.inl ⟨by rfl, ?qy16⟩) (by assumption) ?qr16
      case qy16 =>
        intro w hSw
        (try dsimp only at hSw)
        go_simp
        all_goals with_reducible rfl
      try simp only [List.getElem_toArray, List.getElem_cons_zero, List.getElem_cons_succ, Act.put, List.setIfInBounds_toArray, List.set_cons_zero, List.set_cons_succ]
      refine wpAnyH_take (i := 17) (v := ?_) rfl (by kernel_rfl) (by kernel_rfl) (by kernel_rfl) (fun _ _ _ h => h) (Or.inl ⟨by rfl, ?qy17⟩) (by assumption) ?qr17
      case qy17 =>
        intro w hSw
        (try dsimp only at hSw)
        go_simp
        all_goals with_reducible rfl
      try simp only [List.getElem_toArray, List.getElem_cons_zero, List.getElem_cons_succ, Act.put, List.setIfInBounds_toArray, List.set_cons_zero, List.set_cons_succ]
      refine wpAnyH_take (i := 18) (v := ?_) rfl (by kernel_rfl) (by kernel_rfl) (by kernel_rfl) (fun _ _ _ h => h) (Or.inl ⟨by rfl, ?qy18⟩) (by assumption) ?qr18
      case qy18 =>
        intro w hSw
        (try dsimp only at hSw)
        go_simp
        all_goals with_reducible rfl
      try simp only [List.getElem_toArray, List.getElem_cons_zero, List.getElem_cons_succ, Act.put, List.setIfInBounds_toArray, List.set_cons_zero, List.set_cons_succ]
      refine wpAnyH_take (i := 19) (v := ?_) rfl (by kernel_rfl) (by kernel_rfl) (by kernel_rfl) (fun _ _ _ h => h) (Or.inl ⟨by rfl, ?qy19⟩) (by assumption) ?qr19
      case qy19 =>
        intro w hSw
        (try dsimp only at hSw)
        go_simp
        all_goals with_reducible rfl
      try simp only [List.getElem_toArray, List.getElem_cons_zero, List.getElem_cons_succ, Act.put, List.setIfInBounds_toArray, List.set_cons_zero, List.set_cons_succ]
      refine wpAnyH_take (i := 20) (v := ?_) rfl (by kernel_rfl) (by kernel_rfl) (by kernel_rfl) (fun _ _ _ h => h) (Or.inl ⟨by rfl, ?qy20⟩) (by assumption) ?qr20
      case qy20 =>
        intro w hSw
        (try dsimp only at hSw)
        go_simp
        all_goals with_reducible rfl
      try simp only [List.getElem_toArray, List.getElem_cons_zero, List.getElem_cons_succ, Act.put, List.setIfInBounds_toArray, List.set_cons_zero, List.set_cons_succ]
      refine wpAnyH_take (i := 21) (v := ?_) rfl (by kernel_rfl) (by kernel_rfl) (by kernel_rfl) (fun _ _ _ h => h) (Or.inl ⟨by rfl, ?qy21⟩) (by assumption) ?qr21
      case qy21 =>
        intro w hSw
        (try dsimp only at hSw)
        go_simp
        all_goals with_reducible rfl
      try simp only [List.getElem_toArray, List.getElem_cons_zero, List.getElem_cons_succ, Act.put, List.setIfInBounds_toArray, List.set_cons_zero, List.set_cons_succ]
      refine wpAnyH_take (i := 22) (v := ?_) rfl (by kernel_rfl) (by kernel_rfl) (by kernel_rfl) (fun _ _ _ h => h) (Or.inl ⟨by rfl, ?qy22⟩) (by assumption) ?qr22
      case qy22 =>
        intro w hSw
        (try dsimp only at hSw)
        go_simp
        all_goals with_reducible rfl
      try simp only [List.getElem_toArray, List.getElem_cons_zero, List.getElem_cons_succ, Act.put, List.setIfInBounds_toArray, List.set_cons_zero, List.set_cons_succ]
      refine wpAnyH_take (i := 23) (v := ?_) rfl (by kernel_rfl) (by kernel_rfl) (by kernel_rfl) (fun _ _ _ h => h) (Or.inl ⟨by rfl, ?qy23⟩) (by assumption) ?qr23
      case qy23 =>
        intro w hSw
        (try dsimp only at hSw)
        go_simp
        all_goals with_reducible rfl
      try simp only [List.getElem_toArray, List.getElem_cons_zero, List.getElem_cons_succ, Act.put, List.setIfInBounds_toArray, List.set_cons_zero, List.set_cons_succ]
      refine wpAnyH_take (i := 24) (v := ?_) rfl (by kernel_rfl) (by kernel_rfl) (by kernel_rfl) (fun _ _ _ h => h) (Or.inl ⟨by rfl, ?qy24⟩) (by assumption) ?qr24
      case qy24 =>
        intro w hSw
        (try dsimp only at hSw)
        go_simp
        all_goals with_reducible rfl
      try simp only [List.getElem_toArray, List.getElem_cons_zero, List.getElem_cons_succ, Act.put, List.setIfInBounds_toArray, List.set_cons_zero, List.set_cons_succ]
      refine wpAnyH_take (i := 25) (v := ?_) rfl (by kernel_rfl) (by kernel_rfl) (by kernel_rfl) (fun _ _ _ h => h) (Or.inl ⟨by rfl, ?qy25⟩) (by assumption) ?qr25
      case qy25 =>
        intro w hSw
        (try dsimp only at hSw)
        go_simp
        all_goals with_reducible rfl
      try simp only [List.getElem_toArray, List.getElem_cons_zero, List.getElem_cons_succ, Act.put, List.setIfInBounds_toArray, List.set_cons_zero, List.set_cons_succ]
      refine wpAnyH_take (i := 26) (v := ?_) rfl (by kernel_rfl) (by kernel_rfl) (by kernel_rfl) (fun _ _ _ h => h) (Or.inl ⟨by rfl, ?qy26⟩) (by assumption) ?qr26
      case qy26 =>
        intro w hSw
        (try dsimp only at hSw)
        go_simp
        all_goals with_reducible rfl
      try simp only [List.getElem_toArray, List.getElem_cons_zero, List.getElem_cons_succ, Act.put, List.setIfInBounds_toArray, List.set_cons_zero, List.set_cons_succ]
      refine wpAnyH_take (i := 27) (v := ?_) rfl (by kernel_rfl) (by kernel_rfl) (by kernel_rfl) (fun _ _ _ h => h) (Or.inl ⟨by rfl, ?qy27⟩) (by assumption) ?qr27
      case qy27 =>
        intro w hSw
        (try dsimp only at hSw)
        go_simp
        all_goals with_reducible rfl
      try simp only [List.getElem_toArray, List.getElem_cons_zero, List.getElem_cons_succ, Act.put, List.setIfInBounds_toArray, List.set_cons_zero, List.set_cons_succ]
      refine wpAnyH_take (i := 28) (v := ?_) rfl (by kernel_rfl) (by kernel_rfl) (by kernel_rfl) (fun _ _ _ h => h) (Or.inl ⟨by rfl, ?qy28⟩) (by assumption) ?qr28
      case qy28 =>
        intro w hSw
        (try dsimp only at hSw)
        go_simp
        all_goals with_reducible rfl
      try simp only [List.getElem_toArray, List.getElem_cons_zero, List.getElem_cons_succ, Act.put, List.setIfInBounds_toArray, List.set_cons_zero, List.set_cons_succ]
      refine wpAnyH_take (i := 29) (v := _) rfl (by kernel_rfl) (by kernel_rfl) (by kernel_rfl) (fun _ _ _ h => h) (yieldsIf_load_mid (by rfl) _ _ rfl _ _ rfl _ _ ?qs29 Tryz.underlying34 rfl i1) (by assumption) ?qr29
      case qs29 =>
        intro w hSw
        (try dsimp only at hSw)
        go_split_ands
        assumption
      try simp only [List.getElem_toArray, List.getElem_cons_zero, List.getElem_cons_succ, Act.put, List.setIfInBounds_toArray, List.set_cons_zero, List.set_cons_succ]
      refine wpAnyH_take (i := 30) (v := ?_) rfl (by kernel_rfl) (by kernel_rfl) (by kernel_rfl) (fun _ _ _ h => h) (Or.inl ⟨by rfl, ?qy30⟩) (by assumption) ?qr30
      case qy30 =>
        intro w hSw
        (try dsimp only at hSw)
        go_simp
        all_goals with_reducible rfl
      try simp only [List.getElem_toArray, List.getElem_cons_zero, List.getElem_cons_succ, Act.put, List.setIfInBounds_toArray, List.set_cons_zero, List.set_cons_succ]
      refine wpAnyH_take (i := 31) (v := ?_) rfl (by kernel_rfl) (by kernel_rfl) (by kernel_rfl) (fun _ _ _ h => h) (Or.inl ⟨by rfl, ?qy31⟩) (by assumption) ?qr31
      case qy31 =>
        intro w hSw
        (try dsimp only at hSw)
        go_simp
        all_goals with_reducible rfl
      try simp only [List.getElem_toArray, List.getElem_cons_zero, List.getElem_cons_succ, Act.put, List.setIfInBounds_toArray, List.set_cons_zero, List.set_cons_succ]
      refine wpAnyH_take (i := 32) (v := ?_) rfl (by kernel_rfl) (by kernel_rfl) (by kernel_rfl) (fun _ _ _ h => h) (Or.inl ⟨by rfl, ?qy32⟩) (by assumption) ?qr32
      case qy32 =>
        intro w hSw
        (try dsimp only at hSw)
        go_simp
        all_goals with_reducible rfl
      try simp only [List.getElem_toArray, List.getElem_cons_zero, List.getElem_cons_succ, Act.put, List.setIfInBounds_toArray, List.set_cons_zero, List.set_cons_succ]
      refine wpAnyH_take (i := 33) (v := ?_) rfl (by kernel_rfl) (by kernel_rfl) (by kernel_rfl) (fun _ _ _ h => h) (Or.inl ⟨by rfl, ?qy33⟩) (by assumption) ?qr33
      case qy33 =>
        intro w hSw
        (try dsimp only at hSw)
        go_simp
        all_goals with_reducible rfl
      try simp only [List.getElem_toArray, List.getElem_cons_zero, List.getElem_cons_succ, Act.put, List.setIfInBounds_toArray, List.set_cons_zero, List.set_cons_succ]
      refine wpAnyH_take (i := 34) (v := _) rfl (by kernel_rfl) (by kernel_rfl) (by kernel_rfl) (fun _ _ _ h => h) (yieldsIf_load_mid (by rfl) _ _ rfl _ _ rfl _ _ ?qs34 Tryz.underlying34 rfl i2) (by assumption) ?qr34
      case qs34 =>
        intro w hSw
        (try dsimp only at hSw)
        go_split_ands
        assumption
      try simp only [List.getElem_toArray, List.getElem_cons_zero, List.getElem_cons_succ, Act.put, List.setIfInBounds_toArray, List.set_cons_zero, List.set_cons_succ]
      refine wpAnyH_ready (rs := [35]) (by kernel_rfl) (by simp) ?_
      refine AllReadyH.cons rfl (fun K hK => ?_) AllReadyH.nil
      go_simp
      with_reducible refine (CT).mono ?_
      rintro e W1 ⟨rfl, hb1⟩
      have hb1b := HD.out.trans (hb1.mono HD.out.size)
      try go_wp2_with fail
      refine hK.out _ _ (HS.out _ hb1b) (fun hHeld => ?_)
      clear hK K
      try simp only [List.getElem_toArray, List.getElem_cons_zero, List.getElem_cons_succ, Act.put, List.setIfInBounds_toArray, List.set_cons_zero, List.set_cons_succ]
      refine wpAnyH_take (i := 36) (v := ?_) rfl (by kernel_rfl) (by kernel_rfl) (by kernel_rfl) (fun _ _ _ h => h) (Or.inl ⟨by rfl, ?qy36⟩) (by assumption) ?qr36
      case qy36 =>
        intro w hSw
        (try dsimp only at hSw)
        go_simp
        all_goals with_reducible rfl
      try simp only [List.getElem_toArray, List.getElem_cons_zero, List.getElem_cons_succ, Act.put, List.setIfInBounds_toArray, List.set_cons_zero, List.set_cons_succ]
      refine wpAnyH_take (i := 37) (v := ?_) rfl (by kernel_rfl) (by kernel_rfl) (by kernel_rfl) (fun _ _ _ h => h) (Or.inl ⟨by rfl, ?qy37⟩) (by assumption) ?qr37
      case qy37 =>
        intro w hSw
        (try dsimp only at hSw)
        go_simp
        all_goals with_reducible rfl
      try simp only [List.getElem_toArray, List.getElem_cons_zero, List.getElem_cons_succ, Act.put, List.setIfInBounds_toArray, List.set_cons_zero, List.set_cons_succ]
      refine wpAnyH_done (by kernel_rfl) ?_ _
      have HB1 : Hid (Below w.heap.size w W1) := hb1b
      clear hb1 hb1b CT
      go_wp2_with fail
      go_roundw
      case rel => exact ⟨i + 1, by omega, by go_num, HB1⟩
      case measure => simp [intOf]; omega
    · have h1 : ¬ ((i : Int) < N) := by omega
      clear HX
      go_wp2_with fail
      go_ret
      exact ⟨rfl, HR.out⟩
end Df
end Go.Proofs.YtbccadbnaggkhaaGreat

namespace Go.Proofs.YtbccadbnaggkhaaGreat
open Go.RowKit
open Sm
open Cf
open Df
set_option linter.unusedVariables false
set_option linter.unusedSimpArgs false
set_option maxRecDepth 20000

namespace Df
theorem less_yes {a b : ByteArray} (h : a.data.toList < b.data.toList) : Op.bytesLess a.toList b.toList = true := by rw [bytesLess_eq, Lib.toList_data, Lib.toList_data]; exact decide_eq_true h
theorem less_no {a b : ByteArray} (h : ¬ a.data.toList < b.data.toList) : Op.bytesLess a.toList b.toList = false := by rw [bytesLess_eq, Lib.toList_data, Lib.toList_data]; exact decide_eq_false h
theorem mem_stL {w : World} {b : Nat} {t : TypeId} {K : List (Nat × Obj)} : ∀ (vs : List Value) (o : Nat) (A : Array Value) (V : World), Mem w V ((b, .cells A t (0, 0)) :: K) → Mem w (V.setCells b o vs) ((b, .cells (stL A o vs) t (0, 0)) :: K)
  | [], o, A, V, h => h
  | v :: r, o, A, V, h => mem_stL r (o + 1) _ _ (h.set 0 rfl o v)
theorem dl_set {w W V : World} {a0 : Option Addr} {n c0 : Nat} {zs : List Tv} {z : Tv} {k : Nat} (h : Dl w W (.slice a0 n c0) zs) (hl : ∀ y ∈ zs, TLen y.1) (hz : TLen z.1) (hk : k < zs.length) (hV : Below W.heap.size W V) :
    ∃ g, a0 = some ⟨g, 0, none⟩ ∧ V.there g (k * 33) 33 ∧ Dl w (V.setCells g (k * 33) (zc z)) (.slice a0 n c0) (zs.set k z) := by
  rcases h with ⟨-, e, -⟩ | ⟨g, cap, cur, e, hM, h1, h2, h3⟩
  · subst e; simp at hk
  simp only [Value.slice.injEq] at e
  obtain ⟨rfl, rfl, rfl⟩ := e
  have hM' := hM.after hV
  have hsz : zs.length * 33 ≤ cur.size := by
    have h4 : (cur.toList.take (zs.length * 33)).length = zs.length * 33 := by rw [h3]; exact flat33 hl
    have h5 := List.length_take_le' (zs.length * 33) cur.toList
    rw [h4, Array.length_toList] at h5
    exact h5
  have hk33 : k * 33 + 33 ≤ zs.length * 33 := by omega
  refine ⟨g, rfl, fun j hj => ⟨?_, hM'.free 0 rfl _⟩, ?_⟩
  · rw [hM'.cell 0 rfl, Array.getElem?_eq_getElem (by omega)]
    rfl
  have hmem := mem_stL (zc z) (k * 33) cur V hM'
  have hcur : cur = (cur.toList.take (k * 33) ++ ((cur.toList.drop (k * 33)).take 33 ++ cur.toList.drop (k * 33 + 33))).toArray := by
    rw [← List.drop_drop, List.take_append_drop, List.take_append_drop]
  have hst : stL cur (k * 33) (zc z) = (cur.toList.take (k * 33) ++ (zc z ++ cur.toList.drop (k * 33 + 33))).toArray := by
    have := stL_mid (cur.toList.drop (k * 33 + 33)) (zc z) ((cur.toList.drop (k * 33)).take 33) (cur.toList.take (k * 33)) (by rw [zc33 hz, List.length_take, List.length_drop, Array.length_toList]; omega)
    rw [← hcur, List.length_take, Array.length_toList, Nat.min_eq_left (by omega)] at this
    exact this
  refine Or.inr ⟨g, c0, stL cur (k * 33) (zc z), by rw [List.length_set], hmem, by rw [List.length_set]; exact h1, h2, ?_⟩
  rw [List.length_set, flat_set zs hl k hk z hz, hst, ← h3]
  have z33 := zc33 hz
  have l1 : (cur.toList.take (k * 33)).length = k * 33 := by rw [List.length_take, Array.length_toList, Nat.min_eq_left (by omega)]
  rw [List.take_take, Nat.min_eq_left (by omega), List.drop_take]
  show (cur.toList.take (k * 33) ++ (zc z ++ cur.toList.drop (k * 33 + 33))).take (zs.length * 33) = _
  generalize cur.toList.take (k * 33) = P at *
  generalize cur.toList.drop (k * 33 + 33) = R at *
  rw [List.take_append, List.take_append, List.take_of_length_le (l := P) (by omega), List.take_of_length_le (l := zc z) (by omega), l1, z33, Nat.sub_sub]
theorem dl_parts {w W : World} {v : Value} {zs : List Tv} (h : Dl w W v zs) (hl : ∀ z ∈ zs, TLen z.1) {k : Nat} (hk : k ≤ zs.length) :
    ∃ a s2, (∀ V, (Instr.slice 22 v none (some (.int .i64 (k : Int))) (some (.int .i64 (k : Int)))).run Tryz.prog V = .ok (.slice a k k) V) ∧ (∀ V, (Instr.slice 22 v (some (.int .i64 (k : Int))) none none).run Tryz.prog V = .ok s2 V) ∧ (∃ a2 m2 c2, s2 = .slice a2 m2 c2) ∧
      Rw W 33 (.slice a k k) ((zs.take k).map zc) ∧ Rw W 33 s2 ((zs.drop k).map zc) ∧ ∃ c, v = .slice a zs.length c := by
  have hr := h.rw hl
  have hsz : ∀ V, (sizeOf (Tryz.prog.elem 22)).run Tryz.prog V = .ok 33 V := fun V => by kernel_rfl
  have htl : (zs.take k).length = k := by rw [List.length_take, Nat.min_eq_left hk]
  have hdl : (zs.drop k).length = zs.length - k := List.length_drop
  obtain ⟨a, c, rfl, h1, h2, h3⟩ := h.slice
  obtain ⟨a', c', e, g1, g2, g3, g4⟩ := hr
  rw [List.length_map] at e g1 g4
  simp only [Value.slice.injEq] at e
  obtain ⟨rfl, -, rfl⟩ := e
  have hs1 : ∀ V, (Instr.slice 22 (.slice a zs.length c) none (some (.int .i64 (k : Int))) (some (.int .i64 (k : Int)))).run Tryz.prog V = .ok (.slice a k k) V := by
    intro V
    rw [run_slice_hm (P := Tryz.prog) V 22 a zs.length c (by kernel_rfl) .i64 .i64 (k : Int) (k : Int) (by omega) (by omega) (by omega), hsz]
    show Result.ok (sliced a 0 (k : Int).toNat (k : Int).toNat 33) V = _
    unfold sliced
    rw [show (k : Int).toNat = k by omega]
    cases a with
    | none => simp
    | some ad =>
      by_cases h0 : k = 0
      · subst h0; simp
      · obtain ⟨b, off, spot⟩ := ad
        cases spot <;> simp [h0, Addr.add]
  have hs2 : ∀ V, (Instr.slice 22 (.slice a zs.length c) (some (.int .i64 (k : Int))) none none).run Tryz.prog V = .ok (sliced a k zs.length c 33) V := by
    intro V
    rw [run_slice_l (P := Tryz.prog) V 22 a zs.length c (by kernel_rfl) .i64 (k : Int) (by omega) (by omega), hsz]
    rfl
  refine ⟨a, _, hs1, hs2, ⟨_, _, _, rfl⟩, ?_, ?_, c, rfl⟩
  · refine ⟨a, k, by rw [List.length_map, htl], by rw [List.length_map, htl]; exact Nat.le_refl _, by omega, fun e => by have := h3 e; omega, ?_⟩
    rcases g4 with e | ⟨b, off, rfl, hc⟩
    · left
      have : zs = [] := by simpa using e
      subst this
      simp
    · right
      refine ⟨b, off, rfl, fun i hi j u hj => ?_⟩
      rw [List.length_map, htl] at hi
      exact hc i (by omega) j u (by
        rw [← hj]
        simp [List.getD, List.getElem?_take, hi])
  · rcases g4 with e | ⟨b, off, rfl, hc⟩
    · have e0 : zs = [] := by simpa using e
      subst e0
      have hk0 : k = 0 := by simpa using hk
      subst hk0
      refine ⟨(if c = 0 then a else a.map (·.add (0 * 33))), c, by simp [sliced], by simp, by omega, fun e => ?_, Or.inl (by simp)⟩
      split at e
      · assumption
      · have : a = none := by simpa using e
        exact h3 this
    · by_cases hck : c = k
      · have hkn : k = zs.length := by omega
        refine ⟨some ⟨b, off, none⟩, c - k, by simp [sliced, hck, hkn], by simp [hkn], by omega, nofun, Or.inl (by simp [hkn])⟩
      · refine ⟨some ⟨b, off + k * 33, none⟩, c - k, by simp [sliced, hck, Addr.add_mid], by rw [List.length_map, hdl]; omega, by omega, nofun, Or.inr ⟨b, off + k * 33, rfl, fun i hi j u hj => ?_⟩⟩
        rw [List.length_map, hdl] at hi
        have := hc (k + i) (by omega) j u (by
          rw [← hj]
          simp [List.getD, List.getElem?_drop])
        rw [show off + k * 33 + i * 33 + j = off + (k + i) * 33 + j by omega]
        exact this
theorem append_zero (W : World) (base : Option Addr) (k : Nat) (a2 : Option Addr) (c2 : Nat) : (Builtin.append_ #[22, 22] 22 #[.slice base k k, .slice a2 0 c2]).run Tryz.prog W = .ok (.slice base k k) W := by
  obtain ⟨i, hi, -, -, -⟩ := info_parts infoT
  cases base <;> cases a2 <;> simp [Builtin.append_, run_underlying Tryz.underlying22, sizeOf, typeInfo, hi, Builtin.lenOf, Builtin.firstCells, storeCells, loadCells, loadCellsFrom, Result.andThen]
theorem del_app {w W : World} {a0 a2 : Option Addr} {n c0 m2 c2 : Nat} {zs : List Tv} {k : Nat} (h : Dl w W (.slice a0 n c0) zs) (hk : k < zs.length) (hl : ∀ y ∈ zs, TLen y.1) (ho : ∀ y ∈ zs, (zc y).toArray.all (·.oneCell') = true) (hn : zs.length ≤ 1000)
    (r1 : Rw W 33 (.slice a0 k k) ((zs.take k).map zc)) (r2 : Rw W 33 (.slice a2 m2 c2) ((zs.drop (k + 1)).map zc)) :
    ∃ a3 n3 c3 X, (Builtin.append_ #[22, 22] 22 #[.slice a0 k k, .slice a2 m2 c2]).run Tryz.prog W = .ok (.slice a3 n3 c3) X ∧ Below W.heap.size W X ∧ Dl w X (.slice a3 n3 c3) (zs.take k ++ zs.drop (k + 1)) := by
  have hW := h.below
  have hdl : (zs.drop (k + 1)).length = zs.length - (k + 1) := List.length_drop
  have htl : (zs.take k).length = k := by rw [List.length_take, Nat.min_eq_left (by omega)]
  have hd : ∀ y ∈ zs.drop (k + 1), y ∈ zs := fun y hy => List.mem_of_mem_drop hy
  have ht : ∀ y ∈ zs.take k, y ∈ zs := fun y hy => List.mem_of_mem_take hy
  obtain ⟨a', c', e, q1, q2, q3, q4⟩ := r2
  rw [List.length_map, hdl] at e q1
  simp only [Value.slice.injEq] at e
  obtain ⟨rfl, rfl, rfl⟩ := e
  by_cases hlast : k + 1 = zs.length
  · have e0 : zs.length - (k + 1) = 0 := by omega
    rw [e0]
    refine ⟨a0, k, k, W, append_zero W a0 k a2 c2, Below.refl _ _, ?_⟩
    have ed : zs.drop (k + 1) = [] := List.drop_eq_nil_of_le (by omega)
    rw [ed, List.append_nil]
    rcases h with ⟨-, e, -⟩ | ⟨g, cap, cur, e, hM, h1, h2, h3⟩
    · subst e; simp at hk
    · simp only [Value.slice.injEq] at e
      obtain ⟨rfl, -, rfl⟩ := e
      refine Or.inr ⟨g, k, cur, by rw [htl], hM, by rw [htl]; exact Nat.le_refl _, by omega, ?_⟩
      rw [htl]
      have e4 : ((zs.map zc).flatten).take (k * 33) = ((zs.take k).map zc).flatten := by
        have := congrArg (fun l : List Tv => (l.map zc).flatten) (List.take_append_drop k zs)
        simp only [List.map_append, List.flatten_append] at this
        rw [← this]
        exact List.take_left' (by rw [flat33 fun y hy => hl y (ht y hy), htl])
      rw [← e4, ← h3, List.take_take, Nat.min_eq_left (by omega)]
  · have hne : (zs.drop (k + 1)).map zc ≠ [] := by
      intro e
      have := congrArg List.length e
      rw [List.length_map, hdl] at this
      simp at this
      omega
    have r2' : Rw W 33 (.slice a2 (zs.length - (k + 1)) c2) ((zs.drop (k + 1)).map zc) := ⟨a2, c2, by rw [List.length_map, hdl], by rw [List.length_map, hdl]; exact q1, q2, q3, q4⟩
    rcases q4 with e | ⟨b2, off2, rfl, -⟩
    · exact absurd e hne
    have hnews := rw_flat (by decide) r2' (zs33 fun y hy => hl y (hd y hy)) rfl
    have ha0 : ∃ b, a0 = some b := by
      rcases h with ⟨-, e, -⟩ | ⟨g, cap, cur, e, -⟩
      · subst e; simp at hk
      · simp only [Value.slice.injEq] at e
        exact ⟨_, e.1⟩
    obtain ⟨b, rfl⟩ := ha0
    have hold := rw_flat (by decide) r1 (zs33 fun y hy => hl y (ht y hy)) rfl
    obtain ⟨i, hi, hiz, his, hib⟩ := info_parts infoT
    obtain ⟨v2, X2, hr2, ho2, hg2⟩ := run_append_arg_grows (P := Tryz.prog) (w := W) 22 22 34 i _ 33 160 Tryz.underlying22 hi hiz his hib (by kernel_rfl) (by decide) b k k ((zs.take k).map zc).flatten (by rw [flat33 fun y hy => hl y (ht y hy), htl]) hold ⟨b2, off2, none⟩ (zs.length - (k + 1)) c2 ((zs.drop (k + 1)).map zc).flatten (by rw [flat33 fun y hy => hl y (hd y hy), hdl]) hnews (by omega) (by unfold maxLen; omega) (by omega)
    have hX2 : Below w.heap.size w X2 := hW.grown hg2 hW.size (fun j hj => by cases hj)
    have hD : Dl w X2 v2 (zs.take k ++ zs.drop (k + 1)) := by
      refine dl_row hX2 hW.size (n := k + (zs.length - (k + 1))) ?_ (by simp; omega)
      rw [List.map_append, List.flatten_append]
      exact ho2
    obtain ⟨a3, c3, rfl, -⟩ := hD.slice
    exact ⟨a3, _, c3, X2, hr2, (Below.refl _ _).grown hg2 (Nat.le_refl _) (fun j hj => by cases hj), hD⟩
theorem srt_stz {M : List Tv} (h : Srt fk M) (y : Hv) : Srt fk (stz M y) := by
  unfold stz
  split
  · exact srt_put h
  · exact srt_del h
theorem srt_apz (zs : List Tv) (ys : List Hv) : Srt fk (apz zs ys) := by
  have key : ∀ (ys : List Hv) (M : List Tv), Srt fk M → Srt fk (ys.foldl stz M) := by
    intro ys
    induction ys with
    | nil => intro M h; exact h
    | cons y ys ih => intro M h; exact ih _ (srt_stz h y)
  exact key ys _ (srt_byn zs)
theorem apz_length (zs : List Tv) (ys : List Hv) : (apz zs ys).length ≤ zs.length + ys.length := by
  have := app_length (zs.map Prod.fst) (ys.map Prod.fst)
  rw [← apz_fst] at this
  simpa using this
end Df
end Go.Proofs.YtbccadbnaggkhaaGreat

