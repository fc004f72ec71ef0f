/-
  What is changed: which tenants and changes the statements speak of (lychlaw15's light).
  What is changed: the calls as they speak of tenants.
  P15.1: changes one by one, or all at once.
-/
import Derived.Test.YtbccadbnaggkhaaGreatKB36
import Derived.Test.YtbccadbnaggkhaaGreatKB26
import Derived.Test.YtbccadbnaggkhaaGreatKB31
namespace Go.Proofs.YtbccadbnaggkhaaGreat
open Go.RowKit
open Sm
open Cf
open Df
set_option linter.unusedVariables false
set_option linter.unusedSimpArgs false
set_option maxRecDepth 20000

namespace Df
def Lh (h : Chg) : Prop := Lgt h.t ∧ h.name.size ≤ 300
instance (h : Chg) : Decidable (Lh h) := by unfold Lh; infer_instance
def L15 (a b : List Ten) (c : List Chg) : Prop := c.length ≤ 20 ∧ (∀ h ∈ c, Lh h) ∧ Lgts a 20 ∧ Lgts b 20
instance (a b : List Ten) (c : List Chg) : Decidable (L15 a b c) := by unfold L15; infer_instance
set_option maxHeartbeats 8000000 in
theorem light15_any {w : World} {va vb vc : Value} {ta tb : List Ten} {ys : List Hv} (ha : TSV w va ta) (hb : TSV w vb tb) (hc : YV w vc ys) :
    Calls Tryz.prog 9 #[va, vb, vc] w fun e w' => e = .returned (.bool (decide (L15 ta tb (ys.map Prod.fst)))) ∧ Below w.heap.size w w' := by
  have CA : Hid (∀ V, Below w.heap.size w V → Calls Tryz.prog 21 #[va, .int .i64 20] V fun e V' => e = .returned (.bool (decide (Lgts ta 20))) ∧ Below V.heap.size V V') := fun V hV => lights_any (ha.at_ hV (Nat.le_refl _)) 20 (by omega)
  have CB : Hid (∀ V, Below w.heap.size w V → Calls Tryz.prog 21 #[vb, .int .i64 20] V fun e V' => e = .returned (.bool (decide (Lgts tb 20))) ∧ Below V.heap.size V V') := fun V hV => lights_any (hb.at_ hV (Nat.le_refl _)) 20 (by omega)
  obtain ⟨aa, an, ac, rfl⟩ := ha.slice
  obtain ⟨ba, bn, bc, rfl⟩ := hb.slice
  obtain ⟨sa, sc, rfl, hlc, hcb, hx⟩ := hc.parts
  obtain ⟨R, hR⟩ : ∃ R, decide (L15 ta tb (ys.map Prod.fst)) = R := ⟨_, rfl⟩
  rw [hR]
  have HR1 : Hid (∀ i (hi : i < ys.length), ¬ Lh ys[i].1 → R = false) := by
    intro i hi hn
    rw [← hR]
    exact decide_eq_false fun h => hn (h.2.1 _ (List.mem_map.2 ⟨_, List.getElem_mem hi, rfl⟩))
  have HR2 : Hid ((∀ i (hi : i < ys.length), i < 20 → Lh ys[i].1) → R = (decide (((ys.length : Nat) : Int) ≤ 20) && (decide (Lgts ta 20) && decide (Lgts tb 20)))) := by
    intro h
    rw [← hR]
    by_cases hl : ys.length ≤ 20
    · rw [decide_eq_true (show ((ys.length : Nat) : Int) ≤ 20 by omega), Bool.true_and, ← Bool.decide_and]
      rw [decide_eq_decide]
      have hall : ∀ h ∈ ys.map Prod.fst, Lh h := by
        intro c hc
        obtain ⟨y, hy, rfl⟩ := List.mem_map.1 hc
        obtain ⟨i, hi, rfl⟩ := List.mem_iff_getElem.1 hy
        exact h i hi (by omega)
      exact ⟨fun h => h.2.2, fun h => ⟨by simpa using hl, hall, h⟩⟩
    · rw [decide_eq_false (show ¬ ((ys.length : Nat) : Int) ≤ 20 by omega), Bool.false_and]
      exact decide_eq_false fun h => hl (by simpa using h.1)
  have HX : Hid (∀ i (hi : i < ys.length), ∃ b off x, sa = some ⟨b, off, none⟩ ∧ x.length = 33 ∧ ∀ V, Below w.heap.size w V → V.rangeAt b (off + i * 35 + 2) x ∧ V.cell? ⟨b, off + i * 35 + 1, none⟩ = some (.string ys[i].1.name) ∧ Calls Tryz.prog 20 #[.agg x.toArray] V fun e V' => e = .returned (.bool (decide (Lgt ys[i].1.t))) ∧ Below V.heap.size V V') := by
    intro i hi
    obtain ⟨b, off, e, hV⟩ := hx i hi
    have he := hc.each _ (List.getElem_mem hi)
    refine ⟨b, off, zc (yz ys[i]), e, tc_len he.1 _ _ _, fun V hb => ⟨fun j u hj => ?_, ?_, ?_⟩⟩
    · have := hV V hb (j + 2) u (by rw [yc_eq, List.getElem?_cons_succ, List.getElem?_cons_succ]; exact hj)
      rw [show off + i * 35 + 2 + j = off + i * 35 + (j + 2) by omega]
      exact this
    · exact hV V hb 1 (.string ys[i].1.name) rfl
    · exact light_any (tv_tv (z := yz ys[i]) he.1 (Rws.at_ he.2 hb))
  have HB : Hid (Below w.heap.size w w) := Below.refl _ _
  clear hR hx ha hb hc
  obtain ⟨N, hN⟩ : ∃ N, ys.length = N := ⟨_, rfl⟩
  rw [hN] at hlc
  simp only [hN] at HR1 HR2 HX ⊢
  go_enter Tryz.func9, Tryz.ntmps9
  go_wp2_with fail
  go_loopw [7] (fun u7 w' => ∃ i : Nat, i ≤ N ∧ i ≤ 20 ∧ u7 = .int .i64 i ∧ Hid ((∀ j (hj : j < i) (hj' : j < ys.length), Lh (ys[j]'hj').1) ∧ Below w.heap.size w w')) (fun u7 w' => N - (intOf u7).toNat)
  case atStart => exact ⟨0, Nat.zero_le _, Nat.zero_le _, rfl, fun j hj => absurd hj (by omega), HB.out⟩
  case round =>
    obtain ⟨i, hi, hi2, rfl, HRR⟩ := hrel
    clear HB
    by_cases hrun : i < N ∧ i < 20
    · obtain ⟨hlt, hlm⟩ := hrun
      have h1 : (i : Int) < N := by omega
      have h2 : (i : Int) < 20 := by omega
      obtain ⟨b, off, x, rfl, hsz, hV⟩ := HX.out i hlt
      have hj' : i < ys.length := by omega
      have hi33 : (Tryz.prog.info? 34).map (·.size) = some x.length := by rw [hsz]; kernel_rfl
      obtain ⟨hra, -, CL⟩ := hV _ HRR.out.2
      have HC : Hid (∀ V, Below w.heap.size w V → V.cell? ⟨b, off + i * 35 + 1, none⟩ = some (.string (ys[i]'hj').1.name)) := fun V hb => (hV V hb).2.1
      have HF := HR1.out i hlt
      have HN : Hid (Lh (ys[i]'hj').1 → ∀ j (hj : j < i + 1) (hj' : j < ys.length), Lh (ys[j]'hj').1) := by
        intro hl j hj hj2
        rcases Nat.lt_or_ge j i with h | h
        · exact HRR.out.1 j h hj2
        · obtain rfl : j = i := by omega
          exact hl
      have HBW : Hid (∀ V, Below wr.heap.size wr V → Below w.heap.size w V) := fun V hV => HRR.out.2.trans (hV.mono HRR.out.2.size)
      clear hV HX HR2 hsz HRR
      generalize (ys[i]'hj').1 = h at *
      by_cases q1 : Lgt h.t
      · rw [decide_eq_true q1] at CL
        go_wp2_with (first | (refine wpList_load_mid rfl 34 (.tmp 21) (by with_reducible rfl) b (off + i * 35 + 2) (by simp [Act.eval]) x _ hra Tryz.underlying34 rfl hi33 ?_) | fail)
        refine CL.mono ?_
        rintro e W1 ⟨rfl, hb1⟩
        have hc1 := HC.out W1 (HBW.out W1 hb1)
        have HB1 : Hid (Below w.heap.size w W1) := HBW.out W1 hb1
        clear CL hra HC HBW hb1
        by_cases q2 : h.name.size ≤ 300
        · have q3 : decide ((300 : Int) < (h.name.size : Nat)) = false := decide_eq_false (by omega)
          have HH : Hid ((∀ j (hj : j < i + 1) (hj' : j < ys.length), Lh (ys[j]'hj').1) ∧ Below w.heap.size w W1) := ⟨HN.out ⟨q1, q2⟩, HB1.out⟩
          clear HN HF HB1 q1 q2
          go_wp2_with fail
          go_roundw
          case rel => exact ⟨i + 1, by omega, by omega, by go_num, HH⟩
          case measure => simp [intOf]; omega
        · have q3 : decide ((300 : Int) < (h.name.size : Nat)) = true := decide_eq_true (by omega)
          obtain rfl := HF (fun h => q2 h.2)
          clear HN HF q1
          go_wp2_with fail
          go_ret
          exact ⟨rfl, HB1.out⟩
      · rw [decide_eq_false q1] at CL
        obtain rfl := HF (fun h => q1 h.1)
        clear HN HF HC
        go_wp2_with (first | (refine wpList_load_mid rfl 34 (.tmp 21) (by with_reducible rfl) b (off + i * 35 + 2) (by simp [Act.eval]) x _ hra Tryz.underlying34 rfl hi33 ?_) | fail)
        refine CL.mono ?_
        rintro e W1 ⟨rfl, hb1⟩
        have HB1 : Hid (Below w.heap.size w W1) := HBW.out W1 hb1
        clear CL hra HBW hb1
        go_wp2_with fail
        go_ret
        exact ⟨rfl, HB1.out⟩
    · have hall := HR2.out fun j hj hj20 => HRR.out.1 j (by omega) _
      have HB1 : Hid (Below w.heap.size w wr) := HRR.out.2
      clear HR1 HR2 HX HRR
      have hcond : (∃ B : Bool, decide ((i : Int) < (N : Int)) = B) := ⟨_, rfl⟩
      by_cases hn : i < N
      · have h1 : decide ((i : Int) < N) = true := decide_eq_true (by omega)
        have h2 : decide ((i : Int) < 20) = false := decide_eq_false (by omega)
        have h3 : decide ((N : Int) ≤ 20) = false := decide_eq_false (by omega)
        rw [h3, Bool.false_and] at hall
        subst hall
        clear CA CB
        go_wp2_with fail
        go_ret
        exact ⟨rfl, HB1.out⟩
      · have h1 : decide ((i : Int) < N) = false := decide_eq_false (by omega)
        have h3 : decide ((N : Int) ≤ 20) = true := decide_eq_true (by omega)
        rw [h3, Bool.true_and] at hall
        have C1 := CA.out wr HB1.out
        clear CA
        by_cases q1 : Lgts ta 20
        · rw [decide_eq_true q1] at C1 hall
          rw [Bool.true_and] at hall
          go_wp2_with fail
          refine C1.mono ?_
          rintro e W1 ⟨rfl, hb1⟩
          have HB2 : Hid (Below w.heap.size w W1) := HB1.out.trans (hb1.mono HB1.out.size)
          have C2 := CB.out W1 HB2.out
          clear C1 CB hb1 HB1 q1
          rw [← hall] at C2
          clear hall
          go_wp2_with fail
          refine C2.mono ?_
          rintro e W2 ⟨rfl, hb2⟩
          have HB3 : Hid (Below w.heap.size w W2) := HB2.out.trans (hb2.mono HB2.out.size)
          clear C2 hb2 HB2
          go_wp2_with fail
          go_ret
          exact ⟨rfl, HB3.out⟩
        · rw [decide_eq_false q1] at C1 hall
          rw [Bool.false_and] at hall
          subst hall
          clear CB q1
          go_wp2_with fail
          refine C1.mono ?_
          rintro e W1 ⟨rfl, hb1⟩
          have HB2 : Hid (Below w.heap.size w W1) := HB1.out.trans (hb1.mono HB1.out.size)
          clear C1 hb1 HB1
          go_wp2_with fail
          go_ret
          exact ⟨rfl, HB2.out⟩
end Df
end Go.Proofs.YtbccadbnaggkhaaGreat

namespace Go.Proofs.YtbccadbnaggkhaaGreat
open Go.RowKit
open Sm
open Cf
open Df
set_option linter.unusedVariables false
set_option linter.unusedSimpArgs false
set_option maxRecDepth 20000

namespace Df
theorem tsames_refl (l : List Ten) : TSames l l := ⟨rfl, fun i _ => TSame.refl' _⟩
/-- Changes that are not too great. -/
def HIn (h : Chg) : Prop := TIn h.t ∧ h.name.size ≤ 1000000
theorem tin_app {A : List Ten} {c : List Chg} (hA : ∀ t ∈ A, TIn t) (hc : ∀ h ∈ c, HIn h) : ∀ t ∈ app A c, TIn t := by
  intro t ht
  rcases mem_app ht with h | ⟨h, hh, -, rfl⟩
  · exact hA t h
  · exact (hc h hh).1
theorem tsv_tlen {w : World} {v : Value} {ts : List Ten} (h : TSV w v ts) : ∀ t ∈ ts, TLen t := by
  obtain ⟨zs, rfl, -, h2⟩ := h
  intro t ht
  obtain ⟨z, hz, rfl⟩ := List.mem_map.1 ht
  exact (h2 z hz).1
theorem tin_lgts {w : World} {v : Value} {ts : List Ten} {m : Nat} (h : TSV w v ts) (hb : ∀ t ∈ ts, TBy t) (hl : Lgts ts m) : ∀ t ∈ ts, TIn t := by
  intro t ht
  obtain ⟨i, hi, rfl⟩ := List.mem_iff_getElem.1 ht
  have := hl.2 i hi
  rw [List.getD_eq_getElem?_getD, List.getElem?_eq_getElem hi, Option.getD_some] at this
  exact lgt_in this (tsv_tlen h _ ht) (hb _ ht).key (hb _ ht).vmac (hb _ ht).host
theorem tsv_nil (w : World) : TSV w (.slice none 0 0) [] := ⟨[], rfl, ⟨none, 0, rfl, Nat.le_refl _, by omega, fun _ => rfl, Or.inl rfl⟩, by simp⟩
theorem applyT {w : World} {v u : Value} {A : List Ten} {ys : List Hv} (ha : TSV w v A) (hy : YV w u ys) (hA : ∀ t ∈ A, TIn t) (hY : ∀ h ∈ ys.map Prod.fst, HIn h) (la : A.length ≤ 1000) (lb : ys.length ≤ 1000) :
    Calls Tryz.prog 13 #[v, u] w fun e V => ∃ a c, e = .returned (.slice a (app A (ys.map Prod.fst)).length c) ∧ TSV V (.slice a (app A (ys.map Prod.fst)).length c) (app A (ys.map Prod.fst)) ∧ Below w.heap.size w V := by
  obtain ⟨zs, rfl, hz⟩ := TSV.zv ha
  refine (apply_any hz hy (fun z h => nf_in (hA _ (List.mem_map.2 ⟨z, h, rfl⟩))) (fun y h => ⟨nf_in (hY _ (List.mem_map.2 ⟨y, h, rfl⟩)).1, (hY _ (List.mem_map.2 ⟨y, h, rfl⟩)).2⟩) (by simpa using la) lb).mono ?_
  rintro e V ⟨r, rfl, h1, h2⟩
  obtain ⟨a, c, rfl, -⟩ := h1.parts
  exact ⟨a, c, rfl, h1, h2⟩
theorem tenantsT {w : World} {v u : Value} {A : List Ten} (ha : TSV w v A) (hb : TSV w u A) (hA : ∀ t ∈ A, TIn t) :
    Calls Tryz.prog 12 #[v, u] w fun e V => e = .returned (.bool true) ∧ Below w.heap.size w V :=
  htenants_yes ha hb (fun t ht => (nf_in (hA t ht)).2) (tsames_refl A)
end Df
end Go.Proofs.YtbccadbnaggkhaaGreat

namespace Go.Proofs.YtbccadbnaggkhaaGreat
open Go.RowKit
open Sm
open Cf
open Df
set_option linter.unusedVariables false
set_option linter.unusedSimpArgs false
set_option maxRecDepth 20000

namespace Df
theorem yv_at {w : World} {a : Option Addr} {m c i : Nat} {ys : List Hv} (h : YV w (.slice a m c) ys) (hi : i < ys.length) : ∃ b off, a = some ⟨b, off, none⟩ ∧ YV w (.slice (some ⟨b, off + i * 35, none⟩) 1 (c - i)) [ys[i]] := by
  obtain ⟨sa, sc, e, h1, h2, h3⟩ := h.parts
  cases e
  obtain ⟨b, off, e, hV⟩ := h3 i hi
  refine ⟨b, off, e, ⟨some ⟨b, off + i * 35, none⟩, c - i, rfl, by show 1 ≤ c - i; omega, by omega, nofun, Or.inr ⟨b, off + i * 35, rfl, fun j hj k u hk => ?_⟩⟩, fun y hy => by rw [List.mem_singleton] at hy; subst hy; exact h.each _ (List.getElem_mem hi)⟩
  have hj0 : j = 0 := by simp at hj; exact hj
  subst hj0
  have := hV w (Below.refl _ _) k u (by simpa [List.getD] using hk)
  simpa using this
theorem slice_one (W : World) (b off n sc i : Nat) (h : i + 1 ≤ sc) : (Instr.slice 23 (.slice (some ⟨b, off, none⟩) n sc) (some (.int .i64 (i : Int))) (some (.int .i64 ((i : Int) + 1))) none).run Tryz.prog W = .ok (.slice (some ⟨b, off + i * 35, none⟩) 1 (sc - i)) W := by
  have hsz : (sizeOf (Tryz.prog.elem 23)).run Tryz.prog W = .ok 35 W := by kernel_rfl
  rw [run_slice_lh (P := Tryz.prog) W 23 (some ⟨b, off, none⟩) n sc (by kernel_rfl) .i64 .i64 (i : Int) ((i : Int) + 1) (by omega) (by omega) (by omega), hsz]
  show Result.ok (sliced (some ⟨b, off, none⟩) (i : Int).toNat ((i : Int) + 1).toNat sc 35) W = _
  unfold sliced
  rw [show (i : Int).toNat = i by omega, show ((i : Int) + 1).toNat = i + 1 by omega]
  have hne : sc ≠ i := by omega
  simp [hne, Addr.add_mid]
end Df
set_option maxHeartbeats 8000000 in
theorem steps15_law {w : World} {va vc : Value} {A : List Ten} {ys : List Hv} (ha : TSV w va A) (hc : YV w vc ys) (hA : ∀ t ∈ A, TBy t) (hY : ∀ y ∈ ys, TBy y.1.t) :
    Calls Tryz.prog 6 #[va, vc] w fun e w' => e = .returned (.bool true) ∧ Below w.heap.size w w' := by
  have HA : Hid (∀ V, Below w.heap.size w V → TSV V va A) := fun V hV => ha.at_ hV (Nat.le_refl _)
  have HC : Hid (∀ V, Below w.heap.size w V → YV V vc ys) := fun V hV => hc.at_ hV
  have HI : Hid (L15 A [] (ys.map Prod.fst) → (∀ t ∈ A, TIn t) ∧ (∀ h ∈ ys.map Prod.fst, HIn h) ∧ A.length ≤ 20 ∧ ys.length ≤ 20) := by
    intro h
    refine ⟨tin_lgts ha hA h.2.2.1, fun c hh => ?_, h.2.2.1.1, by simpa using h.1⟩
    have hl := h.2.1 c hh
    obtain ⟨y, hy, rfl⟩ := List.mem_map.1 hh
    exact ⟨lgt_in hl.1 (hc.each y hy).1 (hY y hy).key (hY y hy).vmac (hY y hy).host, by have := hl.2; omega⟩
  obtain ⟨aa, an, ac, rfl⟩ := ha.slice
  obtain ⟨sa, sc, rfl, hlc, hcb, -⟩ := hc.parts
  have HS : Hid (∀ V, Below w.heap.size w V → ∀ i (hi : i < ys.length), ∃ b off, sa = some ⟨b, off, none⟩ ∧ YV V (.slice (some ⟨b, off + i * 35, none⟩) 1 (sc - i)) [ys[i]]) := fun V hV i hi => yv_at (HC.out V hV) hi
  have HT : Hid (∀ i (hi : i < ys.length), app (app A ((ys.take i).map Prod.fst)) [ys[i].1] = app A ((ys.take (i + 1)).map Prod.fst)) := by
    intro i hi
    rw [← app_append, List.take_add_one, List.getElem?_eq_getElem hi, List.map_append]
    rfl
  have HTE : Hid (app A ((ys.take ys.length).map Prod.fst) = app A (ys.map Prod.fst)) := by show _ = _; rw [List.take_length]
  clear ha hc hA hY
  obtain ⟨N, hN⟩ : ∃ N, ys.length = N := ⟨_, rfl⟩
  rw [hN] at hlc HTE HI
  simp only [hN] at HS HT HC ⊢
  go_enter Tryz.func6, Tryz.ntmps6
  go_wp2_with fail
  refine (known15_any w).mono ?_
  rintro e W1 ⟨rfl, hb1⟩
  have C1 := light15_any (HA.out W1 hb1) (tsv_nil W1) (HC.out W1 hb1)
  have HB1 : Hid (Below w.heap.size w W1) := hb1
  clear hb1
  by_cases q : L15 A [] (ys.map Prod.fst)
  rotate_left
  · rw [decide_eq_false q] at C1
    clear HA HC HI HS HT HTE
    go_wp2_with fail
    refine C1.mono ?_
    rintro e W2 ⟨rfl, hb2⟩
    have HB2 : Hid (Below w.heap.size w W2) := HB1.out.trans (hb2.mono HB1.out.size)
    clear C1 hb2 HB1
    go_wp2_with fail
    go_ret
    exact ⟨rfl, HB2.out⟩
  rw [decide_eq_true q] at C1
  have HHI : Hid ((∀ t ∈ A, TIn t) ∧ (∀ h ∈ ys.map Prod.fst, HIn h) ∧ A.length ≤ 20 ∧ N ≤ 20) := HI.out q
  clear HI q
  go_wp2_with fail
  refine C1.mono ?_
  rintro e W2 ⟨rfl, hb2⟩
  have hw2 := HB1.out.trans (hb2.mono HB1.out.size)
  have HB2 : Hid (Below w.heap.size w W2) := hw2
  have C2 := applyT (HA.out W2 hw2) (yv_nil W2) HHI.out.1 (by simp) (by have := HHI.out.2.2.1; omega) (by simp)
  clear C1 HB1 hb2 hw2
  go_wp2_with fail
  refine C2.mono ?_
  rintro e W3 ⟨xa, xc, rfl, hX, hb3⟩
  have H3 : Hid (TSV W3 (.slice xa (app A ([] : List Chg)).length xc) (app A ((ys.take 0).map Prod.fst)) ∧ Below w.heap.size w W3) := ⟨hX, HB2.out.trans (hb3.mono HB2.out.size)⟩
  clear C2 HB2 hb3 hX
  rw [List.map_nil]
  go_wp2_with fail
  go_loopw [5, 6] (fun u5 u6 w' => ∃ (i : Nat) (a : Option Addr) (m c : Nat), i ≤ N ∧ u6 = .int .i64 i ∧ u5 = .slice a m c ∧ Hid (TSV w' (.slice a m c) (app A ((ys.take i).map Prod.fst)) ∧ Below w.heap.size w w')) (fun u5 u6 w' => N - (intOf u6).toNat)
  case atStart => exact ⟨0, xa, _, xc, Nat.zero_le _, rfl, rfl, H3⟩
  case round =>
    obtain ⟨i, a, m, c, hi, rfl, rfl, HR⟩ := hrel
    clear H3
    by_cases hlt : i < N
    · have h1 : (i : Int) < N := by omega
      have hiy : i < ys.length := by omega
      obtain ⟨b, off, rfl, hy1⟩ := HS.out wr HR.out.2 i hlt
      have hT := HT.out i hlt
      have hin : ∀ h ∈ (ys.take i).map Prod.fst, HIn h := fun h hh => HHI.out.2.1 h (by
        obtain ⟨y, hy, rfl⟩ := List.mem_map.1 hh
        exact List.mem_map.2 ⟨y, List.mem_of_mem_take hy, rfl⟩)
      have hin1 : ∀ h ∈ [ys[i]'hiy].map Prod.fst, HIn h := fun h hh => HHI.out.2.1 h (by
        simp only [List.map_cons, List.map_nil, List.mem_singleton] at hh
        subst hh
        exact List.mem_map.2 ⟨_, List.getElem_mem hiy, rfl⟩)
      have hla : (app A ((ys.take i).map Prod.fst)).length ≤ 1000 := by
        have := app_length A ((ys.take i).map Prod.fst)
        have h20 := HHI.out.2.2
        simp only [List.length_map, List.length_take] at this
        omega
      have CA := applyT HR.out.1 hy1 (tin_app HHI.out.1 hin) hin1 hla (by simp)
      rw [List.map_singleton, hT] at CA
      obtain ⟨n4, hn4⟩ : ∃ n, (app A ((ys.take (i + 1)).map Prod.fst)).length = n := ⟨_, rfl⟩
      rw [hn4] at CA
      clear hn4
      have HF : Hid (∀ V, Below wr.heap.size wr V → Below w.heap.size w V) := fun V hV => HR.out.2.trans (hV.mono HR.out.2.size)
      have hsl : (Instr.slice 23 (.slice (some ⟨b, off, none⟩) N sc) (some (.int .i64 (i : Int))) (some (.int .i64 ((i : Int) + 1))) none).run Tryz.prog wr = .ok (.slice (some ⟨b, off + i * 35, none⟩) 1 (sc - i)) wr := slice_one wr b off N sc i (by omega)
      clear hT hin hin1 hla hy1 HS HT HTE HR
      go_wp2_with fail
      refine CA.mono ?_
      rintro e W4 ⟨xa, xc, rfl, hX, hb4⟩
      have H4 : Hid (TSV W4 (.slice xa n4 xc) (app A ((ys.take (i + 1)).map Prod.fst)) ∧ Below w.heap.size w W4) := ⟨hX, HF.out W4 hb4⟩
      clear CA HF hX hb4
      go_wp2_with fail
      go_roundw
      case rel => exact ⟨i + 1, xa, _, xc, by omega, by go_num, rfl, H4⟩
      case measure => simp [intOf]; omega
    · have h1 : ¬ ((i : Int) < N) := by omega
      obtain rfl : i = N := by omega
      obtain ⟨hX, hw⟩ := HR.out
      rw [HTE.out] at hX
      have C5 := applyT (HA.out wr hw) (HC.out wr hw) HHI.out.1 HHI.out.2.1 (by have := HHI.out.2.2.1; omega) (by have := HHI.out.2.2.2; omega)
      have HX : Hid (TSV wr (.slice a m c) (app A (ys.map Prod.fst)) ∧ Below w.heap.size w wr) := ⟨hX, hw⟩
      have HTN : Hid (∀ t ∈ app A (ys.map Prod.fst), TIn t) := tin_app HHI.out.1 HHI.out.2.1
      clear hX hw HR HTE HS HT HA HC HHI
      go_wp2_with fail
      refine C5.mono ?_
      rintro e W6 ⟨ya, yc', rfl, hY, hb6⟩
      have C6 := tenantsT (HX.out.1.at_ hb6 (Nat.le_refl _)) hY HTN.out
      have HB6 : Hid (Below w.heap.size w W6) := HX.out.2.trans (hb6.mono HX.out.2.size)
      clear C5 HX HTN hY hb6
      go_wp2_with fail
      refine C6.mono ?_
      rintro e W7 ⟨rfl, hb7⟩
      have HB7 : Hid (Below w.heap.size w W7) := HB6.out.trans (hb7.mono HB6.out.size)
      clear C6 HB6 hb7
      go_wp2_with fail
      go_ret
      exact ⟨rfl, HB7.out⟩
end Go.Proofs.YtbccadbnaggkhaaGreat

