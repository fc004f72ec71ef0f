/-
  What is changed: which tenants and changes the statements speak of (lychlaw15's light).
  What is changed: the calls as they speak of tenants.
  P15.3 at every two lists of tenants.
-/
import Derived.Test.YtbccadbnaggkhaaGreatKA36
import Derived.Test.YtbccadbnaggkhaaGreatKA26
import Derived.Test.YtbccadbnaggkhaaGreatKA31
namespace Go.Proofs.YtbccadbnaggkhaaGreat
open Go.RowKit
open Sm
open Cf
open Df
set_option linter.unusedVariables false
set_option linter.unusedSimpArgs false
set_option maxRecDepth 20000

namespace Df
def Lh (h : Chg) : Prop := Lgt h.t ∧ h.name.size ≤ 300
instance (h : Chg) : Decidable (Lh h) := by unfold Lh; infer_instance
def L15 (a b : List Ten) (c : List Chg) : Prop := c.length ≤ 20 ∧ (∀ h ∈ c, Lh h) ∧ Lgts a 20 ∧ Lgts b 20
instance (a b : List Ten) (c : List Chg) : Decidable (L15 a b c) := by unfold L15; infer_instance
set_option maxHeartbeats 8000000 in
theorem light15_any {w : World} {va vb vc : Value} {ta tb : List Ten} {ys : List Hv} (ha : TSV w va ta) (hb : TSV w vb tb) (hc : YV w vc ys) :
    Calls Tryz.prog 9 #[va, vb, vc] w fun e w' => e = .returned (.bool (decide (L15 ta tb (ys.map Prod.fst)))) ∧ Below w.heap.size w w' := by
  have CA : Hid (∀ V, Below w.heap.size w V → Calls Tryz.prog 21 #[va, .int .i64 20] V fun e V' => e = .returned (.bool (decide (Lgts ta 20))) ∧ Below V.heap.size V V') := fun V hV => lights_any (ha.at_ hV (Nat.le_refl _)) 20 (by omega)
  have CB : Hid (∀ V, Below w.heap.size w V → Calls Tryz.prog 21 #[vb, .int .i64 20] V fun e V' => e = .returned (.bool (decide (Lgts tb 20))) ∧ Below V.heap.size V V') := fun V hV => lights_any (hb.at_ hV (Nat.le_refl _)) 20 (by omega)
  obtain ⟨aa, an, ac, rfl⟩ := ha.slice
  obtain ⟨ba, bn, bc, rfl⟩ := hb.slice
  obtain ⟨sa, sc, rfl, hlc, hcb, hx⟩ := hc.parts
  obtain ⟨R, hR⟩ : ∃ R, decide (L15 ta tb (ys.map Prod.fst)) = R := ⟨_, rfl⟩
  rw [hR]
  have HR1 : Hid (∀ i (hi : i < ys.length), ¬ Lh ys[i].1 → R = false) := by
    intro i hi hn
    rw [← hR]
    exact decide_eq_false fun h => hn (h.2.1 _ (List.mem_map.2 ⟨_, List.getElem_mem hi, rfl⟩))
  have HR2 : Hid ((∀ i (hi : i < ys.length), i < 20 → Lh ys[i].1) → R = (decide (((ys.length : Nat) : Int) ≤ 20) && (decide (Lgts ta 20) && decide (Lgts tb 20)))) := by
    intro h
    rw [← hR]
    by_cases hl : ys.length ≤ 20
    · rw [decide_eq_true (show ((ys.length : Nat) : Int) ≤ 20 by omega), Bool.true_and, ← Bool.decide_and]
      rw [decide_eq_decide]
      have hall : ∀ h ∈ ys.map Prod.fst, Lh h := by
        intro c hc
        obtain ⟨y, hy, rfl⟩ := List.mem_map.1 hc
        obtain ⟨i, hi, rfl⟩ := List.mem_iff_getElem.1 hy
        exact h i hi (by omega)
      exact ⟨fun h => h.2.2, fun h => ⟨by simpa using hl, hall, h⟩⟩
    · rw [decide_eq_false (show ¬ ((ys.length : Nat) : Int) ≤ 20 by omega), Bool.false_and]
      exact decide_eq_false fun h => hl (by simpa using h.1)
  have HX : Hid (∀ i (hi : i < ys.length), ∃ b off x, sa = some ⟨b, off, none⟩ ∧ x.length = 33 ∧ ∀ V, Below w.heap.size w V → V.rangeAt b (off + i * 35 + 2) x ∧ V.cell? ⟨b, off + i * 35 + 1, none⟩ = some (.string ys[i].1.name) ∧ Calls Tryz.prog 20 #[.agg x.toArray] V fun e V' => e = .returned (.bool (decide (Lgt ys[i].1.t))) ∧ Below V.heap.size V V') := by
    intro i hi
    obtain ⟨b, off, e, hV⟩ := hx i hi
    have he := hc.each _ (List.getElem_mem hi)
    refine ⟨b, off, zc (yz ys[i]), e, tc_len he.1 _ _ _, fun V hb => ⟨fun j u hj => ?_, ?_, ?_⟩⟩
    · have := hV V hb (j + 2) u (by rw [yc_eq, List.getElem?_cons_succ, List.getElem?_cons_succ]; exact hj)
      rw [show off + i * 35 + 2 + j = off + i * 35 + (j + 2) by omega]
      exact this
    · exact hV V hb 1 (.string ys[i].1.name) rfl
    · exact light_any (tv_tv (z := yz ys[i]) he.1 (Rws.at_ he.2 hb))
  have HB : Hid (Below w.heap.size w w) := Below.refl _ _
  clear hR hx ha hb hc
  obtain ⟨N, hN⟩ : ∃ N, ys.length = N := ⟨_, rfl⟩
  rw [hN] at hlc
  simp only [hN] at HR1 HR2 HX ⊢
  go_enter Tryz.func9, Tryz.ntmps9
  go_wp2_with fail
  go_loopw [7] (fun u7 w' => ∃ i : Nat, i ≤ N ∧ i ≤ 20 ∧ u7 = .int .i64 i ∧ Hid ((∀ j (hj : j < i) (hj' : j < ys.length), Lh (ys[j]'hj').1) ∧ Below w.heap.size w w')) (fun u7 w' => N - (intOf u7).toNat)
  case atStart => exact ⟨0, Nat.zero_le _, Nat.zero_le _, rfl, fun j hj => absurd hj (by omega), HB.out⟩
  case round =>
    obtain ⟨i, hi, hi2, rfl, HRR⟩ := hrel
    clear HB
    by_cases hrun : i < N ∧ i < 20
    · obtain ⟨hlt, hlm⟩ := hrun
      have h1 : (i : Int) < N := by omega
      have h2 : (i : Int) < 20 := by omega
      obtain ⟨b, off, x, rfl, hsz, hV⟩ := HX.out i hlt
      have hj' : i < ys.length := by omega
      have hi33 : (Tryz.prog.info? 34).map (·.size) = some x.length := by rw [hsz]; kernel_rfl
      obtain ⟨hra, -, CL⟩ := hV _ HRR.out.2
      have HC : Hid (∀ V, Below w.heap.size w V → V.cell? ⟨b, off + i * 35 + 1, none⟩ = some (.string (ys[i]'hj').1.name)) := fun V hb => (hV V hb).2.1
      have HF := HR1.out i hlt
      have HN : Hid (Lh (ys[i]'hj').1 → ∀ j (hj : j < i + 1) (hj' : j < ys.length), Lh (ys[j]'hj').1) := by
        intro hl j hj hj2
        rcases Nat.lt_or_ge j i with h | h
        · exact HRR.out.1 j h hj2
        · obtain rfl : j = i := by omega
          exact hl
      have HBW : Hid (∀ V, Below wr.heap.size wr V → Below w.heap.size w V) := fun V hV => HRR.out.2.trans (hV.mono HRR.out.2.size)
      clear hV HX HR2 hsz HRR
      generalize (ys[i]'hj').1 = h at *
      by_cases q1 : Lgt h.t
      · rw [decide_eq_true q1] at CL
        go_wp2_with (first | (refine wpList_load_mid rfl 34 (.tmp 21) (by with_reducible rfl) b (off + i * 35 + 2) (by simp [Act.eval]) x _ hra Tryz.underlying34 rfl hi33 ?_) | fail)
        refine CL.mono ?_
        rintro e W1 ⟨rfl, hb1⟩
        have hc1 := HC.out W1 (HBW.out W1 hb1)
        have HB1 : Hid (Below w.heap.size w W1) := HBW.out W1 hb1
        clear CL hra HC HBW hb1
        by_cases q2 : h.name.size ≤ 300
        · have q3 : decide ((300 : Int) < (h.name.size : Nat)) = false := decide_eq_false (by omega)
          have HH : Hid ((∀ j (hj : j < i + 1) (hj' : j < ys.length), Lh (ys[j]'hj').1) ∧ Below w.heap.size w W1) := ⟨HN.out ⟨q1, q2⟩, HB1.out⟩
          clear HN HF HB1 q1 q2
          go_wp2_with fail
          go_roundw
          case rel => exact ⟨i + 1, by omega, by omega, by go_num, HH⟩
          case measure => simp [intOf]; omega
        · have q3 : decide ((300 : Int) < (h.name.size : Nat)) = true := decide_eq_true (by omega)
          obtain rfl := HF (fun h => q2 h.2)
          clear HN HF q1
          go_wp2_with fail
          go_ret
          exact ⟨rfl, HB1.out⟩
      · rw [decide_eq_false q1] at CL
        obtain rfl := HF (fun h => q1 h.1)
        clear HN HF HC
        go_wp2_with (first | (refine wpList_load_mid rfl 34 (.tmp 21) (by with_reducible rfl) b (off + i * 35 + 2) (by simp [Act.eval]) x _ hra Tryz.underlying34 rfl hi33 ?_) | fail)
        refine CL.mono ?_
        rintro e W1 ⟨rfl, hb1⟩
        have HB1 : Hid (Below w.heap.size w W1) := HBW.out W1 hb1
        clear CL hra HBW hb1
        go_wp2_with fail
        go_ret
        exact ⟨rfl, HB1.out⟩
    · have hall := HR2.out fun j hj hj20 => HRR.out.1 j (by omega) _
      have HB1 : Hid (Below w.heap.size w wr) := HRR.out.2
      clear HR1 HR2 HX HRR
      have hcond : (∃ B : Bool, decide ((i : Int) < (N : Int)) = B) := ⟨_, rfl⟩
      by_cases hn : i < N
      · have h1 : decide ((i : Int) < N) = true := decide_eq_true (by omega)
        have h2 : decide ((i : Int) < 20) = false := decide_eq_false (by omega)
        have h3 : decide ((N : Int) ≤ 20) = false := decide_eq_false (by omega)
        rw [h3, Bool.false_and] at hall
        subst hall
        clear CA CB
        go_wp2_with fail
        go_ret
        exact ⟨rfl, HB1.out⟩
      · have h1 : decide ((i : Int) < N) = false := decide_eq_false (by omega)
        have h3 : decide ((N : Int) ≤ 20) = true := decide_eq_true (by omega)
        rw [h3, Bool.true_and] at hall
        have C1 := CA.out wr HB1.out
        clear CA
        by_cases q1 : Lgts ta 20
        · rw [decide_eq_true q1] at C1 hall
          rw [Bool.true_and] at hall
          go_wp2_with fail
          refine C1.mono ?_
          rintro e W1 ⟨rfl, hb1⟩
          have HB2 : Hid (Below w.heap.size w W1) := HB1.out.trans (hb1.mono HB1.out.size)
          have C2 := CB.out W1 HB2.out
          clear C1 CB hb1 HB1 q1
          rw [← hall] at C2
          clear hall
          go_wp2_with fail
          refine C2.mono ?_
          rintro e W2 ⟨rfl, hb2⟩
          have HB3 : Hid (Below w.heap.size w W2) := HB2.out.trans (hb2.mono HB2.out.size)
          clear C2 hb2 HB2
          go_wp2_with fail
          go_ret
          exact ⟨rfl, HB3.out⟩
        · rw [decide_eq_false q1] at C1 hall
          rw [Bool.false_and] at hall
          subst hall
          clear CB q1
          go_wp2_with fail
          refine C1.mono ?_
          rintro e W1 ⟨rfl, hb1⟩
          have HB2 : Hid (Below w.heap.size w W1) := HB1.out.trans (hb1.mono HB1.out.size)
          clear C1 hb1 HB1
          go_wp2_with fail
          go_ret
          exact ⟨rfl, HB2.out⟩
end Df
end Go.Proofs.YtbccadbnaggkhaaGreat

namespace Go.Proofs.YtbccadbnaggkhaaGreat
open Go.RowKit
open Sm
open Cf
open Df
set_option linter.unusedVariables false
set_option linter.unusedSimpArgs false
set_option maxRecDepth 20000

namespace Df
theorem ten0_in : TIn ten0 := ⟨ten0_len, bytes_15 _ (by decide), bytes_15 _ (by decide), bytes_15 _ (by decide), by decide, by decide, by decide, by decide⟩
theorem tsames_refl (l : List Ten) : TSames l l := ⟨rfl, fun i _ => TSame.refl' _⟩
theorem tin_byn {A : List Ten} (h : ∀ t ∈ A, TIn t) : ∀ t ∈ byn nk A, TIn t := fun t ht => h t (mem_byn ht)
/-- Changes that are not too great. -/
def HIn (h : Chg) : Prop := TIn h.t ∧ h.name.size ≤ 1000000
theorem hin_dif {A B : List Ten} (hA : ∀ t ∈ A, TIn t) (hB : ∀ t ∈ B, TIn t) : ∀ h ∈ dif A B, HIn h := by
  intro h hh
  rcases mem_dif hh with ⟨-, h2, h3⟩ | ⟨-, h2, a, ha, h3⟩
  · exact ⟨hB _ h2, by rw [h3]; exact (hB _ h2).name⟩
  · exact ⟨by rw [h2]; exact ten0_in, by rw [h3]; exact (hA _ ha).name⟩
theorem tsv_tlen {w : World} {v : Value} {ts : List Ten} (h : TSV w v ts) : ∀ t ∈ ts, TLen t := by
  obtain ⟨zs, rfl, -, h2⟩ := h
  intro t ht
  obtain ⟨z, hz, rfl⟩ := List.mem_map.1 ht
  exact (h2 z hz).1
theorem tin_lgts {w : World} {v : Value} {ts : List Ten} {m : Nat} (h : TSV w v ts) (hb : ∀ t ∈ ts, TBy t) (hl : Lgts ts m) : ∀ t ∈ ts, TIn t := by
  intro t ht
  obtain ⟨i, hi, rfl⟩ := List.mem_iff_getElem.1 ht
  have := hl.2 i hi
  rw [List.getD_eq_getElem?_getD, List.getElem?_eq_getElem hi, Option.getD_some] at this
  exact lgt_in this (tsv_tlen h _ ht) (hb _ ht).key (hb _ ht).vmac (hb _ ht).host
theorem diffT {w : World} {v u : Value} {A B : List Ten} (ha : TSV w v A) (hb : TSV w u B) (hA : ∀ t ∈ A, TIn t) (hB : ∀ t ∈ B, TIn t) (la : A.length ≤ 1000) (lb : B.length ≤ 1000) :
    Calls Tryz.prog 17 #[v, u] w fun e V => ∃ a c xs, e = .returned (.slice a (dif (byn nk A) (byn nk B)).length c) ∧ YV V (.slice a (dif (byn nk A) (byn nk B)).length c) xs ∧ xs.map Prod.fst = dif (byn nk A) (byn nk B) ∧ Below w.heap.size w V ∧ ∃ C, ZBs xs C ∧ Mem w V C := by
  obtain ⟨zs, rfl, hz⟩ := TSV.zv ha
  obtain ⟨ys, rfl, hy⟩ := TSV.zv hb
  refine (diff_any hz hy (fun z h => hA _ (List.mem_map.2 ⟨z, h, rfl⟩)) (fun z h => hB _ (List.mem_map.2 ⟨z, h, rfl⟩)) (by simpa using la) (by simpa using lb)).mono ?_
  rintro e V ⟨r, rfl, xs, h1, h2, h3, h4⟩
  obtain ⟨a, c, e, -⟩ := h1.parts
  have hl : xs.length = (dif (byn nk (zs.map Prod.fst)) (byn nk (ys.map Prod.fst))).length := by rw [← h2, List.length_map]
  rw [hl] at e
  subst e
  exact ⟨a, c, xs, rfl, h1, h2, h3, h4⟩
theorem applyT {w : World} {v u : Value} {A : List Ten} {ys : List Hv} (ha : TSV w v A) (hy : YV w u ys) (hA : ∀ t ∈ A, TIn t) (hY : ∀ h ∈ ys.map Prod.fst, HIn h) (la : A.length ≤ 1000) (lb : ys.length ≤ 1000) :
    Calls Tryz.prog 13 #[v, u] w fun e V => ∃ a c, e = .returned (.slice a (app A (ys.map Prod.fst)).length c) ∧ TSV V (.slice a (app A (ys.map Prod.fst)).length c) (app A (ys.map Prod.fst)) ∧ Below w.heap.size w V := by
  obtain ⟨zs, rfl, hz⟩ := TSV.zv ha
  refine (apply_any hz hy (fun z h => nf_in (hA _ (List.mem_map.2 ⟨z, h, rfl⟩))) (fun y h => ⟨nf_in (hY _ (List.mem_map.2 ⟨y, h, rfl⟩)).1, (hY _ (List.mem_map.2 ⟨y, h, rfl⟩)).2⟩) (by simpa using la) lb).mono ?_
  rintro e V ⟨r, rfl, h1, h2⟩
  obtain ⟨a, c, rfl, -⟩ := h1.parts
  exact ⟨a, c, rfl, h1, h2⟩
theorem tenantsT {w : World} {v u : Value} {A : List Ten} (ha : TSV w v A) (hb : TSV w u A) (hA : ∀ t ∈ A, TIn t) :
    Calls Tryz.prog 12 #[v, u] w fun e V => e = .returned (.bool true) ∧ Below w.heap.size w V :=
  htenants_yes ha hb (fun t ht => (nf_in (hA t ht)).2) (tsames_refl A)
end Df
end Go.Proofs.YtbccadbnaggkhaaGreat

namespace Go.Proofs.YtbccadbnaggkhaaGreat
open Go.RowKit
open Sm
open Cf
open Df
set_option linter.unusedVariables false
set_option linter.unusedSimpArgs false
set_option maxRecDepth 20000

set_option maxHeartbeats 8000000 in
theorem back15_law {w : World} {va vb : Value} {A B : List Ten} (ha : TSV w va A) (hb : TSV w vb B) (hA : ∀ t ∈ A, TBy t) (hB : ∀ t ∈ B, TBy t) :
    Calls Tryz.prog 5 #[va, vb] w fun e w' => e = .returned (.bool true) ∧ Below w.heap.size w w' := by
  have HA : Hid (∀ V, Below w.heap.size w V → TSV V va A) := fun V hV => ha.at_ hV (Nat.le_refl _)
  have HB : Hid (∀ V, Below w.heap.size w V → TSV V vb B) := fun V hV => hb.at_ hV (Nat.le_refl _)
  have HI : Hid (L15 A B [] → (∀ t ∈ A, TIn t) ∧ (∀ t ∈ B, TIn t) ∧ A.length ≤ 20 ∧ B.length ≤ 20) := fun h => ⟨tin_lgts ha hA h.2.2.1, tin_lgts hb hB h.2.2.2, h.2.2.1.1, h.2.2.2.1⟩
  obtain ⟨aa, an, ac, rfl⟩ := ha.slice
  obtain ⟨ba, bn, bc, rfl⟩ := hb.slice
  clear ha hb hA hB
  go_enter Tryz.func5, Tryz.ntmps5
  go_wp2_with fail
  refine (known15_any w).mono ?_
  rintro e W1 ⟨rfl, hb1⟩
  have C1 := light15_any (HA.out W1 hb1) (HB.out W1 hb1) (yv_nil W1)
  rw [List.map_nil] at C1
  have HB1 : Hid (Below w.heap.size w W1) := hb1
  clear hb1
  by_cases q : L15 A B []
  rotate_left
  · rw [decide_eq_false q] at C1
    clear HA HB HI
    go_wp2_with fail
    refine C1.mono ?_
    rintro e W2 ⟨rfl, hb2⟩
    have HB2 : Hid (Below w.heap.size w W2) := HB1.out.trans (hb2.mono HB1.out.size)
    clear C1 hb2 HB1
    go_wp2_with fail
    go_ret
    exact ⟨rfl, HB2.out⟩
  rw [decide_eq_true q] at C1
  obtain ⟨hA, hB, la, lb⟩ := HI.out q
  clear HI q
  go_wp2_with fail
  refine C1.mono ?_
  rintro e W2 ⟨rfl, hb2⟩
  have hw2 := HB1.out.trans (hb2.mono HB1.out.size)
  have HB2 : Hid (Below w.heap.size w W2) := hw2
  have C2 := diffT (HA.out W2 hw2) (HB.out W2 hw2) hA hB (by omega) (by omega)
  have C7 : Hid (∀ V, Below w.heap.size w V → Calls Tryz.prog 17 #[.slice aa an ac, .slice aa an ac] V fun e V' => ∃ a c, e = .returned (.slice a 0 c) ∧ Below V.heap.size V V') := fun V hV => by
    refine (diffT (HA.out V hV) (HA.out V hV) hA hA (by omega) (by omega)).mono ?_
    rintro e V' ⟨a, c, xs, rfl, -, -, h, -⟩
    rw [dif_self]
    exact ⟨a, c, rfl, h⟩
  have HHI : Hid ((∀ t ∈ A, TIn t) ∧ (∀ t ∈ B, TIn t) ∧ A.length ≤ 20 ∧ B.length ≤ 20) := ⟨hA, hB, la, lb⟩
  clear C1 HB1 hb2 hw2 hA hB la lb
  go_wp2_with fail
  refine C2.mono ?_
  rintro e W3 ⟨ca, cc', xs, rfl, hY, hx, hb3, -⟩
  obtain ⟨hA, hB, la, lb⟩ := HHI.out
  have hw3 := HB2.out.trans (hb3.mono HB2.out.size)
  have hdl := dif_length (byn nk A) (byn nk B)
  have hal := byn_length (f := nk) A
  have hbl := byn_length (f := nk) B
  have hxl : xs.length ≤ 1000 := by
    have e : xs.length = (xs.map Prod.fst).length := by simp
    rw [e, hx]
    omega
  have C3 := applyT (HA.out W3 hw3) hY hA (by rw [hx]; exact hin_dif (tin_byn hA) (tin_byn hB)) (by omega) hxl
  rw [hx, app_dif] at C3
  have HB3 : Hid (Below w.heap.size w W3) := hw3
  clear C2 HB2 hb3 hw3 hY hA hB la lb hx hxl hdl hal hbl
  go_wp2_with fail
  refine C3.mono ?_
  rintro e W4 ⟨xa, xc, rfl, hX, hb4⟩
  obtain ⟨hA, hB, la, lb⟩ := HHI.out
  have hw4 := HB3.out.trans (hb4.mono HB3.out.size)
  have HX : Hid (∀ V, Below W4.heap.size W4 V → TSV V (.slice xa (byn nk B).length xc) (byn nk B)) := fun V hV => hX.at_ hV (Nat.le_refl _)
  have C4 := applyT (HB.out W4 hw4) (yv_nil W4) hB (by simp) (by omega) (by simp)
  rw [List.map_nil, app_nil] at C4
  have HB4 : Hid (Below w.heap.size w W4) := hw4
  clear C3 HB3 hb4 hw4 hX hA hB la lb
  go_wp2_with fail
  refine C4.mono ?_
  rintro e W5 ⟨ya, yc', rfl, hY, hb5⟩
  obtain ⟨hA, hB, la, lb⟩ := HHI.out
  have C5 := tenantsT (HX.out W5 hb5) hY (tin_byn hB)
  have HB5 : Hid (Below W4.heap.size W4 W5) := hb5
  clear C4 hb5 hY hA hB la lb
  go_wp2_with fail
  refine C5.mono ?_
  rintro e W6 ⟨rfl, hb6⟩
  obtain ⟨hA, hB, la, lb⟩ := HHI.out
  have hw6 := HB5.out.trans (hb6.mono HB5.out.size)
  have hbl := byn_length (f := nk) B
  have C6 := diffT (HX.out W6 hw6) (HB.out W6 (HB4.out.trans (hw6.mono HB4.out.size))) (tin_byn hB) hB (by omega) (by omega)
  rw [byn_srt (srt_byn (f := nk) B), dif_self] at C6
  have HB6 : Hid (Below w.heap.size w W6) := HB4.out.trans (hw6.mono HB4.out.size)
  clear C5 HB5 HB4 hb6 hw6 HX hA hB la lb hbl
  go_wp2_with fail
  refine C6.mono ?_
  rintro e W7 ⟨da, dc, -, rfl, -, -, hb7, -⟩
  have hw7 := HB6.out.trans (hb7.mono HB6.out.size)
  have C8 := C7.out W7 hw7
  have HB7 : Hid (Below w.heap.size w W7) := hw7
  clear C6 C7 HB6 hb7 hw7 HA HB HHI
  simp only [List.length_nil]
  go_wp2_with fail
  refine C8.mono ?_
  rintro e W8 ⟨ea, ec, rfl, hb8⟩
  have HB8 : Hid (Below w.heap.size w W8) := HB7.out.trans (hb8.mono HB7.out.size)
  clear C8 hb8 HB7
  go_wp2_with fail
  go_ret
  exact ⟨rfl, HB8.out⟩
end Go.Proofs.YtbccadbnaggkhaaGreat

