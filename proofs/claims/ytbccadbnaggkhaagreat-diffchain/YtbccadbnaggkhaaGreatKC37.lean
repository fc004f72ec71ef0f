/-
  What is changed: which tenants and changes the statements speak of (lychlaw15's light).
  What is changed: the calls as they speak of tenants.
  P15.3: from one to a second, and on to a third.
-/
import Derived.Test.YtbccadbnaggkhaaGreatKC36
import Derived.Test.YtbccadbnaggkhaaGreatKC26
import Derived.Test.YtbccadbnaggkhaaGreatKC31
import Derived.BigQuiet
namespace Go.Proofs.YtbccadbnaggkhaaGreat
open Go.RowKit
open Sm
open Cf
open Df
set_option linter.unusedVariables false
set_option linter.unusedSimpArgs false
set_option maxRecDepth 20000

namespace Df
def Lh (h : Chg) : Prop := Lgt h.t ∧ h.name.size ≤ 300
instance (h : Chg) : Decidable (Lh h) := by unfold Lh; infer_instance
def L15 (a b : List Ten) (c : List Chg) : Prop := c.length ≤ 20 ∧ (∀ h ∈ c, Lh h) ∧ Lgts a 20 ∧ Lgts b 20
instance (a b : List Ten) (c : List Chg) : Decidable (L15 a b c) := by unfold L15; infer_instance
set_option maxHeartbeats 8000000 in
theorem light15_any {w : World} {va vb vc : Value} {ta tb : List Ten} {ys : List Hv} (ha : TSV w va ta) (hb : TSV w vb tb) (hc : YV w vc ys) :
    Calls Tryz.prog 9 #[va, vb, vc] w fun e w' => e = .returned (.bool (decide (L15 ta tb (ys.map Prod.fst)))) ∧ Below w.heap.size w w' := by
  have CA : Hid (∀ V, Below w.heap.size w V → Calls Tryz.prog 21 #[va, .int .i64 20] V fun e V' => e = .returned (.bool (decide (Lgts ta 20))) ∧ Below V.heap.size V V') := fun V hV => lights_any (ha.at_ hV (Nat.le_refl _)) 20 (by omega)
  have CB : Hid (∀ V, Below w.heap.size w V → Calls Tryz.prog 21 #[vb, .int .i64 20] V fun e V' => e = .returned (.bool (decide (Lgts tb 20))) ∧ Below V.heap.size V V') := fun V hV => lights_any (hb.at_ hV (Nat.le_refl _)) 20 (by omega)
  obtain ⟨aa, an, ac, rfl⟩ := ha.slice
  obtain ⟨ba, bn, bc, rfl⟩ := hb.slice
  obtain ⟨sa, sc, rfl, hlc, hcb, hx⟩ := hc.parts
  obtain ⟨R, hR⟩ : ∃ R, decide (L15 ta tb (ys.map Prod.fst)) = R := ⟨_, rfl⟩
  rw [hR]
  have HR1 : Hid (∀ i (hi : i < ys.length), ¬ Lh ys[i].1 → R = false) := by
    intro i hi hn
    rw [← hR]
    exact decide_eq_false fun h => hn (h.2.1 _ (List.mem_map.2 ⟨_, List.getElem_mem hi, rfl⟩))
  have HR2 : Hid ((∀ i (hi : i < ys.length), i < 20 → Lh ys[i].1) → R = (decide (((ys.length : Nat) : Int) ≤ 20) && (decide (Lgts ta 20) && decide (Lgts tb 20)))) := by
    intro h
    rw [← hR]
    by_cases hl : ys.length ≤ 20
    · rw [decide_eq_true (show ((ys.length : Nat) : Int) ≤ 20 by omega), Bool.true_and, ← Bool.decide_and]
      rw [decide_eq_decide]
      have hall : ∀ h ∈ ys.map Prod.fst, Lh h := by
        intro c hc
        obtain ⟨y, hy, rfl⟩ := List.mem_map.1 hc
        obtain ⟨i, hi, rfl⟩ := List.mem_iff_getElem.1 hy
        exact h i hi (by omega)
      exact ⟨fun h => h.2.2, fun h => ⟨by simpa using hl, hall, h⟩⟩
    · rw [decide_eq_false (show ¬ ((ys.length : Nat) : Int) ≤ 20 by omega), Bool.false_and]
      exact decide_eq_false fun h => hl (by simpa using h.1)
  have HX : Hid (∀ i (hi : i < ys.length), ∃ b off x, sa = some ⟨b, off, none⟩ ∧ x.length = 33 ∧ ∀ V, Below w.heap.size w V → V.rangeAt b (off + i * 35 + 2) x ∧ V.cell? ⟨b, off + i * 35 + 1, none⟩ = some (.string ys[i].1.name) ∧ Calls Tryz.prog 20 #[.agg x.toArray] V fun e V' => e = .returned (.bool (decide (Lgt ys[i].1.t))) ∧ Below V.heap.size V V') := by
    intro i hi
    obtain ⟨b, off, e, hV⟩ := hx i hi
    have he := hc.each _ (List.getElem_mem hi)
    refine ⟨b, off, zc (yz ys[i]), e, tc_len he.1 _ _ _, fun V hb => ⟨fun j u hj => ?_, ?_, ?_⟩⟩
    · have := hV V hb (j + 2) u (by rw [yc_eq, List.getElem?_cons_succ, List.getElem?_cons_succ]; exact hj)
      rw [show off + i * 35 + 2 + j = off + i * 35 + (j + 2) by omega]
      exact this
    · exact hV V hb 1 (.string ys[i].1.name) rfl
    · exact light_any (tv_tv (z := yz ys[i]) he.1 (Rws.at_ he.2 hb))
  have HB : Hid (Below w.heap.size w w) := Below.refl _ _
  clear hR hx ha hb hc
  obtain ⟨N, hN⟩ : ∃ N, ys.length = N := ⟨_, rfl⟩
  rw [hN] at hlc
  simp only [hN] at HR1 HR2 HX ⊢
  go_enter Tryz.func9, Tryz.ntmps9
  go_wp2_with fail
  go_loopw [7] (fun u7 w' => ∃ i : Nat, i ≤ N ∧ i ≤ 20 ∧ u7 = .int .i64 i ∧ Hid ((∀ j (hj : j < i) (hj' : j < ys.length), Lh (ys[j]'hj').1) ∧ Below w.heap.size w w')) (fun u7 w' => N - (intOf u7).toNat)
  case atStart => exact ⟨0, Nat.zero_le _, Nat.zero_le _, rfl, fun j hj => absurd hj (by omega), HB.out⟩
  case round =>
    obtain ⟨i, hi, hi2, rfl, HRR⟩ := hrel
    clear HB
    by_cases hrun : i < N ∧ i < 20
    · obtain ⟨hlt, hlm⟩ := hrun
      have h1 : (i : Int) < N := by omega
      have h2 : (i : Int) < 20 := by omega
      obtain ⟨b, off, x, rfl, hsz, hV⟩ := HX.out i hlt
      have hj' : i < ys.length := by omega
      have hi33 : (Tryz.prog.info? 34).map (·.size) = some x.length := by rw [hsz]; kernel_rfl
      obtain ⟨hra, -, CL⟩ := hV _ HRR.out.2
      have HC : Hid (∀ V, Below w.heap.size w V → V.cell? ⟨b, off + i * 35 + 1, none⟩ = some (.string (ys[i]'hj').1.name)) := fun V hb => (hV V hb).2.1
      have HF := HR1.out i hlt
      have HN : Hid (Lh (ys[i]'hj').1 → ∀ j (hj : j < i + 1) (hj' : j < ys.length), Lh (ys[j]'hj').1) := by
        intro hl j hj hj2
        rcases Nat.lt_or_ge j i with h | h
        · exact HRR.out.1 j h hj2
        · obtain rfl : j = i := by omega
          exact hl
      have HBW : Hid (∀ V, Below wr.heap.size wr V → Below w.heap.size w V) := fun V hV => HRR.out.2.trans (hV.mono HRR.out.2.size)
      clear hV HX HR2 hsz HRR
      generalize (ys[i]'hj').1 = h at *
      by_cases q1 : Lgt h.t
      · rw [decide_eq_true q1] at CL
        go_wp2_with (first | (refine wpList_load_mid rfl 34 (.tmp 21) (by with_reducible rfl) b (off + i * 35 + 2) (by simp [Act.eval]) x _ hra Tryz.underlying34 rfl hi33 ?_) | fail)
        refine CL.mono ?_
        rintro e W1 ⟨rfl, hb1⟩
        have hc1 := HC.out W1 (HBW.out W1 hb1)
        have HB1 : Hid (Below w.heap.size w W1) := HBW.out W1 hb1
        clear CL hra HC HBW hb1
        by_cases q2 : h.name.size ≤ 300
        · have q3 : decide ((300 : Int) < (h.name.size : Nat)) = false := decide_eq_false (by omega)
          have HH : Hid ((∀ j (hj : j < i + 1) (hj' : j < ys.length), Lh (ys[j]'hj').1) ∧ Below w.heap.size w W1) := ⟨HN.out ⟨q1, q2⟩, HB1.out⟩
          clear HN HF HB1 q1 q2
          go_wp2_with fail
          go_roundw
          case rel => exact ⟨i + 1, by omega, by omega, by go_num, HH⟩
          case measure => simp [intOf]; omega
        · have q3 : decide ((300 : Int) < (h.name.size : Nat)) = true := decide_eq_true (by omega)
          obtain rfl := HF (fun h => q2 h.2)
          clear HN HF q1
          go_wp2_with fail
          go_ret
          exact ⟨rfl, HB1.out⟩
      · rw [decide_eq_false q1] at CL
        obtain rfl := HF (fun h => q1 h.1)
        clear HN HF HC
        go_wp2_with (first | (refine wpList_load_mid rfl 34 (.tmp 21) (by with_reducible rfl) b (off + i * 35 + 2) (by simp [Act.eval]) x _ hra Tryz.underlying34 rfl hi33 ?_) | fail)
        refine CL.mono ?_
        rintro e W1 ⟨rfl, hb1⟩
        have HB1 : Hid (Below w.heap.size w W1) := HBW.out W1 hb1
        clear CL hra HBW hb1
        go_wp2_with fail
        go_ret
        exact ⟨rfl, HB1.out⟩
    · have hall := HR2.out fun j hj hj20 => HRR.out.1 j (by omega) _
      have HB1 : Hid (Below w.heap.size w wr) := HRR.out.2
      clear HR1 HR2 HX HRR
      have hcond : (∃ B : Bool, decide ((i : Int) < (N : Int)) = B) := ⟨_, rfl⟩
      by_cases hn : i < N
      · have h1 : decide ((i : Int) < N) = true := decide_eq_true (by omega)
        have h2 : decide ((i : Int) < 20) = false := decide_eq_false (by omega)
        have h3 : decide ((N : Int) ≤ 20) = false := decide_eq_false (by omega)
        rw [h3, Bool.false_and] at hall
        subst hall
        clear CA CB
        go_wp2_with fail
        go_ret
        exact ⟨rfl, HB1.out⟩
      · have h1 : decide ((i : Int) < N) = false := decide_eq_false (by omega)
        have h3 : decide ((N : Int) ≤ 20) = true := decide_eq_true (by omega)
        rw [h3, Bool.true_and] at hall
        have C1 := CA.out wr HB1.out
        clear CA
        by_cases q1 : Lgts ta 20
        · rw [decide_eq_true q1] at C1 hall
          rw [Bool.true_and] at hall
          go_wp2_with fail
          refine C1.mono ?_
          rintro e W1 ⟨rfl, hb1⟩
          have HB2 : Hid (Below w.heap.size w W1) := HB1.out.trans (hb1.mono HB1.out.size)
          have C2 := CB.out W1 HB2.out
          clear C1 CB hb1 HB1 q1
          rw [← hall] at C2
          clear hall
          go_wp2_with fail
          refine C2.mono ?_
          rintro e W2 ⟨rfl, hb2⟩
          have HB3 : Hid (Below w.heap.size w W2) := HB2.out.trans (hb2.mono HB2.out.size)
          clear C2 hb2 HB2
          go_wp2_with fail
          go_ret
          exact ⟨rfl, HB3.out⟩
        · rw [decide_eq_false q1] at C1 hall
          rw [Bool.false_and] at hall
          subst hall
          clear CB q1
          go_wp2_with fail
          refine C1.mono ?_
          rintro e W1 ⟨rfl, hb1⟩
          have HB2 : Hid (Below w.heap.size w W1) := HB1.out.trans (hb1.mono HB1.out.size)
          clear C1 hb1 HB1
          go_wp2_with fail
          go_ret
          exact ⟨rfl, HB2.out⟩
end Df
end Go.Proofs.YtbccadbnaggkhaaGreat

namespace Go.Proofs.YtbccadbnaggkhaaGreat
open Go.RowKit
open Sm
open Cf
open Df
set_option linter.unusedVariables false
set_option linter.unusedSimpArgs false
set_option maxRecDepth 20000

namespace Df
theorem ten0_in : TIn ten0 := ⟨ten0_len, bytes_15 _ (by decide), bytes_15 _ (by decide), bytes_15 _ (by decide), by decide, by decide, by decide, by decide⟩
theorem tsames_refl (l : List Ten) : TSames l l := ⟨rfl, fun i _ => TSame.refl' _⟩
theorem tin_byn {A : List Ten} (h : ∀ t ∈ A, TIn t) : ∀ t ∈ byn nk A, TIn t := fun t ht => h t (mem_byn ht)
/-- Changes that are not too great. -/
def HIn (h : Chg) : Prop := TIn h.t ∧ h.name.size ≤ 1000000
theorem hin_dif {A B : List Ten} (hA : ∀ t ∈ A, TIn t) (hB : ∀ t ∈ B, TIn t) : ∀ h ∈ dif A B, HIn h := by
  intro h hh
  rcases mem_dif hh with ⟨-, h2, h3⟩ | ⟨-, h2, a, ha, h3⟩
  · exact ⟨hB _ h2, by rw [h3]; exact (hB _ h2).name⟩
  · exact ⟨by rw [h2]; exact ten0_in, by rw [h3]; exact (hA _ ha).name⟩
theorem tsv_tlen {w : World} {v : Value} {ts : List Ten} (h : TSV w v ts) : ∀ t ∈ ts, TLen t := by
  obtain ⟨zs, rfl, -, h2⟩ := h
  intro t ht
  obtain ⟨z, hz, rfl⟩ := List.mem_map.1 ht
  exact (h2 z hz).1
theorem tin_lgts {w : World} {v : Value} {ts : List Ten} {m : Nat} (h : TSV w v ts) (hb : ∀ t ∈ ts, TBy t) (hl : Lgts ts m) : ∀ t ∈ ts, TIn t := by
  intro t ht
  obtain ⟨i, hi, rfl⟩ := List.mem_iff_getElem.1 ht
  have := hl.2 i hi
  rw [List.getD_eq_getElem?_getD, List.getElem?_eq_getElem hi, Option.getD_some] at this
  exact lgt_in this (tsv_tlen h _ ht) (hb _ ht).key (hb _ ht).vmac (hb _ ht).host
theorem tsv_nil (w : World) : TSV w (.slice none 0 0) [] := ⟨[], rfl, ⟨none, 0, rfl, Nat.le_refl _, by omega, fun _ => rfl, Or.inl rfl⟩, by simp⟩
theorem diffT {w : World} {v u : Value} {A B : List Ten} (ha : TSV w v A) (hb : TSV w u B) (hA : ∀ t ∈ A, TIn t) (hB : ∀ t ∈ B, TIn t) (la : A.length ≤ 1000) (lb : B.length ≤ 1000) :
    Calls Tryz.prog 17 #[v, u] w fun e V => ∃ a c xs, e = .returned (.slice a (dif (byn nk A) (byn nk B)).length c) ∧ YV V (.slice a (dif (byn nk A) (byn nk B)).length c) xs ∧ xs.map Prod.fst = dif (byn nk A) (byn nk B) ∧ Below w.heap.size w V ∧ ∃ C, ZBs xs C ∧ Mem w V C := by
  obtain ⟨zs, rfl, hz⟩ := TSV.zv ha
  obtain ⟨ys, rfl, hy⟩ := TSV.zv hb
  refine (diff_any hz hy (fun z h => hA _ (List.mem_map.2 ⟨z, h, rfl⟩)) (fun z h => hB _ (List.mem_map.2 ⟨z, h, rfl⟩)) (by simpa using la) (by simpa using lb)).mono ?_
  rintro e V ⟨r, rfl, xs, h1, h2, h3, h4⟩
  obtain ⟨a, c, e, -⟩ := h1.parts
  have hl : xs.length = (dif (byn nk (zs.map Prod.fst)) (byn nk (ys.map Prod.fst))).length := by rw [← h2, List.length_map]
  rw [hl] at e
  subst e
  exact ⟨a, c, xs, rfl, h1, h2, h3, h4⟩
theorem applyT {w : World} {v u : Value} {A : List Ten} {ys : List Hv} (ha : TSV w v A) (hy : YV w u ys) (hA : ∀ t ∈ A, TIn t) (hY : ∀ h ∈ ys.map Prod.fst, HIn h) (la : A.length ≤ 1000) (lb : ys.length ≤ 1000) :
    Calls Tryz.prog 13 #[v, u] w fun e V => ∃ a c, e = .returned (.slice a (app A (ys.map Prod.fst)).length c) ∧ TSV V (.slice a (app A (ys.map Prod.fst)).length c) (app A (ys.map Prod.fst)) ∧ Below w.heap.size w V := by
  obtain ⟨zs, rfl, hz⟩ := TSV.zv ha
  refine (apply_any hz hy (fun z h => nf_in (hA _ (List.mem_map.2 ⟨z, h, rfl⟩))) (fun y h => ⟨nf_in (hY _ (List.mem_map.2 ⟨y, h, rfl⟩)).1, (hY _ (List.mem_map.2 ⟨y, h, rfl⟩)).2⟩) (by simpa using la) lb).mono ?_
  rintro e V ⟨r, rfl, h1, h2⟩
  obtain ⟨a, c, rfl, -⟩ := h1.parts
  exact ⟨a, c, rfl, h1, h2⟩
theorem tenantsT {w : World} {v u : Value} {A : List Ten} (ha : TSV w v A) (hb : TSV w u A) (hA : ∀ t ∈ A, TIn t) :
    Calls Tryz.prog 12 #[v, u] w fun e V => e = .returned (.bool true) ∧ Below w.heap.size w V :=
  htenants_yes ha hb (fun t ht => (nf_in (hA t ht)).2) (tsames_refl A)
end Df
end Go.Proofs.YtbccadbnaggkhaaGreat

namespace Go.Proofs.YtbccadbnaggkhaaGreat
open Go.RowKit
open Sm
open Cf
open Df
set_option linter.unusedVariables false
set_option linter.unusedSimpArgs false
set_option maxRecDepth 20000

namespace Df
theorem yc_sz {ys : List Hv} (h : ∀ y ∈ ys, TLen y.1.t) : ∀ x ∈ ys.map yc, x.length = 35 := by
  intro x hx
  obtain ⟨y, hy, rfl⟩ := List.mem_map.1 hx
  exact yc_len (h y hy)
theorem yc_oc {w : World} {ys : List Hv} (h : ∀ y ∈ ys, Rws w (yz y)) : ∀ x ∈ ys.map yc, ∀ u ∈ x, u.oneCell' = true := by
  intro x hx u hu
  obtain ⟨y, hy, rfl⟩ := List.mem_map.1 hx
  have := yc_all (h y hy)
  rw [Array.all_eq_true_iff_forall_mem] at this
  exact this u (by simpa using hu)
theorem two_apps {w W : World} {v u : Value} {ys : List Hv} (h : YV W v ys) (hl : ys.length ≤ 1000) (hw : Below w.heap.size w W) :
    ∃ a m c V, (Builtin.append_ #[23, 23] 23 #[.slice none 0 0, v]).run Tryz.prog W = .ok (.slice a m c) V ∧ Ow W V 47 35 (.slice a m c) ys.length (ys.map yc).flatten [] := by
  obtain ⟨v', V, hr, hO⟩ := append_none_g (ty := 23) (Mem.nil W) Tryz.underlying23 infoH (by kernel_rfl) (by decide) h.row (yc_sz fun y hy => (h.each y hy).1) (yc_oc fun y hy => (h.each y hy).2) (by rw [List.length_map]; unfold maxLen; omega) (by rw [List.length_map]; omega)
  rw [List.length_map] at hO
  obtain ⟨B, hB, -⟩ := hO.owb
  obtain ⟨a, m, c, rfl⟩ := owb_slice hB
  exact ⟨a, m, c, V, hr, hO⟩
theorem append_own_g {w W : World} {L : List (Nat × Obj)} {t e ty : TypeId} {sz bytes : Nat} {z : Value} (ht : Tryz.prog.underlying t = some (.slice e)) (hi : (Tryz.prog.info? e).map (fun i => (i.zero, i.size, i.bytes)) = some (some z, sz, bytes)) (hzs : z.cells.size = sz) (hsz : 0 < sz)
    {v' v : Value} {n : Nat} {ys : List Value} (hn : Ow w W e sz v' n ys L) {xs : List (List Value)} (h : Rw W sz v xs) (hx : ∀ x ∈ xs, x.length = sz) (h1 : ∀ x ∈ xs, ∀ u ∈ x, u.oneCell' = true) (hl : n + xs.length ≤ maxLen) (hb : (n + xs.length) * bytes ≤ 140737488355328) :
    ∃ r W', (Builtin.append_ #[t, t] ty #[v', v]).run Tryz.prog W = .ok r W' ∧ Ow w W' e sz r (n + xs.length) (ys ++ xs.flatten) L := by
  have h0 := h
  obtain ⟨a, c, rfl, k1, k2, k3, k4⟩ := h
  cases a with
  | none =>
    have hc : c = 0 := k3 rfl
    subst hc
    have hl0 : xs = [] := List.eq_nil_of_length_eq_zero (by omega)
    subst hl0
    obtain ⟨i, hi', -, -, -⟩ := info_parts hi
    refine ⟨_, _, run_append_owned_none (P := Tryz.prog) W w.heap.size t ty e i sz ht hi' _ _ _ hn.owns, ?_⟩
    simpa using hn
  | some ad =>
    have hfl : xs.flatten.length = xs.length * sz := by
      clear h0 k4 hb hl h1 k1
      induction xs with
      | nil => simp
      | cons x xs ih => rw [List.flatten_cons, List.length_append, hx x (by simp), ih fun y hy => hx y (by simp [hy]), List.length_cons, Nat.succ_mul]; omega
    exact ow_append (ty := ty) ht hi hzs hsz hn ad xs.length c xs.flatten hfl (rw_flat hsz h0 hx rfl) (by
      intro u hu
      obtain ⟨x, hxm, hux⟩ := List.mem_flatten.mp hu
      exact h1 x hxm u hux) hl hb
theorem ow_two {w W : World} {r : Value} {xs ys : List Hv} {L : List (Nat × Obj)} (hO : Ow w W 47 35 r (xs.length + ys.length) ((xs.map yc).flatten ++ (ys.map yc).flatten) L) (hx : ∀ y ∈ xs, TLen y.1.t ∧ Rws W (yz y)) (hy : ∀ y ∈ ys, TLen y.1.t ∧ Rws W (yz y)) : YV W r (xs ++ ys) := by
  obtain ⟨B, hB, hM⟩ := hO.owb
  have hall : ∀ y ∈ xs ++ ys, TLen y.1.t ∧ Rws W (yz y) := fun y h => (List.mem_append.1 h).elim (hx y) (hy y)
  refine ⟨owb_rw' (T := 47) (B := B) (yc_sz fun y h => (hall y h).1) ?_ fun p hp => hM.at_ p (by simp [hp]), hall⟩
  rw [List.length_map, List.length_append, List.map_append, List.flatten_append]
  exact hB
theorem srt_next {l : List Ten} (h : Srt nk l) {i : Nat} (hi : i + 1 < l.length) : (Op.bytesLess (l[i]'(by omega)).name.toList (l[i + 1]).name.toList) = true := by
  rw [bytesLess_eq, Lib.toList_data, Lib.toList_data]
  exact decide_eq_true (List.pairwise_iff_getElem.1 h i (i + 1) (by omega) hi (by omega))
end Df
set_option maxHeartbeats 8000000 in
theorem chain15_law {w : World} {va vb vc : Value} {A B C : List Ten} (ha : TSV w va A) (hb : TSV w vb B) (hc : TSV w vc C) (hA : ∀ t ∈ A, TBy t) (hB : ∀ t ∈ B, TBy t) (hC : ∀ t ∈ C, TBy t) :
    Calls Tryz.prog 7 #[va, vb, vc] w fun e w' => e = .returned (.bool true) ∧ Below w.heap.size w w' := by
  have HA : Hid (∀ V, Below w.heap.size w V → TSV V va A) := fun V hV => ha.at_ hV (Nat.le_refl _)
  have HB : Hid (∀ V, Below w.heap.size w V → TSV V vb B) := fun V hV => hb.at_ hV (Nat.le_refl _)
  have HC : Hid (∀ V, Below w.heap.size w V → TSV V vc C) := fun V hV => hc.at_ hV (Nat.le_refl _)
  have HI : Hid (L15 A B [] → L15 C [] [] → (∀ t ∈ A, TIn t) ∧ (∀ t ∈ B, TIn t) ∧ (∀ t ∈ C, TIn t) ∧ A.length ≤ 20 ∧ B.length ≤ 20 ∧ C.length ≤ 20) := fun h h' => ⟨tin_lgts ha hA h.2.2.1, tin_lgts hb hB h.2.2.2, tin_lgts hc hC h'.2.2.1, h.2.2.1.1, h.2.2.2.1, h'.2.2.1.1⟩
  obtain ⟨aa, an, ac, rfl⟩ := ha.slice
  obtain ⟨ba, bn, bc, rfl⟩ := hb.slice
  obtain ⟨ca, cn, cc', rfl⟩ := hc.slice
  clear ha hb hc hA hB hC
  go_enter Tryz.func7, Tryz.ntmps7
  go_wp2_with fail
  refine (known15_any w).mono ?_
  rintro e W1 ⟨rfl, hb1⟩
  have C1 := light15_any (HA.out W1 hb1) (HB.out W1 hb1) (yv_nil W1)
  rw [List.map_nil] at C1
  have HB1 : Hid (Below w.heap.size w W1) := hb1
  clear hb1
  by_cases q : L15 A B []
  rotate_left
  · rw [decide_eq_false q] at C1
    clear HA HB HC HI
    go_wp2_with fail
    refine C1.mono ?_
    rintro e W2 ⟨rfl, hb2⟩
    have HB2 : Hid (Below w.heap.size w W2) := HB1.out.trans (hb2.mono HB1.out.size)
    clear C1 hb2 HB1
    go_wp2_with fail
    go_ret
    exact ⟨rfl, HB2.out⟩
  rw [decide_eq_true q] at C1
  go_wp2_with fail
  refine C1.mono ?_
  rintro e W2 ⟨rfl, hb2⟩
  have hw2 := HB1.out.trans (hb2.mono HB1.out.size)
  have HB2 : Hid (Below w.heap.size w W2) := hw2
  have C2 := light15_any (HC.out W2 hw2) (tsv_nil W2) (yv_nil W2)
  rw [List.map_nil] at C2
  clear C1 HB1 hb2 hw2
  by_cases q' : L15 C [] []
  rotate_left
  · rw [decide_eq_false q'] at C2
    clear HA HB HC HI
    go_wp2_with fail
    refine C2.mono ?_
    rintro e W3 ⟨rfl, hb3⟩
    have HB3 : Hid (Below w.heap.size w W3) := HB2.out.trans (hb3.mono HB2.out.size)
    clear C2 hb3 HB2
    go_wp2_with fail
    go_ret
    exact ⟨rfl, HB3.out⟩
  rw [decide_eq_true q'] at C2
  have HHI : Hid ((∀ t ∈ A, TIn t) ∧ (∀ t ∈ B, TIn t) ∧ (∀ t ∈ C, TIn t) ∧ A.length ≤ 20 ∧ B.length ≤ 20 ∧ C.length ≤ 20) := HI.out q q'
  clear HI q q'
  go_wp2_with fail
  refine C2.mono ?_
  rintro e W3 ⟨rfl, hb3⟩
  have hw3 := HB2.out.trans (hb3.mono HB2.out.size)
  obtain ⟨hA, hB, hC, la, lb, lc⟩ := HHI.out
  have C3 := diffT (HA.out W3 hw3) (HB.out W3 hw3) hA hB (by omega) (by omega)
  have HB3 : Hid (Below w.heap.size w W3) := hw3
  clear C2 HB2 hb3 hw3 hA hB hC la lb lc
  go_wp2_with fail
  refine C3.mono ?_
  rintro e W4 ⟨xa, xc, xs, rfl, hX, hx, hb4, -⟩
  have hw4 := HB3.out.trans (hb4.mono HB3.out.size)
  obtain ⟨hA, hB, hC, la, lb, lc⟩ := HHI.out
  have hxl : xs.length ≤ 40 := by
    have e : xs.length = (xs.map Prod.fst).length := by simp
    have h1 := dif_length (byn nk A) (byn nk B)
    have h2 := byn_length (f := nk) A
    have h3 := byn_length (f := nk) B
    rw [e, hx]
    omega
  obtain ⟨pa, pm, pc, W5, hr5, hO5⟩ := two_apps (w := w) (u := .slice none 0 0) hX (by omega) hw4
  have hw5 := hw4.trans (hO5.mem.below.mono hw4.size)
  have C4 := diffT (HB.out W5 hw5) (HC.out W5 hw5) hB hC (by omega) (by omega)
  have HX : Hid (Ow W4 W5 47 35 (.slice pa pm pc) xs.length (xs.map yc).flatten [] ∧ (∀ y ∈ xs, TLen y.1.t ∧ Rws W4 (yz y)) ∧ xs.map Prod.fst = dif (byn nk A) (byn nk B) ∧ xs.length ≤ 40) := ⟨hO5, hX.each, hx, hxl⟩
  have HB5 : Hid (Below w.heap.size w W4 ∧ Below w.heap.size w W5) := ⟨hw4, hw5⟩
  clear C3 HB3 hb4 hw4 hw5 hX hx hxl hO5 hA hB hC la lb lc
  go_wp2_with (first | (at_builtin; refine wpList_append_run _ (.tmp 23) 23 23 (by with_reducible rfl) hr5 rfl rfl (by first | rfl | simp [Act.eval]) (by first | rfl | simp [Act.eval]) ?_) | fail)
  refine C4.mono ?_
  rintro e W6 ⟨ya, yc', ys, rfl, hY, hy, hb6, CC, hZ, hMC⟩
  clear C4 hr5
  obtain ⟨hA, hB, hC, la, lb, lc⟩ := HHI.out
  obtain ⟨hO5, hXe, hx, hxl⟩ := HX.out
  have hyl : ys.length ≤ 40 := by
    have e : ys.length = (ys.map Prod.fst).length := by simp
    have h1 := dif_length (byn nk B) (byn nk C)
    have h2 := byn_length (f := nk) B
    have h3 := byn_length (f := nk) C
    rw [e, hy]
    omega
  obtain ⟨r, W7, hr7, hO7⟩ := append_own_g (ty := 23) Tryz.underlying23 infoH (by kernel_rfl) (by decide) (hO5.join hMC) hY.row (yc_sz fun y hy => (hY.each y hy).1) (yc_oc fun y hy => (hY.each y hy).2) (by rw [List.length_map]; unfold maxLen; omega) (by rw [List.length_map]; omega)
  rw [List.length_map] at hO7
  obtain ⟨B7, hB7, -⟩ := hO7.owb
  obtain ⟨ra, rm, rc, rfl⟩ := owb_slice hB7
  have hb67 : Below w.heap.size w W7 := HB5.out.1.trans (hO7.mem.below.mono HB5.out.1.size)
  -- the lists of the changes that were told second lie below the row that is written
  have hYe : ∀ y ∈ ys, TLen y.1.t ∧ Rws W7 (yz y) := fun y h => zb_rws (hZ y h) fun x hx => hO7.mem.at_ x (by simpa using hx)
  have hV7 := ow_two hO7 (fun y h => ⟨(hXe y h).1, Rws.at_ (hXe y h).2 hO7.mem.below⟩) hYe
  have hxy : (xs ++ ys).map Prod.fst = dif (byn nk A) (byn nk B) ++ dif (byn nk B) (byn nk C) := by rw [List.map_append, hx, hy]
  have C5 := applyT (HA.out W7 hb67) hV7 hA (by
    intro h hh
    rw [hxy] at hh
    rcases List.mem_append.1 hh with hh | hh
    · exact hin_dif (tin_byn hA) (tin_byn hB) h hh
    · exact hin_dif (tin_byn hB) (tin_byn hC) h hh) (by omega) (by rw [List.length_append]; omega)
  rw [hxy, app_append, app_dif, app_srt (srt_byn B), stps_dif (srt_byn B) (srt_byn C)] at C5
  have HB7 : Hid (Below w.heap.size w W7) := hb67
  clear hO5 hXe hx hxl hyl hO7 hB7 hb67 hYe hV7 hxy hY hy hb6 hZ hMC HX HB5 hA hB hC la lb lc
  go_wp2_with (first | (at_builtin; refine wpList_append_run (.tmp 24) (.tmp 27) 23 23 (by with_reducible rfl) hr7 rfl rfl (by first | rfl | simp [Act.eval]) (by first | rfl | simp [Act.eval]) ?_) | fail)
  refine C5.mono ?_
  rintro e W8 ⟨za, zc', rfl, hZ, hb8⟩
  clear C5 hr7
  have hw8 := HB7.out.trans (hb8.mono HB7.out.size)
  -- the names, one by one
  obtain ⟨sa, sc, e8, hlc, hcb, hx8⟩ := hZ.parts
  cases e8
  obtain ⟨M, hM⟩ : ∃ M, byn nk C = M := ⟨_, rfl⟩
  have hsr : Srt nk M := by rw [← hM]; exact srt_byn C
  have hml : M.length ≤ 20 := by
    have := byn_length (f := nk) C
    rw [hM] at this
    have := HHI.out.2.2.2.2.2
    omega
  have htin : ∀ t ∈ M, TIn t := by rw [← hM]; exact tin_byn HHI.out.2.2.1
  have HMe : Hid (byn nk C = M) := hM
  rw [hM] at hZ hlc hx8 ⊢
  have HX8 : Hid (∀ i (hi : i < M.length), ∃ b off, za = some ⟨b, off, none⟩ ∧ ∀ V, Below W8.heap.size W8 V → V.cell? ⟨b, off + i * 33, none⟩ = some (.string (M[i]'hi).name)) := by
    intro i hi
    obtain ⟨b, off, x, e1, e2, -, e3⟩ := hx8 i hi
    refine ⟨b, off, e1, fun V hV => ?_⟩
    obtain ⟨k1, hl, p, s, q, e, -⟩ := e3 V hV
    have ex : x = tc (M.getD i ten0) p s q := by simpa using e
    have := k1 0 (.string (M.getD i ten0).name) (by rw [ex]; rfl)
    rw [List.getD_eq_getElem?_getD, List.getElem?_eq_getElem hi, Option.getD_some] at this
    simpa using this
  have HLT : Hid (∀ i (hi : i + 1 < M.length), Op.bytesLess (M[i]'(by omega)).name.toList (M[i + 1]'hi).name.toList = true) := fun i hi => srt_next hsr hi
  have H8 : Hid (TSV W8 (.slice za M.length zc') M ∧ Below w.heap.size w W8) := ⟨hZ, hw8⟩
  have HTN : Hid (∀ t ∈ M, TIn t) := htin
  clear hZ hb8 hw8 hx8 HB7 hM hsr htin
  obtain ⟨L, hL⟩ : ∃ L, M.length = L := ⟨_, rfl⟩
  rw [hL] at hml hlc H8
  simp only [hL] at HX8 HLT ⊢
  go_wp2_with fail
  go_loopw [9] (fun u9 w' => ∃ i : Nat, 1 ≤ i ∧ (i ≤ L ∨ i = 1) ∧ u9 = .int .i64 i ∧ Hid (Below W8.heap.size W8 w')) (fun u9 w' => L - (intOf u9).toNat)
  case atStart => exact ⟨1, Nat.le_refl _, Or.inr rfl, rfl, Below.refl _ _⟩
  case round =>
    obtain ⟨i, hi1, hi2, rfl, HR⟩ := hrel
    by_cases hlt : i < L
    · have h1 : (i : Int) < L := by omega
      have hiM : i < M.length := by omega
      have hjM : i - 1 < M.length := by omega
      obtain ⟨b, off, rfl, hV⟩ := HX8.out i hlt
      obtain ⟨b', off', e', hV'⟩ := HX8.out (i - 1) (by omega)
      cases e'
      have hd : Below W8.heap.size W8 wr.drew := HR.out.drew
      have c1 := hV _ HR.out
      have c2 := hV' _ HR.out
      have hlt2 : Op.bytesLess (M[i - 1]'hjM).name.toList (M[i]'hiM).name.toList = true := by
        have := HLT.out (i - 1) (by omega)
        simp only [show i - 1 + 1 = i by omega] at this
        exact this
      have e1 : (i : Int) - 1 = ((i - 1 : Nat) : Int) := by omega
      have e2 : IntKind.i64.wrap ((i : Int) - 1) = ((i - 1 : Nat) : Int) := by rw [e1]; exact wrap64n (by omega) (by omega)
      have h3 : ((i - 1 : Nat) : Int) < L := by omega
      have HF : Hid (Below W8.heap.size W8 wr) := HR.out
      clear hV hV' hd HX8 HLT HR
      generalize (M[i - 1]'hjM).name = s1 at *
      generalize (M[i]'hiM).name = s2 at *
      obtain ⟨j, hj⟩ : ∃ j, i - 1 = j := ⟨_, rfl⟩
      rw [hj] at c2 e2 h3 e1
      go_upto_region 10 with fail
      go_quiet (fail)
      go_wp2_with fail
      go_roundw
      case rel => exact ⟨i + 1, by omega, by omega, by go_num, Go.below_drewN HF.out _⟩
      case measure => simp [intOf]; omega
    · have h1 : ¬ ((i : Int) < L) := by omega
      have hw := H8.out.2.trans (HR.out.mono H8.out.2.size)
      obtain ⟨hA, hB, hC, la, lb, lc⟩ := HHI.out
      have C6 := applyT (HC.out wr hw) (yv_nil wr) hC (by simp) (by omega) (by simp)
      rw [List.map_nil, app_nil, HMe.out, hL] at C6
      have HX : Hid (TSV wr (.slice za L zc') M ∧ Below w.heap.size w wr) := ⟨H8.out.1.at_ HR.out (Nat.le_refl _), hw⟩
      clear HX8 HLT HR H8 hw hA hB hC la lb lc
      go_wp2_with fail
      refine C6.mono ?_
      rintro e W9 ⟨ya, yc2, rfl, hY, hb9⟩
      have hX9 := HX.out.1.at_ hb9 (Nat.le_refl _)
      have C7 := tenantsT hX9 hY HTN.out
      have hw9 := HX.out.2.trans (hb9.mono HX.out.2.size)
      have HX9 : Hid (TSV W9 (.slice za L zc') M ∧ Below w.heap.size w W9) := ⟨hX9, hw9⟩
      clear C6 HX hY hb9 hX9 hw9
      go_wp2_with fail
      refine C7.mono ?_
      rintro e W10 ⟨rfl, hb10⟩
      have hw10 := HX9.out.2.trans (hb10.mono HX9.out.2.size)
      have C8 := diffT (HX9.out.1.at_ hb10 (Nat.le_refl _)) (HC.out W10 hw10) HTN.out HHI.out.2.2.1 (by omega) (by have := HHI.out.2.2.2.2.2; omega)
      have e9 : byn nk M = M := by rw [← HMe.out]; exact byn_srt (srt_byn C)
      rw [e9, HMe.out, dif_self] at C8
      have HB10 : Hid (Below w.heap.size w W10) := hw10
      clear C7 HX9 hb10 hw10 e9 HTN HHI HMe HA HB HC
      go_wp2_with fail
      refine C8.mono ?_
      rintro e W11 ⟨da, dc, -, rfl, -, -, hb11, -⟩
      have HB11 : Hid (Below w.heap.size w W11) := HB10.out.trans (hb11.mono HB10.out.size)
      clear C8 HB10 hb11
      simp only [List.length_nil]
      go_wp2_with fail
      go_ret
      exact ⟨rfl, HB11.out⟩
end Go.Proofs.YtbccadbnaggkhaaGreat

