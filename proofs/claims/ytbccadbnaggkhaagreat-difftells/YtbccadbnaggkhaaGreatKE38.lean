/-
  What is changed: which tenants and changes the statements speak of (lychlaw15's light).
  What is changed: the calls as they speak of tenants.
  P15.3: from one to a second, and on to a third.
  What is changed: the document's list in order: where it lies, what is put into it and taken out of it.
-/
import Derived.Test.YtbccadbnaggkhaaGreatKE37
import Derived.Test.YtbccadbnaggkhaaGreatKE27
import Derived.Test.YtbccadbnaggkhaaGreatKE32
import Derived.BigQuiet
import Derived.ArgAppend
namespace Go.Proofs.YtbccadbnaggkhaaGreat
open Go.RowKit
open Sm
open Cf
open Df
set_option linter.unusedVariables false
set_option linter.unusedSimpArgs false
set_option maxRecDepth 20000

namespace Df
def Lh (h : Chg) : Prop := Lgt h.t ∧ h.name.size ≤ 300
instance (h : Chg) : Decidable (Lh h) := by unfold Lh; infer_instance
def L15 (a b : List Ten) (c : List Chg) : Prop := c.length ≤ 20 ∧ (∀ h ∈ c, Lh h) ∧ Lgts a 20 ∧ Lgts b 20
instance (a b : List Ten) (c : List Chg) : Decidable (L15 a b c) := by unfold L15; infer_instance
set_option maxHeartbeats 8000000 in
theorem light15_any {w : World} {va vb vc : Value} {ta tb : List Ten} {ys : List Hv} (ha : TSV w va ta) (hb : TSV w vb tb) (hc : YV w vc ys) :
    Calls Tryz.prog 9 #[va, vb, vc] w fun e w' => e = .returned (.bool (decide (L15 ta tb (ys.map Prod.fst)))) ∧ Below w.heap.size w w' := by
  have CA : Hid (∀ V, Below w.heap.size w V → Calls Tryz.prog 21 #[va, .int .i64 20] V fun e V' => e = .returned (.bool (decide (Lgts ta 20))) ∧ Below V.heap.size V V') := fun V hV => lights_any (ha.at_ hV (Nat.le_refl _)) 20 (by omega)
  have CB : Hid (∀ V, Below w.heap.size w V → Calls Tryz.prog 21 #[vb, .int .i64 20] V fun e V' => e = .returned (.bool (decide (Lgts tb 20))) ∧ Below V.heap.size V V') := fun V hV => lights_any (hb.at_ hV (Nat.le_refl _)) 20 (by omega)
  obtain ⟨aa, an, ac, rfl⟩ := ha.slice
  obtain ⟨ba, bn, bc, rfl⟩ := hb.slice
  obtain ⟨sa, sc, rfl, hlc, hcb, hx⟩ := hc.parts
  obtain ⟨R, hR⟩ : ∃ R, decide (L15 ta tb (ys.map Prod.fst)) = R := ⟨_, rfl⟩
  rw [hR]
  have HR1 : Hid (∀ i (hi : i < ys.length), ¬ Lh ys[i].1 → R = false) := by
    intro i hi hn
    rw [← hR]
    exact decide_eq_false fun h => hn (h.2.1 _ (List.mem_map.2 ⟨_, List.getElem_mem hi, rfl⟩))
  have HR2 : Hid ((∀ i (hi : i < ys.length), i < 20 → Lh ys[i].1) → R = (decide (((ys.length : Nat) : Int) ≤ 20) && (decide (Lgts ta 20) && decide (Lgts tb 20)))) := by
    intro h
    rw [← hR]
    by_cases hl : ys.length ≤ 20
    · rw [decide_eq_true (show ((ys.length : Nat) : Int) ≤ 20 by omega), Bool.true_and, ← Bool.decide_and]
      rw [decide_eq_decide]
      have hall : ∀ h ∈ ys.map Prod.fst, Lh h := by
        intro c hc
        obtain ⟨y, hy, rfl⟩ := List.mem_map.1 hc
        obtain ⟨i, hi, rfl⟩ := List.mem_iff_getElem.1 hy
        exact h i hi (by omega)
      exact ⟨fun h => h.2.2, fun h => ⟨by simpa using hl, hall, h⟩⟩
    · rw [decide_eq_false (show ¬ ((ys.length : Nat) : Int) ≤ 20 by omega), Bool.false_and]
      exact decide_eq_false fun h => hl (by simpa using h.1)
  have HX : Hid (∀ i (hi : i < ys.length), ∃ b off x, sa = some ⟨b, off, none⟩ ∧ x.length = 33 ∧ ∀ V, Below w.heap.size w V → V.rangeAt b (off + i * 35 + 2) x ∧ V.cell? ⟨b, off + i * 35 + 1, none⟩ = some (.string ys[i].1.name) ∧ Calls Tryz.prog 20 #[.agg x.toArray] V fun e V' => e = .returned (.bool (decide (Lgt ys[i].1.t))) ∧ Below V.heap.size V V') := by
    intro i hi
    obtain ⟨b, off, e, hV⟩ := hx i hi
    have he := hc.each _ (List.getElem_mem hi)
    refine ⟨b, off, zc (yz ys[i]), e, tc_len he.1 _ _ _, fun V hb => ⟨fun j u hj => ?_, ?_, ?_⟩⟩
    · have := hV V hb (j + 2) u (by rw [yc_eq, List.getElem?_cons_succ, List.getElem?_cons_succ]; exact hj)
      rw [show off + i * 35 + 2 + j = off + i * 35 + (j + 2) by omega]
      exact this
    · exact hV V hb 1 (.string ys[i].1.name) rfl
    · exact light_any (tv_tv (z := yz ys[i]) he.1 (Rws.at_ he.2 hb))
  have HB : Hid (Below w.heap.size w w) := Below.refl _ _
  clear hR hx ha hb hc
  obtain ⟨N, hN⟩ : ∃ N, ys.length = N := ⟨_, rfl⟩
  rw [hN] at hlc
  simp only [hN] at HR1 HR2 HX ⊢
  go_enter Tryz.func9, Tryz.ntmps9
  go_wp2_with fail
  go_loopw [7] (fun u7 w' => ∃ i : Nat, i ≤ N ∧ i ≤ 20 ∧ u7 = .int .i64 i ∧ Hid ((∀ j (hj : j < i) (hj' : j < ys.length), Lh (ys[j]'hj').1) ∧ Below w.heap.size w w')) (fun u7 w' => N - (intOf u7).toNat)
  case atStart => exact ⟨0, Nat.zero_le _, Nat.zero_le _, rfl, fun j hj => absurd hj (by omega), HB.out⟩
  case round =>
    obtain ⟨i, hi, hi2, rfl, HRR⟩ := hrel
    clear HB
    by_cases hrun : i < N ∧ i < 20
    · obtain ⟨hlt, hlm⟩ := hrun
      have h1 : (i : Int) < N := by omega
      have h2 : (i : Int) < 20 := by omega
      obtain ⟨b, off, x, rfl, hsz, hV⟩ := HX.out i hlt
      have hj' : i < ys.length := by omega
      have hi33 : (Tryz.prog.info? 34).map (·.size) = some x.length := by rw [hsz]; kernel_rfl
      obtain ⟨hra, -, CL⟩ := hV _ HRR.out.2
      have HC : Hid (∀ V, Below w.heap.size w V → V.cell? ⟨b, off + i * 35 + 1, none⟩ = some (.string (ys[i]'hj').1.name)) := fun V hb => (hV V hb).2.1
      have HF := HR1.out i hlt
      have HN : Hid (Lh (ys[i]'hj').1 → ∀ j (hj : j < i + 1) (hj' : j < ys.length), Lh (ys[j]'hj').1) := by
        intro hl j hj hj2
        rcases Nat.lt_or_ge j i with h | h
        · exact HRR.out.1 j h hj2
        · obtain rfl : j = i := by omega
          exact hl
      have HBW : Hid (∀ V, Below wr.heap.size wr V → Below w.heap.size w V) := fun V hV => HRR.out.2.trans (hV.mono HRR.out.2.size)
      clear hV HX HR2 hsz HRR
      generalize (ys[i]'hj').1 = h at *
      by_cases q1 : Lgt h.t
      · rw [decide_eq_true q1] at CL
        go_wp2_with (first | (refine wpList_load_mid rfl 34 (.tmp 21) (by with_reducible rfl) b (off + i * 35 + 2) (by simp [Act.eval]) x _ hra Tryz.underlying34 rfl hi33 ?_) | fail)
        refine CL.mono ?_
        rintro e W1 ⟨rfl, hb1⟩
        have hc1 := HC.out W1 (HBW.out W1 hb1)
        have HB1 : Hid (Below w.heap.size w W1) := HBW.out W1 hb1
        clear CL hra HC HBW hb1
        by_cases q2 : h.name.size ≤ 300
        · have q3 : decide ((300 : Int) < (h.name.size : Nat)) = false := decide_eq_false (by omega)
          have HH : Hid ((∀ j (hj : j < i + 1) (hj' : j < ys.length), Lh (ys[j]'hj').1) ∧ Below w.heap.size w W1) := ⟨HN.out ⟨q1, q2⟩, HB1.out⟩
          clear HN HF HB1 q1 q2
          go_wp2_with fail
          go_roundw
          case rel => exact ⟨i + 1, by omega, by omega, by go_num, HH⟩
          case measure => simp [intOf]; omega
        · have q3 : decide ((300 : Int) < (h.name.size : Nat)) = true := decide_eq_true (by omega)
          obtain rfl := HF (fun h => q2 h.2)
          clear HN HF q1
          go_wp2_with fail
          go_ret
          exact ⟨rfl, HB1.out⟩
      · rw [decide_eq_false q1] at CL
        obtain rfl := HF (fun h => q1 h.1)
        clear HN HF HC
        go_wp2_with (first | (refine wpList_load_mid rfl 34 (.tmp 21) (by with_reducible rfl) b (off + i * 35 + 2) (by simp [Act.eval]) x _ hra Tryz.underlying34 rfl hi33 ?_) | fail)
        refine CL.mono ?_
        rintro e W1 ⟨rfl, hb1⟩
        have HB1 : Hid (Below w.heap.size w W1) := HBW.out W1 hb1
        clear CL hra HBW hb1
        go_wp2_with fail
        go_ret
        exact ⟨rfl, HB1.out⟩
    · have hall := HR2.out fun j hj hj20 => HRR.out.1 j (by omega) _
      have HB1 : Hid (Below w.heap.size w wr) := HRR.out.2
      clear HR1 HR2 HX HRR
      have hcond : (∃ B : Bool, decide ((i : Int) < (N : Int)) = B) := ⟨_, rfl⟩
      by_cases hn : i < N
      · have h1 : decide ((i : Int) < N) = true := decide_eq_true (by omega)
        have h2 : decide ((i : Int) < 20) = false := decide_eq_false (by omega)
        have h3 : decide ((N : Int) ≤ 20) = false := decide_eq_false (by omega)
        rw [h3, Bool.false_and] at hall
        subst hall
        clear CA CB
        go_wp2_with fail
        go_ret
        exact ⟨rfl, HB1.out⟩
      · have h1 : decide ((i : Int) < N) = false := decide_eq_false (by omega)
        have h3 : decide ((N : Int) ≤ 20) = true := decide_eq_true (by omega)
        rw [h3, Bool.true_and] at hall
        have C1 := CA.out wr HB1.out
        clear CA
        by_cases q1 : Lgts ta 20
        · rw [decide_eq_true q1] at C1 hall
          rw [Bool.true_and] at hall
          go_wp2_with fail
          refine C1.mono ?_
          rintro e W1 ⟨rfl, hb1⟩
          have HB2 : Hid (Below w.heap.size w W1) := HB1.out.trans (hb1.mono HB1.out.size)
          have C2 := CB.out W1 HB2.out
          clear C1 CB hb1 HB1 q1
          rw [← hall] at C2
          clear hall
          go_wp2_with fail
          refine C2.mono ?_
          rintro e W2 ⟨rfl, hb2⟩
          have HB3 : Hid (Below w.heap.size w W2) := HB2.out.trans (hb2.mono HB2.out.size)
          clear C2 hb2 HB2
          go_wp2_with fail
          go_ret
          exact ⟨rfl, HB3.out⟩
        · rw [decide_eq_false q1] at C1 hall
          rw [Bool.false_and] at hall
          subst hall
          clear CB q1
          go_wp2_with fail
          refine C1.mono ?_
          rintro e W1 ⟨rfl, hb1⟩
          have HB2 : Hid (Below w.heap.size w W1) := HB1.out.trans (hb1.mono HB1.out.size)
          clear C1 hb1 HB1
          go_wp2_with fail
          go_ret
          exact ⟨rfl, HB2.out⟩
end Df
end Go.Proofs.YtbccadbnaggkhaaGreat

namespace Go.Proofs.YtbccadbnaggkhaaGreat
open Go.RowKit
open Sm
open Cf
open Df
set_option linter.unusedVariables false
set_option linter.unusedSimpArgs false
set_option maxRecDepth 20000

namespace Df
theorem ten0_in : TIn ten0 := ⟨ten0_len, bytes_15 _ (by decide), bytes_15 _ (by decide), bytes_15 _ (by decide), by decide, by decide, by decide, by decide⟩
theorem tin_byn {A : List Ten} (h : ∀ t ∈ A, TIn t) : ∀ t ∈ byn nk A, TIn t := fun t ht => h t (mem_byn ht)
/-- Changes that are not too great. -/
def HIn (h : Chg) : Prop := TIn h.t ∧ h.name.size ≤ 1000000
theorem hin_dif {A B : List Ten} (hA : ∀ t ∈ A, TIn t) (hB : ∀ t ∈ B, TIn t) : ∀ h ∈ dif A B, HIn h := by
  intro h hh
  rcases mem_dif hh with ⟨-, h2, h3⟩ | ⟨-, h2, a, ha, h3⟩
  · exact ⟨hB _ h2, by rw [h3]; exact (hB _ h2).name⟩
  · exact ⟨by rw [h2]; exact ten0_in, by rw [h3]; exact (hA _ ha).name⟩
theorem tsv_tlen {w : World} {v : Value} {ts : List Ten} (h : TSV w v ts) : ∀ t ∈ ts, TLen t := by
  obtain ⟨zs, rfl, -, h2⟩ := h
  intro t ht
  obtain ⟨z, hz, rfl⟩ := List.mem_map.1 ht
  exact (h2 z hz).1
theorem tin_lgts {w : World} {v : Value} {ts : List Ten} {m : Nat} (h : TSV w v ts) (hb : ∀ t ∈ ts, TBy t) (hl : Lgts ts m) : ∀ t ∈ ts, TIn t := by
  intro t ht
  obtain ⟨i, hi, rfl⟩ := List.mem_iff_getElem.1 ht
  have := hl.2 i hi
  rw [List.getD_eq_getElem?_getD, List.getElem?_eq_getElem hi, Option.getD_some] at this
  exact lgt_in this (tsv_tlen h _ ht) (hb _ ht).key (hb _ ht).vmac (hb _ ht).host
theorem diffT {w : World} {v u : Value} {A B : List Ten} (ha : TSV w v A) (hb : TSV w u B) (hA : ∀ t ∈ A, TIn t) (hB : ∀ t ∈ B, TIn t) (la : A.length ≤ 1000) (lb : B.length ≤ 1000) :
    Calls Tryz.prog 17 #[v, u] w fun e V => ∃ a c xs, e = .returned (.slice a (dif (byn nk A) (byn nk B)).length c) ∧ YV V (.slice a (dif (byn nk A) (byn nk B)).length c) xs ∧ xs.map Prod.fst = dif (byn nk A) (byn nk B) ∧ Below w.heap.size w V ∧ ∃ C, ZBs xs C ∧ Mem w V C := by
  obtain ⟨zs, rfl, hz⟩ := TSV.zv ha
  obtain ⟨ys, rfl, hy⟩ := TSV.zv hb
  refine (diff_any hz hy (fun z h => hA _ (List.mem_map.2 ⟨z, h, rfl⟩)) (fun z h => hB _ (List.mem_map.2 ⟨z, h, rfl⟩)) (by simpa using la) (by simpa using lb)).mono ?_
  rintro e V ⟨r, rfl, xs, h1, h2, h3, h4⟩
  obtain ⟨a, c, e, -⟩ := h1.parts
  have hl : xs.length = (dif (byn nk (zs.map Prod.fst)) (byn nk (ys.map Prod.fst))).length := by rw [← h2, List.length_map]
  rw [hl] at e
  subst e
  exact ⟨a, c, xs, rfl, h1, h2, h3, h4⟩
end Df
end Go.Proofs.YtbccadbnaggkhaaGreat

namespace Go.Proofs.YtbccadbnaggkhaaGreat
open Go.RowKit
open Sm
open Cf
open Df
set_option linter.unusedVariables false
set_option linter.unusedSimpArgs false
set_option maxRecDepth 20000

namespace Df
theorem append_own_g {w W : World} {L : List (Nat × Obj)} {t e ty : TypeId} {sz bytes : Nat} {z : Value} (ht : Tryz.prog.underlying t = some (.slice e)) (hi : (Tryz.prog.info? e).map (fun i => (i.zero, i.size, i.bytes)) = some (some z, sz, bytes)) (hzs : z.cells.size = sz) (hsz : 0 < sz)
    {v' v : Value} {n : Nat} {ys : List Value} (hn : Ow w W e sz v' n ys L) {xs : List (List Value)} (h : Rw W sz v xs) (hx : ∀ x ∈ xs, x.length = sz) (h1 : ∀ x ∈ xs, ∀ u ∈ x, u.oneCell' = true) (hl : n + xs.length ≤ maxLen) (hb : (n + xs.length) * bytes ≤ 140737488355328) :
    ∃ r W', (Builtin.append_ #[t, t] ty #[v', v]).run Tryz.prog W = .ok r W' ∧ Ow w W' e sz r (n + xs.length) (ys ++ xs.flatten) L := by
  have h0 := h
  obtain ⟨a, c, rfl, k1, k2, k3, k4⟩ := h
  cases a with
  | none =>
    have hc : c = 0 := k3 rfl
    subst hc
    have hl0 : xs = [] := List.eq_nil_of_length_eq_zero (by omega)
    subst hl0
    obtain ⟨i, hi', -, -, -⟩ := info_parts hi
    refine ⟨_, _, run_append_owned_none (P := Tryz.prog) W w.heap.size t ty e i sz ht hi' _ _ _ hn.owns, ?_⟩
    simpa using hn
  | some ad =>
    have hfl : xs.flatten.length = xs.length * sz := by
      clear h0 k4 hb hl h1 k1
      induction xs with
      | nil => simp
      | cons x xs ih => rw [List.flatten_cons, List.length_append, hx x (by simp), ih fun y hy => hx y (by simp [hy]), List.length_cons, Nat.succ_mul]; omega
    exact ow_append (ty := ty) ht hi hzs hsz hn ad xs.length c xs.flatten hfl (rw_flat hsz h0 hx rfl) (by
      intro u hu
      obtain ⟨x, hxm, hux⟩ := List.mem_flatten.mp hu
      exact h1 x hxm u hux) hl hb
end Df
end Go.Proofs.YtbccadbnaggkhaaGreat

namespace Go.Proofs.YtbccadbnaggkhaaGreat
open Go.RowKit
open Sm
open Cf
open Df
set_option linter.unusedVariables false
set_option linter.unusedSimpArgs false
set_option maxRecDepth 20000

namespace Df
/-- A list of the document's own, in a block that it made, or none. -/
def Dl (w W : World) (v : Value) (zs : List Tv) : Prop := (v = .slice none 0 0 ∧ zs = [] ∧ Mem w W []) ∨
  ∃ g cap cur, v = .slice (some ⟨g, 0, none⟩) zs.length cap ∧ Mem w W [(g, .cells cur 34 (0, 0))] ∧ zs.length ≤ cap ∧ cap ≤ maxLen ∧ cur.toList.take (zs.length * 33) = (zs.map zc).flatten
theorem Dl.below {w W : World} {v : Value} {zs : List Tv} (h : Dl w W v zs) : Below w.heap.size w W := by
  rcases h with ⟨-, -, h⟩ | ⟨g, cap, cur, -, h, -⟩
  · exact h.below
  · exact h.below
theorem Dl.after {w W W' : World} {v : Value} {zs : List Tv} (h : Dl w W v zs) (hb : Below W.heap.size W W') : Dl w W' v zs := by
  rcases h with ⟨h1, h2, h⟩ | ⟨g, cap, cur, h1, h, h2⟩
  · exact Or.inl ⟨h1, h2, h.after hb⟩
  · exact Or.inr ⟨g, cap, cur, h1, h.after hb, h2⟩
theorem Dl.nil {w W : World} (h : Below w.heap.size w W) : Dl w W (.slice none 0 0) [] := Or.inl ⟨rfl, rfl, h, by simp, by simp, by simp⟩
theorem Dl.slice {w W : World} {v : Value} {zs : List Tv} (h : Dl w W v zs) : ∃ a c, v = .slice a zs.length c ∧ zs.length ≤ c ∧ c ≤ 9223372036854775807 ∧ (a = none → c = 0) := by
  rcases h with ⟨h1, h2, -⟩ | ⟨g, cap, cur, h1, -, h2, h3, -⟩
  · subst h2; exact ⟨none, 0, h1, Nat.le_refl _, by omega, fun _ => rfl⟩
  · exact ⟨_, cap, h1, h2, by simpa [maxLen] using h3, nofun⟩
theorem zc33 {z : Tv} (h : TLen z.1) : (zc z).length = 33 := tc_len h _ _ _
theorem zs33 {zs : List Tv} (h : ∀ z ∈ zs, TLen z.1) : ∀ x ∈ zs.map zc, x.length = 33 := by
  intro x hx
  obtain ⟨z, hz, rfl⟩ := List.mem_map.1 hx
  exact zc33 (h z hz)
theorem Dl.rw {w W : World} {v : Value} {zs : List Tv} (h : Dl w W v zs) (hl : ∀ z ∈ zs, TLen z.1) : Rw W 33 v (zs.map zc) := by
  rcases h with ⟨rfl, rfl, -⟩ | ⟨g, cap, cur, rfl, hM, h1, h2, h3⟩
  · exact ⟨none, 0, rfl, Nat.le_refl _, by omega, fun _ => rfl, Or.inl rfl⟩
  · refine ⟨some ⟨g, 0, none⟩, cap, by rw [List.length_map], by rw [List.length_map]; exact h1, by simpa [maxLen] using h2, nofun, Or.inr ⟨g, 0, rfl, fun i hi j u hj => ?_⟩⟩
    have h5 := flat_at (zs.map zc) i j u (zs33 hl) hj
    rw [← h3, List.getElem?_take] at h5
    rw [hM.cell 0 rfl, Nat.zero_add]
    split at h5
    · rw [← Array.getElem?_toList]; exact h5
    · cases h5
theorem dl_row {w W : World} {v : Value} {n : Nat} {zs : List Tv} (hb : Below w.heap.size w W) {B : Nat} (hB : w.heap.size ≤ B) (ho : W.ownsRow B 34 33 v n (zs.map zc).flatten) (hn : n = zs.length) : Dl w W v zs := by
  subst hn
  rcases ho.2 with ⟨rfl, h0⟩ | ⟨g, cap, cur, rfl, hg, hbk, h1, h2, h3, h4⟩
  · have : zs = [] := List.eq_nil_of_length_eq_zero h0
    subst this
    exact Dl.nil hb
  · exact Or.inr ⟨g, cap, cur, rfl, ⟨hb, fun p hp => by rw [List.mem_singleton] at hp; subst hp; show w.heap.size ≤ g; omega, fun p hp => by rw [List.mem_singleton] at hp; subst hp; exact hbk, by simp⟩, h1, h2, h4⟩
theorem put_here {z : Tv} {again : Bool} {zs : List Tv} {k : Nat} (hk : k ≤ zs.length) (h1 : ∀ j (hj : j < zs.length), j < k → fk zs[j] < fk z) (h2 : ∀ h : k < zs.length, ¬ fk zs[k] < fk z) :
    ((∃ h : k < zs.length, fk zs[k] = fk z) → put fk z again zs = if again then zs.set k z else zs) ∧ ((∀ h : k < zs.length, fk zs[k] ≠ fk z) → put fk z again zs = zs.take k ++ z :: zs.drop k) := by
  obtain ⟨m, m1, m2, m3⟩ := put_at (f := fk) (t := z) (again := again) zs
  have hmk : m = k := by
    rcases Nat.lt_trichotomy m k with h | h | h
    · have hl := h1 m (by omega) h
      rcases m3 with ⟨hm, he, -⟩ | ⟨he, -⟩
      · exact absurd he (lt_ne hl)
      · exact absurd hl (he (by omega)).1
    · exact h
    · exact absurd (m2 k (by omega) h) (h2 (by omega))
  subst hmk
  constructor
  · rintro ⟨h, he⟩
    rcases m3 with ⟨-, -, e⟩ | ⟨hne, -⟩
    · exact e
    · exact absurd he (hne h).2
  · intro hne
    rcases m3 with ⟨hm, he, -⟩ | ⟨-, e⟩
    · exact absurd he (hne hm)
    · exact e
theorem flat_set (zs : List Tv) (hl : ∀ z ∈ zs, TLen z.1) (k : Nat) (hk : k < zs.length) (z : Tv) (hz : TLen z.1) : ((zs.set k z).map zc).flatten = (zs.map zc).flatten.take (k * 33) ++ (zc z ++ (zs.map zc).flatten.drop (k * 33 + 33)) := by
  have e : zs = zs.take k ++ zs[k] :: zs.drop (k + 1) := by rw [List.getElem_cons_drop, List.take_append_drop]
  have hA : ((zs.take k).map zc).flatten.length = k * 33 := by
    rw [flat33 fun z hz => hl z (List.mem_of_mem_take hz), List.length_take, Nat.min_eq_left (by omega)]
  have hlk := zc33 (hl _ (List.getElem_mem hk))
  have e1 : (zs.map zc).flatten = ((zs.take k).map zc).flatten ++ (zc zs[k] ++ ((zs.drop (k + 1)).map zc).flatten) := by
    conv => lhs; rw [e]
    rw [List.map_append, List.flatten_append, List.map_cons, List.flatten_cons]
  have e2 : zs.set k z = zs.take k ++ z :: zs.drop (k + 1) := List.set_eq_take_append_cons_drop .. |>.trans (if_pos hk)
  rw [e2, List.map_append, List.flatten_append, List.map_cons, List.flatten_cons, e1]
  generalize ((zs.take k).map zc).flatten = P at *
  generalize zc zs[k] = M at *
  generalize ((zs.drop (k + 1)).map zc).flatten = R at *
  have d1 : (P ++ (M ++ R)).drop (k * 33 + 33) = R := by
    rw [← List.append_assoc]
    exact List.drop_left' (by rw [List.length_append]; omega)
  have d2 : (P ++ (M ++ R)).take (k * 33) = P := List.take_left' hA
  rw [d1, d2]
theorem set_app {w W : World} {v : Value} {zs : List Tv} {z : Tv} {s1 s2 : Value} {k : Nat} (hk : k ≤ zs.length) (hl : ∀ y ∈ zs, TLen y.1) (ho : ∀ y ∈ zs, (zc y).toArray.all (·.oneCell') = true) (hz : TLen z.1) (hzo : (zc z).toArray.all (·.oneCell') = true) (hn : zs.length ≤ 1000)
    (hW : Below w.heap.size w W) (r1 : Rw W 33 s1 ((zs.take k).map zc)) (c1 : ∃ a, s1 = .slice a k k) (r2 : Rw W 33 s2 ((zs.drop k).map zc)) :
    ∃ a1 m1 d1 X1, (Builtin.append_ #[22, 22] 22 #[.slice (some ⟨W.heap.size, 0, none⟩) 1 1, s2]).run Tryz.prog (W.alloc (.cells (zc z).toArray 34)) = .ok (.slice a1 m1 d1) X1 ∧ Below W.heap.size W X1 ∧
      ∃ v2 X2, (Builtin.append_ #[22, 22] 22 #[s1, .slice a1 m1 d1]).run Tryz.prog X1 = .ok v2 X2 ∧ Below W.heap.size W X2 ∧ Dl w X2 v2 (zs.take k ++ z :: zs.drop k) := by
  have hb0 : Below W.heap.size W (W.alloc (.cells (zc z).toArray 34)) := (Below.refl _ _).alloc (Nat.le_refl _) _
  have one : ∀ y : Tv, (zc y).toArray.all (·.oneCell') = true → ∀ u ∈ zc y, u.oneCell' = true := fun y h u hu => by
    rw [Array.all_eq_true_iff_forall_mem] at h
    exact h u (by simpa using hu)
  have ones : ∀ ys : List Tv, (∀ y ∈ ys, y ∈ zs) → ∀ x ∈ ys.map zc, ∀ u ∈ x, u.oneCell' = true := by
    intro ys hys x hx u hu
    obtain ⟨y, hy, rfl⟩ := List.mem_map.1 hx
    exact one y (ho y (hys y hy)) u hu
  have hO : Ow W (W.alloc (.cells (zc z).toArray 34)) 34 33 (.slice (some ⟨W.heap.size, 0, none⟩) 1 1) 1 (zc z) [] := by
    refine ⟨by rw [zc33 hz], Or.inr ⟨W.heap.size, 1, (zc z).toArray, rfl, (Mem.nil W).push1 rfl, Nat.le_refl _, by unfold maxLen; omega, by rw [zc_sz hz], ?_⟩⟩
    rw [List.take_of_length_le (by show (zc z).length ≤ _; rw [zc33 hz]; omega)]
  have hd : ∀ y ∈ zs.drop k, y ∈ zs := fun y hy => List.mem_of_mem_drop hy
  have ht : ∀ y ∈ zs.take k, y ∈ zs := fun y hy => List.mem_of_mem_take hy
  have hdl : (zs.drop k).length = zs.length - k := List.length_drop
  have htl : (zs.take k).length = k := by rw [List.length_take, Nat.min_eq_left hk]
  obtain ⟨v1, X1, hr1, hO1⟩ := append_own_g (ty := 22) Tryz.underlying22 infoT (by kernel_rfl) (by decide) hO (r2.below zc_ne hb0 (Nat.le_refl _)) (zs33 fun y hy => hl y (hd y hy)) (ones _ hd) (by rw [List.length_map, hdl]; unfold maxLen; omega) (by rw [List.length_map, hdl]; omega)
  rw [List.length_map, hdl] at hO1
  obtain ⟨B, hB, hMB⟩ := hO1.owb
  obtain ⟨a1, m1, d1, rfl⟩ := owb_slice hB
  refine ⟨a1, m1, d1, X1, hr1, hO1.mem.below, ?_⟩
  have hX1 : Below w.heap.size w X1 := hW.trans (hO1.mem.below.mono hW.size)
  have hr1' := r1.below zc_ne hO1.mem.below (Nat.le_refl _)
  obtain ⟨i, hi, hiz, his, hib⟩ := info_parts infoT
  -- what is appended second
  have hsrc : ∃ ad, a1 = some ad ∧ m1 = 1 + (zs.length - k) ∧ ∀ j u, (zc z ++ ((zs.drop k).map zc).flatten)[j]? = some u → X1.cell? (ad.add j) = some u := by
    rcases hB.2 with ⟨h0, h1, -⟩ | ⟨g, cap, cur, e, e2, h1, h2, h3, h4⟩
    · omega
    · simp only [Value.slice.injEq] at e
      obtain ⟨rfl, rfl, -⟩ := e
      refine ⟨⟨g, 0, none⟩, rfl, rfl, fun j u hj => ?_⟩
      rw [e2] at hMB
      rw [Addr.add_mid, hMB.cell 0 rfl, Nat.zero_add]
      rw [← h4, List.getElem?_take] at hj
      split at hj
      · rw [← Array.getElem?_toList]; exact hj
      · cases hj
  obtain ⟨ad, rfl, rfl, hnews⟩ := hsrc
  have hfl : (zc z ++ ((zs.drop k).map zc).flatten).length = (1 + (zs.length - k)) * 33 := by
    rw [List.length_append, zc33 hz, flat33 fun y hy => hl y (hd y hy), hdl]
    omega
  have hfin : ((zs.take k).map zc).flatten ++ (zc z ++ ((zs.drop k).map zc).flatten) = ((zs.take k ++ z :: zs.drop k).map zc).flatten := by
    rw [List.map_append, List.flatten_append, List.map_cons, List.flatten_cons]
  obtain ⟨a0, rfl⟩ := c1
  cases a0 with
  | none =>
    have hk0 : k = 0 := by
      obtain ⟨a', c', e, -, -, h3, -⟩ := r1
      simp only [Value.slice.injEq] at e
      obtain ⟨rfl, -, e⟩ := e
      have := h3 rfl
      omega
    subst hk0
    have hn0 : Ow X1 X1 34 33 (.slice none 0 0) 0 [] [] := Ow.nil (Mem.nil X1)
    obtain ⟨v2, X2, hr2, hO2⟩ := ow_append (ty := 22) Tryz.underlying22 infoT (by kernel_rfl) (by decide) hn0 ad (1 + (zs.length - 0)) d1 _ hfl hnews (by
      intro u hu
      rcases List.mem_append.1 hu with hu | hu
      · exact one z hzo u hu
      · obtain ⟨x, hx, hux⟩ := List.mem_flatten.1 hu
        exact ones _ hd x hx u hux) (by unfold maxLen; omega) (by omega)
    refine ⟨v2, X2, hr2, hO1.mem.below.trans (hO2.mem.below.mono hO1.mem.below.size), ?_⟩
    have hX2 : Below w.heap.size w X2 := hX1.trans (hO2.mem.below.mono hX1.size)
    refine dl_row hX2 hX1.size (n := 0 + (1 + (zs.length - 0))) ?_ (by simp; omega)
    rw [← hfin]
    simpa using hO2.owns
  | some b =>
    have hold : ∀ j u, ((zs.take k).map zc).flatten[j]? = some u → X1.cell? (b.add j) = some u := rw_flat (by decide) hr1' (zs33 fun y hy => hl y (ht y hy)) rfl
    obtain ⟨v2, X2, hr2, ho2, hg2⟩ := run_append_arg_grows (P := Tryz.prog) (w := X1) 22 22 34 i _ 33 160 Tryz.underlying22 hi hiz his hib (by kernel_rfl) (by decide) b k k ((zs.take k).map zc).flatten (by rw [flat33 fun y hy => hl y (ht y hy), htl]) hold ad (1 + (zs.length - k)) d1 _ hfl hnews (by omega) (by unfold maxLen; omega) (by omega)
    refine ⟨v2, X2, hr2, hO1.mem.below.grown hg2 hO1.mem.below.size (fun j hj => by cases hj), ?_⟩
    have hX2 : Below w.heap.size w X2 := hX1.grown hg2 hX1.size (fun j hj => by cases hj)
    refine dl_row hX2 hX1.size (n := k + (1 + (zs.length - k))) ?_ (by simp; omega)
    rw [← hfin]
    exact ho2
end Df
end Go.Proofs.YtbccadbnaggkhaaGreat

