/-
  Settings held against one another: which lists of tenants the statements speak of.
  Settings as bytes: the document's own OpenChange: a change that puts a tenant.
  Settings as bytes: settings that were written are read back, no part of them is read, and nothing longer; what fits is read back as it was.
-/
import Derived.Test.YtneciccdiledfaaGreatDoorM31
import Derived.Test.YtneciccdiledfaaGreatDoorM21
import Derived.Test.YtneciccdiledfaaGreatDoorM30
import Derived.Test.YtneciccdiledfaaGreatDoorM23
import Derived.Test.YtneciccdiledfaaGreatDoorM24
namespace Go.Proofs.YtneciccdiledfaaGreatDoor
open Go.RowKit
open Sm
open Cf
set_option linter.unusedVariables false
set_option maxRecDepth 20000

/-- A slice of tenants, taken apart: each tenant's cells where the slice says. -/
theorem TSV.parts {w : World} {v : Value} {ts : List Ten} (h : TSV w v ts) : ∃ sa sc, v = .slice sa ts.length sc ∧ ts.length ≤ sc ∧ sc ≤ 9223372036854775807 ∧ ∀ i, i < ts.length → ∃ b off x, sa = some ⟨b, off, none⟩ ∧ x.length = 33 ∧ x.toArray.all (·.oneCell') = true ∧ ∀ V, Below w.heap.size w V → V.rangeAt b (off + i * 33) x ∧ TV V (.agg x.toArray) (ts.getD i ten0) := by
  obtain ⟨zs, hz, hr, hq⟩ := h
  have hN0 : (zs.map zc).length = ts.length := by rw [List.length_map, ← hz, List.length_map]
  have hrr := hr
  obtain ⟨sa, sc, rfl, hl, hb, -⟩ := hrr
  rw [hN0] at hr hl ⊢
  refine ⟨sa, sc, rfl, hl, hb, fun i hi => ?_⟩
  have hil : i < zs.length := by rw [List.length_map] at hN0; omega
  obtain ⟨b, off, x, e1, e2, e3, e4, e5⟩ := tsv_at hr hq i hil
  rw [hz] at e5
  refine ⟨b, off, x, e1, e3, e4, fun V hV => ⟨fun j u hj => ?_, ?_⟩⟩
  · have h := e2 j u hj
    rw [hV.cell (p := ⟨b, off + i * 33 + j, none⟩) (cell_lt h)]
    exact h
  · obtain ⟨hl, p, s, q, e, h1, h2, h3⟩ := e5
    exact ⟨hl, p, s, q, e, h1.below ux_ne hV (Nat.le_refl _), h2.below px_ne hV (Nat.le_refl _), h3.below px_ne hV (Nat.le_refl _)⟩
def Lgts (ts : List Ten) (m : Nat) : Prop := ts.length ≤ m ∧ ∀ i, i < ts.length → Lgt (ts.getD i ten0)
instance (ts : List Ten) (m : Nat) : Decidable (Lgts ts m) := by unfold Lgts; infer_instance
set_option maxHeartbeats 4000000 in
theorem lights_any {w : World} {v : Value} {ts : List Ten} (h : TSV w v ts) (m : Nat) (hm : m ≤ 1000) :
    Calls Tryz.prog 14 #[v, .int .i64 m] w fun e w' => e = .returned (.bool (decide (Lgts ts m))) ∧ Below w.heap.size w w' := by
  obtain ⟨sa, sc, rfl, hlc, hcb, hx⟩ := h.parts
  clear h
  obtain ⟨R, hR⟩ : ∃ R, decide (Lgts ts m) = R := ⟨_, rfl⟩
  rw [hR]
  have HR1 : Hid (∀ i, i < ts.length → ¬ Lgt (ts.getD i ten0) → R = false) := by
    intro i hi hn
    rw [← hR]
    exact decide_eq_false (fun h => hn (h.2 i hi))
  have HR2 : Hid ((∀ i, i < ts.length → i < m → Lgt (ts.getD i ten0)) → R = decide (((ts.length : Nat) : Int) ≤ (m : Int))) := by
    intro h
    rw [← hR]
    by_cases hl : ts.length ≤ m
    · rw [decide_eq_true (show Lgts ts m from ⟨hl, fun i hi => h i hi (by omega)⟩), decide_eq_true (by omega)]
    · rw [decide_eq_false (show ¬ Lgts ts m from fun h => hl h.1), decide_eq_false (by omega)]
  have HX : Hid (∀ i, i < ts.length → ∃ b off x, sa = some ⟨b, off, none⟩ ∧ x.length = 33 ∧ x.toArray.all (·.oneCell') = true ∧ ∀ V, Below w.heap.size w V → V.rangeAt b (off + i * 33) x ∧ TV V (.agg x.toArray) (ts.getD i ten0)) := hx
  have HB : Hid (Below w.heap.size w w) := Below.refl _ _
  clear hR hx
  generalize ts.length = N at *
  go_enter Tryz.func14, Tryz.ntmps14
  go_wp2_with fail
  go_loopw [5] (fun u5 w' => ∃ i : Nat, i ≤ N ∧ i ≤ m ∧ u5 = .int .i64 i ∧ Hid ((∀ j, j < i → Lgt (ts.getD j ten0)) ∧ Below w.heap.size w w')) (fun u5 w' => N - (intOf u5).toNat)
  case atStart => exact ⟨0, Nat.zero_le _, Nat.zero_le _, rfl, fun j hj => absurd hj (by omega), HB.out⟩
  case round =>
    obtain ⟨i, hi, hi2, rfl, HRR⟩ := hrel
    by_cases hlt : i < N
    · have h1 : (i : Int) < N := by omega
      by_cases hlm : i < m
      · have h2 : (i : Int) < m := by omega
        obtain ⟨b, off, x, rfl, hsz, hone, hV⟩ := HX.out i hlt
        obtain ⟨hra, hTV⟩ := hV _ HRR.out.2
        have CL := light_any hTV
        have hi33 : (Tryz.prog.info? 45).map (·.size) = some x.length := by rw [hsz]; kernel_rfl
        clear hV hTV hone hsz
        by_cases q1 : Lgt (ts.getD i ten0)
        · rw [decide_eq_true q1] at CL
          go_wp2_with (refine wpList_load_mid rfl 45 (.tmp 19) (by with_reducible rfl) b (off + i * 33) (by simp [Act.eval]) x _ hra Tryz.underlying45 rfl hi33 ?_)
          refine CL.mono ?_
          rintro e W1 ⟨rfl, hb1⟩
          have HH : Hid ((∀ j, j < i + 1 → Lgt (ts.getD j ten0)) ∧ Below w.heap.size w W1) := ⟨fun j hj => by
            rcases Nat.lt_or_ge j i with h | h
            · exact HRR.out.1 j h
            · obtain rfl : j = i := by omega
              exact q1, HRR.out.2.trans (hb1.mono HRR.out.2.size)⟩
          clear CL hra HRR hb1 q1
          go_wp2_with fail
          go_roundw
          case rel => exact ⟨i + 1, by omega, by omega, by go_num, HH⟩
          case measure => simp [intOf]; omega
        · rw [decide_eq_false q1] at CL
          obtain rfl := HR1.out i hlt q1
          go_wp2_with (refine wpList_load_mid rfl 45 (.tmp 19) (by with_reducible rfl) b (off + i * 33) (by simp [Act.eval]) x _ hra Tryz.underlying45 rfl hi33 ?_)
          refine CL.mono ?_
          rintro e W1 ⟨rfl, hb1⟩
          have HH : Hid (Below w.heap.size w W1) := HRR.out.2.trans (hb1.mono HRR.out.2.size)
          clear CL hra HRR hb1 q1
          go_wp2_with fail
          go_ret
          exact ⟨rfl, HH.out⟩
      · have h2 : ¬ ((i : Int) < m) := by omega
        have hR3 := HR2.out (fun j hj hjm => HRR.out.1 j (by omega))
        subst hR3
        go_wp2_with fail
        go_ret
        exact ⟨rfl, HRR.out.2⟩
    · have h1 : ¬ ((i : Int) < N) := by omega
      have hR3 := HR2.out (fun j hj hjm => HRR.out.1 j (by omega))
      subst hR3
      go_wp2_with fail
      go_ret
      exact ⟨rfl, HRR.out.2⟩
end Go.Proofs.YtneciccdiledfaaGreatDoor

namespace Go.Proofs.YtneciccdiledfaaGreatDoor
open Go.RowKit
open Sm
open Cf
set_option linter.unusedVariables false
set_option linter.unusedSimpArgs false
set_option maxRecDepth 20000

theorem owb_rw' {V : World} {T : TypeId} {sz : Nat} {v : Value} {xs : List (List Value)} {B : List (Nat × Obj)} (hx : ∀ x ∈ xs, x.length = sz) (h : OwB T sz v xs.length xs.flatten B) (hB : ∀ p ∈ B, V.heap[p.1]? = some p.2) : Rw V sz v xs := by
  rcases h.2 with ⟨rfl, e, rfl⟩ | ⟨g, cap, cur, rfl, rfl, h1, h2, h3, h4⟩
  · have : xs = [] := List.eq_nil_of_length_eq_zero e
    subst this
    exact ⟨none, 0, rfl, Nat.le_refl _, by omega, fun _ => rfl, Or.inl rfl⟩
  · have hg := hB _ (List.mem_cons_self ..)
    refine ⟨some ⟨g, 0, none⟩, cap, rfl, h1, by simpa [maxLen] using h2, nofun, Or.inr ⟨g, 0, rfl, fun i hi j u hj => ?_⟩⟩
    have h5 := flat_at xs i j u hx hj
    rw [← h4] at h5
    have hc : V.cell? ⟨g, 0 + i * sz + j, none⟩ = cur[0 + i * sz + j]? := by
      unfold World.cell?
      simp [hg]
    rw [hc, Nat.zero_add]
    rw [List.getElem?_take] at h5
    split at h5
    · rw [← Array.getElem?_toList]; exact h5
    · cases h5
theorem hvs_put {w V : World} {t : Ten} {p s q : Value} {B1 B2 B3 : List (Nat × Obj)} (hl : TLen t) (h1 : OwB 23 1 p t.pool.length (ux t.pool).flatten B1) (h2 : OwB 96 2 s t.stat.length (px t.stat).flatten B2) (h3 : OwB 96 2 q t.twi.length (px t.twi).flatten B3) (hM : Mem w V (B3 ++ (B2 ++ B1))) :
    HVs w.heap.size V (.agg (hc ⟨true, t.name, t⟩ p s q).toArray) ⟨true, t.name, t⟩ := by
  intro V' hV
  have hA : ∀ x ∈ B3 ++ (B2 ++ B1), V'.heap[x.1]? = some x.2 := fun x hx => (hV _ (hM.low x hx) (hM.lt hx)).trans (hM.at_ x hx)
  refine ⟨hl, p, s, q, rfl, owb_rw' (fun x hx => ?_) (by simpa [ux] using h1) (fun x hx => hA x (by simp [hx])), owb_rw' (fun x hx => ?_) (by simpa [px] using h2) (fun x hx => hA x (by simp [hx])), owb_rw' (fun x hx => ?_) (by simpa [px] using h3) (fun x hx => hA x (by simp [hx]))⟩
  · simp only [ux, List.mem_map] at hx; obtain ⟨y, -, rfl⟩ := hx; rfl
  · simp only [px, List.mem_map] at hx; obtain ⟨y, -, rfl⟩ := hx; rfl
  · simp only [px, List.mem_map] at hx; obtain ⟨y, -, rfl⟩ := hx; rfl
end Go.Proofs.YtneciccdiledfaaGreatDoor

namespace Go.Proofs.YtneciccdiledfaaGreatDoor
open Go.RowKit
open Sm
open Cf
set_option linter.unusedVariables false
set_option maxRecDepth 20000

/-- Settings as they are read back. -/
def ccut (c : Cgf) : Cgf := ⟨num (be 4 c.ip), c.mac, c.omac, c.nmac, c.key, num (be 4 c.drain), (c.ten.take 255).map tcut⟩
def sct (c : Cgf) (k : Nat) : Cgf := ⟨if 0 < k then (ccut c).ip else 0, if 1 < k then c.mac else cfg0.mac, if 2 < k then c.omac else cfg0.omac, if 3 < k then c.nmac else cfg0.nmac, if 4 < k then c.key else cfg0.key, if 5 < k then (ccut c).drain else 0,
  if 7 < k then (ccut c).ten else if 6 < k then List.replicate (min c.ten.length 255) ten0 else []⟩
theorem set_ten_eq (x : Cgf) (m : Nat) (h : x.ten = []) : set_ten x m = { x with ten := List.replicate m ten0 } := by
  unfold set_ten
  split
  · rename_i e; subst e; cases x; simp only at h; subst h; rfl
  · rfl
theorem rb_tens (c x : Cgf) (hl : ∀ t ∈ c.ten, TLen t) (hx : x.ten = List.replicate (min c.ten.length 255) ten0) : RB spTenants.dec (spTenants.enc c) x { x with ten := (c.ten.take 255).map tcut } := by
  have hd : ∀ i, TLen (c.ten.getD i ten0) := by
    intro i
    by_cases h : i < c.ten.length
    · rw [List.getD_eq_getElem?_getD, List.getElem?_eq_getElem h, Option.getD_some]
      exact hl _ (List.getElem_mem _)
    · rw [List.getD_eq_getElem?_getD, List.getElem?_eq_none (by omega), Option.getD_none]
      exact ten0_len
  obtain ⟨ys, ⟨h1, h2⟩, h3, h4, -⟩ := sq_rb (dec := itd ten0 spT) (enc := fun i => tenc (c.ten.getD i ten0)) (Inv := fun k ys => ys.length = min c.ten.length 255 ∧ (∀ i, i < k → ys[i]? = some (tcut (c.ten.getD i ten0))) ∧ ∀ i, k ≤ i → i < min c.ten.length 255 → ys[i]? = some ten0) (min c.ten.length 255) 0 x.ten
    (fun k _ hk xs ⟨g1, g2, g3⟩ => by
      have hz : xs.getD k ten0 = ten0 := by rw [List.getD, g3 k (Nat.le_refl _) (by omega)]; rfl
      obtain ⟨e1, e2⟩ := tenc_rb (c.ten.getD k ten0) (hd k)
      refine ⟨xs.set k (tcut (c.ten.getD k ten0)), ⟨fun r => by simp only [itd, hz]; rw [show tenc (c.ten.getD k ten0) = spT.enc (c.ten.getD k ten0) from rfl, e1]; rfl, fun l a b => by simp only [itd, hz]; rw [e2 l a b]; rfl⟩, by rw [List.length_set]; exact g1, fun i hi => ?_, fun i hi h2 => ?_⟩
      · rw [List.getElem?_set]
        by_cases e : k = i
        · subst e
          rw [if_pos rfl, if_pos (by omega)]
        · rw [if_neg e]
          exact g2 i (by omega)
      · rw [List.getElem?_set, if_neg (by omega)]
        exact g3 i (by omega) h2) ⟨by rw [hx, List.length_replicate], fun i hi => by omega, fun i _ hi => by rw [hx, List.getElem?_replicate, if_pos hi]⟩
  have hys : ys = (c.ten.take 255).map tcut := by
    apply List.ext_getElem?
    intro i
    rw [List.getElem?_map, List.getElem?_take]
    by_cases hi : i < min c.ten.length 255
    · rw [h4 i (by omega), if_pos (by omega), List.getD, List.getElem?_eq_getElem (by omega)]
      rfl
    · rw [List.getElem?_eq_none (by omega)]
      split
      · rw [List.getElem?_eq_none (by omega)]; rfl
      · rfl
  subst hys
  have hxl : x.ten.length = min c.ten.length 255 := by rw [hx, List.length_replicate]
  refine ⟨fun r => ?_, fun l a b => ?_⟩
  · simp only [spTenants]
    rw [hxl, cat_eq, h1]
    rfl
  · simp only [spTenants] at a b ⊢
    rw [cat_eq] at a b
    rw [hxl, h2 l a b]
    rfl
theorem cenc_rb (c : Cgf) (hl : CLen c) (ht : ∀ t ∈ c.ten, TLen t) : RB spC.dec (spC.enc c) cfg0 (ccut c) := by
  obtain ⟨x', h, e⟩ := sq_rb (dec := fun i => (csp.getD i sp0).dec) (enc := fun i => (csp.getD i sp0).enc c) (Inv := fun k x => x = sct c k) 8 0 cfg0 (fun k _ hk x hx => by
      subst hx
      match k, hk with
      | 0, _ => exact ⟨_, (rb_num 4 _ _ c _ : RB spCIp.dec (spCIp.enc c) _ _), rfl⟩
      | 1, _ => exact ⟨_, (rb_oct 6 _ _ c _ hl.mac : RB spCMac.dec (spCMac.enc c) _ _), rfl⟩
      | 2, _ => exact ⟨_, (rb_oct 6 _ _ c _ hl.omac : RB spCOut.dec (spCOut.enc c) _ _), rfl⟩
      | 3, _ => exact ⟨_, (rb_oct 6 _ _ c _ hl.nmac : RB spCNext.dec (spCNext.enc c) _ _), rfl⟩
      | 4, _ => exact ⟨_, (rb_oct 8 _ _ c _ hl.key : RB spCKey.dec (spCKey.enc c) _ _), rfl⟩
      | 5, _ => exact ⟨_, (rb_num 4 _ _ c _ : RB spCDrain.dec (spCDrain.enc c) _ _), rfl⟩
      | 6, _ => exact ⟨_, (rb_cnt _ _ c _ : RB spCCnt.dec (spCCnt.enc c) _ _), set_ten_eq _ _ rfl⟩
      | 7, _ => exact ⟨_, (rb_tens c _ ht rfl : RB spTenants.dec (spTenants.enc c) _ _), rfl⟩
      | n + 8, h => exact absurd (show n + 8 < 0 + 8 from h) (by omega)) rfl
  subst e
  rw [← cat_eq] at h
  exact h
theorem cdec_back (c : Cgf) (hl : CLen c) (ht : ∀ t ∈ c.ten, TLen t) : cdec (cenc c) = some (ccut c) := by
  have := (cenc_rb c hl ht).1 []
  rw [List.append_nil] at this
  unfold cdec
  rw [show spC.dec (cenc c) cfg0 = spC.dec (spC.enc c) cfg0 from rfl, this]
theorem cdec_more (c : Cgf) (hl : CLen c) (ht : ∀ t ∈ c.ten, TLen t) (x : Int) : cdec (cenc c ++ [x]) = none := by
  have := (cenc_rb c hl ht).1 [x]
  unfold cdec
  rw [show spC.dec (cenc c ++ [x]) cfg0 = spC.dec (spC.enc c ++ [x]) cfg0 from rfl, this]
theorem cdec_cut (c : Cgf) (hl : CLen c) (ht : ∀ t ∈ c.ten, TLen t) (l : List Int) (h : l <+: cenc c) (hs : l.length < (cenc c).length) : cdec l = none := by
  have := (cenc_rb c hl ht).2 l h hs
  unfold cdec
  rw [this]
theorem num_be4 (x : Int) (h : 0 ≤ x ∧ x ≤ 4294967295) : num (be 4 x) = x := by
  simp [be, num]
  omega
theorem num_be2 (x : Int) (h : 0 ≤ x ∧ x ≤ 65535) : num (be 2 x) = x := by
  simp [be, num]
  omega
theorem num_be1 (x : Int) (h : 0 ≤ x ∧ x ≤ 255) : num (be 1 x) = x := by
  simp [be, num]
  omega
theorem map_id_of {α : Type} {f : α → α} {l : List α} (h : ∀ x ∈ l, f x = x) : l.map f = l := by
  induction l with
  | nil => rfl
  | cons a l ih => rw [List.map_cons, h a (by simp), ih (fun x hx => h x (List.mem_cons_of_mem _ hx))]
theorem same_cut (t : Ten) (hf : Fit t) (hr : TRg t) : TSame t (tcut t) := by
  obtain ⟨f1, f2, f3, f4, f5, f6, f7, f8, f9, f10⟩ := hf
  have hs : (sb t.name).take 255 = sb t.name := List.take_of_length_le (by rw [sb_len]; exact f1)
  refine ⟨?_, (num_be4 _ hr.vni).symm, rfl, (num_be4 _ hr.vtep).symm, rfl, rfl, ?_, (num_be2 _ hr.lo).symm, (num_be2 _ hr.hi).symm, (num_be1 _ ⟨f5, f6⟩).symm, ?_, ?_, (num_be2 _ ⟨f7, f8⟩).symm, (num_be2 _ ⟨f9, f10⟩).symm, (num_be4 _ hr.rate).symm, (num_be4 _ hr.burst).symm⟩
  · show sb t.name = sb (strOfNums ((sb t.name).take 255))
    rw [hs, sb_str (sb_bytes _)]
  · show t.pool = (t.pool.take 255).map (fun v => num (be 4 v))
    rw [List.take_of_length_le f2, map_id_of (fun x hx => num_be4 x (hr.pool x hx))]
  · show t.stat = (t.stat.take 255).map (fun v => (num (be 4 v.1), num (be 4 v.2)))
    rw [List.take_of_length_le f3, map_id_of (fun x hx => by rw [num_be4 _ (hr.stat x hx).1, num_be4 _ (hr.stat x hx).2])]
  · show t.twi = (t.twi.take 255).map (fun v => (num (be 4 v.1), num (be 4 v.2)))
    rw [List.take_of_length_le f4, map_id_of (fun x hx => by rw [num_be4 _ (hr.twi x hx).1, num_be4 _ (hr.twi x hx).2])]
theorem TSame.symm {t z : Ten} (h : TSame t z) : TSame z t := by
  obtain ⟨a, b, c, d, e, f, g, h, i, j, k, l, m, n, o, p⟩ := h
  exact ⟨a.symm, b.symm, c.symm, d.symm, e.symm, f.symm, g.symm, h.symm, i.symm, j.symm, k.symm, l.symm, m.symm, n.symm, o.symm, p.symm⟩
/-- Lists of tenants that are the same, one by one. -/
def TSames (a b : List Ten) : Prop := a.length = b.length ∧ ∀ i, i < a.length → TSame (a.getD i ten0) (b.getD i ten0)
/-- Settings that are the same. -/
def CSame (a b : Cgf) : Prop := a.ip = b.ip ∧ a.mac = b.mac ∧ a.omac = b.omac ∧ a.nmac = b.nmac ∧ a.key = b.key ∧ a.drain = b.drain ∧ TSames a.ten b.ten
theorem csame_cut (c : Cgf) (hr : CRg c) (hl : c.ten.length ≤ 255) (ht : ∀ t ∈ c.ten, Fit t ∧ TRg t) : CSame c (ccut c) := by
  refine ⟨(num_be4 _ hr.ip).symm, rfl, rfl, rfl, rfl, (num_be4 _ hr.drain).symm, ?_⟩
  show TSames c.ten ((c.ten.take 255).map tcut)
  rw [List.take_of_length_le hl]
  refine ⟨by simp, fun i hi => ?_⟩
  have hm := List.getElem_mem hi
  rw [List.getD_eq_getElem?_getD, List.getElem?_eq_getElem hi, Option.getD_some, List.getD_eq_getElem?_getD, List.getElem?_map, List.getElem?_eq_getElem hi, Option.map_some, Option.getD_some]
  exact same_cut _ (ht _ hm).1 (ht _ hm).2
end Go.Proofs.YtneciccdiledfaaGreatDoor

