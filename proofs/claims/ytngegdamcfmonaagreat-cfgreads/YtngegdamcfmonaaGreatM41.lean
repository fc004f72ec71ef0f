/-
  Settings held against one another: which lists of tenants the statements speak of.
  Settings as bytes: the document's own Change, at all changes.
  Settings as bytes: settings that were written are read back, no part of them is read, and nothing longer; what fits is read back as it was.
-/
import Derived.Test.YtngegdamcfmonaaGreatM38
import Derived.Test.YtngegdamcfmonaaGreatM23
import Derived.Test.YtngegdamcfmonaaGreatM27
import Derived.Test.YtngegdamcfmonaaGreatM37
import Derived.Test.YtngegdamcfmonaaGreatM22
import Derived.Test.YtngegdamcfmonaaGreatM39
namespace Go.Proofs.YtngegdamcfmonaaGreat
open Go.RowKit
open Sm
open Cf
set_option linter.unusedVariables false
set_option maxRecDepth 20000

/-- A slice of tenants, taken apart: each tenant's cells where the slice says. -/
theorem TSV.parts {w : World} {v : Value} {ts : List Ten} (h : TSV w v ts) : ∃ sa sc, v = .slice sa ts.length sc ∧ ts.length ≤ sc ∧ sc ≤ 9223372036854775807 ∧ ∀ i, i < ts.length → ∃ b off x, sa = some ⟨b, off, none⟩ ∧ x.length = 33 ∧ x.toArray.all (·.oneCell') = true ∧ ∀ V, Below w.heap.size w V → V.rangeAt b (off + i * 33) x ∧ TV V (.agg x.toArray) (ts.getD i ten0) := by
  obtain ⟨zs, hz, hr, hq⟩ := h
  have hN0 : (zs.map zc).length = ts.length := by rw [List.length_map, ← hz, List.length_map]
  have hrr := hr
  obtain ⟨sa, sc, rfl, hl, hb, -⟩ := hrr
  rw [hN0] at hr hl ⊢
  refine ⟨sa, sc, rfl, hl, hb, fun i hi => ?_⟩
  have hil : i < zs.length := by rw [List.length_map] at hN0; omega
  obtain ⟨b, off, x, e1, e2, e3, e4, e5⟩ := tsv_at hr hq i hil
  rw [hz] at e5
  refine ⟨b, off, x, e1, e3, e4, fun V hV => ⟨fun j u hj => ?_, ?_⟩⟩
  · have h := e2 j u hj
    rw [hV.cell (p := ⟨b, off + i * 33 + j, none⟩) (cell_lt h)]
    exact h
  · obtain ⟨hl, p, s, q, e, h1, h2, h3⟩ := e5
    exact ⟨hl, p, s, q, e, h1.below ux_ne hV (Nat.le_refl _), h2.below px_ne hV (Nat.le_refl _), h3.below px_ne hV (Nat.le_refl _)⟩
def Lgts (ts : List Ten) (m : Nat) : Prop := ts.length ≤ m ∧ ∀ i, i < ts.length → Lgt (ts.getD i ten0)
instance (ts : List Ten) (m : Nat) : Decidable (Lgts ts m) := by unfold Lgts; infer_instance
set_option maxHeartbeats 4000000 in
theorem lights_any {w : World} {v : Value} {ts : List Ten} (h : TSV w v ts) (m : Nat) (hm : m ≤ 1000) :
    Calls Tryz.prog 10 #[v, .int .i64 m] w fun e w' => e = .returned (.bool (decide (Lgts ts m))) ∧ Below w.heap.size w w' := by
  obtain ⟨sa, sc, rfl, hlc, hcb, hx⟩ := h.parts
  clear h
  obtain ⟨R, hR⟩ : ∃ R, decide (Lgts ts m) = R := ⟨_, rfl⟩
  rw [hR]
  have HR1 : Hid (∀ i, i < ts.length → ¬ Lgt (ts.getD i ten0) → R = false) := by
    intro i hi hn
    rw [← hR]
    exact decide_eq_false (fun h => hn (h.2 i hi))
  have HR2 : Hid ((∀ i, i < ts.length → i < m → Lgt (ts.getD i ten0)) → R = decide (((ts.length : Nat) : Int) ≤ (m : Int))) := by
    intro h
    rw [← hR]
    by_cases hl : ts.length ≤ m
    · rw [decide_eq_true (show Lgts ts m from ⟨hl, fun i hi => h i hi (by omega)⟩), decide_eq_true (by omega)]
    · rw [decide_eq_false (show ¬ Lgts ts m from fun h => hl h.1), decide_eq_false (by omega)]
  have HX : Hid (∀ i, i < ts.length → ∃ b off x, sa = some ⟨b, off, none⟩ ∧ x.length = 33 ∧ x.toArray.all (·.oneCell') = true ∧ ∀ V, Below w.heap.size w V → V.rangeAt b (off + i * 33) x ∧ TV V (.agg x.toArray) (ts.getD i ten0)) := hx
  have HB : Hid (Below w.heap.size w w) := Below.refl _ _
  clear hR hx
  generalize ts.length = N at *
  go_enter Tryz.func10, Tryz.ntmps10
  go_wp2_with fail
  go_loopw [5] (fun u5 w' => ∃ i : Nat, i ≤ N ∧ i ≤ m ∧ u5 = .int .i64 i ∧ Hid ((∀ j, j < i → Lgt (ts.getD j ten0)) ∧ Below w.heap.size w w')) (fun u5 w' => N - (intOf u5).toNat)
  case atStart => exact ⟨0, Nat.zero_le _, Nat.zero_le _, rfl, fun j hj => absurd hj (by omega), HB.out⟩
  case round =>
    obtain ⟨i, hi, hi2, rfl, HRR⟩ := hrel
    by_cases hlt : i < N
    · have h1 : (i : Int) < N := by omega
      by_cases hlm : i < m
      · have h2 : (i : Int) < m := by omega
        obtain ⟨b, off, x, rfl, hsz, hone, hV⟩ := HX.out i hlt
        obtain ⟨hra, hTV⟩ := hV _ HRR.out.2
        have CL := light_any hTV
        have hi33 : (Tryz.prog.info? 33).map (·.size) = some x.length := by rw [hsz]; kernel_rfl
        clear hV hTV hone hsz
        by_cases q1 : Lgt (ts.getD i ten0)
        · rw [decide_eq_true q1] at CL
          go_wp2_with (refine wpList_load_mid rfl 33 (.tmp 19) (by with_reducible rfl) b (off + i * 33) (by simp [Act.eval]) x _ hra Tryz.underlying33 rfl hi33 ?_)
          refine CL.mono ?_
          rintro e W1 ⟨rfl, hb1⟩
          have HH : Hid ((∀ j, j < i + 1 → Lgt (ts.getD j ten0)) ∧ Below w.heap.size w W1) := ⟨fun j hj => by
            rcases Nat.lt_or_ge j i with h | h
            · exact HRR.out.1 j h
            · obtain rfl : j = i := by omega
              exact q1, HRR.out.2.trans (hb1.mono HRR.out.2.size)⟩
          clear CL hra HRR hb1 q1
          go_wp2_with fail
          go_roundw
          case rel => exact ⟨i + 1, by omega, by omega, by go_num, HH⟩
          case measure => simp [intOf]; omega
        · rw [decide_eq_false q1] at CL
          obtain rfl := HR1.out i hlt q1
          go_wp2_with (refine wpList_load_mid rfl 33 (.tmp 19) (by with_reducible rfl) b (off + i * 33) (by simp [Act.eval]) x _ hra Tryz.underlying33 rfl hi33 ?_)
          refine CL.mono ?_
          rintro e W1 ⟨rfl, hb1⟩
          have HH : Hid (Below w.heap.size w W1) := HRR.out.2.trans (hb1.mono HRR.out.2.size)
          clear CL hra HRR hb1 q1
          go_wp2_with fail
          go_ret
          exact ⟨rfl, HH.out⟩
      · have h2 : ¬ ((i : Int) < m) := by omega
        have hR3 := HR2.out (fun j hj hjm => HRR.out.1 j (by omega))
        subst hR3
        go_wp2_with fail
        go_ret
        exact ⟨rfl, HRR.out.2⟩
    · have h1 : ¬ ((i : Int) < N) := by omega
      have hR3 := HR2.out (fun j hj hjm => HRR.out.1 j (by omega))
      subst hR3
      go_wp2_with fail
      go_ret
      exact ⟨rfl, HRR.out.2⟩
end Go.Proofs.YtngegdamcfmonaaGreat

namespace Go.Proofs.YtngegdamcfmonaaGreat
open Go.RowKit
open Sm
open Cf
set_option linter.unusedVariables false
set_option linter.unusedSimpArgs false
set_option maxRecDepth 20000

set_option maxHeartbeats 8000000 in
theorem rchange_any {w : World} {v : Value} {h : Chg} (hv : HV w v h) (hi : TIn h.t) :
    Calls Tryz.prog 16 #[v] w fun e w' => ∃ u, e = .returned u ∧ Ob w w' u (henc h) [] 6000 := by
  obtain ⟨hlen, p, s, q, rfl, h1, h2, h3⟩ := hv
  obtain ⟨put, name, t⟩ := h
  simp only at hi hlen h1 h2 h3
  obtain ⟨g, hg⟩ : ∃ g, w.heap.size = g := ⟨_, rfl⟩
  have hM0 : Mem w (w.alloc (.cells (hc ⟨put, name, t⟩ p s q).toArray 35)) [(g, .cells (hc ⟨put, name, t⟩ p s q).toArray 35 (0, 0))] := (Mem.nil w).push1 hg.symm
  have d0 : ∀ V, Mem w V [(g, .cells (hc ⟨put, name, t⟩ p s q).toArray 35 (0, 0))] → V.cell? ⟨g, 0, none⟩ = some (.bool put) := fun V hV => hV.cell 0 rfl 0
  have d1 : ∀ V, Mem w V [(g, .cells (hc ⟨put, name, t⟩ p s q).toArray 35 (0, 0))] → V.cell? ⟨g, 1, none⟩ = some (.string name) := fun V hV => hV.cell 0 rfl 1
  have d2 : ∀ V, Mem w V [(g, .cells (hc ⟨put, name, t⟩ p s q).toArray 35 (0, 0))] → V.rangeAt g 2 (tc t p s q) := fun V hV j u hj => by
    rw [hV.cell 0 rfl, Nat.add_comm]
    simpa [hc] using hj
  have HT : Hid (∀ V, Below w.heap.size w V → TV V (.agg (tc t p s q).toArray) t) := fun V hV => ⟨hlen, p, s, q, rfl, h1.below ux_ne hV (Nat.le_refl _), h2.below px_ne hV (Nat.le_refl _), h3.below px_ne hV (Nat.le_refl _)⟩
  have hi33 : (Tryz.prog.info? 33).map (·.size) = some (tc t p s q).length := by rw [tc_len hlen]; kernel_rfl
  have HI : Hid (TIn t) := hi
  have HP : Hid (0 < (tenc t).length) := tenc_pos' t
  obtain ⟨L0, hL0⟩ : ∃ L0 : List (Nat × Obj), L0 = [(g, .cells (hc ⟨put, name, t⟩ p s q).toArray 35 (0, 0))] := ⟨_, rfl⟩
  rw [← hL0] at hM0 d0 d1 d2
  have D1 : Hid (∀ V, Mem w V L0 → V.cell? ⟨g, 1, none⟩ = some (.string name)) := d1
  have D2 : Hid (∀ V, Mem w V L0 → V.rangeAt g 2 (tc t p s q)) := d2
  clear h1 h2 h3 hlen hi hL0 d1 d2
  generalize (hc ⟨put, name, t⟩ p s q).toArray = tl at *
  generalize tc t p s q = x at *
  cases put with
  | true =>
    simp only [henc, if_true]
    go_enter Tryz.func16, Tryz.ntmps16
    go_upto_region 1 with fail
    refine wp_letter (fun V => Mem w V L0) hM0 ?_
    intro V0 hM
    have c0 := d0 _ hM
    have hl := out_lit hM 1 (by omega)
    have hra := D2.out _ hl.mem
    have CT := rtenant_any (HT.out _ hl.mem.below) HI.out
    have HLI : Hid (Ob w (V0.alloc (.cells #[.int .u8 1] 5)) (.slice (some ⟨V0.heap.size, 0, none⟩) 1 1) [1] L0 1) := ⟨hl, by simp⟩
    clear hM0 d0 hl hM
    go_wp2_with (refine wpList_load_mid rfl 33 (.tmp 6) (by with_reducible rfl) g 2 (by simp [Act.eval]) x _ hra Tryz.underlying33 rfl hi33 ?_)
    refine CT.mono ?_
    rintro e W1 ⟨u1, rfl, hO1⟩
    obtain ⟨v2, W2, hrun, hO2⟩ := out_other HLI.out hO1 HP.out (by omega) 40
    rw [List.singleton_append] at hO2
    have HH : Hid (Ob w W2 v2 (1 :: tenc t) [] 6000) := ⟨hO2.1.none, Nat.le_trans hO2.2 (by omega)⟩
    clear hO1 hO2 HLI CT hra c0
    go_wp2_with (at_builtin; refine wpList_append_run (.tmp 5) (.tmp 8) 40 40 (by with_reducible rfl) hrun rfl rfl (by simp [Act.eval]) (by simp [Act.eval]) ?_)
    go_ret
    exact ⟨_, rfl, HH.out⟩
  | false =>
    simp only [henc, Bool.false_eq_true, if_false]
    go_enter Tryz.func16, Tryz.ntmps16
    go_upto_region 1 with fail
    refine wp_letter (fun V => Mem w V L0) hM0 ?_
    intro V0 hM
    have c0 := d0 _ hM
    have hl := out_lit hM 0 (by omega)
    have c1 := D1.out _ hl.mem
    have CN := rname_any (n := 1) ⟨hl, by simp⟩ name (by omega)
    clear hM0 d0 hl hM
    go_wp2_with fail
    refine CN.mono ?_
    rintro e W1 ⟨u1, rfl, hO1⟩
    rw [List.singleton_append] at hO1
    have HH : Hid (Ob w W1 u1 (0 :: nm name) [] 6000) := ⟨hO1.1.none, Nat.le_trans hO1.2 (by omega)⟩
    clear hO1 CN c0 c1
    go_wp2_with fail
    go_ret
    exact ⟨_, rfl, HH.out⟩
end Go.Proofs.YtngegdamcfmonaaGreat

namespace Go.Proofs.YtngegdamcfmonaaGreat
open Go.RowKit
open Sm
open Cf
set_option linter.unusedVariables false
set_option maxRecDepth 20000

/-- Settings as they are read back. -/
def ccut (c : Cgf) : Cgf := ⟨num (be 4 c.ip), c.mac, c.omac, c.nmac, c.key, num (be 4 c.drain), (c.ten.take 255).map tcut⟩
def sct (c : Cgf) (k : Nat) : Cgf := ⟨if 0 < k then (ccut c).ip else 0, if 1 < k then c.mac else cfg0.mac, if 2 < k then c.omac else cfg0.omac, if 3 < k then c.nmac else cfg0.nmac, if 4 < k then c.key else cfg0.key, if 5 < k then (ccut c).drain else 0,
  if 7 < k then (ccut c).ten else if 6 < k then List.replicate (min c.ten.length 255) ten0 else []⟩
theorem set_ten_eq (x : Cgf) (m : Nat) (h : x.ten = []) : set_ten x m = { x with ten := List.replicate m ten0 } := by
  unfold set_ten
  split
  · rename_i e; subst e; cases x; simp only at h; subst h; rfl
  · rfl
theorem rb_tens (c x : Cgf) (hl : ∀ t ∈ c.ten, TLen t) (hx : x.ten = List.replicate (min c.ten.length 255) ten0) : RB spTenants.dec (spTenants.enc c) x { x with ten := (c.ten.take 255).map tcut } := by
  have hd : ∀ i, TLen (c.ten.getD i ten0) := by
    intro i
    by_cases h : i < c.ten.length
    · rw [List.getD_eq_getElem?_getD, List.getElem?_eq_getElem h, Option.getD_some]
      exact hl _ (List.getElem_mem _)
    · rw [List.getD_eq_getElem?_getD, List.getElem?_eq_none (by omega), Option.getD_none]
      exact ten0_len
  obtain ⟨ys, ⟨h1, h2⟩, h3, h4, -⟩ := sq_rb (dec := itd ten0 spT) (enc := fun i => tenc (c.ten.getD i ten0)) (Inv := fun k ys => ys.length = min c.ten.length 255 ∧ (∀ i, i < k → ys[i]? = some (tcut (c.ten.getD i ten0))) ∧ ∀ i, k ≤ i → i < min c.ten.length 255 → ys[i]? = some ten0) (min c.ten.length 255) 0 x.ten
    (fun k _ hk xs ⟨g1, g2, g3⟩ => by
      have hz : xs.getD k ten0 = ten0 := by rw [List.getD, g3 k (Nat.le_refl _) (by omega)]; rfl
      obtain ⟨e1, e2⟩ := tenc_rb (c.ten.getD k ten0) (hd k)
      refine ⟨xs.set k (tcut (c.ten.getD k ten0)), ⟨fun r => by simp only [itd, hz]; rw [show tenc (c.ten.getD k ten0) = spT.enc (c.ten.getD k ten0) from rfl, e1]; rfl, fun l a b => by simp only [itd, hz]; rw [e2 l a b]; rfl⟩, by rw [List.length_set]; exact g1, fun i hi => ?_, fun i hi h2 => ?_⟩
      · rw [List.getElem?_set]
        by_cases e : k = i
        · subst e
          rw [if_pos rfl, if_pos (by omega)]
        · rw [if_neg e]
          exact g2 i (by omega)
      · rw [List.getElem?_set, if_neg (by omega)]
        exact g3 i (by omega) h2) ⟨by rw [hx, List.length_replicate], fun i hi => by omega, fun i _ hi => by rw [hx, List.getElem?_replicate, if_pos hi]⟩
  have hys : ys = (c.ten.take 255).map tcut := by
    apply List.ext_getElem?
    intro i
    rw [List.getElem?_map, List.getElem?_take]
    by_cases hi : i < min c.ten.length 255
    · rw [h4 i (by omega), if_pos (by omega), List.getD, List.getElem?_eq_getElem (by omega)]
      rfl
    · rw [List.getElem?_eq_none (by omega)]
      split
      · rw [List.getElem?_eq_none (by omega)]; rfl
      · rfl
  subst hys
  have hxl : x.ten.length = min c.ten.length 255 := by rw [hx, List.length_replicate]
  refine ⟨fun r => ?_, fun l a b => ?_⟩
  · simp only [spTenants]
    rw [hxl, cat_eq, h1]
    rfl
  · simp only [spTenants] at a b ⊢
    rw [cat_eq] at a b
    rw [hxl, h2 l a b]
    rfl
theorem cenc_rb (c : Cgf) (hl : CLen c) (ht : ∀ t ∈ c.ten, TLen t) : RB spC.dec (spC.enc c) cfg0 (ccut c) := by
  obtain ⟨x', h, e⟩ := sq_rb (dec := fun i => (csp.getD i sp0).dec) (enc := fun i => (csp.getD i sp0).enc c) (Inv := fun k x => x = sct c k) 8 0 cfg0 (fun k _ hk x hx => by
      subst hx
      match k, hk with
      | 0, _ => exact ⟨_, (rb_num 4 _ _ c _ : RB spCIp.dec (spCIp.enc c) _ _), rfl⟩
      | 1, _ => exact ⟨_, (rb_oct 6 _ _ c _ hl.mac : RB spCMac.dec (spCMac.enc c) _ _), rfl⟩
      | 2, _ => exact ⟨_, (rb_oct 6 _ _ c _ hl.omac : RB spCOut.dec (spCOut.enc c) _ _), rfl⟩
      | 3, _ => exact ⟨_, (rb_oct 6 _ _ c _ hl.nmac : RB spCNext.dec (spCNext.enc c) _ _), rfl⟩
      | 4, _ => exact ⟨_, (rb_oct 8 _ _ c _ hl.key : RB spCKey.dec (spCKey.enc c) _ _), rfl⟩
      | 5, _ => exact ⟨_, (rb_num 4 _ _ c _ : RB spCDrain.dec (spCDrain.enc c) _ _), rfl⟩
      | 6, _ => exact ⟨_, (rb_cnt _ _ c _ : RB spCCnt.dec (spCCnt.enc c) _ _), set_ten_eq _ _ rfl⟩
      | 7, _ => exact ⟨_, (rb_tens c _ ht rfl : RB spTenants.dec (spTenants.enc c) _ _), rfl⟩
      | n + 8, h => exact absurd (show n + 8 < 0 + 8 from h) (by omega)) rfl
  subst e
  rw [← cat_eq] at h
  exact h
theorem cdec_back (c : Cgf) (hl : CLen c) (ht : ∀ t ∈ c.ten, TLen t) : cdec (cenc c) = some (ccut c) := by
  have := (cenc_rb c hl ht).1 []
  rw [List.append_nil] at this
  unfold cdec
  rw [show spC.dec (cenc c) cfg0 = spC.dec (spC.enc c) cfg0 from rfl, this]
theorem cdec_more (c : Cgf) (hl : CLen c) (ht : ∀ t ∈ c.ten, TLen t) (x : Int) : cdec (cenc c ++ [x]) = none := by
  have := (cenc_rb c hl ht).1 [x]
  unfold cdec
  rw [show spC.dec (cenc c ++ [x]) cfg0 = spC.dec (spC.enc c ++ [x]) cfg0 from rfl, this]
theorem cdec_cut (c : Cgf) (hl : CLen c) (ht : ∀ t ∈ c.ten, TLen t) (l : List Int) (h : l <+: cenc c) (hs : l.length < (cenc c).length) : cdec l = none := by
  have := (cenc_rb c hl ht).2 l h hs
  unfold cdec
  rw [this]
theorem num_be4 (x : Int) (h : 0 ≤ x ∧ x ≤ 4294967295) : num (be 4 x) = x := by
  simp [be, num]
  omega
theorem num_be2 (x : Int) (h : 0 ≤ x ∧ x ≤ 65535) : num (be 2 x) = x := by
  simp [be, num]
  omega
theorem num_be1 (x : Int) (h : 0 ≤ x ∧ x ≤ 255) : num (be 1 x) = x := by
  simp [be, num]
  omega
theorem map_id_of {α : Type} {f : α → α} {l : List α} (h : ∀ x ∈ l, f x = x) : l.map f = l := by
  induction l with
  | nil => rfl
  | cons a l ih => rw [List.map_cons, h a (by simp), ih (fun x hx => h x (List.mem_cons_of_mem _ hx))]
theorem same_cut (t : Ten) (hf : Fit t) (hr : TRg t) : TSame t (tcut t) := by
  obtain ⟨f1, f2, f3, f4, f5, f6, f7, f8, f9, f10⟩ := hf
  have hs : (sb t.name).take 255 = sb t.name := List.take_of_length_le (by rw [sb_len]; exact f1)
  refine ⟨?_, (num_be4 _ hr.vni).symm, rfl, (num_be4 _ hr.vtep).symm, rfl, rfl, ?_, (num_be2 _ hr.lo).symm, (num_be2 _ hr.hi).symm, (num_be1 _ ⟨f5, f6⟩).symm, ?_, ?_, (num_be2 _ ⟨f7, f8⟩).symm, (num_be2 _ ⟨f9, f10⟩).symm, (num_be4 _ hr.rate).symm, (num_be4 _ hr.burst).symm⟩
  · show sb t.name = sb (strOfNums ((sb t.name).take 255))
    rw [hs, sb_str (sb_bytes _)]
  · show t.pool = (t.pool.take 255).map (fun v => num (be 4 v))
    rw [List.take_of_length_le f2, map_id_of (fun x hx => num_be4 x (hr.pool x hx))]
  · show t.stat = (t.stat.take 255).map (fun v => (num (be 4 v.1), num (be 4 v.2)))
    rw [List.take_of_length_le f3, map_id_of (fun x hx => by rw [num_be4 _ (hr.stat x hx).1, num_be4 _ (hr.stat x hx).2])]
  · show t.twi = (t.twi.take 255).map (fun v => (num (be 4 v.1), num (be 4 v.2)))
    rw [List.take_of_length_le f4, map_id_of (fun x hx => by rw [num_be4 _ (hr.twi x hx).1, num_be4 _ (hr.twi x hx).2])]
theorem TSame.symm {t z : Ten} (h : TSame t z) : TSame z t := by
  obtain ⟨a, b, c, d, e, f, g, h, i, j, k, l, m, n, o, p⟩ := h
  exact ⟨a.symm, b.symm, c.symm, d.symm, e.symm, f.symm, g.symm, h.symm, i.symm, j.symm, k.symm, l.symm, m.symm, n.symm, o.symm, p.symm⟩
/-- Lists of tenants that are the same, one by one. -/
def TSames (a b : List Ten) : Prop := a.length = b.length ∧ ∀ i, i < a.length → TSame (a.getD i ten0) (b.getD i ten0)
/-- Settings that are the same. -/
def CSame (a b : Cgf) : Prop := a.ip = b.ip ∧ a.mac = b.mac ∧ a.omac = b.omac ∧ a.nmac = b.nmac ∧ a.key = b.key ∧ a.drain = b.drain ∧ TSames a.ten b.ten
theorem csame_cut (c : Cgf) (hr : CRg c) (hl : c.ten.length ≤ 255) (ht : ∀ t ∈ c.ten, Fit t ∧ TRg t) : CSame c (ccut c) := by
  refine ⟨(num_be4 _ hr.ip).symm, rfl, rfl, rfl, rfl, (num_be4 _ hr.drain).symm, ?_⟩
  show TSames c.ten ((c.ten.take 255).map tcut)
  rw [List.take_of_length_le hl]
  refine ⟨by simp, fun i hi => ?_⟩
  have hm := List.getElem_mem hi
  rw [List.getD_eq_getElem?_getD, List.getElem?_eq_getElem hi, Option.getD_some, List.getD_eq_getElem?_getD, List.getElem?_map, List.getElem?_eq_getElem hi, Option.map_some, Option.getD_some]
  exact same_cut _ (ht _ hm).1 (ht _ hm).2
end Go.Proofs.YtngegdamcfmonaaGreat

