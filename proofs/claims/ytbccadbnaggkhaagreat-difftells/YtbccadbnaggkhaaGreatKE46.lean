/-
  What is changed: the document's Same, at any two tenants.
-/
import Derived.Test.YtbccadbnaggkhaaGreatKE43
import Derived.Test.YtbccadbnaggkhaaGreatKE44
import Derived.Test.YtbccadbnaggkhaaGreatKE45
import Derived.BigQuiet
namespace Go.Proofs.YtbccadbnaggkhaaGreat
open Go.RowKit
open Sm
open Cf
open Df
set_option linter.unusedVariables false
set_option linter.unusedSimpArgs false
set_option maxRecDepth 20000

namespace Df
set_option maxHeartbeats 8000000 in
theorem rs_all {w : World} {t z : Ten} {pa sa qa pa' sa' qa' : Option Addr} {pn pc sn sc qn qc pc' sn' sc' qn' qc' : Nat} (hl : TLen t) (hl' : TLen z)
    (h0 : (sb t.name = sb z.name))
    (h1 : (t.vni = z.vni))
    (h2 : (t.key = z.key))
    (h3 : (t.vtep = z.vtep))
    (h4 : (t.vmac = z.vmac))
    (h5 : (t.host = z.host))
    (h6 : (t.lo = z.lo))
    (h7 : (t.hi = z.hi))
    (h8 : (t.filter = z.filter))
    (h9 : (t.sess = z.sess))
    (h10 : (t.queue = z.queue))
    (h11 : (t.rate = z.rate))
    (h12 : (t.burst = z.burst))
    (hp : Rw w 1 (.slice pa pn pc) (ux t.pool)) (hp' : Rw w 1 (.slice pa' pn pc') (ux z.pool)) (hq : t.pool.length = pn) (hq' : z.pool.length = pn) (hn : pn ≤ 1000000)
    (CP : ∀ V, Below w.heap.size w V → Calls Tryz.prog 35 #[.slice sa sn sc, .slice sa' sn' sc'] V fun e V' => e = .returned (.bool (decide (t.stat = z.stat))) ∧ ∃ q, V' = V.drewN q)
    (CQ : ∀ V, Below w.heap.size w V → Calls Tryz.prog 35 #[.slice qa qn qc, .slice qa' qn' qc'] V fun e V' => e = .returned (.bool (decide (t.twi = z.twi))) ∧ ∃ q, V' = V.drewN q)
    : Calls Tryz.prog 29 #[.agg (tc t (.slice pa pn pc) (.slice sa sn sc) (.slice qa qn qc)).toArray, .agg (tc z (.slice pa' pn pc') (.slice sa' sn' sc') (.slice qa' qn' qc')).toArray] w fun e w' => e = .returned (.bool (decide (t.pool = z.pool) && (decide (t.stat = z.stat) && decide (t.twi = z.twi)))) ∧ Below w.heap.size w w' := by
  have e0 : (t.name.toList == z.name.toList) = true := by rw [text_same]; exact decide_eq_true h0
  have e1 : (t.vni != z.vni) = false := by simpa using h1
  have e2 : ∀ V, (Op.equalIn 10000 27 (.agg (t.key.map (Value.int .u8)).toArray) (.agg (z.key.map (Value.int .u8)).toArray)).run Tryz.prog V = .ok true V := fun V => by rw [keys_eq hl.key hl'.key, decide_eq_true h2]
  have e3 : (t.vtep != z.vtep) = false := by simpa using h3
  have e4 : ∀ V, (Op.equalIn 10000 29 (.agg (t.vmac.map (Value.int .u8)).toArray) (.agg (z.vmac.map (Value.int .u8)).toArray)).run Tryz.prog V = .ok true V := fun V => by rw [macs_eq hl.vmac hl'.vmac, decide_eq_true h4]
  have e5 : ∀ V, (Op.equalIn 10000 29 (.agg (t.host.map (Value.int .u8)).toArray) (.agg (z.host.map (Value.int .u8)).toArray)).run Tryz.prog V = .ok true V := fun V => by rw [macs_eq hl.host hl'.host, decide_eq_true h5]
  have e6 : (t.lo != z.lo) = false := by simpa using h6
  have e7 : (t.hi != z.hi) = false := by simpa using h7
  have e8 : (t.filter != z.filter) = false := by simpa using h8
  have e9 : (t.sess != z.sess) = false := by simpa using h9
  have e10 : (t.queue != z.queue) = false := by simpa using h10
  have e11 : (t.rate != z.rate) = false := by simpa using h11
  have e12 : (t.burst != z.burst) = false := by simpa using h12
  have e13 : ((pn : Int) != (pn : Int)) = false := by simp
  clear h0 h1 h2 h3 h4 h5 h6 h7 h8 h9 h10 h11 h12
  obtain ⟨R1, hR1⟩ : ∃ R, decide (t.pool = z.pool) = R := ⟨_, rfl⟩
  obtain ⟨R2, hR2⟩ : ∃ R, decide (t.stat = z.stat) = R := ⟨_, rfl⟩
  obtain ⟨R3, hR3⟩ : ∃ R, decide (t.twi = z.twi) = R := ⟨_, rfl⟩
  rw [hR1, hR2, hR3]
  rw [hR2] at CP
  rw [hR3] at CQ
  have key : ∀ (l : List Int) (a0 : Option Addr) (c0 : Nat), Rw w 1 (.slice a0 pn c0) (ux l) → l.length = pn → ∀ i, i < pn → ∃ b off, a0 = some ⟨b, off, none⟩ ∧ ∀ V, Below w.heap.size w V → V.cell? ⟨b, off + i, none⟩ = some (.int .u32 (l.getD i 0)) := by
    intro l a0 c0 h hlen i hi
    obtain ⟨b, off, e1, hc⟩ := rw_at h i (by simp [ux, hlen]; exact hi)
    refine ⟨b, off, e1, fun V hV => ?_⟩
    have := hc 0 (.int .u32 (l.getD i 0)) (by simp [ux, List.getD, List.getElem?_eq_getElem (show i < l.length by omega)])
    rw [Nat.mul_one, Nat.add_zero] at this
    rw [hV.cell (p := ⟨b, off + i, none⟩) (cell_lt this)]
    exact this
  have HX : Hid (∀ i, i < pn → ∃ b off, pa = some ⟨b, off, none⟩ ∧ ∀ V, Below w.heap.size w V → V.cell? ⟨b, off + i, none⟩ = some (.int .u32 (t.pool.getD i 0))) := key _ pa pc hp hq
  have HY : Hid (∀ i, i < pn → ∃ b off, pa' = some ⟨b, off, none⟩ ∧ ∀ V, Below w.heap.size w V → V.cell? ⟨b, off + i, none⟩ = some (.int .u32 (z.pool.getD i 0))) := key _ pa' pc' hp' hq'
  have HR1 : Hid (∀ i, i < pn → t.pool.getD i 0 ≠ z.pool.getD i 0 → R1 = false) := fun i hi hne => by rw [← hR1]; exact decide_eq_false fun e => hne (by rw [e])
  have HR2 : Hid ((∀ i, i < pn → t.pool.getD i 0 = z.pool.getD i 0) → R1 = true) := fun h => by
    rw [← hR1]
    refine decide_eq_true (List.ext_getElem (by omega) fun i h1 h2 => ?_)
    have := h i (by omega)
    simpa [List.getD, List.getElem?_eq_getElem h1, List.getElem?_eq_getElem h2] using this
  have HP : Hid (∀ V, Below w.heap.size w V → Calls Tryz.prog 35 #[.slice sa sn sc, .slice sa' sn' sc'] V fun e V' => e = .returned (.bool R2) ∧ ∃ q, V' = V.drewN q) := CP
  have HQ : Hid (∀ V, Below w.heap.size w V → Calls Tryz.prog 35 #[.slice qa qn qc, .slice qa' qn' qc'] V fun e V' => e = .returned (.bool R3) ∧ ∃ q, V' = V.drewN q) := CQ
  clear key hp hp' CP CQ hR1 hR2 hR3 hq hq'
  have i8 : (Tryz.prog.info? 27).map (·.size) = some (t.key.map (Value.int .u8)).length := by rw [List.length_map, hl.key]; kernel_rfl
  have i8' : (Tryz.prog.info? 27).map (·.size) = some (z.key.map (Value.int .u8)).length := by rw [List.length_map, hl'.key]; kernel_rfl
  have i6 : (Tryz.prog.info? 29).map (·.size) = some (t.vmac.map (Value.int .u8)).length := by rw [List.length_map, hl.vmac]; kernel_rfl
  have i6' : (Tryz.prog.info? 29).map (·.size) = some (z.vmac.map (Value.int .u8)).length := by rw [List.length_map, hl'.vmac]; kernel_rfl
  have j6 : (Tryz.prog.info? 29).map (·.size) = some (t.host.map (Value.int .u8)).length := by rw [List.length_map, hl.host]; kernel_rfl
  have j6' : (Tryz.prog.info? 29).map (·.size) = some (z.host.map (Value.int .u8)).length := by rw [List.length_map, hl'.host]; kernel_rfl
  obtain ⟨gx, hgx⟩ : ∃ g, w.heap.size = g := ⟨_, rfl⟩
  have HM0 : Hid (Mem w ((w.alloc (.cells (tc t (.slice pa pn pc) (.slice sa sn sc) (.slice qa qn qc)).toArray 34)).alloc (.cells (tc z (.slice pa' pn pc') (.slice sa' sn' sc') (.slice qa' qn' qc')).toArray 34)) [(gx + 1, .cells (tc z (.slice pa' pn pc') (.slice sa' sn' sc') (.slice qa' qn' qc')).toArray 34 (0, 0)), (gx, .cells (tc t (.slice pa pn pc) (.slice sa sn sc) (.slice qa qn qc)).toArray 34 (0, 0))]) := by rw [← hgx]; exact two_blocks' w _ _
  have HC : Hid (∀ V, Mem w V [(gx + 1, .cells (tc z (.slice pa' pn pc') (.slice sa' sn' sc') (.slice qa' qn' qc')).toArray 34 (0, 0)), (gx, .cells (tc t (.slice pa pn pc) (.slice sa sn sc) (.slice qa qn qc)).toArray 34 (0, 0))] → Bx V gx t (.slice pa pn pc) (.slice sa sn sc) (.slice qa qn qc) ∧ Bx V (gx + 1) z (.slice pa' pn pc') (.slice sa' sn' sc') (.slice qa' qn' qc')) := fun V hV => ⟨bx_of hl (hV.get 1 rfl), bx_of hl' (hV.get 0 rfl)⟩
  clear hl hl'
  obtain ⟨A, hA⟩ : ∃ A, (tc t (.slice pa pn pc) (.slice sa sn sc) (.slice qa qn qc)).toArray = A := ⟨_, rfl⟩
  obtain ⟨B, hB⟩ : ∃ B, (tc z (.slice pa' pn pc') (.slice sa' sn' sc') (.slice qa' qn' qc')).toArray = B := ⟨_, rfl⟩
  rw [hA, hB] at HM0 HC
  rw [hA, hB]
  clear hA hB
  go_enter Tryz.func29, Tryz.ntmps29
  go_upto_region 1 with fail
  refine wp_letter (fun X => Mem w X [(gx + 1, .cells B 34 (0, 0)), (gx, .cells A 34 (0, 0))]) HM0.out ?_
  intro V0 hM0
  obtain ⟨⟨k0, k1, k10, k23, k24, k25, k26, k27, k28, k29, k30, k31, k32, kk, kv, kh⟩, ⟨l0, l1, l10, l23, l24, l25, l26, l27, l28, l29, l30, l31, l32, lk, lv, lh⟩⟩ := HC.out V0 hM0
  have HV0 : Hid (Mem w V0 [(gx + 1, .cells B 34 (0, 0)), (gx, .cells A 34 (0, 0))]) := hM0
  clear hM0 HM0 hgx
  go_step
  dsimp only [List.append]
  go_upto_region 3 with (refine wpList_row (by rfl) ?_; first | (refine wpList_load_mid_g 27 (.tmp 19) (by with_reducible rfl) (by rfl) gx 2 (by first | rfl | simp [Act.eval]) _ _ kk Tryz.underlying27 rfl i8 ?_) | (refine wpList_load_mid_g 27 (.tmp 21) (by with_reducible rfl) (by rfl) (gx + 1) 2 (by first | rfl | simp [Act.eval]) _ _ lk Tryz.underlying27 rfl i8' ?_) | (refine wpList_load_mid_g 29 (.tmp 33) (by with_reducible rfl) (by rfl) gx 11 (by first | rfl | simp [Act.eval]) _ _ kv Tryz.underlying29 rfl i6 ?_) | (refine wpList_load_mid_g 29 (.tmp 35) (by with_reducible rfl) (by rfl) (gx + 1) 11 (by first | rfl | simp [Act.eval]) _ _ lv Tryz.underlying29 rfl i6' ?_) | (refine wpList_load_mid_g 29 (.tmp 40) (by with_reducible rfl) (by rfl) gx 17 (by first | rfl | simp [Act.eval]) _ _ kh Tryz.underlying29 rfl j6 ?_) | (refine wpList_load_mid_g 29 (.tmp 42) (by with_reducible rfl) (by rfl) (gx + 1) 17 (by first | rfl | simp [Act.eval]) _ _ lh Tryz.underlying29 rfl j6' ?_))
  clear e0 e1 e2 e3 e4 e5 e6 e7 e8 e9 e10 e11 e12 e13 k0 k1 k10 k24 k25 k26 k29 k30 k31 k32 kk kv kh l0 l1 l10 l24 l25 l26 l29 l30 l31 l32 lk lv lh k27 k28 l27 l28 i8 i8' i6 i6' j6 j6' k23 l23
  obtain ⟨LL, hLL⟩ : ∃ L : List (Nat × Obj), L = [(gx + 1, .cells B 34 (0, 0)), (gx, .cells A 34 (0, 0))] := ⟨_, rfl⟩
  rw [← hLL] at HC HV0
  clear hLL
  go_wp2_with fail
  go_loopw [5] (fun u5 w' => ∃ i : Nat, i ≤ pn ∧ u5 = .int .i64 i ∧ Hid (Mem w w' LL ∧ ∀ j, j < i → t.pool.getD j 0 = z.pool.getD j 0)) (fun u5 w' => pn - (intOf u5).toNat)
  case atStart => exact ⟨0, Nat.zero_le _, rfl, HV0.out, fun j hj => absurd hj (by omega)⟩
  case round =>
    obtain ⟨i, hi, rfl, HR⟩ := hrel
    clear HV0
    have bb := HC.out _ HR.out.1
    have c1 := bb.1.pool
    have c2 := bb.2.pool
    have c3 := bb.1.st
    have c4 := bb.2.st
    clear bb
    by_cases hlt : i < pn
    · have h1 : (i : Int) < pn := by omega
      obtain ⟨b, off, rfl, hx⟩ := HX.out i hlt
      obtain ⟨b', off', rfl, hy⟩ := HY.out i hlt
      have d1 := hx _ HR.out.1.below
      have d2 := hy _ HR.out.1.below
      by_cases he : t.pool.getD i 0 = z.pool.getD i 0
      · have HF : Hid (∀ m, Mem w (wr.drewN m) LL ∧ ∀ j, j < i + 1 → t.pool.getD j 0 = z.pool.getD j 0) := by
          intro m
          refine ⟨HR.out.1.drewN m, fun j hj => ?_⟩
          rcases Nat.lt_or_ge j i with h | h
          · exact HR.out.2 j h
          · obtain rfl : j = i := by omega
            exact he
        rw [he] at d1
        clear hx hy HX HY HR1 HR2 HP HQ HC HR he c3 c4
        generalize z.pool.getD i 0 = y at *
        have ee : (y == y) = true := by simp
        go_upto_region 6 with fail
        go_quiet (fail)
        go_wp2_with fail
        go_roundw
        case rel => exact ⟨i + 1, by omega, by go_num, HF.out _⟩
        case measure => simp [intOf]; omega
      · obtain rfl := HR1.out i hlt he
        have ee : (t.pool.getD i 0 == z.pool.getD i 0) = false := by simpa using he
        have HF : Hid (∀ m, Below w.heap.size w (wr.drewN m)) := fun m => (HR.out.1.drewN m).below
        clear hx hy HX HY HR1 HR2 HP HQ HC HR he c3 c4
        generalize z.pool.getD i 0 = y at *
        generalize t.pool.getD i 0 = x at *
        go_upto_region 6 with fail
        go_quiet (fail)
        go_wp2_with fail
        go_ret
        exact ⟨by simp, HF.out _⟩
    · have h1 : ¬ ((i : Int) < pn) := by omega
      obtain rfl := HR2.out fun j hj => HR.out.2 j (by omega)
      have CP := HP.out wr HR.out.1.below
      have HB : Hid (∀ q, Below w.heap.size w (wr.drewN q)) := fun q => (HR.out.1.drewN q).below
      have HCC : Hid (∀ q, (wr.drewN q).cell? ⟨gx, 28, none⟩ = some (.slice qa qn qc) ∧ (wr.drewN q).cell? ⟨gx + 1, 28, none⟩ = some (.slice qa' qn' qc')) := fun q => ⟨(HC.out _ (HR.out.1.drewN q)).1.tw, (HC.out _ (HR.out.1.drewN q)).2.tw⟩
      clear HX HY HR1 HR2 HP HR HC
      go_wp2_with fail
      refine CP.mono ?_
      rintro e V1 ⟨rfl, q, rfl⟩
      obtain ⟨c5, c6⟩ := HCC.out q
      have CQ := HQ.out _ (HB.out q)
      clear CP HQ HCC c3 c4 c1 c2
      cases R2 with
      | false =>
        clear CQ c5 c6
        go_wp2_with fail
        go_ret
        exact ⟨by simp, HB.out _⟩
      | true =>
        go_wp2_with fail
        refine CQ.mono ?_
        rintro e V2 ⟨rfl, q2, rfl⟩
        have HB2 : Hid (Below w.heap.size w ((wr.drewN q).drewN q2)) := Go.below_drewN (HB.out q) q2
        clear CQ c5 c6 HB
        go_wp2_with fail
        go_ret
        exact ⟨by simp, by first | exact HB2.out | simpa using HB2.out⟩
theorem rsame_any {w : World} {va vb : Value} {t z : Ten} (ha : TV w va t) (hb : TV w vb z) (hi : TIn t) :
    Calls Tryz.prog 29 #[va, vb] w fun e w' => e = .returned (.bool (decide (TSame t z))) ∧ Below w.heap.size w w' := by
  obtain ⟨hl, p, s, q, rfl, r1, r2, r3⟩ := ha
  obtain ⟨hl', p', s', q', rfl, r1', r2', r3'⟩ := hb
  have CP := fun V (hV : Below w.heap.size w V) => rpairs_any s s' t.stat z.stat (r2.at_ px_ne hV) (r2'.at_ px_ne hV) hi.stat
  have CQ := fun V (hV : Below w.heap.size w V) => rpairs_any q q' t.twi z.twi (r3.at_ px_ne hV) (r3'.at_ px_ne hV) hi.twi
  have hpl := hi.pool
  have l1 : (ux t.pool).length = t.pool.length := by simp [ux]
  have l2 : (ux z.pool).length = z.pool.length := by simp [ux]
  have k1 := r1
  have k1' := r1'
  obtain ⟨pa, pc, rfl, -⟩ := r1
  obtain ⟨sa, sc, rfl, -⟩ := r2
  obtain ⟨qa, qc, rfl, -⟩ := r3
  obtain ⟨pa', pc', rfl, -⟩ := r1'
  obtain ⟨sa', sc', rfl, -⟩ := r2'
  obtain ⟨qa', qc', rfl, -⟩ := r3'
  rw [l1] at k1 ⊢
  rw [l2] at k1' ⊢
  by_cases h20 : sb t.name = sb z.name
  rotate_left
  · rw [decide_eq_false (show ¬ TSame t z from fun hh => h20 hh.1)]
    exact rs_0 hl hl' h20
  by_cases h21 : t.vni = z.vni
  rotate_left
  · rw [decide_eq_false (show ¬ TSame t z from fun hh => h21 hh.2.1)]
    exact rs_1 hl hl' h20 h21
  by_cases h22 : t.key = z.key
  rotate_left
  · rw [decide_eq_false (show ¬ TSame t z from fun hh => h22 hh.2.2.1)]
    exact rs_2 hl hl' h20 h21 h22
  by_cases h23 : t.vtep = z.vtep
  rotate_left
  · rw [decide_eq_false (show ¬ TSame t z from fun hh => h23 hh.2.2.2.1)]
    exact rs_3 hl hl' h20 h21 h22 h23
  by_cases h24 : t.vmac = z.vmac
  rotate_left
  · rw [decide_eq_false (show ¬ TSame t z from fun hh => h24 hh.2.2.2.2.1)]
    exact rs_4 hl hl' h20 h21 h22 h23 h24
  by_cases h25 : t.host = z.host
  rotate_left
  · rw [decide_eq_false (show ¬ TSame t z from fun hh => h25 hh.2.2.2.2.2.1)]
    exact rs_5 hl hl' h20 h21 h22 h23 h24 h25
  by_cases h26 : t.lo = z.lo
  rotate_left
  · rw [decide_eq_false (show ¬ TSame t z from fun hh => h26 hh.2.2.2.2.2.2.2.1)]
    exact rs_6 hl hl' h20 h21 h22 h23 h24 h25 h26
  by_cases h27 : t.hi = z.hi
  rotate_left
  · rw [decide_eq_false (show ¬ TSame t z from fun hh => h27 hh.2.2.2.2.2.2.2.2.1)]
    exact rs_7 hl hl' h20 h21 h22 h23 h24 h25 h26 h27
  by_cases h28 : t.filter = z.filter
  rotate_left
  · rw [decide_eq_false (show ¬ TSame t z from fun hh => h28 hh.2.2.2.2.2.2.2.2.2.1)]
    exact rs_8 hl hl' h20 h21 h22 h23 h24 h25 h26 h27 h28
  by_cases h29 : t.sess = z.sess
  rotate_left
  · rw [decide_eq_false (show ¬ TSame t z from fun hh => h29 hh.2.2.2.2.2.2.2.2.2.2.2.2.1)]
    exact rs_9 hl hl' h20 h21 h22 h23 h24 h25 h26 h27 h28 h29
  by_cases h30 : t.queue = z.queue
  rotate_left
  · rw [decide_eq_false (show ¬ TSame t z from fun hh => h30 hh.2.2.2.2.2.2.2.2.2.2.2.2.2.1)]
    exact rs_10 hl hl' h20 h21 h22 h23 h24 h25 h26 h27 h28 h29 h30
  by_cases h31 : t.rate = z.rate
  rotate_left
  · rw [decide_eq_false (show ¬ TSame t z from fun hh => h31 hh.2.2.2.2.2.2.2.2.2.2.2.2.2.2.1)]
    exact rs_11 hl hl' h20 h21 h22 h23 h24 h25 h26 h27 h28 h29 h30 h31
  by_cases h32 : t.burst = z.burst
  rotate_left
  · rw [decide_eq_false (show ¬ TSame t z from fun hh => h32 hh.2.2.2.2.2.2.2.2.2.2.2.2.2.2.2)]
    exact rs_12 hl hl' h20 h21 h22 h23 h24 h25 h26 h27 h28 h29 h30 h31 h32
  by_cases h33 : t.pool.length = z.pool.length
  rotate_left
  · rw [decide_eq_false (show ¬ TSame t z from fun hh => h33 (congrArg List.length hh.2.2.2.2.2.2.1))]
    exact rs_13 hl hl' h20 h21 h22 h23 h24 h25 h26 h27 h28 h29 h30 h31 h32 h33
  rw [← h33] at k1' ⊢
  have hR : decide (TSame t z) = (decide (t.pool = z.pool) && (decide (t.stat = z.stat) && decide (t.twi = z.twi))) := by
    rw [← Bool.decide_and, ← Bool.decide_and, decide_eq_decide]
    exact ⟨fun hh => ⟨hh.2.2.2.2.2.2.1, hh.2.2.2.2.2.2.2.2.2.2.1, hh.2.2.2.2.2.2.2.2.2.2.2.1⟩, fun hh => ⟨h20, h21, h22, h23, h24, h25, hh.1, h26, h27, h28, hh.2.1, hh.2.2, h29, h30, h31, h32⟩⟩
  rw [hR]
  exact rs_all hl hl' h20 h21 h22 h23 h24 h25 h26 h27 h28 h29 h30 h31 h32 k1 k1' rfl h33.symm hpl CP CQ
end Df
end Go.Proofs.YtbccadbnaggkhaaGreat

