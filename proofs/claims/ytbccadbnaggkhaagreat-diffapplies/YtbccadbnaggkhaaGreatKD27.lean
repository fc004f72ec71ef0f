/-
  Settings held against one another: lychhelp.Tenants, Config and Changes, where both are the same.
  Settings as bytes: the document's settings: numbers.
-/
import Derived.Test.YtbccadbnaggkhaaGreatKD26
import Derived.Test.YtbccadbnaggkhaaGreatKD23
import Derived.Test.YtbccadbnaggkhaaGreatKD24
namespace Go.Proofs.YtbccadbnaggkhaaGreat
open Go.RowKit
open Sm
open Cf
set_option linter.unusedVariables false
set_option linter.unusedSimpArgs false
set_option maxRecDepth 20000

/-- A tenant's lists are not too long. -/
def TFew (t : Ten) : Prop := t.pool.length ≤ 1000000 ∧ t.stat.length ≤ 1000000 ∧ t.twi.length ≤ 1000000
set_option maxHeartbeats 8000000 in
theorem htenant_yes {w : World} {va vb : Value} {t z : Ten} (ha : TV w va t) (hb : TV w vb z) (hf : TFew t) (h : TSame t z) :
    Calls Tryz.prog 15 #[va, vb] w fun e w' => e = .returned (.bool true) ∧ Below w.heap.size w w' := by
  obtain ⟨hp, hs, hq⟩ := hf
  obtain ⟨hl, p, s, q, rfl, r1, r2, r3⟩ := ha
  obtain ⟨hl', p', s', q', rfl, r1', r2', r3'⟩ := hb
  have CN := fun V (hV : Below w.heap.size w V) => nums_any p p' t.pool z.pool (r1.at_ ux_ne hV) (r1'.at_ ux_ne hV) hp
  have CP := fun V (hV : Below w.heap.size w V) => pairs_any s s' t.stat z.stat (r2.at_ px_ne hV) (r2'.at_ px_ne hV) hs
  have CQ := fun V (hV : Below w.heap.size w V) => pairs_any q q' t.twi z.twi (r3.at_ px_ne hV) (r3'.at_ px_ne hV) hq
  obtain ⟨pa, pc, rfl, -⟩ := r1
  obtain ⟨sa, sc, rfl, -⟩ := r2
  obtain ⟨qa, qc, rfl, -⟩ := r3
  obtain ⟨pa', pc', rfl, -⟩ := r1'
  obtain ⟨sa', sc', rfl, -⟩ := r2'
  obtain ⟨qa', qc', rfl, -⟩ := r3'
  generalize (ux t.pool).length = pn at *
  generalize (px t.stat).length = sn at *
  generalize (px t.twi).length = qn at *
  generalize (ux z.pool).length = pn' at *
  generalize (px z.stat).length = sn' at *
  generalize (px z.twi).length = qn' at *
  obtain ⟨n, vn, key, vt, vm, ho, po, lo, hi, fi, st, tw, se, qu, ra, bu⟩ := t
  obtain ⟨n', vn', key', vt', vm', ho', po', lo', hi', fi', st', tw', se', qu', ra', bu'⟩ := z
  obtain ⟨h1, h2, h3⟩ := hl
  obtain ⟨a, b, c, d, f, g, x, y, rfl⟩ := eight8 h1
  obtain ⟨a1, b1, c1, d1, f1, g1, rfl⟩ := six6 h2
  obtain ⟨a2, b2, c2, d2, f2, g2, rfl⟩ := six6 h3
  obtain ⟨h1', h2', h3'⟩ := hl'
  obtain ⟨a', b', c', d', f', g', x', y', rfl⟩ := eight8 h1'
  obtain ⟨a1', b1', c1', d1', f1', g1', rfl⟩ := six6 h2'
  obtain ⟨a2', b2', c2', d2', f2', g2', rfl⟩ := six6 h3'
  simp only at CN CP CQ
  obtain ⟨h10, h11, h12, h13, h14, h15, h16, h17, h18, h19, h20, h21, h22, h23, h24, h25⟩ := h
  exact ht_16 h10 h11 h12 h13 h14 h15 h16 h17 h18 h19 h20 h21 h22 h23 h24 h25 CN CP CQ
set_option maxHeartbeats 8000000 in
theorem htenants_yes {w : World} {va vb : Value} {ls ms : List Ten} (ha : TSV w va ls) (hb : TSV w vb ms) (hf : ∀ t ∈ ls, TFew t) (h : TSames ls ms) :
    Calls Tryz.prog 12 #[va, vb] w fun e w' => e = .returned (.bool true) ∧ Below w.heap.size w w' := by
  obtain ⟨sa, sc, rfl, hlc, hcb, hx⟩ := ha.parts
  obtain ⟨ta, tc', rfl, hlc', hcb', hy⟩ := hb.parts
  have hfi : ∀ i, i < ls.length → TFew (ls.getD i ten0) := fun i hi => by
    rw [List.getD_eq_getElem?_getD, List.getElem?_eq_getElem hi, Option.getD_some]
    exact hf _ (List.getElem_mem _)
  obtain ⟨hll, hs⟩ := h
  rw [← hll] at hy hlc' ⊢
  have HX : Hid (∀ i, i < ls.length → ∃ b off x b' off' y, sa = some ⟨b, off, none⟩ ∧ ta = some ⟨b', off', none⟩ ∧ x.length = 33 ∧ y.length = 33 ∧ ∀ V, Below w.heap.size w V → (V.rangeAt b (off + i * 33) x ∧ V.rangeAt b' (off' + i * 33) y) ∧ Calls Tryz.prog 15 #[.agg x.toArray, .agg y.toArray] V fun e V' => e = .returned (.bool true) ∧ Below V.heap.size V V') := by
    intro i hi
    obtain ⟨b, off, x, e1, e2, -, e3⟩ := hx i hi
    obtain ⟨b', off', y, f1, f2, -, f3⟩ := hy i hi
    exact ⟨b, off, x, b', off', y, e1, f1, e2, f2, fun V hV => ⟨⟨(e3 V hV).1, (f3 V hV).1⟩, htenant_yes (e3 V hV).2 (f3 V hV).2 (hfi i hi) (hs i hi)⟩⟩
  have HB : Hid (Below w.heap.size w w) := Below.refl _ _
  clear ha hb hx hy hf hfi hs hll
  generalize ls.length = N at *
  go_enter Tryz.func12, Tryz.ntmps12
  go_wp2_with fail
  go_loopw [5] (fun u5 w' => ∃ i : Nat, i ≤ N ∧ u5 = .int .i64 i ∧ Hid (Below w.heap.size w w')) (fun u5 w' => N - (intOf u5).toNat)
  case atStart => exact ⟨0, Nat.zero_le _, rfl, HB⟩
  case round =>
    obtain ⟨i, hi, rfl, HR⟩ := hrel
    clear HB
    by_cases hlt : i < N
    · have h1 : (i : Int) < N := by omega
      obtain ⟨b, off, x, b', off', y, rfl, rfl, hs1, hs2, hV⟩ := HX.out i hlt
      have i1 : (Tryz.prog.info? 34).map (·.size) = some x.length := by rw [hs1]; kernel_rfl
      have i2 : (Tryz.prog.info? 34).map (·.size) = some y.length := by rw [hs2]; kernel_rfl
      have hd : Below w.heap.size w wr.drew := HR.out.drew
      obtain ⟨rr, CT⟩ := hV _ hd
      have HV' : Hid (∀ V, Below w.heap.size w V → V.rangeAt b (off + i * 33) x ∧ V.rangeAt b' (off' + i * 33) y) := fun V h => (hV V h).1
      have HD : Hid (Below w.heap.size w wr.drew) := hd
      clear hV hd hs1 hs2 HR
      go_upto_region 6 with fail
      refine wp_region_held_drew (S := fun V => V.rangeAt b (off + i * 33) x ∧ V.rangeAt b' (off' + i * 33) y) (by kernel_rfl) rr (fun hHeld => ?_)
      refine wpAnyH_take (i := 0) (v := ?_) rfl (by kernel_rfl) (by kernel_rfl) (by kernel_rfl) (fun _ _ _ h => h) (Or.inl ⟨by rfl, ?qy0⟩) (by assumption) ?qr0
      case qy0 =>
        intro w hSw
        (try dsimp only at hSw)
        go_simp
        all_goals with_reducible rfl
      try simp only [List.getElem_toArray, List.getElem_cons_zero, List.getElem_cons_succ, Act.put, List.setIfInBounds_toArray, List.set_cons_zero, List.set_cons_succ]
      refine wpAnyH_take (i := 1) (v := ?_) rfl (by kernel_rfl) (by kernel_rfl) (by kernel_rfl) (fun _ _ _ h => h) (Or.inl ⟨by rfl, ?qy1⟩) (by assumption) ?qr1
      case qy1 =>
        intro w hSw
        (try dsimp only at hSw)
        go_simp
        all_goals with_reducible rfl
      try simp only [List.getElem_toArray, List.getElem_cons_zero, List.getElem_cons_succ, Act.put, List.setIfInBounds_toArray, List.set_cons_zero, List.set_cons_succ]
      refine wpAnyH_take (i := 2) (v := ?_) rfl (by kernel_rfl) (by kernel_rfl) (by kernel_rfl) (fun _ _ _ h => h) (Or.inl ⟨by rfl, ?qy2⟩) (by assumption) ?qr2
      case qy2 =>
        intro w hSw
        (try dsimp only at hSw)
        go_simp
        all_goals with_reducible rfl
      try simp only [List.getElem_toArray, List.getElem_cons_zero, List.getElem_cons_succ, Act.put, List.setIfInBounds_toArray, List.set_cons_zero, List.set_cons_succ]
      refine wpAnyH_take (i := 3) (v := _) rfl (by kernel_rfl) (by kernel_rfl) (by kernel_rfl) (fun _ _ _ h => h) (yieldsIf_load_mid (by rfl) _ _ rfl _ _ rfl _ _ ?qs3 Tryz.underlying34 rfl i1) (by assumption) ?qr3
      case qs3 =>
        intro w hSw
        (try dsimp only at hSw)
        go_split_ands
        assumption
      try simp only [List.getElem_toArray, List.getElem_cons_zero, List.getElem_cons_succ, Act.put, List.setIfInBounds_toArray, List.set_cons_zero, List.set_cons_succ]
      refine wpAnyH_take (i := 4) (v := ?_) rfl (by kernel_rfl) (by kernel_rfl) (by kernel_rfl) (fun _ _ _ h => h) (Or.inl ⟨by rfl, ?qy4⟩) (by assumption) ?qr4
      case qy4 =>
        intro w hSw
        (try dsimp only at hSw)
        go_simp
        all_goals with_reducible rfl
      try simp only [List.getElem_toArray, List.getElem_cons_zero, List.getElem_cons_succ, Act.put, List.setIfInBounds_toArray, List.set_cons_zero, List.set_cons_succ]
      refine wpAnyH_take (i := 5) (v := ?_) rfl (by kernel_rfl) (by kernel_rfl) (by kernel_rfl) (fun _ _ _ h => h) (Or.inl ⟨by rfl, ?qy5⟩) (by assumption) ?qr5
      case qy5 =>
        intro w hSw
        (try dsimp only at hSw)
        go_simp
        all_goals with_reducible rfl
      try simp only [List.getElem_toArray, List.getElem_cons_zero, List.getElem_cons_succ, Act.put, List.setIfInBounds_toArray, List.set_cons_zero, List.set_cons_succ]
      refine wpAnyH_take (i := 6) (v := ?_) rfl (by kernel_rfl) (by kernel_rfl) (by kernel_rfl) (fun _ _ _ h => h) (Or.inl ⟨by rfl, ?qy6⟩) (by assumption) ?qr6
      case qy6 =>
        intro w hSw
        (try dsimp only at hSw)
        go_simp
        all_goals with_reducible rfl
      try simp only [List.getElem_toArray, List.getElem_cons_zero, List.getElem_cons_succ, Act.put, List.setIfInBounds_toArray, List.set_cons_zero, List.set_cons_succ]
      refine wpAnyH_take (i := 7) (v := _) rfl (by kernel_rfl) (by kernel_rfl) (by kernel_rfl) (fun _ _ _ h => h) (yieldsIf_load_mid (by rfl) _ _ rfl _ _ rfl _ _ ?qs7 Tryz.underlying34 rfl i2) (by assumption) ?qr7
      case qs7 =>
        intro w hSw
        (try dsimp only at hSw)
        go_split_ands
        assumption
      try simp only [List.getElem_toArray, List.getElem_cons_zero, List.getElem_cons_succ, Act.put, List.setIfInBounds_toArray, List.set_cons_zero, List.set_cons_succ]
      refine wpAnyH_ready (rs := [8]) (by kernel_rfl) (by simp) ?_
      refine AllReadyH.cons rfl (fun K hK => ?_) AllReadyH.nil
      go_simp
      with_reducible refine (CT).mono ?_
      rintro e W1 ⟨rfl, hb1⟩
      have hb1b := HD.out.trans (hb1.mono HD.out.size)
      try go_wp2_with fail
      refine hK.out _ _ (HV'.out _ hb1b) (fun hHeld => ?_)
      clear hK K
      try simp only [List.getElem_toArray, List.getElem_cons_zero, List.getElem_cons_succ, Act.put, List.setIfInBounds_toArray, List.set_cons_zero, List.set_cons_succ]
      refine wpAnyH_take (i := 9) (v := ?_) rfl (by kernel_rfl) (by kernel_rfl) (by kernel_rfl) (fun _ _ _ h => h) (Or.inl ⟨by rfl, ?qy9⟩) (by assumption) ?qr9
      case qy9 =>
        intro w hSw
        (try dsimp only at hSw)
        go_simp
        all_goals with_reducible rfl
      try simp only [List.getElem_toArray, List.getElem_cons_zero, List.getElem_cons_succ, Act.put, List.setIfInBounds_toArray, List.set_cons_zero, List.set_cons_succ]
      refine wpAnyH_done (by kernel_rfl) ?_ _
      have HB1 : Hid (Below w.heap.size w W1) := hb1b
      clear hb1 hb1b CT
      go_wp2_with fail
      go_roundw
      case rel => exact ⟨i + 1, by omega, by go_num, HB1⟩
      case measure => simp [intOf]; omega
    · have h1 : ¬ ((i : Int) < N) := by omega
      obtain rfl : i = N := by omega
      go_wp2_with fail
      go_ret
      exact ⟨rfl, HR.out⟩
theorem TSV.slice {w : World} {v : Value} {ts : List Ten} (h : TSV w v ts) : ∃ a n c, v = .slice a n c := by
  obtain ⟨zs, -, ⟨a, c, e, -⟩, -⟩ := h
  exact ⟨a, _, c, e⟩
end Go.Proofs.YtbccadbnaggkhaaGreat

namespace Go.Proofs.YtbccadbnaggkhaaGreat
open Go.RowKit
open Sm
open Cf
set_option linter.unusedVariables false
set_option linter.unusedSimpArgs false
set_option maxRecDepth 20000

def c1 (σ : Option (List Int)) := nx 4 σ
def c2 (σ : Option (List Int)) := nx 6 (c1 σ)
def c3 (σ : Option (List Int)) := nx 6 (c2 σ)
def c4 (σ : Option (List Int)) := nx 6 (c3 σ)
def c5 (σ : Option (List Int)) := nx 8 (c4 σ)
def c6 (σ : Option (List Int)) := nx 4 (c5 σ)
def c7 (σ : Option (List Int)) := nx 1 (c6 σ)
end Go.Proofs.YtbccadbnaggkhaaGreat

