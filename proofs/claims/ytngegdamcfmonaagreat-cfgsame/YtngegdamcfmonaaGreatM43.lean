/-
  Settings held against one another: lychhelp.Tenant and the program's Same tell the same.
-/
import Derived.Test.YtngegdamcfmonaaGreatM40
import Derived.Test.YtngegdamcfmonaaGreatM39
import Derived.Test.YtngegdamcfmonaaGreatM37
import Derived.Test.YtngegdamcfmonaaGreatM41
import Derived.Test.YtngegdamcfmonaaGreatM38
import Derived.Test.YtngegdamcfmonaaGreatM42
namespace Go.Proofs.YtngegdamcfmonaaGreat
open Go.RowKit
open Sm
open Cf
set_option linter.unusedVariables false
set_option maxRecDepth 20000

instance (t z : Ten) : Decidable (TSame t z) := by unfold TSame; infer_instance
theorem eq_same (t z : Ten) : spT.eq t z = decide (TSame t z) := by
  by_cases h : TSame t z
  · rw [decide_eq_true h]
    obtain ⟨h0, h1, h2, h3, h4, h5, h6, h7, h8, h9, h10, h11, h12, h13, h14, h15⟩ := h
    apply decide_eq_true
    intro i hi
    match i, hi with
    | 0, _ => exact decide_eq_true h0
    | 1, _ => exact decide_eq_true h1
    | 2, _ => exact decide_eq_true h2
    | 3, _ => exact decide_eq_true h3
    | 4, _ => exact decide_eq_true h4
    | 5, _ => exact decide_eq_true h5
    | 6, _ => exact decide_eq_true h7
    | 7, _ => exact decide_eq_true h8
    | 8, _ => exact decide_eq_true h9
    | 9, _ => exact decide_eq_true h12
    | 10, _ => exact decide_eq_true h13
    | 11, _ => exact decide_eq_true h14
    | 12, _ => exact decide_eq_true h15
    | 13, _ => exact decide_eq_true (congrArg List.length h6)
    | 14, _ => exact decide_eq_true (congrArg List.length h10)
    | 15, _ => exact decide_eq_true (congrArg List.length h11)
    | 16, _ => exact decide_eq_true h6
    | 17, _ => exact decide_eq_true h10
    | 18, _ => exact decide_eq_true h11
    | n + 19, h => exact absurd (show n + 19 < 19 from h) (by omega)
  · rw [decide_eq_false h]
    apply decide_eq_false
    intro hc
    apply h
    exact ⟨of_decide_eq_true (hc 0 (by decide)), of_decide_eq_true (hc 1 (by decide)), of_decide_eq_true (hc 2 (by decide)), of_decide_eq_true (hc 3 (by decide)), of_decide_eq_true (hc 4 (by decide)), of_decide_eq_true (hc 5 (by decide)), of_decide_eq_true (hc 16 (by decide)), of_decide_eq_true (hc 6 (by decide)), of_decide_eq_true (hc 7 (by decide)), of_decide_eq_true (hc 8 (by decide)), of_decide_eq_true (hc 17 (by decide)), of_decide_eq_true (hc 18 (by decide)), of_decide_eq_true (hc 9 (by decide)), of_decide_eq_true (hc 10 (by decide)), of_decide_eq_true (hc 11 (by decide)), of_decide_eq_true (hc 12 (by decide))⟩
theorem Rw.at_ {w V : World} {n : Nat} {v : Value} {xs : List (List Value)} (h : Rw w n v xs) (hne : ∀ x ∈ xs, x ≠ []) (hb : Below w.heap.size w V) : Rw V n v xs := h.below hne hb (Nat.le_refl _)
set_option maxHeartbeats 8000000 in
theorem htenant_any {w : World} {va vb : Value} {t z : Ten} (ha : TV w va t) (hb : TV w vb z) (hp : t.pool.length ≤ 1000000) (hs : t.stat.length ≤ 1000000) (hq : t.twi.length ≤ 1000000) :
    Calls Tryz.prog 26 #[va, vb] w fun e w' => e = .returned (.bool (decide (TSame t z))) ∧ Below w.heap.size w w' := by
  obtain ⟨hl, p, s, q, rfl, r1, r2, r3⟩ := ha
  obtain ⟨hl', p', s', q', rfl, r1', r2', r3'⟩ := hb
  have CN := fun V (hV : Below w.heap.size w V) => nums_any p p' t.pool z.pool (r1.at_ ux_ne hV) (r1'.at_ ux_ne hV) hp
  have CP := fun V (hV : Below w.heap.size w V) => pairs_any s s' t.stat z.stat (r2.at_ px_ne hV) (r2'.at_ px_ne hV) hs
  have CQ := fun V (hV : Below w.heap.size w V) => pairs_any q q' t.twi z.twi (r3.at_ px_ne hV) (r3'.at_ px_ne hV) hq
  obtain ⟨pa, pc, rfl, -⟩ := r1
  obtain ⟨sa, sc, rfl, -⟩ := r2
  obtain ⟨qa, qc, rfl, -⟩ := r3
  obtain ⟨pa', pc', rfl, -⟩ := r1'
  obtain ⟨sa', sc', rfl, -⟩ := r2'
  obtain ⟨qa', qc', rfl, -⟩ := r3'
  generalize (ux t.pool).length = pn at *
  generalize (px t.stat).length = sn at *
  generalize (px t.twi).length = qn at *
  generalize (ux z.pool).length = pn' at *
  generalize (px z.stat).length = sn' at *
  generalize (px z.twi).length = qn' at *
  obtain ⟨n, vn, key, vt, vm, ho, po, lo, hi, fi, st, tw, se, qu, ra, bu⟩ := t
  obtain ⟨n', vn', key', vt', vm', ho', po', lo', hi', fi', st', tw', se', qu', ra', bu'⟩ := z
  obtain ⟨h1, h2, h3⟩ := hl
  obtain ⟨a, b, c, d, f, g, x, y, rfl⟩ := eight8 h1
  obtain ⟨a1, b1, c1, d1, f1, g1, rfl⟩ := six6 h2
  obtain ⟨a2, b2, c2, d2, f2, g2, rfl⟩ := six6 h3
  obtain ⟨h1', h2', h3'⟩ := hl'
  obtain ⟨a', b', c', d', f', g', x', y', rfl⟩ := eight8 h1'
  obtain ⟨a1', b1', c1', d1', f1', g1', rfl⟩ := six6 h2'
  obtain ⟨a2', b2', c2', d2', f2', g2', rfl⟩ := six6 h3'
  simp only at CN CP CQ
  by_cases h10 : (sb n = sb n')
  rotate_left
  · rw [decide_eq_false (fun e => h10 e.1)]
    exact ht_0 h10 CN CP CQ
  by_cases h11 : (vn = vn')
  rotate_left
  · rw [decide_eq_false (fun e => h11 e.2.1)]
    exact ht_1 h10 h11 CN CP CQ
  by_cases h12 : ([a, b, c, d, f, g, x, y] = [a', b', c', d', f', g', x', y'])
  rotate_left
  · rw [decide_eq_false (fun e => h12 e.2.2.1)]
    exact ht_2 h10 h11 h12 CN CP CQ
  by_cases h13 : (vt = vt')
  rotate_left
  · rw [decide_eq_false (fun e => h13 e.2.2.2.1)]
    exact ht_3 h10 h11 h12 h13 CN CP CQ
  by_cases h14 : ([a1, b1, c1, d1, f1, g1] = [a1', b1', c1', d1', f1', g1'])
  rotate_left
  · rw [decide_eq_false (fun e => h14 e.2.2.2.2.1)]
    exact ht_4 h10 h11 h12 h13 h14 CN CP CQ
  by_cases h15 : ([a2, b2, c2, d2, f2, g2] = [a2', b2', c2', d2', f2', g2'])
  rotate_left
  · rw [decide_eq_false (fun e => h15 e.2.2.2.2.2.1)]
    exact ht_5 h10 h11 h12 h13 h14 h15 CN CP CQ
  by_cases h16 : (po = po')
  rotate_left
  · rw [decide_eq_false (fun e => h16 e.2.2.2.2.2.2.1)]
    exact ht_6 h10 h11 h12 h13 h14 h15 h16 CN CP CQ
  by_cases h17 : (lo = lo')
  rotate_left
  · rw [decide_eq_false (fun e => h17 e.2.2.2.2.2.2.2.1)]
    exact ht_7 h10 h11 h12 h13 h14 h15 h16 h17 CN CP CQ
  by_cases h18 : (hi = hi')
  rotate_left
  · rw [decide_eq_false (fun e => h18 e.2.2.2.2.2.2.2.2.1)]
    exact ht_8 h10 h11 h12 h13 h14 h15 h16 h17 h18 CN CP CQ
  by_cases h19 : (fi = fi')
  rotate_left
  · rw [decide_eq_false (fun e => h19 e.2.2.2.2.2.2.2.2.2.1)]
    exact ht_9 h10 h11 h12 h13 h14 h15 h16 h17 h18 h19 CN CP CQ
  by_cases h20 : (st = st')
  rotate_left
  · rw [decide_eq_false (fun e => h20 e.2.2.2.2.2.2.2.2.2.2.1)]
    exact ht_10 h10 h11 h12 h13 h14 h15 h16 h17 h18 h19 h20 CN CP CQ
  by_cases h21 : (tw = tw')
  rotate_left
  · rw [decide_eq_false (fun e => h21 e.2.2.2.2.2.2.2.2.2.2.2.1)]
    exact ht_11 h10 h11 h12 h13 h14 h15 h16 h17 h18 h19 h20 h21 CN CP CQ
  by_cases h22 : (se = se')
  rotate_left
  · rw [decide_eq_false (fun e => h22 e.2.2.2.2.2.2.2.2.2.2.2.2.1)]
    exact ht_12 h10 h11 h12 h13 h14 h15 h16 h17 h18 h19 h20 h21 h22 CN CP CQ
  by_cases h23 : (qu = qu')
  rotate_left
  · rw [decide_eq_false (fun e => h23 e.2.2.2.2.2.2.2.2.2.2.2.2.2.1)]
    exact ht_13 h10 h11 h12 h13 h14 h15 h16 h17 h18 h19 h20 h21 h22 h23 CN CP CQ
  by_cases h24 : (ra = ra')
  rotate_left
  · rw [decide_eq_false (fun e => h24 e.2.2.2.2.2.2.2.2.2.2.2.2.2.2.1)]
    exact ht_14 h10 h11 h12 h13 h14 h15 h16 h17 h18 h19 h20 h21 h22 h23 h24 CN CP CQ
  by_cases h25 : (bu = bu')
  rotate_left
  · rw [decide_eq_false (fun e => h25 e.2.2.2.2.2.2.2.2.2.2.2.2.2.2.2)]
    exact ht_15 h10 h11 h12 h13 h14 h15 h16 h17 h18 h19 h20 h21 h22 h23 h24 h25 CN CP CQ
  rw [decide_eq_true ⟨h10, h11, h12, h13, h14, h15, h16, h17, h18, h19, h20, h21, h22, h23, h24, h25⟩]
  exact ht_16 h10 h11 h12 h13 h14 h15 h16 h17 h18 h19 h20 h21 h22 h23 h24 h25 CN CP CQ
end Go.Proofs.YtngegdamcfmonaaGreat

