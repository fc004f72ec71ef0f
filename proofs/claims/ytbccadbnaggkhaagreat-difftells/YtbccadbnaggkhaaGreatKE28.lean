/-
  Settings held against one another: lychhelp.Tenants, Config and Changes, where both are the same.
  Settings as bytes: the document's settings: numbers.
-/
import Derived.Test.YtbccadbnaggkhaaGreatKE27
import Derived.Test.YtbccadbnaggkhaaGreatKE24
import Derived.Test.YtbccadbnaggkhaaGreatKE25
namespace Go.Proofs.YtbccadbnaggkhaaGreat
open Go.RowKit
open Sm
open Cf
set_option linter.unusedVariables false
set_option linter.unusedSimpArgs false
set_option maxRecDepth 20000

/-- A tenant's lists are not too long. -/
def TFew (t : Ten) : Prop := t.pool.length ≤ 1000000 ∧ t.stat.length ≤ 1000000 ∧ t.twi.length ≤ 1000000
set_option maxHeartbeats 8000000 in
theorem htenant_yes {w : World} {va vb : Value} {t z : Ten} (ha : TV w va t) (hb : TV w vb z) (hf : TFew t) (h : TSame t z) :
    Calls Tryz.prog 15 #[va, vb] w fun e w' => e = .returned (.bool true) ∧ Below w.heap.size w w' := by
  obtain ⟨hp, hs, hq⟩ := hf
  obtain ⟨hl, p, s, q, rfl, r1, r2, r3⟩ := ha
  obtain ⟨hl', p', s', q', rfl, r1', r2', r3'⟩ := hb
  have CN := fun V (hV : Below w.heap.size w V) => nums_any p p' t.pool z.pool (r1.at_ ux_ne hV) (r1'.at_ ux_ne hV) hp
  have CP := fun V (hV : Below w.heap.size w V) => pairs_any s s' t.stat z.stat (r2.at_ px_ne hV) (r2'.at_ px_ne hV) hs
  have CQ := fun V (hV : Below w.heap.size w V) => pairs_any q q' t.twi z.twi (r3.at_ px_ne hV) (r3'.at_ px_ne hV) hq
  obtain ⟨pa, pc, rfl, -⟩ := r1
  obtain ⟨sa, sc, rfl, -⟩ := r2
  obtain ⟨qa, qc, rfl, -⟩ := r3
  obtain ⟨pa', pc', rfl, -⟩ := r1'
  obtain ⟨sa', sc', rfl, -⟩ := r2'
  obtain ⟨qa', qc', rfl, -⟩ := r3'
  generalize (ux t.pool).length = pn at *
  generalize (px t.stat).length = sn at *
  generalize (px t.twi).length = qn at *
  generalize (ux z.pool).length = pn' at *
  generalize (px z.stat).length = sn' at *
  generalize (px z.twi).length = qn' at *
  obtain ⟨n, vn, key, vt, vm, ho, po, lo, hi, fi, st, tw, se, qu, ra, bu⟩ := t
  obtain ⟨n', vn', key', vt', vm', ho', po', lo', hi', fi', st', tw', se', qu', ra', bu'⟩ := z
  obtain ⟨h1, h2, h3⟩ := hl
  obtain ⟨a, b, c, d, f, g, x, y, rfl⟩ := eight8 h1
  obtain ⟨a1, b1, c1, d1, f1, g1, rfl⟩ := six6 h2
  obtain ⟨a2, b2, c2, d2, f2, g2, rfl⟩ := six6 h3
  obtain ⟨h1', h2', h3'⟩ := hl'
  obtain ⟨a', b', c', d', f', g', x', y', rfl⟩ := eight8 h1'
  obtain ⟨a1', b1', c1', d1', f1', g1', rfl⟩ := six6 h2'
  obtain ⟨a2', b2', c2', d2', f2', g2', rfl⟩ := six6 h3'
  simp only at CN CP CQ
  obtain ⟨h10, h11, h12, h13, h14, h15, h16, h17, h18, h19, h20, h21, h22, h23, h24, h25⟩ := h
  exact ht_16 h10 h11 h12 h13 h14 h15 h16 h17 h18 h19 h20 h21 h22 h23 h24 h25 CN CP CQ
theorem TSV.slice {w : World} {v : Value} {ts : List Ten} (h : TSV w v ts) : ∃ a n c, v = .slice a n c := by
  obtain ⟨zs, -, ⟨a, c, e, -⟩, -⟩ := h
  exact ⟨a, _, c, e⟩
end Go.Proofs.YtbccadbnaggkhaaGreat

namespace Go.Proofs.YtbccadbnaggkhaaGreat
open Go.RowKit
open Sm
open Cf
set_option linter.unusedVariables false
set_option linter.unusedSimpArgs false
set_option maxRecDepth 20000

def c1 (σ : Option (List Int)) := nx 4 σ
def c2 (σ : Option (List Int)) := nx 6 (c1 σ)
def c3 (σ : Option (List Int)) := nx 6 (c2 σ)
def c4 (σ : Option (List Int)) := nx 6 (c3 σ)
def c5 (σ : Option (List Int)) := nx 8 (c4 σ)
def c6 (σ : Option (List Int)) := nx 4 (c5 σ)
def c7 (σ : Option (List Int)) := nx 1 (c6 σ)
end Go.Proofs.YtbccadbnaggkhaaGreat

