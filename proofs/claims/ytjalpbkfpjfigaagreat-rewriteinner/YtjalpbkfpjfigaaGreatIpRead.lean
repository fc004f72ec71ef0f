/-
  What package ip's read answers: the packet, or a failure.
-/
import Derived.Test.YtjalpbkfpjfigaaGreatIpSplit
namespace Go.Proofs.YtjalpbkfpjfigaaGreat
open Go.RowKit
open Sm
set_option linter.unusedVariables false
set_option maxRecDepth 20000

abbrev ipT : TypeId := 42
abbrev ipA (tos ttl proto id flags off src dst : Int) (o b : Value) : Array Value :=
  #[.int .u8 tos, .int .u8 ttl, .int .u8 proto, .int .u16 id, .int .u8 flags, .int .u16 off, .int .u32 src, .int .u32 dst, o, b]
abbrev ip0 : Array Value := ipA 0 0 0 0 0 0 0 0 (.slice none 0 0) (.slice none 0 0)

/-- A value that is the packet p, its lists behind base B. -/
def IpV (w : World) (B : Nat) (v : Value) (p : Pk) : Prop :=
  ∃ ao co bo cb, v = .agg (ipA p.tos p.ttl p.proto p.id p.flags p.off p.src p.dst (.slice ao p.opts.length co) (.slice bo p.body.length cb)) ∧ Row w ao p.opts ∧ Row w bo p.body ∧ (ao = none → co = 0) ∧ (bo = none → cb = 0) ∧
    (∀ x, ao = some x → B ≤ x.block) ∧ (∀ x, bo = some x → B ≤ x.block)
theorem IpV.below {w w' : World} {C : Nat} {v : Value} {p : Pk} (h : IpV w C v p) {B : Nat} (hb : Below B w w') (hB : w.heap.size ≤ B) : IpV w' C v p := by
  obtain ⟨ao, co, bo, cb, e, h1, h2, h3⟩ := h
  exact ⟨ao, co, bo, cb, e, h1.below hb hB, h2.below hb hB, h3⟩
theorem IpV.mono {w : World} {C D : Nat} {v : Value} {p : Pk} (h : IpV w C v p) (hD : D ≤ C) : IpV w D v p := by
  obtain ⟨ao, co, bo, cb, e, h1, h2, h3, h4, h5, h6⟩ := h
  exact ⟨ao, co, bo, cb, e, h1, h2, h3, h4, fun x hx => Nat.le_trans hD (h5 x hx), fun x hx => Nat.le_trans hD (h6 x hx)⟩
theorem ipv_zero (w : World) (B : Nat) : IpV w B (.agg ip0) Pk.zero := ⟨none, 0, none, 0, rfl, row_nil w, row_nil w, fun _ => rfl, fun _ => rfl, fun x hx => (by cases hx), fun x hx => (by cases hx)⟩

/-- The body's room: a slice's capacity is its length at least. -/
def IpCap (v : Value) (p : Pk) : Prop := ∃ ao co bo cb, v = .agg (ipA p.tos p.ttl p.proto p.id p.flags p.off p.src p.dst (.slice ao p.opts.length co) (.slice bo p.body.length cb)) ∧ p.body.length ≤ cb
theorem ipcap_zero : IpCap (.agg ip0) Pk.zero := ⟨none, 0, none, 0, rfl, Nat.le_refl _⟩
theorem IpCap.le {p : Pk} {ao bo : Option Addr} {n m co cb : Nat} (h : IpCap (.agg (ipA p.tos p.ttl p.proto p.id p.flags p.off p.src p.dst (.slice ao n co) (.slice bo m cb))) p) : p.body.length ≤ cb := by
  obtain ⟨ao', co', bo', cb', e, h⟩ := h
  simp only [ipA, Value.agg.injEq, Array.mk.injEq, List.cons.injEq, true_and, and_true, Value.slice.injEq] at e
  obtain ⟨-, -, -, rfl⟩ := e
  exact h

section steps
variable {w W : World} {L : List (Nat × Obj)} {i R b off m c j : Nat} {h : List Int}

theorem rd_far (hM : Mem w W L) (hi : L[i]? = some (R, .cells (rdr b (off + j) (m - j) (c - j)) rdT (0, 0))) (hb : b < w.heap.size) : R ≠ b := by
  have := hM.ge i hi
  omega

theorem take_at (hM : Mem w W L) (hi : L[i]? = some (R, .cells (rdr b (off + j) (m - j) (c - j)) rdT (0, 0))) (k : Nat) (hc : m ≤ c) (hj : j + k < m) (hm : m ≤ 140737488351232) :
    Calls Tryz.prog 99 #[.pointer (some ⟨R, 0, none⟩), .int .i64 k] W fun r W' => (∃ v, r = .returned v) ∧ Mem w W' (L.set i (R, .cells (rdr b (off + (j + k)) (m - (j + k)) (c - (j + k))) rdT (0, 0))) := by
  refine (take_wrote (hM.get i hi) k (by omega) (by omega) (by omega)).mono ?_
  rintro r W' ⟨rfl, off', ho, hw⟩
  obtain rfl := ho (by omega)
  have := hM.wrote i hi hw
  rw [Nat.sub_sub, Nat.sub_sub, Nat.add_assoc] at this
  exact ⟨⟨_, rfl⟩, this⟩

theorem octet_at (hM : Mem w W L) (hi : L[i]? = some (R, .cells (rdr b (off + j) (m - j) (c - j)) rdT (0, 0))) (hr : Row w (some ⟨b, off, none⟩) h) (hl : h.length = m) (hb : b < w.heap.size) (hc : m ≤ c) (hj : j + 1 < m) :
    Calls Tryz.prog 100 #[.pointer (some ⟨R, 0, none⟩)] W fun r W' => r = .returned (.int .u8 (h.getD j 0)) ∧ Mem w W' (L.set i (R, .cells (rdr b (off + (j + 1)) (m - (j + 1)) (c - (j + 1))) rdT (0, 0))) := by
  have hlen := hr.len
  refine (octet_ok (hM.get i hi) (rd_far hM hi hb) _ ((hM.row hr).cellAt j (by omega)) (by omega) (by omega) (by omega)).mono ?_
  rintro r W' ⟨rfl, off', ho, hw⟩
  obtain rfl := ho (by omega)
  have := hM.wrote i hi hw
  rw [Nat.sub_sub, Nat.sub_sub, Nat.add_assoc] at this
  exact ⟨rfl, this⟩

theorem word_at (hM : Mem w W L) (hi : L[i]? = some (R, .cells (rdr b (off + j) (m - j) (c - j)) rdT (0, 0))) (hr : Row w (some ⟨b, off, none⟩) h) (hl : h.length = m) (hb : b < w.heap.size) (hc : m ≤ c) (hj : j + 2 < m) :
    Calls Tryz.prog 101 #[.pointer (some ⟨R, 0, none⟩)] W fun r W' => r = .returned (.int .u16 (w16 h j)) ∧ Mem w W' (L.set i (R, .cells (rdr b (off + (j + 2)) (m - (j + 2)) (c - (j + 2))) rdT (0, 0))) := by
  have hlen := hr.len
  have b0 := hr.bytes j
  have b1 := hr.bytes (j + 1)
  refine (word_ok (hM.get i hi) (rd_far hM hi hb) _ _ ((hM.row hr).cellAt j (by omega)) ((hM.row hr).cellAt (j + 1) (by omega)) b0.1 b0.2 b1.1 b1.2 (by omega) (by omega) (by omega)).mono ?_
  rintro r W' ⟨rfl, off', ho, hw⟩
  obtain rfl := ho (by omega)
  have := hM.wrote i hi hw
  rw [Nat.sub_sub, Nat.sub_sub, Nat.add_assoc] at this
  exact ⟨rfl, this⟩

theorem long_end (hM : Mem w W L) (hi : L[i]? = some (R, .cells (rdr b (off + j) (m - j) (c - j)) rdT (0, 0))) (hr : Row w (some ⟨b, off, none⟩) h) (hl : h.length = m) (hb : b < w.heap.size) (hc : m ≤ c) (hj : j + 4 ≤ m) :
    Calls Tryz.prog 102 #[.pointer (some ⟨R, 0, none⟩)] W fun r W' => r = .returned (.int .u32 (w32 h j)) ∧ ∃ off', (j + 4 < m → off' = off + (j + 4)) ∧ Mem w W' (L.set i (R, .cells (rdr b off' (m - (j + 4)) (c - (j + 4))) rdT (0, 0))) := by
  have hlen := hr.len
  have b0 := hr.bytes j
  have b1 := hr.bytes (j + 1)
  have b2 := hr.bytes (j + 2)
  have b3 := hr.bytes (j + 3)
  refine (long_ok (hM.get i hi) (rd_far hM hi hb) _ _ _ _ ((hM.row hr).cellAt j (by omega)) ((hM.row hr).cellAt (j + 1) (by omega)) ((hM.row hr).cellAt (j + 2) (by omega)) ((hM.row hr).cellAt (j + 3) (by omega)) b0.1 b0.2 b1.1 b1.2 b2.1 b2.2 b3.1 b3.2 (by omega) (by omega) (by omega)).mono ?_
  rintro r W' ⟨rfl, off', ho, hw⟩
  have := hM.wrote i hi hw
  rw [Nat.sub_sub, Nat.sub_sub] at this
  refine ⟨rfl, off', fun h => ?_, this⟩
  rw [ho (by omega)]; omega

theorem long_at (hM : Mem w W L) (hi : L[i]? = some (R, .cells (rdr b (off + j) (m - j) (c - j)) rdT (0, 0))) (hr : Row w (some ⟨b, off, none⟩) h) (hl : h.length = m) (hb : b < w.heap.size) (hc : m ≤ c) (hj : j + 4 < m) :
    Calls Tryz.prog 102 #[.pointer (some ⟨R, 0, none⟩)] W fun r W' => r = .returned (.int .u32 (w32 h j)) ∧ Mem w W' (L.set i (R, .cells (rdr b (off + (j + 4)) (m - (j + 4)) (c - (j + 4))) rdT (0, 0))) := by
  refine (long_end hM hi hr hl hb hc (by omega)).mono ?_
  rintro r W' ⟨rfl, off', ho, hM'⟩
  obtain rfl := ho hj
  exact ⟨rfl, hM'⟩
end steps

theorem sm_low13 (x : Int) (h0 : 0 ≤ x) (h1 : x ≤ 65535) : bits .and .u16 x 8191 = x % 8192 := bits_mask .u16 16 (by decide) wraps_u16 13 (by decide) x h0 (by omega)
end Go.Proofs.YtjalpbkfpjfigaaGreat
