/-
  What settings, a change, a list of tenants that come in are.
  Settings as bytes: the document's own OpenChange.
  Settings as bytes: the document's own Config and Change, at all settings and changes.
-/
import Derived.Test.YtbccadbnaggkhaaGreatKE17
import Derived.Test.YtbccadbnaggkhaaGreatKE25
import Derived.Test.YtbccadbnaggkhaaGreatKE19
import Derived.Test.YtbccadbnaggkhaaGreatKE23
namespace Go.Proofs.YtbccadbnaggkhaaGreat
open Go.ChangeShapes Go.WideShapes Go.ChangeAt Go.RowKit Go.Joins
open Sm
open Cf
set_option linter.unusedVariables false
set_option maxRecDepth 100000

/-- A tenant's arrays are bytes. -/
structure TBy (t : Ten) : Prop where
  key : IsBytes t.key
  vmac : IsBytes t.vmac
  host : IsBytes t.host
/-- A tenant's numbers are as great as they may be. -/
structure TRg (t : Ten) : Prop where
  vni : 0 ≤ t.vni ∧ t.vni ≤ 4294967295
  vtep : 0 ≤ t.vtep ∧ t.vtep ≤ 4294967295
  lo : 0 ≤ t.lo ∧ t.lo ≤ 65535
  hi : 0 ≤ t.hi ∧ t.hi ≤ 65535
  filter : -9223372036854775808 ≤ t.filter ∧ t.filter ≤ 9223372036854775807
  sess : -9223372036854775808 ≤ t.sess ∧ t.sess ≤ 9223372036854775807
  queue : -9223372036854775808 ≤ t.queue ∧ t.queue ≤ 9223372036854775807
  rate : 0 ≤ t.rate ∧ t.rate ≤ 4294967295
  burst : 0 ≤ t.burst ∧ t.burst ≤ 4294967295
  pool : ∀ x ∈ t.pool, 0 ≤ x ∧ x ≤ 4294967295
  stat : ∀ x ∈ t.stat, (0 ≤ x.1 ∧ x.1 ≤ 4294967295) ∧ 0 ≤ x.2 ∧ x.2 ≤ 4294967295
  twi : ∀ x ∈ t.twi, (0 ≤ x.1 ∧ x.1 ≤ 4294967295) ∧ 0 ≤ x.2 ∧ x.2 ≤ 4294967295
section
variable {H : Type} {enc : TypeId × Value → H} {W : World} {base : Nat} {held : Bool}
theorem open_nums2 {fuel : Nat} {cs : List Value} {x : DataW H × List MemPlace} (h : DataW.trod enc Tryz.prog W base (fun _ => true) held fuel 30 cs = some x) :
    ∃ (v : Value) (l : List Int), cs = [v] ∧ Rw W 1 v (ux l) ∧ ∀ x ∈ l, 0 ≤ x ∧ x ≤ 4294967295 := by
  rcases open_ints Tryz.underlying30 Tryz.underlying26 (by kernel_rfl) h with ⟨rfl, _⟩ | ⟨a, len, cap, zs, rfl, _, hl, hm, hz, _, hcell, hwz⟩
  · exact ⟨_, [], rfl, ⟨none, 0, rfl, Nat.le_refl _, by omega, fun _ => rfl, Or.inl rfl⟩, by simp⟩
  · simp only [if_true] at hz
    have e : (ux (zs.take len)).length = len := by simp [ux]; omega
    refine ⟨_, zs.take len, rfl, ⟨some a, cap, by rw [e], by omega, hm, (fun e => by cases e), ?_⟩, fun x hx => bounds_u32 (hwz x (List.mem_of_mem_take hx))⟩
    by_cases h0 : len = 0
    · left
      subst h0
      simp [ux]
    · right
      obtain ⟨b, off, spot⟩ := a
      have hspot : spot = none := by
        have hc := hcell 0 (by omega)
        simpa [Addr.add] using World.cell?_spot hc
      subst hspot
      refine ⟨b, off, rfl, fun i hi j u hu => ?_⟩
      rw [e] at hi
      have hi' : i < (zs.take len).length := by simp; omega
      have hg : (ux (zs.take len)).getD i [] = [.int .u32 (zs.getD i 0)] := by
        rw [List.getD, ux, List.getElem?_map, List.getElem?_take, if_pos hi, List.getD, List.getElem?_eq_getElem (by omega)]
        rfl
      rw [hg] at hu
      match j, hu with
      | 0, hu =>
        simp at hu
        subst hu
        have hc := hcell i (by omega)
        rw [addr_add] at hc
        simpa using hc
theorem open_pairs2 {fuel : Nat} {cs : List Value} {x : DataW H × List MemPlace} (h : DataW.trod enc Tryz.prog W base (fun _ => true) held fuel 32 cs = some x) :
    ∃ (v : Value) (l : List (Int × Int)), cs = [v] ∧ Rw W 2 v (px l) ∧ ∀ x ∈ l, (0 ≤ x.1 ∧ x.1 ≤ 4294967295) ∧ 0 ≤ x.2 ∧ x.2 ≤ 4294967295 := by
  rcases Go.Deep.open_slice Tryz.underlying32 h with ⟨rfl, _⟩ | ⟨a, len, cap, m, n, D, Pl, rfl, _, hl, hm, hmm, _, hx⟩
  · exact ⟨_, [], rfl, ⟨none, 0, rfl, Nat.le_refl _, by omega, fun _ => rfl, Or.inl rfl⟩, by simp⟩
  · have hlm : len ≤ m := by simp at hmm; omega
    by_cases h0 : len = 0
    · subst h0
      exact ⟨_, [], rfl, ⟨some a, cap, rfl, Nat.zero_le _, hm, (fun e => by cases e), Or.inl rfl⟩, by simp⟩
    · rw [show Tryz.prog.cellsOf 62 = 2 by kernel_rfl] at hx
      obtain ⟨b, off, spot⟩ := a
      have hspot : spot = none := by
        obtain ⟨cs', h1, h2⟩ := hx 0 (by omega)
        obtain ⟨_, hlen, hcell⟩ := World.cells?_some h1
        have hc := hcell 0 (by omega)
        rw [List.getElem?_eq_getElem (by omega)] at hc
        simpa [Addr.add] using World.cell?_spot hc
      subst hspot
      obtain ⟨l, hll, hq⟩ := list_of (fun i (x : Int × Int) => W.cell? ⟨b, off + i * 2, none⟩ = some (.int .u32 x.1) ∧ W.cell? ⟨b, off + i * 2 + 1, none⟩ = some (.int .u32 x.2) ∧ (0 ≤ x.1 ∧ x.1 ≤ 4294967295) ∧ 0 ≤ x.2 ∧ x.2 ≤ 4294967295) len (fun i hi => by
        obtain ⟨cs', h1, h2⟩ := hx i (by omega)
        obtain ⟨_, hlen, hcell⟩ := World.cells?_some h1
        match cs', hlen with
        | [v0, v1], _ =>
          have e0 := hcell 0 (by omega)
          have e1 := hcell 1 (by omega)
          rw [Go.Deep.add_add] at e0 e1
          rw [addr_add] at e0 e1
          obtain ⟨y0, y1, n', g0, g1⟩ := trod_struct2 Tryz.underlying62 h2
          have k0 : DataW.trod enc Tryz.prog W base (fun _ => true) held n' 26 [v0] = some y0 := by
            have := g0; simp only [show Tryz.prog.cellsOf 26 = 1 by kernel_rfl] at this; exact this
          have k1 : DataW.trod enc Tryz.prog W base (fun _ => true) held n' 26 [v1] = some y1 := by
            have := g1; simp only [show Tryz.prog.cellsOf 26 = 1 by kernel_rfl] at this; exact this
          obtain ⟨x0, rfl, q0⟩ := open_cell Tryz.underlying26 k0
          obtain ⟨x1, rfl, q1⟩ := open_cell Tryz.underlying26 k1
          exact ⟨(x0, x1), by simpa using e0, by simpa [Nat.add_assoc] using e1, bounds_u32 q0, bounds_u32 q1⟩)
      have e : (px l).length = len := by simp [px, hll]
      refine ⟨_, l, rfl, ⟨some ⟨b, off, none⟩, cap, by rw [e], by omega, hm, (fun e => by cases e), Or.inr ⟨b, off, rfl, fun i hi j u hu => ?_⟩⟩, fun x hx => by
        obtain ⟨i, hi, rfl⟩ := List.getElem_of_mem hx
        exact (hq i _ (List.getElem?_eq_getElem hi)).2.2⟩
      rw [e] at hi
      have hg : (px l).getD i [] = [.int .u32 (l[i]'(by omega)).1, .int .u32 (l[i]'(by omega)).2] := by
        rw [List.getD, px, List.getElem?_map, List.getElem?_eq_getElem (by omega)]
        rfl
      rw [hg] at hu
      obtain ⟨q0, q1, -⟩ := hq i _ (List.getElem?_eq_getElem (by omega))
      match j, hu with
      | 0, hu =>
        simp at hu
        subst hu
        simpa using q0
      | 1, hu =>
        simp at hu
        subst hu
        exact q1
theorem open_cells2 {fuel : Nat} {cs : List Value} {x : DataW H × List MemPlace} (hf : DataW.trod enc Tryz.prog W base (fun _ => true) held fuel 34 cs = some x) :
    ∃ (t : Ten) (p s q : Value), cs = tc t p s q ∧ TLen t ∧ Rw W 1 p (ux t.pool) ∧ Rw W 2 s (px t.stat) ∧ Rw W 2 q (px t.twi) ∧ TBy t ∧ TRg t := by
  obtain ⟨n, hl, ⟨y0, g0⟩, ⟨y1, g1⟩, ⟨y2, g2⟩, ⟨y3, g3⟩, ⟨y4, g4⟩, ⟨y5, g5⟩, ⟨y6, g6⟩, ⟨y7, g7⟩, ⟨y8, g8⟩, ⟨y9, g9⟩, ⟨y10, g10⟩, ⟨y11, g11⟩, ⟨y12, g12⟩, ⟨y13, g13⟩, ⟨y14, g14⟩, ⟨y15, g15⟩⟩ := trod_struct16 Tryz.underlying34 hf
  rw [show Tryz.prog.cellsOf 34 = 33 by kernel_rfl] at hl
  have c1 : Tryz.prog.cellsOf 9 = 1 := by kernel_rfl
  have c2 : Tryz.prog.cellsOf 26 = 1 := by kernel_rfl
  have c3 : Tryz.prog.cellsOf 27 = 8 := by kernel_rfl
  have c4 : Tryz.prog.cellsOf 29 = 6 := by kernel_rfl
  have c5 : Tryz.prog.cellsOf 30 = 1 := by kernel_rfl
  have c6 : Tryz.prog.cellsOf 31 = 1 := by kernel_rfl
  have c7 : Tryz.prog.cellsOf 3 = 1 := by kernel_rfl
  have c8 : Tryz.prog.cellsOf 32 = 1 := by kernel_rfl
  simp only [c1, c2, c3, c4, c5, c6, c7, c8] at g0 g1 g2 g3 g4 g5 g6 g7 g8 g9 g10 g11 g12 g13 g14 g15
  obtain ⟨nm, e0, -⟩ := DataW.trod_string Tryz.underlying9 g0
  obtain ⟨vni, e1, -, w1⟩ := DataW.trod_int Tryz.underlying26 g1
  obtain ⟨key, e2, l2, b2⟩ := open_arr Tryz.underlying27 c3 g2
  obtain ⟨vtep, e3, -, w3⟩ := DataW.trod_int Tryz.underlying26 g3
  obtain ⟨vmac, e4, l4, b4⟩ := open_arr Tryz.underlying29 c4 g4
  obtain ⟨host, e5, l5, b5⟩ := open_arr Tryz.underlying29 c4 g5
  obtain ⟨p, pool, e6, r6, w6⟩ := open_nums2 g6
  obtain ⟨lo, e7, -, w7⟩ := DataW.trod_int Tryz.underlying31 g7
  obtain ⟨hi, e8, -, w8⟩ := DataW.trod_int Tryz.underlying31 g8
  obtain ⟨fi, e9, -, w9⟩ := DataW.trod_int Tryz.underlying3 g9
  obtain ⟨s, stat, e10, r10, w10⟩ := open_pairs2 g10
  obtain ⟨q, twi, e11, r11, w11⟩ := open_pairs2 g11
  obtain ⟨se, e12, -, w12⟩ := DataW.trod_int Tryz.underlying3 g12
  obtain ⟨qu, e13, -, w13⟩ := DataW.trod_int Tryz.underlying3 g13
  obtain ⟨ra, e14, -, w14⟩ := DataW.trod_int Tryz.underlying26 g14
  obtain ⟨bu, e15, -, w15⟩ := DataW.trod_int Tryz.underlying26 g15
  have step : ∀ o n o', o + n = o' → cs.drop o = (cs.drop o).take n ++ cs.drop o' := by
    intro o n o' e
    subst e
    rw [← List.drop_drop, List.take_append_drop]
  refine ⟨⟨nm, vni, key, vtep, vmac, host, pool, lo, hi, fi, stat, twi, se, qu, ra, bu⟩, p, s, q, ?_, ⟨l2, l4, l5⟩, r6, r10, r11, ⟨b2, b4, b5⟩, ⟨bounds_u32 w1, bounds_u32 w3, bounds_u16 w7, bounds_u16 w8, bounds_i64 w9, bounds_i64 w12, bounds_i64 w13, bounds_u32 w14, bounds_u32 w15, w6, w10, w11⟩⟩
  have hend : cs.drop 33 = [] := by rw [List.drop_eq_nil_iff]; omega
  refine (List.drop_zero (l := cs)).symm.trans ?_
  rw [step 0 1 1 rfl, e0, step 1 1 2 rfl, e1, step 2 8 10 rfl, e2, step 10 1 11 rfl, e3, step 11 6 17 rfl, e4, step 17 6 23 rfl, e5, step 23 1 24 rfl, e6, step 24 1 25 rfl, e7, step 25 1 26 rfl, e8, step 26 1 27 rfl, e9, step 27 1 28 rfl, e10, step 28 1 29 rfl, e11, step 29 1 30 rfl, e12, step 30 1 31 rfl, e13, step 31 1 32 rfl, e14, step 32 1 33 rfl, e15, hend]
  simp only [tc, List.cons_append, List.nil_append, List.append_nil]
theorem open_tens {fuel : Nat} {cs : List Value} {x : DataW H × List MemPlace} (h : DataW.trod enc Tryz.prog W base (fun _ => true) held fuel 22 cs = some x) :
    ∃ (v : Value) (ts : List Ten), cs = [v] ∧ TSV W v ts ∧ ∀ t ∈ ts, TBy t ∧ TRg t := by
  rcases Go.Deep.open_slice Tryz.underlying22 h with ⟨rfl, _⟩ | ⟨a, len, cap, m, n, D, Pl, rfl, _, hl, hm, hmm, _, hx⟩
  · exact ⟨_, [], rfl, ⟨[], rfl, ⟨none, 0, rfl, Nat.le_refl _, by omega, fun _ => rfl, Or.inl rfl⟩, by simp⟩, by simp⟩
  · have hlm : len ≤ m := by simp at hmm; omega
    by_cases h0 : len = 0
    · subst h0
      exact ⟨_, [], rfl, ⟨[], rfl, ⟨some a, cap, rfl, Nat.zero_le _, hm, (fun e => by cases e), Or.inl rfl⟩, by simp⟩, by simp⟩
    · rw [show Tryz.prog.cellsOf 34 = 33 by kernel_rfl] at hx
      obtain ⟨b, off, spot⟩ := a
      have hspot : spot = none := by
        obtain ⟨cs', h1, h2⟩ := hx 0 (by omega)
        obtain ⟨_, hlen, hcell⟩ := World.cells?_some h1
        have hc := hcell 0 (by omega)
        rw [List.getElem?_eq_getElem (by omega)] at hc
        simpa [Addr.add] using World.cell?_spot hc
      subst hspot
      obtain ⟨zs, hll, hq⟩ := list_of (fun i (z : Tv) => (∀ j u, (zc z)[j]? = some u → W.cell? ⟨b, off + i * 33 + j, none⟩ = some u) ∧ (TLen z.1 ∧ Rws W z) ∧ TBy z.1 ∧ TRg z.1) len (fun i hi => by
        obtain ⟨cs', h1, h2⟩ := hx i (by omega)
        obtain ⟨_, hlen, hcell⟩ := World.cells?_some h1
        obtain ⟨t, p, s, q, e, k1, k2, k3, k4, k5, k6⟩ := open_cells2 h2
        refine ⟨(t, p, s, q), fun j u hj => ?_, ⟨k1, k2, k3, k4⟩, k5, k6⟩
        have hj' : cs'[j]? = some u := by rw [e]; exact hj
        have hjl : j < 33 := by
          have := (List.getElem?_eq_some_iff.1 hj').1
          omega
        have hc := hcell j hjl
        rw [hj', Go.Deep.add_add, addr_add] at hc
        simpa [Nat.add_assoc] using hc)
      have e : (zs.map zc).length = len := by simp [hll]
      refine ⟨_, zs.map Prod.fst, rfl, ⟨zs, rfl, ⟨some ⟨b, off, none⟩, cap, by rw [e], by omega, hm, (fun e => by cases e), Or.inr ⟨b, off, rfl, fun i hi j u hu => ?_⟩⟩, fun z hz => ?_⟩, fun t ht => ?_⟩
      · rw [e] at hi
        have hg : (zs.map zc).getD i [] = zc (zs[i]'(by omega)) := by
          rw [List.getD, List.getElem?_map, List.getElem?_eq_getElem (by omega)]
          rfl
        rw [hg] at hu
        exact (hq i _ (List.getElem?_eq_getElem (by omega))).1 j u hu
      · obtain ⟨i, hi, rfl⟩ := List.getElem_of_mem hz
        exact (hq i _ (List.getElem?_eq_getElem hi)).2.1
      · obtain ⟨z, hz, rfl⟩ := List.mem_map.mp ht
        obtain ⟨i, hi, rfl⟩ := List.getElem_of_mem hz
        exact (hq i _ (List.getElem?_eq_getElem hi)).2.2
/-- The numbers of settings. -/
structure CRg (c : Cgf) : Prop where
  ip : 0 ≤ c.ip ∧ c.ip ≤ 4294967295
  drain : 0 ≤ c.drain ∧ c.drain ≤ 4294967295
theorem open_tenants {r : Reach} {b0 : Nat} {v : Value} {d : DataW H} {p : List MemPlace} (hv : Value.okWide Tryz.prog W r b0 22 v) (h : DataW.Trod enc Tryz.prog W base (fun _ => true) held 22 v d p) :
    ∃ ts : List Ten, TSV W v ts ∧ ∀ t ∈ ts, TBy t ∧ TRg t := by
  obtain ⟨a, len, cap, rfl⟩ := okWide_slice Tryz.underlying22 hv
  obtain ⟨fuel, hf⟩ := h
  obtain ⟨v, ts, e, h1, h2⟩ := open_tens hf
  simp [Value.cells] at e
  subst e
  exact ⟨ts, h1, h2⟩
end
end Go.Proofs.YtbccadbnaggkhaaGreat

namespace Go.Proofs.YtbccadbnaggkhaaGreat
open Go.RowKit
open Sm
open Cf
set_option linter.unusedVariables false
set_option linter.unusedSimpArgs false
set_option maxRecDepth 20000

end Go.Proofs.YtbccadbnaggkhaaGreat

namespace Go.Proofs.YtbccadbnaggkhaaGreat
open Go.RowKit
open Sm
open Cf
set_option linter.unusedVariables false
set_option linter.unusedSimpArgs false
set_option maxRecDepth 20000

theorem tsv_at {V : World} {a : Option Addr} {n c : Nat} {zs : List Tv} (hr : Rw V 33 (.slice a n c) (zs.map zc)) (hz : ∀ z ∈ zs, TLen z.1 ∧ Rws V z) (i : Nat) (hi : i < zs.length) : ∃ b off x, a = some ⟨b, off, none⟩ ∧ V.rangeAt b (off + i * 33) x ∧ x.length = 33 ∧ x.toArray.all (·.oneCell') = true ∧ TV V (.agg x.toArray) ((zs.map Prod.fst).getD i ten0) := by
  obtain ⟨b, off, rfl, hc⟩ := rw_at hr i (by rw [List.length_map]; exact hi)
  obtain ⟨z, hx⟩ : ∃ z, zs[i]? = some z := ⟨_, List.getElem?_eq_getElem hi⟩
  have hzm := hz z (List.mem_of_getElem? hx)
  have ex : (zs.map zc).getD i [] = zc z := by simp [List.getD, hx]
  rw [ex] at hc
  have et : (zs.map Prod.fst).getD i ten0 = z.1 := by simp [List.getD, hx]
  rw [et]
  exact ⟨b, off, zc z, rfl, fun j u hj => hc j u hj, tc_len hzm.1 _ _ _, zc_one hzm.2, hzm.1, z.2.1, z.2.2.1, z.2.2.2, rfl, hzm.2⟩
theorem Ob.none {w W : World} {u : Value} {l : List Int} {K : List (Nat × Obj)} {n : Nat} (h : Ob w W u l K n) : Ob w W u l [] n := ⟨h.1.none, h.2⟩
end Go.Proofs.YtbccadbnaggkhaaGreat

