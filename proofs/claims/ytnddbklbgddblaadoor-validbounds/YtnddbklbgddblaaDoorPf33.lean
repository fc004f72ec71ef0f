/-
  Which settings may be: a tenant in a box; what it owns.
  Settings as bytes: the document's OpenConfig: tenants of the call's own, in blocks.
-/
import Derived.Test.YtnddbklbgddblaaDoorPf32
import Derived.Test.YtnddbklbgddblaaDoorPf29
import Derived.Test.YtnddbklbgddblaaDoorPf26
import Derived.Test.YtnddbklbgddblaaDoorPf31
namespace Go.Proofs.YtnddbklbgddblaaDoor
open Go.RowKit
open Va
set_option linter.unusedVariables false
set_option linter.unusedSimpArgs false
set_option maxRecDepth 20000

/-- A tenant's cells, told one by one. -/
structure TBx (w : World) (tl : List Value) (t : Ten) (pa sa qa : Option Addr) (pc sc qc : Nat) : Prop where
  len : tl.length = 33
  one : tl.toArray.all (·.oneCell') = true
  name : tl[0]? = some (.string t.name)
  vni : tl[1]? = some (.int .u32 t.vni)
  vtep : tl[10]? = some (.int .u32 t.vtep)
  pool : tl[23]? = some (.slice pa t.pool.length pc)
  lo : tl[24]? = some (.int .u16 t.lo)
  hi : tl[25]? = some (.int .u16 t.hi)
  filter : tl[26]? = some (.int .i64 t.filter)
  stat : tl[27]? = some (.slice sa t.stat.length sc)
  twi : tl[28]? = some (.slice qa t.twi.length qc)
  sess : tl[29]? = some (.int .i64 t.sess)
  queue : tl[30]? = some (.int .i64 t.queue)
  rate : tl[31]? = some (.int .u32 t.rate)
  burst : tl[32]? = some (.int .u32 t.burst)
  tv : TV w (.agg tl.toArray) t
  rp : Rw w 1 (.slice pa t.pool.length pc) (ux t.pool)
  rs : Rw w 2 (.slice sa t.stat.length sc) (px t.stat)
  rq : Rw w 2 (.slice qa t.twi.length qc) (px t.twi)
theorem TV.tb {w : World} {v : Value} {t : Ten} (h : TV w v t) : ∃ tl pa sa qa pc sc qc, v = .agg tl.toArray ∧ TBx w tl t pa sa qa pc sc qc := by
  have h0 := h
  obtain ⟨hl, p, s, q, rfl, hp, hs, hq⟩ := h
  have hp0 := hp
  have hs0 := hs
  have hq0 := hq
  obtain ⟨pa, pc, rfl, -⟩ := hp
  obtain ⟨sa, sc, rfl, -⟩ := hs
  obtain ⟨qa, qc, rfl, -⟩ := hq
  have k1 : (ux t.pool).length = t.pool.length := by simp [ux]
  have k2 : (px t.stat).length = t.stat.length := by simp [px]
  have k3 : (px t.twi).length = t.twi.length := by simp [px]
  rw [k1] at hp0 h0 ⊢
  rw [k2] at hs0 h0 ⊢
  rw [k3] at hq0 h0 ⊢
  refine ⟨_, pa, sa, qa, pc, sc, qc, rfl, tc_len hl _ _ _, ?_, ?_, ?_, ?_, ?_, ?_, ?_, ?_, ?_, ?_, ?_, ?_, ?_, ?_, h0, hp0, hs0, hq0⟩
  · exact tc_one3 _ rfl rfl rfl
  all_goals
    obtain ⟨n, vn, key, vt, vm, ho, po, lo, hi, fi, st, tw, se, qu, ra, bu⟩ := t
    obtain ⟨h1, h2, h3⟩ := hl
    obtain ⟨a, b, c, d, f, g, x, y, rfl⟩ := eight8 h1
    obtain ⟨a1, b1, c1, d1, f1, g1, rfl⟩ := six6 h2
    obtain ⟨a2, b2, c2, d2, f2, g2, rfl⟩ := six6 h3
    rfl
theorem TV.at_' {w V : World} {v : Value} {t : Ten} (h : TV w v t) (hb : Below w.heap.size w V) : TV V v t := by
  obtain ⟨hl, p, s, q, e, h1, h2, h3⟩ := h
  exact ⟨hl, p, s, q, e, h1.below ux_ne hb (Nat.le_refl _), h2.below px_ne hb (Nat.le_refl _), h3.below px_ne hb (Nat.le_refl _)⟩
theorem TBx.later {w V : World} {tl : List Value} {t : Ten} {pa sa qa : Option Addr} {pc sc qc : Nat} (h : TBx w tl t pa sa qa pc sc qc) (hb : Below w.heap.size w V) : TBx V tl t pa sa qa pc sc qc :=
  { h with tv := h.tv.at_' hb, rp := h.rp.below ux_ne hb (Nat.le_refl _), rs := h.rs.below px_ne hb (Nat.le_refl _), rq := h.rq.below px_ne hb (Nat.le_refl _) }
/-- A tenant in the box g. -/
def TBo (W : World) (g : Nat) (t : Ten) : Prop := ∃ tl pa sa qa pc sc qc, W.heap[g]? = some (.cells tl.toArray 39 (0, 0)) ∧ TBx W tl t pa sa qa pc sc qc
theorem TBo.later {W V : World} {g : Nat} {t : Ten} (h : TBo W g t) (hb : Below W.heap.size W V) : TBo V g t := by
  obtain ⟨tl, pa, sa, qa, pc, sc, qc, h1, h2⟩ := h
  exact ⟨tl, pa, sa, qa, pc, sc, qc, by rw [hb.block g (Array.getElem?_eq_some_iff.mp h1).1]; exact h1, h2.later hb⟩
theorem cell_tl {W : World} {g : Nat} {tl : List Value} {T : TypeId} (h : W.heap[g]? = some (.cells tl.toArray T (0, 0))) {i : Nat} {v : Value} (hv : tl[i]? = some v) : W.cell? ⟨g, i, none⟩ = some v := by
  rw [cell_of h]; simpa using hv
theorem i33_of {tl : List Value} (h : tl.length = 33) : (Tryd.prog.info? 39).map (·.size) = some tl.toArray.size := by rw [List.size_toArray, h]; kernel_rfl
theorem mkf : ∀ (fn : Fn) (first cap : Array Value) (w : World), (Instr.makeFunc fn first cap).run Tryd.prog w = .ok (.func fn first cap) w := fun _ _ _ _ => rfl
theorem own1_any {W : World} {g : Nat} {x : Int} (h : W.cell? ⟨g, 0, none⟩ = some (.int .u32 x)) : PrU W 32 #[.pointer (some ⟨g, 0, none⟩)] (fun y => y == x) := by
  refine ⟨enters_of Tryd.func32 (by kernel_rfl) rfl, fun y V hV => ?_⟩
  have c : V.cell? ⟨g, 0, none⟩ = some (.int .u32 x) := by rw [hV.cell (p := ⟨g, 0, none⟩) (cell_lt h)]; exact h
  simp only [List.append_toArray, List.cons_append, List.nil_append]
  go_enter Tryd.func32, Tryd.ntmps32
  go_wp2_with fail
  go_ret
  exact ⟨by simp, Below.refl _ _⟩
set_option maxHeartbeats 2000000 in
theorem one1_any {W : World} {g k : Nat} {caps : Array Value} {f : Int → Bool} (hf : PrU W k caps f) (h : W.cell? ⟨g, 0, none⟩ = some (.func (.func k) #[] caps)) : PrP W 77 #[.pointer (some ⟨g, 0, none⟩)] (fun p => f p.2) := by
  refine ⟨enters_of Tryd.func77 (by kernel_rfl) rfl, fun y z V hV => ?_⟩
  have hlt := cell_lt h
  have c : V.cell? ⟨g, 0, none⟩ = some (.func (.func k) #[] caps) := by rw [hV.cell (p := ⟨g, 0, none⟩) hlt]; exact h
  have hB1 : Below V.heap.size V (V.alloc (.cells #[.int .u32 y, .int .u32 z] 52)) := (Below.refl _ _).alloc (Nat.le_refl _) _
  have C := hf.2 z _ (hV.trans (hB1.mono hV.size))
  have eg : ∀ args V, (callFunc k args).run Tryd.prog V = .ok (.enter k args) V := hf.1
  have HB1 : Hid (Below V.heap.size V (V.alloc (.cells #[.int .u32 y, .int .u32 z] 52))) := hB1
  have hg : g < V.heap.size := by have := hV.size; simp at hlt; omega
  clear hf h hV hB1 hlt
  simp only [List.append_toArray, List.cons_append, List.nil_append]
  generalize f z = B at *
  go_enter Tryd.func77, Tryd.ntmps77
  go_wp2_with fail
  refine C.mono ?_
  rintro e W1 ⟨rfl, hb⟩
  go_wp2_with fail
  go_ret
  exact ⟨rfl, HB1.out.trans (hb.mono HB1.out.size)⟩
set_option maxHeartbeats 4000000 in
theorem ownsOne_any {w : World} {v : Value} {t : Ten} (h : TV w v t) (hm : TSm t) {k : Nat} {caps : Array Value} {f : Int → Bool} (hf : PrU w k caps f) :
    Calls Tryd.prog 31 #[v, .func (.func k) #[] caps] w fun e w' => e = .returned (.bool (ow1 t f)) ∧ Below w.heap.size w w' := by
  unfold ow1
  obtain ⟨B1, hB1⟩ : ∃ B, t.pool.any f = B := ⟨_, rfl⟩
  obtain ⟨B2, hB2⟩ : ∃ B, (t.stat.any fun p => f p.2) = B := ⟨_, rfl⟩
  rw [hB1, hB2]
  obtain ⟨tl, pa, sa, qa, pc, sc, qc, rfl, hx⟩ := h.tb
  obtain ⟨g, hg⟩ : ∃ g, w.heap.size = g := ⟨_, rfl⟩
  have hM : Mem w ((w.alloc (.cells tl.toArray 39)).alloc (.cells #[.func (.func k) #[] caps] 67)) [(g + 1, .cells #[.func (.func k) #[] caps] 67 (0, 0)), (g, .cells tl.toArray 39 (0, 0))] := by
    rw [← hg]; exact two_blocks' w _ _
  go_enter Tryd.func31, Tryd.ntmps31
  go_upto_region 1 with fail
  refine wp_letter (fun X => Mem w X [(g + 1, .cells #[.func (.func k) #[] caps] 67 (0, 0)), (g, .cells tl.toArray 39 (0, 0))]) (by exact hM) ?_
  intro V hV
  try simp only [hg]
  clear hM hg
  have k1 : V.cell? ⟨g + 1, 0, none⟩ = some (.func (.func k) #[] caps) := hV.cell 0 rfl 0
  have c23 := cell_tl (hV.get 1 rfl) hx.pool
  have C1 := containsf_u (hx.later hV.below).rp hm.2.1 (hf.later hV.below)
  rw [hB1] at C1
  have H2 : Hid (∀ X, Below V.heap.size V X → X.cell? ⟨g + 1, 0, none⟩ = some (.func (.func k) #[] caps) ∧ X.cell? ⟨g, 27, none⟩ = some (.slice sa t.stat.length sc) ∧ Calls Tryd.prog 76 #[.slice sa t.stat.length sc, .func (.func 77) #[] #[.pointer (some ⟨g + 1, 0, none⟩)]] X fun e w' => e = .returned (.bool B2) ∧ Below X.heap.size X w') := by
    intro X hX
    have hX2 := hV.after hX
    have kk : X.cell? ⟨g + 1, 0, none⟩ = some (.func (.func k) #[] caps) := hX2.cell 0 rfl 0
    have C := containsf_p (hx.later hX2.below).rs hm.2.2.1 (one1_any (hf.later hX2.below) kk)
    rw [hB2] at C
    exact ⟨kk, cell_tl (hX2.get 1 rfl) hx.stat, C⟩
  have HB : Hid (Below w.heap.size w V) := hV.below
  have hmf := mkf
  clear hx hm hf hV h hB1 hB2
  generalize t.pool.length = n1 at *
  generalize t.stat.length = n2 at *
  go_wp2_with fail
  refine C1.mono ?_
  rintro e V2 ⟨rfl, hb⟩
  obtain ⟨k2, c27, C2⟩ := H2.out V2 hb
  have HB2 : Hid (Below w.heap.size w V2) := HB.out.trans (hb.mono HB.out.size)
  clear H2 HB hb C1 c23 k1
  cases B1 with
  | true =>
    go_wp2_with fail
    go_ret
    exact ⟨rfl, HB2.out⟩
  | false =>
    go_wp2_with fail
    refine C2.mono ?_
    rintro e V3 ⟨rfl, hb3⟩
    go_wp2_with fail
    go_ret
    exact ⟨by simp, HB2.out.trans (hb3.mono HB2.out.size)⟩
set_option maxHeartbeats 4000000 in
theorem owns_any {w : World} {v : Value} {t : Ten} (h : TV w v t) (hm : TSm t) (x : Int) :
    Calls Tryd.prog 18 #[v, .int .u32 x] w fun e w' => e = .returned (.bool (owns t x)) ∧ Below w.heap.size w w' := by
  unfold owns
  obtain ⟨tl, pa, sa, qa, pc, sc, qc, rfl, hx⟩ := h.tb
  obtain ⟨g, hg⟩ : ∃ g, w.heap.size = g := ⟨_, rfl⟩
  have hM : Mem w ((w.alloc (.cells tl.toArray 39)).alloc (.cells #[.int .u32 x] 22)) [(g + 1, .cells #[.int .u32 x] 22 (0, 0)), (g, .cells tl.toArray 39 (0, 0))] := by
    rw [← hg]; exact two_blocks' w _ _
  have hmf := mkf
  go_enter Tryd.func18, Tryd.ntmps18
  go_upto_region 1 with fail
  refine wp_letter (fun X => Mem w X [(g + 1, .cells #[.int .u32 x] 22 (0, 0)), (g, .cells tl.toArray 39 (0, 0))]) (by exact hM) ?_
  intro V hV
  try simp only [hg]
  clear hM hg
  have k1 := hV.get 1 rfl
  have C := ownsOne_any (hx.later hV.below).tv hm (own1_any (hV.cell 0 rfl 0))
  have HB : Hid (Below w.heap.size w V) := hV.below
  have i33 := i33_of hx.len
  clear hx hm hV h
  generalize tl.toArray = A at *
  go_wp2_with (refine wpList_load_row rfl 39 (.tmp 2) (by with_reducible rfl) g (by first | rfl | simp [Act.eval]) 39 A (0, 0) _ k1 Tryd.underlying39 rfl i33 ?_)
  refine C.mono ?_
  rintro e V2 ⟨rfl, hb⟩
  go_wp2_with fail
  go_ret
  exact ⟨rfl, HB.out.trans (hb.mono HB.out.size)⟩
end Go.Proofs.YtnddbklbgddblaaDoor

namespace Go.Proofs.YtnddbklbgddblaaDoor
open Go.RowKit
open Sm
open Cf
set_option linter.unusedVariables false
set_option linter.unusedSimpArgs false
set_option maxRecDepth 20000

/-- A tenant's lists in blocks C. -/
def ZB (z : Tv) (C : List (Nat × Obj)) : Prop := TLen z.1 ∧ ∃ B1 B2 B3, (∀ x ∈ B3 ++ (B2 ++ B1), x ∈ C) ∧ OwB 22 1 z.2.1 z.1.pool.length (ux z.1.pool).flatten B1 ∧ OwB 52 2 z.2.2.1 z.1.stat.length (px z.1.stat).flatten B2 ∧ OwB 52 2 z.2.2.2 z.1.twi.length (px z.1.twi).flatten B3
/-- A slice of tenants of the call's own: its cells in blocks B, their lists in blocks C. -/
def TsB (u : Value) (ts : List Ten) (B C : List (Nat × Obj)) : Prop := ∃ zs : List Tv, zs.map Prod.fst = ts ∧ OwB 39 33 u zs.length (zs.map zc).flatten B ∧ ∀ z ∈ zs, ZB z C
theorem ZB.more {z : Tv} {C D : List (Nat × Obj)} (h : ZB z C) (hs : ∀ x ∈ C, x ∈ D) : ZB z D := by
  obtain ⟨h1, B1, B2, B3, h2, h3⟩ := h
  exact ⟨h1, B1, B2, B3, fun x hx => hs x (h2 x hx), h3⟩
theorem zb_rws {V : World} {z : Tv} {C : List (Nat × Obj)} (h : ZB z C) (hC : ∀ x ∈ C, V.heap[x.1]? = some x.2) : TLen z.1 ∧ Rws V z := by
  obtain ⟨hl, B1, B2, B3, hs, h1, h2, h3⟩ := h
  refine ⟨hl, owb_rw' (fun x hx => ?_) (by simpa [ux] using h1) (fun x hx => hC x (hs x (by simp [hx]))), owb_rw' (fun x hx => ?_) (by simpa [px] using h2) (fun x hx => hC x (hs x (by simp [hx]))), owb_rw' (fun x hx => ?_) (by simpa [px] using h3) (fun x hx => hC x (hs x (by simp [hx])))⟩
  · simp only [ux, List.mem_map] at hx; obtain ⟨y, -, rfl⟩ := hx; rfl
  · simp only [px, List.mem_map] at hx; obtain ⟨y, -, rfl⟩ := hx; rfl
  · simp only [px, List.mem_map] at hx; obtain ⟨y, -, rfl⟩ := hx; rfl
theorem tsb_tsv {V : World} {u : Value} {ts : List Ten} {B C : List (Nat × Obj)} (h : TsB u ts B C) (hB : ∀ x ∈ B ++ C, V.heap[x.1]? = some x.2) : TSV V u ts := by
  obtain ⟨zs, e, h1, h2⟩ := h
  refine ⟨zs, e, owb_rw' (fun x hx => ?_) (by rw [List.length_map]; exact h1) (fun x hx => hB x (by simp [hx])), fun z hz => zb_rws (h2 z hz) (fun x hx => hB x (by simp [hx]))⟩
  obtain ⟨z, hz, rfl⟩ := List.mem_map.mp hx
  exact tc_len (h2 z hz).1 _ _ _
theorem cvs_tsb {w V : World} {u : Value} {c : Cgf} {B C : List (Nat × Obj)} (hl : CLen c) (h : TsB u c.ten B C) (hM : Mem w V (B ++ C)) : CVs w.heap.size V (.agg (cc c u).toArray) c := by
  intro w1 V' h1 hb ha
  exact ⟨hl, u, rfl, tsb_tsv h (fun x hx => (ha _ (hM.low x hx) (hM.lt hx)).trans (hM.at_ x hx))⟩
theorem zb_one {z : Tv} {C : List (Nat × Obj)} (h : ZB z C) : ∀ u ∈ zc z, u.oneCell' = true := by
  obtain ⟨hl, B1, B2, B3, hs, h1, h2, h3⟩ := h
  have := tc_one3 z.1 (owb_one h1) (owb_one h2) (owb_one h3)
  intro u hu
  rw [Array.all_eq_true_iff_forall_mem] at this
  exact this u (by simpa [zc] using hu)
end Go.Proofs.YtnddbklbgddblaaDoor

