/-
  Which settings may be: the document's own error of a tenant.
  Which settings may be: settings in a box; the gateway's rules.
  Settings as text: the program's reader: the first line.
-/
import Derived.Test.YtnddbklbgddblaaDoorPc37
import Derived.Test.YtnddbklbgddblaaDoorPc38
import Derived.Test.YtnddbklbgddblaaDoorPc05
namespace Go.Proofs.YtnddbklbgddblaaDoor
open Go.RowKit
open Va
open Ad (nam)
set_option linter.unusedVariables false
set_option linter.unusedSimpArgs false
set_option maxRecDepth 20000

/-- What a world that holds the tenant's box tells. -/
structure TC (X : World) (g : Nat) (t : Ten) (pa sa qa : Option Addr) (pc sc qc : Nat) : Prop where
  name : X.cell? ⟨g, 0, none⟩ = some (.string t.name)
  vni : X.cell? ⟨g, 1, none⟩ = some (.int .u32 t.vni)
  vtep : X.cell? ⟨g, 10, none⟩ = some (.int .u32 t.vtep)
  pool : X.cell? ⟨g, 23, none⟩ = some (.slice pa t.pool.length pc)
  lo : X.cell? ⟨g, 24, none⟩ = some (.int .u16 t.lo)
  hi : X.cell? ⟨g, 25, none⟩ = some (.int .u16 t.hi)
  filter : X.cell? ⟨g, 26, none⟩ = some (.int .i64 t.filter)
  stat : X.cell? ⟨g, 27, none⟩ = some (.slice sa t.stat.length sc)
  twi : X.cell? ⟨g, 28, none⟩ = some (.slice qa t.twi.length qc)
  sess : X.cell? ⟨g, 29, none⟩ = some (.int .i64 t.sess)
  queue : X.cell? ⟨g, 30, none⟩ = some (.int .i64 t.queue)
  rate : X.cell? ⟨g, 31, none⟩ = some (.int .u32 t.rate)
  burst : X.cell? ⟨g, 32, none⟩ = some (.int .u32 t.burst)
theorem TBx.tc {X : World} {g : Nat} {t : Ten} {tl : List Value} {pa sa qa : Option Addr} {pc sc qc : Nat} (h : TBx X tl t pa sa qa pc sc qc) (hg : X.heap[g]? = some (.cells tl.toArray 39 (0, 0))) : TC X g t pa sa qa pc sc qc :=
  ⟨cell_tl hg h.name, cell_tl hg h.vni, cell_tl hg h.vtep, cell_tl hg h.pool, cell_tl hg h.lo, cell_tl hg h.hi, cell_tl hg h.filter, cell_tl hg h.stat, cell_tl hg h.twi, cell_tl hg h.sess, cell_tl hg h.queue, cell_tl hg h.rate, cell_tl hg h.burst⟩
end Go.Proofs.YtnddbklbgddblaaDoor

namespace Go.Proofs.YtnddbklbgddblaaDoor
open Go.RowKit
open Va
set_option linter.unusedVariables false
set_option linter.unusedSimpArgs false
set_option maxRecDepth 20000

/-- Settings' cells, told one by one. -/
structure CBx (w : World) (cl : List Value) (c : Cgf) (ta : Option Addr) (tp : Nat) : Prop where
  len : cl.length = 29
  one : cl.toArray.all (·.oneCell') = true
  ip : cl[0]? = some (.int .u32 c.ip)
  drain : cl[27]? = some (.int .u32 c.drain)
  ten : cl[28]? = some (.slice ta c.ten.length tp)
  cv : CV w (.agg cl.toArray) c
  ts : TSV w (.slice ta c.ten.length tp) c.ten
theorem CV.tb {w : World} {v : Value} {c : Cgf} (h : CV w v c) : ∃ cl ta tp, v = .agg cl.toArray ∧ CBx w cl c ta tp := by
  have h0 := h
  obtain ⟨hl, u, rfl, hu⟩ := h
  have hu0 := hu
  obtain ⟨ta, tp, rfl, -⟩ := hu.parts
  refine ⟨_, ta, tp, rfl, cc_len hl _, cc_one c rfl, ?_, ?_, ?_, h0, hu0⟩
  all_goals
    obtain ⟨ip, m1, m2, m3, ky, dr, ts⟩ := c
    obtain ⟨h1, h2, h3, h4⟩ := hl
    obtain ⟨a, b, c, d, f, g, x, y, rfl⟩ := eight8 h4
    obtain ⟨a1, b1, c1, d1, f1, g1, rfl⟩ := six6 h1
    obtain ⟨a2, b2, c2, d2, f2, g2, rfl⟩ := six6 h2
    obtain ⟨a3, b3, c3, d3, f3, g3, rfl⟩ := six6 h3
    rfl
theorem CBx.later {w V : World} {cl : List Value} {c : Cgf} {ta : Option Addr} {tp : Nat} (h : CBx w cl c ta tp) (hb : Below w.heap.size w V) : CBx V cl c ta tp :=
  { h with cv := h.cv.at_ hb (Nat.le_refl _), ts := h.ts.at_ hb (Nat.le_refl _) }
/-- Settings in the box g. -/
def CBo (W : World) (g : Nat) (c : Cgf) : Prop := ∃ cl ta tp, W.heap[g]? = some (.cells cl.toArray 28 (0, 0)) ∧ CBx W cl c ta tp
theorem CBo.later {W V : World} {g : Nat} {c : Cgf} (h : CBo W g c) (hb : Below W.heap.size W V) : CBo V g c := by
  obtain ⟨cl, ta, tp, h1, h2⟩ := h
  exact ⟨cl, ta, tp, by rw [hb.block g (Array.getElem?_eq_some_iff.mp h1).1]; exact h1, h2.later hb⟩
theorem i29_of {cl : List Value} (h : cl.length = 29) : (Tryd.prog.info? 28).map (·.size) = some cl.toArray.size := by rw [List.size_toArray, h]; kernel_rfl
theorem cell_later {W V : World} (hb : Below W.heap.size W V) {g j : Nat} {v : Value} (h : W.cell? ⟨g, j, none⟩ = some v) : V.cell? ⟨g, j, none⟩ = some v := by rw [hb.cell (p := ⟨g, j, none⟩) (cell_lt h)]; exact h
theorem TSV.head {w : World} {a : Option Addr} {n c : Nat} {ts : List Ten} (h : TSV w (.slice a n c) ts) (i : Nat) (hi : i ≤ ts.length) : TSV w (.slice a i c) (ts.take i) := by
  obtain ⟨zs, h1, h2, h3⟩ := h
  have hl : (zs.map zc).length = ts.length := by rw [← h1]; simp
  refine ⟨zs.take i, by rw [List.map_take, h1], ?_, fun z hz => h3 z (List.mem_of_mem_take hz)⟩
  rw [List.map_take]
  exact h2.head i (by omega)
theorem gq1 {W : World} {g : Nat} {c : Cgf} (h : CBo W g c) : Ask W 35 #[.pointer (some ⟨g, 0, none⟩)] (c.ip != 0) := by
  refine ⟨enters_of Tryd.func35 (by kernel_rfl) rfl, fun V hV => ?_⟩
  obtain ⟨cl, ta, tp, hg, hx⟩ := h.later hV
  have c0 := cell_tl hg hx.ip
  clear h hg hx
  simp only [List.append_toArray, List.cons_append, List.nil_append, Array.empty_append]
  generalize c.ip = x at *
  go_enter Tryd.func35, Tryd.ntmps35
  go_wp2_with fail
  go_ret
  exact ⟨rfl, Below.refl _ _⟩
theorem gq2 {W : World} {g : Nat} {c : Cgf} (h : CBo W g c) : Ask W 36 #[.pointer (some ⟨g, 0, none⟩)] (decide (c.drain ≤ 1000)) := by
  refine ⟨enters_of Tryd.func36 (by kernel_rfl) rfl, fun V hV => ?_⟩
  obtain ⟨cl, ta, tp, hg, hx⟩ := h.later hV
  have c0 := cell_tl hg hx.drain
  clear h hg hx
  simp only [List.append_toArray, List.cons_append, List.nil_append, Array.empty_append]
  generalize c.drain = x at *
  go_enter Tryd.func36, Tryd.ntmps36
  go_wp2_with fail
  go_ret
  exact ⟨rfl, Below.refl _ _⟩
theorem gq3 {W : World} {g : Nat} {c : Cgf} (h : CBo W g c) : Ask W 37 #[.pointer (some ⟨g, 0, none⟩)] (decide ((c.ten.length : Int) ≤ 16)) := by
  refine ⟨enters_of Tryd.func37 (by kernel_rfl) rfl, fun V hV => ?_⟩
  obtain ⟨cl, ta, tp, hg, hx⟩ := h.later hV
  have c0 := cell_tl hg hx.ten
  clear h hg hx
  simp only [List.append_toArray, List.cons_append, List.nil_append, Array.empty_append]
  generalize c.ten.length = x at *
  go_enter Tryd.func37, Tryd.ntmps37
  go_wp2_with fail
  go_ret
  exact ⟨rfl, Below.refl _ _⟩
set_option maxHeartbeats 4000000 in
theorem grules_any {W : World} {v : Value} {c : Cgf} (h : CV W v c) : Calls Tryd.prog 25 #[v] W (Rls W (grs c)) := by
  obtain ⟨cl, ta, tp, rfl, hx⟩ := h.tb
  have hmf := mkf
  obtain ⟨g, hg⟩ : ∃ g, W.heap.size = g := ⟨_, rfl⟩
  have hM0 : Mem W (W.alloc (.cells cl.toArray 28)) [(g, .cells cl.toArray 28 (0, 0))] := (Mem.nil W).push1 hg.symm
  have HM0 : Hid (Mem W (W.alloc (.cells cl.toArray 28)) [(g, .cells cl.toArray 28 (0, 0))]) := hM0
  have HX : Hid (∀ X, Mem W X [(g, .cells cl.toArray 28 (0, 0))] → CBo X g c) := fun X hX => ⟨cl, ta, tp, hX.get 0 rfl, hx.later hX.below⟩
  have HE : Hid (grs c = [ul 96 (c.ip != 0), ul 96 (decide (c.drain ≤ 1000)), ul 96 (decide ((c.ten.length : Int) ≤ 16))]) := rfl
  clear hM0 h hx
  generalize grs c = ES at *
  generalize cl.toArray = A at *
  go_enter Tryd.func25, Tryd.ntmps25
  go_upto_region 1 with fail
  refine wp_letter (fun X => Mem W X [(g, .cells A 28 (0, 0))]) (by exact HM0.out) ?_
  intro V0 hM1
  try simp only [hg]
  clear HM0 hg
  have H0 : Hid (CBo V0 g c ∧ Below W.heap.size W V0) := ⟨HX.out V0 hM1, hM1.below⟩
  clear HX hM1
  go_wp2_with fail
  refine (unless_any (gq1 H0.out.1) 96).mono ?_
  rintro _ X0 ⟨k0, cs0, rfl, hr, hb⟩
  have H1 : Hid (CBo X0 g c ∧ Below W.heap.size W X0 ∧ RlsL X0 _ _) := ⟨H0.out.1.later hb, H0.out.2.trans (hb.mono H0.out.2.size), .cons hr .nil⟩
  clear H0 hr hb
  go_wp2_with fail
  refine (unless_any (gq2 H1.out.1) 96).mono ?_
  rintro _ X1 ⟨k1, cs1, rfl, hr, hb⟩
  have H2 : Hid (CBo X1 g c ∧ Below W.heap.size W X1 ∧ RlsL X1 _ _) := ⟨H1.out.1.later hb, H1.out.2.1.trans (hb.mono H1.out.2.1.size), (H1.out.2.2.later hb).snoc hr⟩
  clear H1 hr hb
  go_wp2_with fail
  refine (unless_any (gq3 H2.out.1) 96).mono ?_
  rintro _ X2 ⟨k2, cs2, rfl, hr, hb⟩
  have H3 : Hid (Below W.heap.size W X2 ∧ RlsL X2 _ _) := ⟨H2.out.2.1.trans (hb.mono H2.out.2.1.size), (H2.out.2.2.later hb).snoc hr⟩
  clear H2 hr hb
  obtain ⟨gl, hgl⟩ : ∃ gl, X2.heap.size = gl := ⟨_, rfl⟩
  have hF := rls_of (cs := #[.func (.func k0) #[] cs0, .func (.func k1) #[] cs1, .func (.func k2) #[] cs2]) H3.out.2 H3.out.1 hgl rfl
  have HF : Hid ((∀ i, i < ES.length → ∃ k c, (X2.alloc (.cells #[.func (.func k0) #[] cs0, .func (.func k1) #[] cs1, .func (.func k2) #[] cs2] 71)).cell? ⟨gl, i, none⟩ = some (.func (.func k) #[] c) ∧ Rul (X2.alloc (.cells #[.func (.func k0) #[] cs0, .func (.func k1) #[] cs1, .func (.func k2) #[] cs2] 71)) k c (ES.getD i 0)) ∧ Below W.heap.size W (X2.alloc (.cells #[.func (.func k0) #[] cs0, .func (.func k1) #[] cs1, .func (.func k2) #[] cs2] 71)) ∧ ES.length = 3) := by
    rw [HE.out]; exact ⟨hF.1, hF.2, rfl⟩
  clear H3 HE hF
  go_wp2_with fail
  go_ret
  refine ⟨gl, ?_, HF.out.1, HF.out.2.1⟩
  rw [HF.out.2.2, ← hgl]
  rfl
end Go.Proofs.YtnddbklbgddblaaDoor

namespace Go.Proofs.YtnddbklbgddblaaDoor
open Go.RowKit
open La
open Ad
set_option linter.unusedVariables false
set_option linter.unusedSimpArgs false
set_option maxRecDepth 20000
end Go.Proofs.YtnddbklbgddblaaDoor

