/-
  Which settings may be: settings in a box; the gateway's rules.
  Settings as text: the program's reader: the first line.
  Which settings may be: what is asked of a tenant where it stands.
  Settings as text: the program's reader: a tenant's line.
-/
import Derived.Test.YtnddbklbgddblaaDoorPf38
import Derived.BigQuiet
namespace Go.Proofs.YtnddbklbgddblaaDoor
open Go.RowKit
open Va
set_option linter.unusedVariables false
set_option linter.unusedSimpArgs false
set_option maxRecDepth 20000

/-- Settings' cells, told one by one. -/
structure CBx (w : World) (cl : List Value) (c : Cgf) (ta : Option Addr) (tp : Nat) : Prop where
  len : cl.length = 29
  one : cl.toArray.all (·.oneCell') = true
  ip : cl[0]? = some (.int .u32 c.ip)
  drain : cl[27]? = some (.int .u32 c.drain)
  ten : cl[28]? = some (.slice ta c.ten.length tp)
  cv : CV w (.agg cl.toArray) c
  ts : TSV w (.slice ta c.ten.length tp) c.ten
theorem CV.tb {w : World} {v : Value} {c : Cgf} (h : CV w v c) : ∃ cl ta tp, v = .agg cl.toArray ∧ CBx w cl c ta tp := by
  have h0 := h
  obtain ⟨hl, u, rfl, hu⟩ := h
  have hu0 := hu
  obtain ⟨ta, tp, rfl, -⟩ := hu.parts
  refine ⟨_, ta, tp, rfl, cc_len hl _, cc_one c rfl, ?_, ?_, ?_, h0, hu0⟩
  all_goals
    obtain ⟨ip, m1, m2, m3, ky, dr, ts⟩ := c
    obtain ⟨h1, h2, h3, h4⟩ := hl
    obtain ⟨a, b, c, d, f, g, x, y, rfl⟩ := eight8 h4
    obtain ⟨a1, b1, c1, d1, f1, g1, rfl⟩ := six6 h1
    obtain ⟨a2, b2, c2, d2, f2, g2, rfl⟩ := six6 h2
    obtain ⟨a3, b3, c3, d3, f3, g3, rfl⟩ := six6 h3
    rfl
theorem CBx.later {w V : World} {cl : List Value} {c : Cgf} {ta : Option Addr} {tp : Nat} (h : CBx w cl c ta tp) (hb : Below w.heap.size w V) : CBx V cl c ta tp :=
  { h with cv := h.cv.at_ hb (Nat.le_refl _), ts := h.ts.at_ hb (Nat.le_refl _) }
/-- Settings in the box g. -/
def CBo (W : World) (g : Nat) (c : Cgf) : Prop := ∃ cl ta tp, W.heap[g]? = some (.cells cl.toArray 28 (0, 0)) ∧ CBx W cl c ta tp
theorem CBo.later {W V : World} {g : Nat} {c : Cgf} (h : CBo W g c) (hb : Below W.heap.size W V) : CBo V g c := by
  obtain ⟨cl, ta, tp, h1, h2⟩ := h
  exact ⟨cl, ta, tp, by rw [hb.block g (Array.getElem?_eq_some_iff.mp h1).1]; exact h1, h2.later hb⟩
theorem i29_of {cl : List Value} (h : cl.length = 29) : (Tryd.prog.info? 28).map (·.size) = some cl.toArray.size := by rw [List.size_toArray, h]; kernel_rfl
theorem cell_later {W V : World} (hb : Below W.heap.size W V) {g j : Nat} {v : Value} (h : W.cell? ⟨g, j, none⟩ = some v) : V.cell? ⟨g, j, none⟩ = some v := by rw [hb.cell (p := ⟨g, j, none⟩) (cell_lt h)]; exact h
theorem TSV.head {w : World} {a : Option Addr} {n c : Nat} {ts : List Ten} (h : TSV w (.slice a n c) ts) (i : Nat) (hi : i ≤ ts.length) : TSV w (.slice a i c) (ts.take i) := by
  obtain ⟨zs, h1, h2, h3⟩ := h
  have hl : (zs.map zc).length = ts.length := by rw [← h1]; simp
  refine ⟨zs.take i, by rw [List.map_take, h1], ?_, fun z hz => h3 z (List.mem_of_mem_take hz)⟩
  rw [List.map_take]
  exact h2.head i (by omega)
theorem gq1 {W : World} {g : Nat} {c : Cgf} (h : CBo W g c) : Ask W 35 #[.pointer (some ⟨g, 0, none⟩)] (c.ip != 0) := by
  refine ⟨enters_of Tryd.func35 (by kernel_rfl) rfl, fun V hV => ?_⟩
  obtain ⟨cl, ta, tp, hg, hx⟩ := h.later hV
  have c0 := cell_tl hg hx.ip
  clear h hg hx
  simp only [List.append_toArray, List.cons_append, List.nil_append, Array.empty_append]
  generalize c.ip = x at *
  go_enter Tryd.func35, Tryd.ntmps35
  go_wp2_with fail
  go_ret
  exact ⟨rfl, Below.refl _ _⟩
theorem gq2 {W : World} {g : Nat} {c : Cgf} (h : CBo W g c) : Ask W 36 #[.pointer (some ⟨g, 0, none⟩)] (decide (c.drain ≤ 1000)) := by
  refine ⟨enters_of Tryd.func36 (by kernel_rfl) rfl, fun V hV => ?_⟩
  obtain ⟨cl, ta, tp, hg, hx⟩ := h.later hV
  have c0 := cell_tl hg hx.drain
  clear h hg hx
  simp only [List.append_toArray, List.cons_append, List.nil_append, Array.empty_append]
  generalize c.drain = x at *
  go_enter Tryd.func36, Tryd.ntmps36
  go_wp2_with fail
  go_ret
  exact ⟨rfl, Below.refl _ _⟩
theorem gq3 {W : World} {g : Nat} {c : Cgf} (h : CBo W g c) : Ask W 37 #[.pointer (some ⟨g, 0, none⟩)] (decide ((c.ten.length : Int) ≤ 16)) := by
  refine ⟨enters_of Tryd.func37 (by kernel_rfl) rfl, fun V hV => ?_⟩
  obtain ⟨cl, ta, tp, hg, hx⟩ := h.later hV
  have c0 := cell_tl hg hx.ten
  clear h hg hx
  simp only [List.append_toArray, List.cons_append, List.nil_append, Array.empty_append]
  generalize c.ten.length = x at *
  go_enter Tryd.func37, Tryd.ntmps37
  go_wp2_with fail
  go_ret
  exact ⟨rfl, Below.refl _ _⟩
set_option maxHeartbeats 4000000 in
theorem grules_any {W : World} {v : Value} {c : Cgf} (h : CV W v c) : Calls Tryd.prog 25 #[v] W (Rls W (grs c)) := by
  obtain ⟨cl, ta, tp, rfl, hx⟩ := h.tb
  have hmf := mkf
  obtain ⟨g, hg⟩ : ∃ g, W.heap.size = g := ⟨_, rfl⟩
  have hM0 : Mem W (W.alloc (.cells cl.toArray 28)) [(g, .cells cl.toArray 28 (0, 0))] := (Mem.nil W).push1 hg.symm
  have HM0 : Hid (Mem W (W.alloc (.cells cl.toArray 28)) [(g, .cells cl.toArray 28 (0, 0))]) := hM0
  have HX : Hid (∀ X, Mem W X [(g, .cells cl.toArray 28 (0, 0))] → CBo X g c) := fun X hX => ⟨cl, ta, tp, hX.get 0 rfl, hx.later hX.below⟩
  have HE : Hid (grs c = [ul 96 (c.ip != 0), ul 96 (decide (c.drain ≤ 1000)), ul 96 (decide ((c.ten.length : Int) ≤ 16))]) := rfl
  clear hM0 h hx
  generalize grs c = ES at *
  generalize cl.toArray = A at *
  go_enter Tryd.func25, Tryd.ntmps25
  go_upto_region 1 with fail
  refine wp_letter (fun X => Mem W X [(g, .cells A 28 (0, 0))]) (by exact HM0.out) ?_
  intro V0 hM1
  try simp only [hg]
  clear HM0 hg
  have H0 : Hid (CBo V0 g c ∧ Below W.heap.size W V0) := ⟨HX.out V0 hM1, hM1.below⟩
  clear HX hM1
  go_wp2_with fail
  refine (unless_any (gq1 H0.out.1) 96).mono ?_
  rintro _ X0 ⟨k0, cs0, rfl, hr, hb⟩
  have H1 : Hid (CBo X0 g c ∧ Below W.heap.size W X0 ∧ RlsL X0 _ _) := ⟨H0.out.1.later hb, H0.out.2.trans (hb.mono H0.out.2.size), .cons hr .nil⟩
  clear H0 hr hb
  go_wp2_with fail
  refine (unless_any (gq2 H1.out.1) 96).mono ?_
  rintro _ X1 ⟨k1, cs1, rfl, hr, hb⟩
  have H2 : Hid (CBo X1 g c ∧ Below W.heap.size W X1 ∧ RlsL X1 _ _) := ⟨H1.out.1.later hb, H1.out.2.1.trans (hb.mono H1.out.2.1.size), (H1.out.2.2.later hb).snoc hr⟩
  clear H1 hr hb
  go_wp2_with fail
  refine (unless_any (gq3 H2.out.1) 96).mono ?_
  rintro _ X2 ⟨k2, cs2, rfl, hr, hb⟩
  have H3 : Hid (Below W.heap.size W X2 ∧ RlsL X2 _ _) := ⟨H2.out.2.1.trans (hb.mono H2.out.2.1.size), (H2.out.2.2.later hb).snoc hr⟩
  clear H2 hr hb
  obtain ⟨gl, hgl⟩ : ∃ gl, X2.heap.size = gl := ⟨_, rfl⟩
  have hF := rls_of (cs := #[.func (.func k0) #[] cs0, .func (.func k1) #[] cs1, .func (.func k2) #[] cs2]) H3.out.2 H3.out.1 hgl rfl
  have HF : Hid ((∀ i, i < ES.length → ∃ k c, (X2.alloc (.cells #[.func (.func k0) #[] cs0, .func (.func k1) #[] cs1, .func (.func k2) #[] cs2] 71)).cell? ⟨gl, i, none⟩ = some (.func (.func k) #[] c) ∧ Rul (X2.alloc (.cells #[.func (.func k0) #[] cs0, .func (.func k1) #[] cs1, .func (.func k2) #[] cs2] 71)) k c (ES.getD i 0)) ∧ Below W.heap.size W (X2.alloc (.cells #[.func (.func k0) #[] cs0, .func (.func k1) #[] cs1, .func (.func k2) #[] cs2] 71)) ∧ ES.length = 3) := by
    rw [HE.out]; exact ⟨hF.1, hF.2, rfl⟩
  clear H3 HE hF
  go_wp2_with fail
  go_ret
  refine ⟨gl, ?_, HF.out.1, HF.out.2.1⟩
  rw [HF.out.2.2, ← hgl]
  rfl
end Go.Proofs.YtnddbklbgddblaaDoor

namespace Go.Proofs.YtnddbklbgddblaaDoor
open Go.RowKit
open La
open Ad
set_option linter.unusedVariables false
set_option linter.unusedSimpArgs false
set_option maxRecDepth 20000
end Go.Proofs.YtnddbklbgddblaaDoor

namespace Go.Proofs.YtnddbklbgddblaaDoor
open Go.RowKit
open Va
set_option linter.unusedVariables false
set_option linter.unusedSimpArgs false
set_option maxRecDepth 20000

set_option maxHeartbeats 2000000 in
theorem pp1 {W : World} {g : Nat} {t : Ten} (h : TBo W g t) : PrT W 38 #[.pointer (some ⟨g, 0, none⟩)] (fun o => o.vni == t.vni) := by
  refine ⟨enters_of Tryd.func38 (by kernel_rfl) rfl, fun V v o hV hv hm => ?_⟩
  obtain ⟨tl, pa, sa, qa, pc, sc, qc, hg, hx⟩ := h.later hV
  obtain ⟨ol, pa', sa', qa', pc', sc', qc', rfl, ho⟩ := hv.tb
  obtain ⟨g2, hg2⟩ : ∃ g2, V.heap.size = g2 := ⟨_, rfl⟩
  have hM0 : Mem V (V.alloc (.cells ol.toArray 39)) [(g2, .cells ol.toArray 39 (0, 0))] := (Mem.nil V).push1 hg2.symm
  have HX : Hid (∀ X, Mem V X [(g2, .cells ol.toArray 39 (0, 0))] → X.cell? ⟨g2, 1, none⟩ = some (.int .u32 o.vni) ∧ X.cell? ⟨g, 1, none⟩ = some (.int .u32 t.vni)) := fun X hX => ⟨cell_tl (hX.get 0 rfl) ho.vni, cell_later hX.below (cell_tl hg hx.vni)⟩
  clear h hg hx ho hv hm
  simp only [List.append_toArray, List.cons_append, List.nil_append, Array.empty_append]
  generalize ol.toArray = A at *
  generalize o.vni = x at *
  generalize t.vni = y at *
  go_enter Tryd.func38, Tryd.ntmps38
  go_upto_region 1 with fail
  refine wp_letter (fun X => Mem V X [(g2, .cells A 39 (0, 0))]) (by exact hM0) ?_
  intro V1 hM
  try simp only [hg2]
  clear hM0 hg2
  obtain ⟨c1, c2⟩ := HX.out V1 hM
  have HB : Hid (Below V.heap.size V V1) := hM.below
  clear HX hM
  go_wp2_with fail
  go_ret
  exact ⟨rfl, HB.out⟩
set_option maxHeartbeats 2000000 in
theorem pp21 {W : World} {g : Nat} {x : Int} (h : W.cell? ⟨g, 0, none⟩ = some (.int .u32 x)) : PrT W 41 #[.pointer (some ⟨g, 0, none⟩)] (fun o => owns o x) := by
  refine ⟨enters_of Tryd.func41 (by kernel_rfl) rfl, fun V v o hV hv hm => ?_⟩
  have c0 := cell_later hV h
  obtain ⟨ol, pa', sa', qa', pc', sc', qc', rfl, ho⟩ := hv.tb
  obtain ⟨g2, hg2⟩ : ∃ g2, V.heap.size = g2 := ⟨_, rfl⟩
  have hM0 : Mem V (V.alloc (.cells ol.toArray 39)) [(g2, .cells ol.toArray 39 (0, 0))] := (Mem.nil V).push1 hg2.symm
  have HC : Hid (∀ X, Below V.heap.size V X → Calls Tryd.prog 18 #[.agg ol.toArray, .int .u32 x] X fun e w' => e = .returned (.bool (owns o x)) ∧ Below X.heap.size X w') := fun X hX => owns_any (ho.later hX).tv hm x
  have i33 := i33_of ho.len
  clear h ho hv hm
  simp only [List.append_toArray, List.cons_append, List.nil_append, Array.empty_append]
  generalize owns o x = B at *
  generalize ol.toArray = A at *
  go_enter Tryd.func41, Tryd.ntmps41
  go_upto_region 1 with fail
  refine wp_letter (fun X => Mem V X [(g2, .cells A 39 (0, 0))]) (by exact hM0) ?_
  intro V1 hM
  try simp only [hg2]
  clear hM0 hg2
  have c1 := cell_later hM.below c0
  have hk := hM.get 0 rfl
  have C := HC.out V1 hM.below
  have HB : Hid (Below V.heap.size V V1) := hM.below
  clear HC hM c0
  go_wp2_with (refine wpList_load_row rfl 39 (.tmp 2) (by with_reducible rfl) g2 (by first | rfl | simp [Act.eval]) 39 A (0, 0) _ hk Tryd.underlying39 rfl i33 ?_)
  refine C.mono ?_
  rintro _ X ⟨rfl, hb⟩
  go_wp2_with fail
  go_ret
  exact ⟨rfl, HB.out.trans (hb.mono HB.out.size)⟩
set_option maxHeartbeats 4000000 in
theorem pp2 {W : World} {g ga : Nat} {c : Cgf} {ta : Option Addr} {n tp : Nat} {ah : List Ten} (h : CBo W g c) (hc : W.cell? ⟨ga, 0, none⟩ = some (.slice ta n tp)) (ht : TSV W (.slice ta n tp) ah) (hl : ah.length ≤ 1000000) (hm : ∀ t ∈ ah, TSm t) :
    PrU W 39 #[.pointer (some ⟨g, 0, none⟩), .pointer (some ⟨ga, 0, none⟩)] (fun x => x == c.ip || ah.any (fun o => owns o x)) := by
  refine ⟨enters_of Tryd.func39 (by kernel_rfl) rfl, fun x V hV => ?_⟩
  obtain ⟨cl, ta', tp', hg, hx⟩ := h.later hV
  obtain ⟨g2, hg2⟩ : ∃ g2, V.heap.size = g2 := ⟨_, rfl⟩
  have hM0 : Mem V (V.alloc (.cells #[.int .u32 x] 22)) [(g2, .cells #[.int .u32 x] 22 (0, 0))] := (Mem.nil V).push1 hg2.symm
  obtain ⟨B, hB⟩ : ∃ B, ah.any (fun o => owns o x) = B := ⟨_, rfl⟩
  have HX : Hid (∀ X, Mem V X [(g2, .cells #[.int .u32 x] 22 (0, 0))] → X.cell? ⟨g2, 0, none⟩ = some (.int .u32 x) ∧ X.cell? ⟨g, 0, none⟩ = some (.int .u32 c.ip) ∧ X.cell? ⟨ga, 0, none⟩ = some (.slice ta n tp) ∧ Calls Tryd.prog 40 #[.slice ta n tp, .func (.func 41) #[] #[.pointer (some ⟨g2, 0, none⟩)]] X fun e w' => e = .returned (.bool B) ∧ Below X.heap.size X w') := by
    intro X hX
    have hb := hV.trans (hX.below.mono hV.size)
    have C := containsf_t (ht.at_ hb (Nat.le_refl _)) hl (pp21 (hX.cell 0 rfl 0)) hm
    rw [hB] at C
    exact ⟨hX.cell 0 rfl 0, cell_later hX.below (cell_tl hg hx.ip), cell_later hb hc, C⟩
  have hmf := mkf
  simp only [List.append_toArray, List.cons_append, List.nil_append, Array.empty_append]
  rw [hB]
  clear h hc ht hl hm hg hx hB hV
  generalize c.ip = y at *
  cases hxy : (x == y) with
  | true =>
    go_enter Tryd.func39, Tryd.ntmps39
    go_upto_region 1 with fail
    refine wp_letter (fun X => Mem V X [(g2, .cells #[.int .u32 x] 22 (0, 0))]) (by exact hM0) ?_
    intro V1 hM
    try simp only [hg2]
    clear hM0 hg2
    obtain ⟨c1, c2, c3, C⟩ := HX.out V1 hM
    have HB : Hid (Below V.heap.size V V1) := hM.below
    clear HX hM C
    go_wp2_with fail
    go_ret
    exact ⟨rfl, HB.out⟩
  | false =>
    go_enter Tryd.func39, Tryd.ntmps39
    go_upto_region 1 with fail
    refine wp_letter (fun X => Mem V X [(g2, .cells #[.int .u32 x] 22 (0, 0))]) (by exact hM0) ?_
    intro V1 hM
    try simp only [hg2]
    clear hM0 hg2
    obtain ⟨c1, c2, c3, C⟩ := HX.out V1 hM
    have HB : Hid (Below V.heap.size V V1) := hM.below
    clear HX hM
    go_wp2_with fail
    refine C.mono ?_
    rintro _ X ⟨rfl, hb⟩
    go_wp2_with fail
    go_ret
    exact ⟨rfl, HB.out.trans (hb.mono HB.out.size)⟩
set_option maxHeartbeats 2000000 in
theorem pr3 {W : World} {g : Nat} {t : Ten} (hv : Vs W) (h : TBo W g t) (hm : TSm t) : Rul W 42 #[.pointer (some ⟨g, 0, none⟩)] (tchk t) := by
  refine ⟨enters_of Tryd.func42 (by kernel_rfl) rfl, fun V hV => ?_⟩
  obtain ⟨tl, pa, sa, qa, pc, sc, qc, hg, hx⟩ := h.later hV
  have C := tenant14_any (hv.below hV) hx.tv hm
  have i33 := i33_of hx.len
  clear h hx hm hv
  simp only [List.append_toArray, List.cons_append, List.nil_append, Array.empty_append]
  generalize tchk t = B at *
  generalize tl.toArray = A at *
  go_enter Tryd.func42, Tryd.ntmps42
  go_wp2_with (refine wpList_load_row rfl 39 (.tmp 0) (by with_reducible rfl) g (by first | rfl | simp [Act.eval]) 39 A (0, 0) _ hg Tryd.underlying39 rfl i33 ?_)
  refine C.mono ?_
  rintro _ X ⟨rfl, hb⟩
  go_wp2_with fail
  go_ret
  exact ⟨rfl, hb⟩
set_option maxHeartbeats 4000000 in
theorem pq4 {W : World} {g gi ga i : Nat} {t : Ten} {ta : Option Addr} {tp : Nat} {ah : List Ten} (h : TBo W g t) (hi : W.cell? ⟨gi, 0, none⟩ = some (.int .i64 (i : Int))) (hl : ah.length = i) (hl2 : i ≤ 1000000) (hc : W.cell? ⟨ga, 0, none⟩ = some (.slice ta i tp)) (ht : TSV W (.slice ta i tp) ah) :
    Ask W 43 #[.pointer (some ⟨gi, 0, none⟩), .pointer (some ⟨ga, 0, none⟩), .pointer (some ⟨g, 0, none⟩)] (ah.length == 0 || lss (ah.getD (ah.length - 1) ten0).name t.name) := by
  refine ⟨enters_of Tryd.func43 (by kernel_rfl) rfl, fun V hV => ?_⟩
  obtain ⟨tl, pa, sa, qa, pc, sc, qc, hg, hx⟩ := h.later hV
  have c0 := cell_later hV hi
  have c1 := cell_later hV hc
  have c2 := cell_tl hg hx.name
  have ht2 := ht.at_ hV (Nat.le_refl _)
  simp only [List.append_toArray, List.cons_append, List.nil_append, Array.empty_append]
  subst hl
  by_cases h0 : ah.length = 0
  · have e0 : (((ah.length : Nat) : Int) == 0) = true := by rw [h0]; rfl
    have e1 : (ah.length == 0) = true := by rw [h0]; rfl
    rw [e1, Bool.true_or]
    clear h hi hc ht ht2 hg hx hV e1
    have e2 : ((ah.length : Nat) : Int) = 0 := by omega
    rw [e2] at c0
    clear e0 e2
    generalize ah.length = n at *
    generalize t.name = s1 at *
    go_enter Tryd.func43, Tryd.ntmps43
    go_upto_region 1 with fail
    go_quiet (fail)
    go_wp2_with fail
    go_ret
    exact ⟨rfl, Go.below_drewN (Below.refl _ _) _⟩
  · have e1 : (ah.length == 0) = false := by simp [h0]
    rw [e1, Bool.false_or]
    obtain ⟨a', c', e, hle, hcb, hp⟩ := ht2.parts
    simp only [Value.slice.injEq] at e
    obtain ⟨rfl, -, rfl⟩ := e
    obtain ⟨b, off, x, rfl, hsz, hone, hVV⟩ := hp (ah.length - 1) (by omega)
    obtain ⟨hra, hTV⟩ := hVV V (Below.refl _ _)
    obtain ⟨ol, _, _, _, _, _, _, ex, ho⟩ := hTV.tb
    have ex2 : x = ol := by simpa using ex
    have c3 : V.cell? ⟨b, off + (ah.length - 1) * 33, none⟩ = some (.string (ah.getD (ah.length - 1) ten0).name) := by
      have := hra 0 _ (by rw [ex2]; exact ho.name)
      rwa [Nat.add_zero] at this
    have e3 : IntKind.i64.wrap ((ah.length : Nat) - 1 : Int) = ((ah.length - 1 : Nat) : Int) := by
      rw [wrap64 (by omega) (by omega)]; omega
    have e0 : (((ah.length : Nat) : Int) == 0) = false := by rw [beq_eq_false_iff_ne]; omega
    have hlt : ah.length - 1 < ah.length := by omega
    unfold lss
    clear h hi hc ht ht2 hg hx hV e1 hp hVV hra hTV ho ex ex2 hone hsz
    generalize (ah.getD (ah.length - 1) ten0).name = s2 at *
    generalize ah.length - 1 = m at *
    generalize ah.length = n at *
    generalize t.name = s1 at *
    have h1 : (m : Int) < n := by omega
    go_enter Tryd.func43, Tryd.ntmps43
    go_upto_region 1 with fail
    go_quiet (fail)
    go_wp2_with fail
    go_ret
    exact ⟨rfl, Go.below_drewN (Below.refl _ _) _⟩
set_option maxHeartbeats 2000000 in
theorem pq5 {W : World} {ga gs k : Nat} {caps : Array Value} {ta : Option Addr} {n tp : Nat} {ah : List Ten} {f : Ten → Bool} (hf : PrT W k caps f) (hs : W.cell? ⟨gs, 0, none⟩ = some (.func (.func k) #[] caps)) (hc : W.cell? ⟨ga, 0, none⟩ = some (.slice ta n tp)) (ht : TSV W (.slice ta n tp) ah) (hl : ah.length ≤ 1000000) (hm : ∀ t ∈ ah, TSm t) :
    Ask W 45 #[.pointer (some ⟨ga, 0, none⟩), .pointer (some ⟨gs, 0, none⟩)] (ah.any f) := by
  refine ⟨enters_of Tryd.func45 (by kernel_rfl) rfl, fun V hV => ?_⟩
  have c0 := cell_later hV hs
  have c1 := cell_later hV hc
  have C := containsf_t (ht.at_ hV (Nat.le_refl _)) hl (hf.later hV) hm
  clear hf hs hc ht hl hm
  simp only [List.append_toArray, List.cons_append, List.nil_append, Array.empty_append]
  generalize ah.any f = B at *
  go_enter Tryd.func45, Tryd.ntmps45
  go_wp2_with fail
  refine C.mono ?_
  rintro _ X ⟨rfl, hb⟩
  go_wp2_with fail
  go_ret
  exact ⟨rfl, hb⟩
set_option maxHeartbeats 2000000 in
theorem pq6 {W : World} {g gk k : Nat} {caps : Array Value} {t : Ten} {f : Int → Bool} (h : TBo W g t) (hm : TSm t) (hf : PrU W k caps f) (hs : W.cell? ⟨gk, 0, none⟩ = some (.func (.func k) #[] caps)) :
    Ask W 46 #[.pointer (some ⟨g, 0, none⟩), .pointer (some ⟨gk, 0, none⟩)] (ow1 t f) := by
  refine ⟨enters_of Tryd.func46 (by kernel_rfl) rfl, fun V hV => ?_⟩
  obtain ⟨tl, pa, sa, qa, pc, sc, qc, hg, hx⟩ := h.later hV
  have c0 := cell_later hV hs
  have C := ownsOne_any hx.tv hm (hf.later hV)
  have i33 := i33_of hx.len
  clear h hx hm hf hs
  simp only [List.append_toArray, List.cons_append, List.nil_append, Array.empty_append]
  generalize ow1 t f = B at *
  generalize tl.toArray = A at *
  go_enter Tryd.func46, Tryd.ntmps46
  go_wp2_with (refine wpList_load_row rfl 39 (.tmp 0) (by with_reducible rfl) g (by first | rfl | simp [Act.eval]) 39 A (0, 0) _ hg Tryd.underlying39 rfl i33 ?_)
  refine C.mono ?_
  rintro _ X ⟨rfl, hb⟩
  go_wp2_with fail
  go_ret
  exact ⟨rfl, hb⟩
end Go.Proofs.YtnddbklbgddblaaDoor

namespace Go.Proofs.YtnddbklbgddblaaDoor
open Go.RowKit
open La
open Ad
set_option linter.unusedVariables false
set_option linter.unusedSimpArgs false
set_option maxRecDepth 20000
end Go.Proofs.YtnddbklbgddblaaDoor

