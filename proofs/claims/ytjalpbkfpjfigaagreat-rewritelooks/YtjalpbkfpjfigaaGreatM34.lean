/-
  What rewrite.Change answers, whatever bytes and points it is handed.
-/
import Derived.Test.YtjalpbkfpjfigaaGreatM33
namespace Go.Proofs.YtjalpbkfpjfigaaGreat
open Go.RowKit
open Sm
set_option linter.unusedVariables false
set_option maxRecDepth 20000

namespace Sm
theorem chDg_ok {u : Dg} (h : u.Ok) {s d : Pt} (hs : s.Ok) (hd : d.Ok) : (chDg u s d).Ok := by
  have r := usum_range s.ip d.ip (u.to s d)
  unfold chDg
  split
  · exact ⟨hs.port, hd.port, h.sum, h.body⟩
  · exact ⟨hs.port, hd.port, r, h.body⟩
theorem chSg_ok {q : Sg} (h : q.Ok) {s d : Pt} (hs : s.Ok) (hd : d.Ok) : (chSg q s d).Ok :=
  ⟨hs.port, hd.port, h.seq, h.ack, h.flags, h.win, tsum_range _ _ _, h.urg, h.opts, h.body⟩
theorem msl_ok {m : Mg} (h : m.Ok) : (msl m).Ok := ⟨h.typ, h.code, msum_range m, h.rest, h.body⟩
theorem chMg_ok {f : Fl} {m : Mg} (h : m.Ok) {s : Pt} (hs : s.Ok) : (chMg f m s).Ok := by
  have a := h.rest
  have b := hs.port
  unfold chMg
  split
  · exact h
  · exact ⟨h.typ, h.code, h.sum, ⟨by simp only [Mg.id]; omega, by simp only [Mg.id]; omega⟩, h.body⟩
theorem chBody_ok {p : Pk} (h : p.Ok) (f : Fl) {s d : Pt} (hs : s.Ok) (hd : d.Ok) : IsBytes (chBody p f s d) ∧ (chBody p f s d).length ≤ 65535 := by
  unfold chBody
  split
  · exact udOut_facts (chDg_ok (udRes_ok h.body) hs hd)
  · split
    · have := tcOut_facts (chSg_ok (tcRes_ok h.body) hs hd); exact ⟨this.1, by omega⟩
    · split
      · have := mgOut_facts (msl_ok (chMg_ok (f := f) (mgRes_ok h.body) hs)); exact ⟨this.1, by omega⟩
      · exact ⟨bytes_nil, by simp⟩
theorem chPk_ok {p : Pk} (h : p.Ok) (f : Fl) {s d : Pt} (hs : s.Ok) (hd : d.Ok) : (chPk p f s d).Ok :=
  ⟨h.tos, h.ttl, h.proto, h.id, h.flags, h.off, hs.ip, hd.ip, h.opts, (chBody_ok h f hs hd).1⟩
end Sm
theorem Mem.ltAt {w W : World} {L : List (Nat × Obj)} (h : Mem w W L) (i : Nat) {g : Nat} {o : Obj} (hi : L[i]? = some (g, o)) : g < W.heap.size := h.lt (p := (g, o)) (List.mem_of_getElem? hi)
theorem bdv_to {w : World} {C : Nat} {v : Value} {p : Pk} (h : BdV w C v p) (x y : Int) : BdV w C v (p.to x y p.body) := h
/-- A packet with another body. -/
theorem ipv_with {w W : World} {B D : Nat} {p : Pk} {ao bo : Option Addr} {co cb : Nat} (h : IpV w B (.agg (ipB p (.slice ao p.opts.length co) (.slice bo p.body.length cb))) p) (hb : Below w.heap.size w W) (x y : Int) {xa : Option Addr} {xn xc : Nat} {body : List Int}
    (ho : W.ownsRow D 5 1 (.slice xa xn xc) xn (body.map (Value.int .u8))) (hl : body.length = xn) (hy : IsBytes body) (hn : xn ≤ 70000) :
    IpV W 0 (.agg (ipA p.tos p.ttl p.proto p.id p.flags p.off x y (.slice ao p.opts.length co) (.slice xa xn xc))) (p.to x y body) := by
  obtain ⟨ao', co', bo', cb', e, h1, -, h3, -⟩ := h
  simp only [ipA, Value.agg.injEq, Array.mk.injEq, List.cons.injEq, true_and, and_true, Value.slice.injEq] at e
  obtain ⟨⟨rfl, rfl⟩, rfl, rfl⟩ := e
  obtain ⟨za, zc, e, hr, hnil, -⟩ := own_read ho hl hy (by omega)
  cases e
  subst hl
  exact ⟨ao, co, xa, xc, rfl, h1.below hb (Nat.le_refl _), hr, h3, hnil, fun _ _ => Nat.zero_le _, fun _ _ => Nat.zero_le _⟩

set_option maxHeartbeats 2000000 in
theorem change_no {w : World} {a : Option Addr} {n c : Nat} {l : List Int} (hr : Row w a l) (hn : l.length = n) (hc : n ≤ c) (s d : Pt) (h0 : lkErr l ≠ 0) :
    Calls Tryz.prog 9 #[.slice a n c, .agg (ptA s), .agg (ptA d)] w fun e w' => e = .returned (.tuple #[.slice none 0 0, .int .i64 (lkErr l)]) ∧ Below w.heap.size w w' := by
  have hM : Mem w ((w.alloc (.cells (ptA s) ptT)).alloc (.cells (ptA d) ptT)) [(w.heap.size, .cells (ptA s) ptT), (w.heap.size + 1, .cells (ptA d) ptT)] := ((Mem.nil w).push1 rfl).push2 (by simp)
  have hL := look_any (hM.row hr) hn hc
  have HZ : Hid (∀ W B v, SeV W B v l → v = .agg sn0) := fun W B v h => by
    rcases h with ⟨-, h⟩ | ⟨h, -⟩
    · exact h
    · exact absurd h h0
  have HM : Hid _ := hM
  clear hM hr hn hc
  generalize lkErr l = E at *
  have h0' : (E == 0) = false := by simp [h0]
  go_enter Tryz.func9, Tryz.ntmps9
  go_wp2_with fail
  refine hL.mono ?_
  rintro e w1 ⟨v, rfl, hv, hb1⟩
  obtain rfl := HZ.out _ _ _ hv
  have hgA := heap_alloc_new w1 (.cells sn0 snT)
  have HB : Hid (Below w.heap.size w ((w1.alloc (.cells sn0 snT)).setRow w1.heap.size sn0)) := below_setRow ((HM.out.below.trans (hb1.mono HM.out.below.size)).alloc (Nat.le_trans HM.out.below.size hb1.size) _) (Nat.le_trans HM.out.below.size hb1.size) _
  clear hL hv hb1 HM
  go_wp2_with (refine wpList_store_row rfl snT _ _ rfl w1.heap.size sn0 rfl rfl snT sn0 hgA (by kernel_rfl) rfl sn0_one ?_)
  go_ret2
  exact ⟨rfl, HB.out⟩

set_option maxHeartbeats 4000000 in
theorem change_yes {w : World} {a : Option Addr} {n c : Nat} {l : List Int} (hr : Row w a l) (hn : l.length = n) (hc : n ≤ c) (s d : Pt) (hs : s.Ok) (hd : d.Ok) (h0 : lkErr l = 0) :
    Calls Tryz.prog 9 #[.slice a n c, .agg (ptA s), .agg (ptA d)] w fun e w' => ∃ u, e = .returned (.tuple #[u, .int .i64 (chErr l s d)]) ∧ w'.ownsRow w.heap.size 5 1 u (chOut l s d).length ((chOut l s d).map (Value.int .u8)) ∧ Below w.heap.size w w' := by
  have hM : Mem w ((w.alloc (.cells (ptA s) ptT)).alloc (.cells (ptA d) ptT)) [(w.heap.size, .cells (ptA s) ptT), (w.heap.size + 1, .cells (ptA d) ptT)] := ((Mem.nil w).push1 rfl).push2 (by simp)
  have hL := look_any (hM.row hr) hn hc
  have hok : (ipPk l).Ok := by have := ipRes_ok hr.bytes; rwa [show ipRes l = ipPk l from if_pos (lk_parts h0).1] at this
  have HO : Hid ((ipPk l).Ok ∧ s.Ok ∧ d.Ok) := ⟨hok, hs, hd⟩
  have HZ : Hid (∀ W B v, SeV W B v l → ∃ ao bo ia co cb ic bt bu, v = .agg (snB (ipPk l) (.slice ao (ipPk l).opts.length co) (.slice bo (ipPk l).body.length cb) (.iface bt bu) (flFl (ipPk l)) (.slice ia (flFl (ipPk l)).inner.length ic)) ∧ SnL W B (ipPk l) (flFl (ipPk l)) ao bo ia co cb ic bt bu) := fun W B v h => by
    rcases h with ⟨h, -⟩ | ⟨-, h⟩
    · exact absurd h0 h
    · exact h
  have HM : Hid _ := hM
  have HE : Hid (chErr l s d = if pfit (flFl (ipPk l)) s d = false then 21 else ipbErr (chPk (ipPk l) (flFl (ipPk l)) s d)) := by show _ = _; unfold chErr; rw [if_neg (by omega)]
  have HU : Hid (chOut l s d = if pfit (flFl (ipPk l)) s d = false then [] else ipOut (chPk (ipPk l) (flFl (ipPk l)) s d)) := by show _ = _; unfold chOut; rw [if_neg (by omega)]
  rw [h0] at hL
  clear hM hr hn hc h0 hs hd hok
  generalize chErr l s d = E at *
  generalize chOut l s d = U at *
  generalize ipPk l = p at *
  generalize flFl p = f at *
  generalize hno : p.opts.length = no at *
  generalize hnb : p.body.length = nb at *
  generalize hni : f.inner.length = ni at *
  have HNO : Hid (p.opts.length = no ∧ p.body.length = nb ∧ f.inner.length = ni) := ⟨hno, hnb, hni⟩
  clear hno hnb hni
  go_enter Tryz.func9, Tryz.ntmps9
  go_wp2_with fail
  refine hL.mono ?_
  rintro e w1 ⟨v, rfl, hv, hb1⟩
  obtain ⟨ao, bo, ia, co, cb, ic, bt, bu, rfl, hsn⟩ := HZ.out _ _ _ hv
  have hM1 := HM.out.after hb1
  have hgA := heap_alloc_new w1 (.cells sn0 snT)
  go_upto_region 2 with (refine wpList_store_row rfl snT _ _ rfl w1.heap.size (snB p (.slice ao no co) (.slice bo nb cb) (.iface bt bu) f (.slice ia ni ic)) rfl rfl snT sn0 hgA (by kernel_rfl) rfl (sn_one ..) ?_)
  refine wp_letter (fun W => Mem w W [(w.heap.size, .cells (ptA s) ptT), (w.heap.size + 1, .cells (ptA d) ptT), (w1.heap.size, .cells (snB p (.slice ao no co) (.slice bo nb cb) (.iface bt bu) f (.slice ia ni ic)) snT (0, 0))] ∧ Below w1.heap.size w1 W) ⟨(hM1.push3 rfl).wrote 2 rfl (wrote_setRow _ _ sn0 (snB p (.slice ao no co) (.slice bo nb cb) (.iface bt bu) f (.slice ia ni ic)) snT hgA), below_setRow ((Below.refl _ _).alloc (Nat.le_refl _) _) (Nat.le_refl _) _⟩ ?_
  intro w2 ⟨hM2, hsn2⟩
  have HM2 : Hid _ := hM2
  have HS2 : Hid (Below w1.heap.size w1 w2) := hsn2
  have HSN : Hid (∀ W, Below w1.heap.size w1 W → SnL W 0 p f ao bo ia co cb ic bt bu) := fun W hb => (hsn.below hb (Nat.le_refl _)).mono (Nat.zero_le _)
  have c0 : ∀ i, w2.cell? ⟨w.heap.size, i, none⟩ = (ptA s)[i]? := hM2.cell 0 rfl
  have c1 : ∀ i, w2.cell? ⟨w.heap.size + 1, i, none⟩ = (ptA d)[i]? := hM2.cell 1 rfl
  have hPF := pfit_any (w := w2) f ia ic s d
  rw [HNO.out.2.2] at hPF
  obtain ⟨Q, hQ⟩ : ∃ Q, w1.heap.size = Q := ⟨_, rfl⟩
  rw [hQ] at hM2 HM2 HS2 HSN
  have q11 : w2.cell? ⟨Q, 11, none⟩ = some (.int .u8 f.proto) := hM2.cell 2 rfl 11
  have q12 : w2.cell? ⟨Q, 12, none⟩ = some (.int .u32 f.src.ip) := hM2.cell 2 rfl 12
  have q13 : w2.cell? ⟨Q, 13, none⟩ = some (.int .u16 f.src.port) := hM2.cell 2 rfl 13
  have q14 : w2.cell? ⟨Q, 14, none⟩ = some (.int .u32 f.dst.ip) := hM2.cell 2 rfl 14
  have q15 : w2.cell? ⟨Q, 15, none⟩ = some (.int .u16 f.dst.port) := hM2.cell 2 rfl 15
  have q16 : w2.cell? ⟨Q, 16, none⟩ = some (.int .u8 f.flags) := hM2.cell 2 rfl 16
  have q17 : w2.cell? ⟨Q, 17, none⟩ = some (.slice ia ni ic) := hM2.cell 2 rfl 17
  clear hM2 hsn2 hM1 hgA hsn hv hb1 hL HM HZ
  rw [hQ]
  have HQ1 : Hid (w1.heap.size = Q) := hQ
  clear hQ
  go_wp2_with fail
  refine hPF.mono ?_
  rintro e w3 ⟨rfl, hb3⟩
  have hM3 := HM2.out.after hb3
  have HM3 : Hid _ := hM3
  have HS3 : Hid (Below Q w1 w3) := HS2.out.trans (hb3.mono (Nat.le_of_lt (HM2.out.ltAt 2 rfl)))
  clear hPF hb3 c0 c1 q11 q12 q13 q14 q15 q16 q17 HM2 HS2
  cases hpf : pfit f s d with
  | false =>
    rw [if_pos hpf] at HE HU
    have HB : Hid _ := hM3.below
    clear hM3
    go_wp2_with fail
    go_ret2
    exact ⟨_, by rw [HE.out] <;> rfl, by rw [HU.out]; exact World.ownsRow_nil _ _ _ _, HB.out⟩
  | true =>
    rw [if_neg (by simp [hpf])] at HE HU
    have a0 : w3.cell? ⟨w.heap.size, 0, none⟩ = some (.int .u32 s.ip) := hM3.cell 0 rfl 0
    have a1 : w3.cell? ⟨w.heap.size + 1, 0, none⟩ = some (.int .u32 d.ip) := hM3.cell 1 rfl 0
    have k6 : w3.cell? ⟨Q, 6, none⟩ = some (.int .u32 p.src) := hM3.cell 2 rfl 6
    have k7 : w3.cell? ⟨Q, 7, none⟩ = some (.int .u32 p.dst) := hM3.cell 2 rfl 7
    have kf : ∀ i, w3.frozen? ⟨Q, i, none⟩ = false := hM3.free 2 rfl
    have n1 : w.heap.size ≠ Q := hM3.ne 0 2 rfl rfl (by decide)
    have n2 : w.heap.size + 1 ≠ Q := hM3.ne 1 2 rfl rfl (by decide)
    have n1' : Q ≠ w.heap.size := fun e => n1 e.symm
    have n2' : Q ≠ w.heap.size + 1 := fun e => n2 e.symm
    clear hM3
    go_upto_region 6 with fail
    go_region_held3 (fun w' => w'.cell? ⟨w.heap.size, 0, none⟩ = some (.int .u32 s.ip) ∧ w'.cell? ⟨w.heap.size + 1, 0, none⟩ = some (.int .u32 d.ip)) (go_keep) (fail)
    all_goals
      go_upto_region 7 with fail
      refine wp_letter (fun W => Mem w W [(w.heap.size, .cells (ptA s) ptT), (w.heap.size + 1, .cells (ptA d) ptT), (Q, .cells (snB (p.to s.ip d.ip p.body) (.slice ao no co) (.slice bo nb cb) (.iface bt bu) f (.slice ia ni ic)) snT (0, 0))] ∧ Below Q w1 W) ⟨by first | exact ((HM3.out.drew.set 2 rfl 6 _).set 2 rfl 7 _) | exact ((HM3.out.drew.set 2 rfl 7 _).set 2 rfl 6 _), by repeat (first | exact HS3.out | refine below_set ?_ (Nat.le_refl _) | refine Below.drew ?_)⟩ ?_
      intro w4 ⟨hM4, hb4⟩
      have HM4 : Hid _ := hM4
      have HS4 : Hid _ := hb4
      clear a0 a1 k6 k7 kf HM3 HS3
      have hg := hM4.get 2 rfl
      have c0 : ∀ i, w4.cell? ⟨w.heap.size, i, none⟩ = (ptA s)[i]? := hM4.cell 0 rfl
      have c1 : ∀ i, w4.cell? ⟨w.heap.size + 1, i, none⟩ = (ptA d)[i]? := hM4.cell 1 rfl
      have hsn4 := HSN.out w4 hb4
      obtain ⟨C, -, hbd, -⟩ := hsn4.bd
      have hpo : (p.to s.ip d.ip p.body).Ok := ⟨HO.out.1.tos, HO.out.1.ttl, HO.out.1.proto, HO.out.1.id, HO.out.1.flags, HO.out.1.off, HO.out.2.1.ip, HO.out.2.2.ip, HO.out.1.opts, HO.out.1.body⟩
      have hCh := changed_any (o := .slice ao no co) (b := .slice bo nb cb) (ia := ia) (ic := ic) (f := f) hpo (bdv_to hbd s.ip d.ip) s d HO.out.2.1 HO.out.2.2
      rw [HNO.out.2.2, show chBody (p.to s.ip d.ip p.body) f s d = chBody p f s d from rfl] at hCh
      clear hM4 hb4 hsn4 hbd hpo
      go_wp2_with (refine wpList_load_row rfl snT _ rfl Q rfl snT _ (0, 0) _ hg Tryz.underlying66 rfl (by kernel_rfl) ?_)
      refine hCh.mono ?_
      rintro e w5 ⟨x, rfl, hown, hb5⟩
      obtain ⟨xa, xc, rfl⟩ := own_len hown
      obtain ⟨xn, hxn⟩ : ∃ xn, (chBody p f s d).length = xn := ⟨_, rfl⟩
      have hM5 := HM4.out.after hb5
      have HM5 : Hid _ := hM5
      have HS5 : Hid (Below Q w1 w5) := HS4.out.trans (hb5.mono (Nat.le_of_lt (HM4.out.ltAt 2 rfl)))
      have HW5 : Hid (w.heap.size ≤ w4.heap.size ∧ Q < w4.heap.size) := ⟨HM4.out.below.size, HM4.out.ltAt 2 rfl⟩
      have HX5 : Hid _ := hown
      have HXN : Hid ((chBody p f s d).length = xn) := hxn
      rw [hxn] at HX5 ⊢
      have k9 : w5.cell? ⟨Q, 9, none⟩ = some (.slice bo nb cb) := hM5.cell 2 rfl 9
      have kf : ∀ i, w5.frozen? ⟨Q, i, none⟩ = false := hM5.free 2 rfl
      clear hCh hown hb5 hM5 hg c0 c1 HM4 HS4 hxn
      go_upto_region 8 with fail
      refine wp_letter (fun W => Mem w W [(w.heap.size, .cells (ptA s) ptT), (w.heap.size + 1, .cells (ptA d) ptT), (Q, .cells (snB (p.to s.ip d.ip p.body) (.slice ao no co) (.slice xa xn xc) (.iface bt bu) f (.slice ia ni ic)) snT (0, 0))] ∧ Below Q w1 W ∧ W.ownsRow w4.heap.size 5 1 (.slice xa xn xc) xn ((chBody p f s d).map (Value.int .u8))) ⟨HM5.out.set 2 rfl 9 _, below_set HS5.out (Nat.le_refl _), own_above HX5.out ((Above.refl _ _).set HW5.out.2)⟩ ?_
      intro w6 ⟨hM6, hb6, hx6⟩
      have HM6 : Hid _ := hM6
      clear k9 kf HM5 HS5 HX5
      have z0 : w6.cell? ⟨Q, 0, none⟩ = some (.int .u8 p.tos) := hM6.cell 2 rfl 0
      have z1 : w6.cell? ⟨Q, 1, none⟩ = some (.int .u8 p.ttl) := hM6.cell 2 rfl 1
      have z2 : w6.cell? ⟨Q, 2, none⟩ = some (.int .u8 p.proto) := hM6.cell 2 rfl 2
      have z3 : w6.cell? ⟨Q, 3, none⟩ = some (.int .u16 p.id) := hM6.cell 2 rfl 3
      have z4 : w6.cell? ⟨Q, 4, none⟩ = some (.int .u8 p.flags) := hM6.cell 2 rfl 4
      have z5 : w6.cell? ⟨Q, 5, none⟩ = some (.int .u16 p.off) := hM6.cell 2 rfl 5
      have z6 : w6.cell? ⟨Q, 6, none⟩ = some (.int .u32 s.ip) := hM6.cell 2 rfl 6
      have z7 : w6.cell? ⟨Q, 7, none⟩ = some (.int .u32 d.ip) := hM6.cell 2 rfl 7
      have z8 : w6.cell? ⟨Q, 8, none⟩ = some (.slice ao no co) := hM6.cell 2 rfl 8
      have z9 : w6.cell? ⟨Q, 9, none⟩ = some (.slice xa xn xc) := hM6.cell 2 rfl 9
      have hv6 := ipv_with (HSN.out w1 (Below.refl _ _)).ip (by rw [HQ1.out]; exact hb6) s.ip d.ip hx6 HXN.out (chBody_ok HO.out.1 f HO.out.2.1 HO.out.2.2).1 (by have := (chBody_ok HO.out.1 f HO.out.2.1 HO.out.2.2).2; have := HXN.out; omega)
      rw [HNO.out.1] at hv6
      have hB := bytes_any (chPk_ok HO.out.1 f HO.out.2.1 HO.out.2.2) hv6
      clear hM6 hb6 hx6 hv6
      go_wp2_with fail
      refine hB.mono ?_
      rintro e w7 ⟨u, rfl, hown, hb7⟩
      have HB7 : Hid _ := HM6.out.below.trans (hb7.mono HM6.out.below.size)
      have HU7 : Hid _ := own_base hown HM6.out.below.size
      clear hown hb7 hB z0 z1 z2 z3 z4 z5 z6 z7 z8 z9
      go_wp2_with fail
      go_ret2
      exact ⟨_, by rw [HE.out] <;> rfl, by rw [HU.out]; exact HU7.out, HB7.out⟩

/-- What rewrite.Change answers, whatever it is handed. -/
theorem change_any {w : World} {a : Option Addr} {n c : Nat} {l : List Int} (hr : Row w a l) (hn : l.length = n) (hc : n ≤ c) (s d : Pt) (hs : s.Ok) (hd : d.Ok) :
    Calls Tryz.prog 9 #[.slice a n c, .agg (ptA s), .agg (ptA d)] w fun e w' => ∃ u, e = .returned (.tuple #[u, .int .i64 (chErr l s d)]) ∧ w'.ownsRow w.heap.size 5 1 u (chOut l s d).length ((chOut l s d).map (Value.int .u8)) ∧ Below w.heap.size w w' := by
  by_cases h0 : lkErr l = 0
  · exact change_yes hr hn hc s d hs hd h0
  · refine (change_no hr hn hc s d h0).mono ?_
    rintro e w' ⟨rfl, hb⟩
    rw [show chErr l s d = lkErr l by unfold chErr; rw [if_pos h0], show chOut l s d = [] by unfold chOut; rw [if_pos h0]]
    exact ⟨_, rfl, World.ownsRow_nil _ _ _ _, hb⟩
end Go.Proofs.YtjalpbkfpjfigaaGreat

