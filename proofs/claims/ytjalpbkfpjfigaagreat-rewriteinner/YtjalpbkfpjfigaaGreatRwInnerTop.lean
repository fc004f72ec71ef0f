/-
  What rewrite.innerChanged and rewrite.Inner answer, whatever they are handed.
-/
import Derived.Test.YtjalpbkfpjfigaaGreatRwInnerAll
import Derived.Test.YtjalpbkfpjfigaaGreatRwOut
import Derived.Test.YtjalpbkfpjfigaaGreatRwPacket
namespace Go.Proofs.YtjalpbkfpjfigaaGreat
open Go.RowKit
open Sm
set_option linter.unusedVariables false
set_option maxRecDepth 20000

/-! ### What turns one old block, and makes new ones. -/
structure Turn (g : Nat) (w w' : World) : Prop where
  there : ∀ k, k < w.heap.size → k ≠ g → w'.heap[k]? = w.heap[k]?
  size : w.heap.size ≤ w'.heap.size
  below : ∀ B w0, B ≤ g → B ≤ w.heap.size → Below B w0 w → Below B w0 w'
theorem Only.turn {g : Nat} {w w' : World} (h : Only g w w') : Turn g w w' := ⟨fun k _ hk => h.there k hk, Nat.le_of_eq h.size.symm, fun B w0 hB _ hb => h.below B w0 hB hb⟩
theorem turn_of {g : Nat} {w w' : World} (h : Below w.heap.size w w') : Turn g w w' := ⟨fun k hk _ => h.block k hk, h.size, fun B w0 _ hB hb => hb.trans (h.mono hB)⟩
theorem Turn.trans {g : Nat} {w w1 w2 : World} (h : Turn g w w1) (k : Turn g w1 w2) : Turn g w w2 :=
  ⟨fun j hj hg => (k.there j (Nat.lt_of_lt_of_le hj h.size) hg).trans (h.there j hj hg), Nat.le_trans h.size k.size, fun B w0 hB hw hb => k.below B w0 hB (Nat.le_trans hw h.size) (h.below B w0 hB hw hb)⟩
theorem Turn.mem {g : Nat} {w W W' : World} {L : List (Nat × Obj)} (h : Turn g W W') (hM : Mem w W L) (hg : w.heap.size ≤ g) (hn : ∀ p ∈ L, p.1 ≠ g) : Mem w W' L :=
  ⟨h.below _ _ hg hM.below.size hM.below, hM.low, fun p hp => by rw [h.there _ (hM.lt hp) (hn p hp)]; exact hM.at_ p hp, hM.apart⟩
theorem Turn.row {g : Nat} {W W' : World} (h : Turn g W W') {a : Option Addr} {l : List Int} (hr : Row W a l) (hf : Far g a l) : Row W' a l := by
  refine ⟨hr.bytes, hr.len, ?_⟩
  rcases hf with e | hf
  · exact Or.inl e
  · rcases hr.cells with e | ⟨b, off, rfl, hc⟩
    · exact Or.inl e
    · refine Or.inr ⟨b, off, rfl, fun i hi => ?_⟩
      have h1 := hc i hi
      have h2 := cell_lt h1
      have h3 := hf _ rfl
      unfold World.cell? at h1 ⊢
      simp only at h1 h2 h3 ⊢
      rw [h.there b h2 (fun e => h3 e.symm)]
      exact h1
theorem cells_at {W : World} {k : Nat} {cs : Array Value} {t : TypeId} (hk : W.heap[k]? = some (.cells cs t (0, 0))) (i : Nat) : W.cell? ⟨k, i, none⟩ = cs[i]? := by
  unfold World.cell?; simp only [hk] <;> rfl
theorem OwnB.base {w : World} {B C g cap : Nat} {l : List Int} (h : OwnB w B g cap l) (hC : C ≤ B) : OwnB w C g cap l := own_base h hC
theorem OwnB.after {w w' : World} {B C g cap : Nat} {l : List Int} (h : OwnB w B g cap l) (hb : Below C w w') (hC : w.heap.size ≤ C) : OwnB w' B g cap l := own_after h hb hC
theorem OwnB.lt {w : World} {B g cap : Nat} {l : List Int} (h : OwnB w B g cap l) (hl : 0 < l.length) : g < w.heap.size := cell_lt (h.cell 0 hl)

namespace Sm
theorem putA_get {l : List Int} (h : 20 ≤ l.length) (s d : Int) (i : Nat) (hi : i < 10 ∨ 20 ≤ i) : (putA l s d).getD i 0 = l.getD i 0 := by
  unfold putA
  rw [putw_getD _ _ _ _ (by simp only [putw_len]; omega), if_neg (by omega), if_neg (by omega), putw_getD _ _ _ _ (by simp only [putw_len]; omega), if_neg (by omega), if_neg (by omega), putw_getD _ _ _ _ (by simp only [putw_len]; omega), if_neg (by omega), if_neg (by omega), putw_getD _ _ _ _ (by simp only [putw_len]; omega), if_neg (by omega), if_neg (by omega), putw_getD _ _ _ _ (by omega), if_neg (by omega), if_neg (by omega)]
theorem hdl_putA {l : List Int} (h : 20 ≤ l.length) (s d : Int) : hdl (putA l s d) = hdl l := by unfold hdl; rw [putA_get h s d 0 (by omega)]
theorem putA_bytes {l : List Int} (hb : IsBytes l) (h : 20 ≤ l.length) {s d : Int} (hs : 0 ≤ s ∧ s ≤ 4294967295) (hd : 0 ≤ d ∧ d ≤ 4294967295) : IsBytes (putA l s d) := by
  have r : 0 ≤ inSum l s d ∧ inSum l s d ≤ 65535 := updv_range _ _ _
  unfold putA
  refine putw_bytes (putw_bytes (putw_bytes (putw_bytes (putw_bytes hb _ _ ?_ ?_ ?_) _ _ ?_ ?_ ?_) _ _ ?_ ?_ ?_) _ _ ?_ ?_ ?_) _ _ ?_ ?_ ?_
  all_goals first | omega | (simp only [putw_len]; omega) | exact r.1 | exact r.2
theorem putP_bytes {l : List Int} (hb : IsBytes l) (h : hdl l + 8 ≤ l.length) {s d : Int} (hs : 0 ≤ s ∧ s ≤ 65535) (hd : 0 ≤ d ∧ d ≤ 65535) : IsBytes (putP l s d) := by
  unfold putP
  split
  · exact putw_bytes hb _ _ (by omega) hs.1 hs.2
  · exact putw_bytes (putw_bytes hb _ _ (by omega) hs.1 hs.2) _ _ (by rw [putw_len]; omega) hd.1 hd.2
theorem inPut_bytes {l : List Int} (hb : IsBytes l) (h : 20 ≤ l.length) (h8 : hdl l + 8 ≤ l.length) {s d : Pt} (hs : s.Ok) (hd : d.Ok) : IsBytes (inPut l s d) :=
  putP_bytes (putA_bytes hb h hs.ip hd.ip) (by rw [hdl_putA h, putA_len]; exact h8) hs.port hd.port
theorem bod_ok {m : Mg} (hm : m.Ok) {b : List Int} (hb : IsBytes b) : (m.bod b).Ok := ⟨hm.typ, hm.code, hm.sum, hm.rest, hb⟩
theorem pkbod_ok {p : Pk} (h : p.Ok) {b : List Int} (hb : IsBytes b) : (p.bod b).Ok := ⟨h.tos, h.ttl, h.proto, h.id, h.flags, h.off, h.src, h.dst, h.opts, hb⟩
theorem inner_some {p : Pk} (h : (flFl p).inner.length ≠ 0) : ¬ p.proto = 17 ∧ ¬ p.proto = 6 ∧ inOk (mgRes p.body).body = true := by
  unfold flFl at h
  split at h
  · simp at h
  · split at h
    · simp at h
    · refine ⟨by assumption, by assumption, ?_⟩
      unfold mfFl fl0 at h
      split at h
      · simp at h
      · split at h
        · rename_i hx; exact hx.2
        · simp [Fl.zero] at h
theorem inMg_ok {m : Mg} (hm : m.Ok) (h : 20 ≤ m.body.length) (h8 : hdl m.body + 8 ≤ m.body.length) {s d : Pt} (hs : s.Ok) (hd : d.Ok) : (inMg m s d).Ok := msl_ok (bod_ok hm (inPut_bytes hm.body h h8 hs hd))
end Sm

set_option maxHeartbeats 4000000 in
theorem inch_bad {w : World} {C g cap n : Nat} {m : Mg} (hm : m.Ok) (ho : OwnB w C g cap m.body) (hn : m.body.length = n) (h20 : 20 ≤ n) (hl : n ≤ 65535) (s d : Pt) (hbad : m.body.getD 9 0 = 1 ∧ s.port ≠ d.port) :
    Calls Tryz.prog 39 #[.iface mgT (.agg (mgA m.typ m.code m.sum m.rest (.slice (some ⟨g, 0, none⟩) n cap))), .agg (ptA s), .agg (ptA d)] w fun e w' => e = .returned (.tuple #[.slice none 0 0, .int .i64 21]) ∧ Below w.heap.size w w' := by
  have hM : Mem w (((w.alloc (.cells (ptA s) ptT)).alloc (.cells (ptA d) ptT)).alloc (.cells (mgA m.typ m.code m.sum m.rest (.slice (some ⟨g, 0, none⟩) n cap)) mgT)) [(w.heap.size, .cells (ptA s) ptT), (w.heap.size + 1, .cells (ptA d) ptT), (w.heap.size + 2, .cells (mgA m.typ m.code m.sum m.rest (.slice (some ⟨g, 0, none⟩) n cap)) mgT)] := (((Mem.nil w).push1 rfl).push2 (by simp)).push3 (by simp)
  have hta := assert_icmp (.agg (mgA m.typ m.code m.sum m.rest (.slice (some ⟨g, 0, none⟩) n cap)))
  have HM : Hid _ := hM
  have he := xecho_any (c := cap) ((ho.after hM.below (Nat.le_refl _)).row hm.body (by omega)) hn h20
  simp only [hbad.1, decide_true] at he
  have hne : (s.port == d.port) = false := by simp [hbad.2]
  clear hm ho hn h20 hl hbad
  go_enter Tryz.func39, Tryz.ntmps39
  go_upto_region 2 with fail
  refine wp_letter (fun W => Mem w W [(w.heap.size, .cells (ptA s) ptT), (w.heap.size + 1, .cells (ptA d) ptT), (w.heap.size + 2, .cells (mgA m.typ m.code m.sum m.rest (.slice (some ⟨g, 0, none⟩) n cap)) mgT)] ∧ Calls Tryz.prog 71 #[.slice (some ⟨g, 0, none⟩) n cap] W fun e w' => e = .returned (.bool true) ∧ W = w') ⟨HM.out, he⟩ ?_
  intro w1 ⟨hM1, he1⟩
  have HB1 : Hid (Below w.heap.size w w1) := hM1.below
  have k0 : ∀ i, w1.cell? ⟨w.heap.size, i, none⟩ = (ptA s)[i]? := hM1.cell 0 rfl
  have k1 : ∀ i, w1.cell? ⟨w.heap.size + 1, i, none⟩ = (ptA d)[i]? := hM1.cell 1 rfl
  have k2 : ∀ i, w1.cell? ⟨w.heap.size + 2, i, none⟩ = (mgA m.typ m.code m.sum m.rest (.slice (some ⟨g, 0, none⟩) n cap))[i]? := hM1.cell 2 rfl
  clear hM hM1 HM he hta
  go_wp2_with fail
  refine he1.mono ?_
  rintro e w' ⟨rfl, rfl⟩
  clear he1
  go_wp2_with fail
  go_ret2
  exact ⟨rfl, HB1.out⟩

set_option maxHeartbeats 8000000 in
theorem inch_ok {w : World} {C g cap n : Nat} {m : Mg} (hm : m.Ok) (ho : OwnB w C g cap m.body) (hn : m.body.length = n) (h20 : 20 ≤ n) (h8 : hdl m.body + 8 ≤ n) (hl : n ≤ 65535) (hc : n ≤ cap) (s d : Pt) (hs : s.Ok) (hd : d.Ok) (hbad : ¬ (m.body.getD 9 0 = 1 ∧ s.port ≠ d.port)) :
    Calls Tryz.prog 39 #[.iface mgT (.agg (mgA m.typ m.code m.sum m.rest (.slice (some ⟨g, 0, none⟩) n cap))), .agg (ptA s), .agg (ptA d)] w fun e w' => ∃ x, e = .returned (.tuple #[x, .int .i64 0]) ∧ Turn g w w' ∧ w'.ownsRow w.heap.size 5 1 x (mgOut (inMg m s d)).length ((mgOut (inMg m s d)).map (Value.int .u8)) := by
  have hM : Mem w (((w.alloc (.cells (ptA s) ptT)).alloc (.cells (ptA d) ptT)).alloc (.cells (mgA m.typ m.code m.sum m.rest (.slice (some ⟨g, 0, none⟩) n cap)) mgT)) [(w.heap.size, .cells (ptA s) ptT), (w.heap.size + 1, .cells (ptA d) ptT), (w.heap.size + 2, .cells (mgA m.typ m.code m.sum m.rest (.slice (some ⟨g, 0, none⟩) n cap)) mgT)] := (((Mem.nil w).push1 rfl).push2 (by simp)).push3 (by simp)
  have hta := assert_icmp (.agg (mgA m.typ m.code m.sum m.rest (.slice (some ⟨g, 0, none⟩) n cap)))
  have HM : Hid _ := hM
  have hg := ho.lt (by omega)
  have HO : Hid (∀ W, Mem w W [(w.heap.size, .cells (ptA s) ptT), (w.heap.size + 1, .cells (ptA d) ptT), (w.heap.size + 2, .cells (mgA m.typ m.code m.sum m.rest (.slice (some ⟨g, 0, none⟩) n cap)) mgT)] → OwnB W C g cap m.body) := fun W h => ho.after h.below (Nat.le_refl _)
  have HN : Hid (m.body.length = n ∧ 20 ≤ n ∧ hdl m.body + 8 ≤ n ∧ n ≤ 65535 ∧ n ≤ cap ∧ m.Ok ∧ s.Ok ∧ d.Ok ∧ g < w.heap.size) := ⟨hn, h20, h8, hl, hc, hm, hs, hd, hg⟩
  have HF : Hid (∀ b, b = decide (m.body.getD 9 0 = 1) → b = false ∨ (b = true ∧ s.port = d.port)) := fun b hb => by
    subst hb
    by_cases h9 : m.body.getD 9 0 = 1
    · right
      refine ⟨by simp only [h9, decide_true], ?_⟩
      rcases Decidable.em (s.port = d.port) with h | h
      · exact h
      · exact absurd ⟨h9, h⟩ hbad
    · left; simp only [h9, decide_false]
  clear hm ho hn h20 h8 hl hc hs hd hbad hg
  go_enter Tryz.func39, Tryz.ntmps39
  go_upto_region 2 with fail
  refine wp_letter (fun W => Mem w W [(w.heap.size, .cells (ptA s) ptT), (w.heap.size + 1, .cells (ptA d) ptT), (w.heap.size + 2, .cells (mgA m.typ m.code m.sum m.rest (.slice (some ⟨g, 0, none⟩) n cap)) mgT)]) HM.out ?_
  intro w1 hM1
  have HM1 : Hid (Mem w w1 [(w.heap.size, .cells (ptA s) ptT), (w.heap.size + 1, .cells (ptA d) ptT), (w.heap.size + 2, .cells (mgA m.typ m.code m.sum m.rest (.slice (some ⟨g, 0, none⟩) n cap)) mgT)]) := hM1
  have k0 : ∀ i, w1.cell? ⟨w.heap.size, i, none⟩ = (ptA s)[i]? := hM1.cell 0 rfl
  have k1 : ∀ i, w1.cell? ⟨w.heap.size + 1, i, none⟩ = (ptA d)[i]? := hM1.cell 1 rfl
  have k2 : ∀ i, w1.cell? ⟨w.heap.size + 2, i, none⟩ = (mgA m.typ m.code m.sum m.rest (.slice (some ⟨g, 0, none⟩) n cap))[i]? := hM1.cell 2 rfl
  have he := xecho_any (c := cap) ((HO.out w1 hM1).row HN.out.2.2.2.2.2.1.body (by have := HN.out; omega)) HN.out.1 HN.out.2.1
  obtain ⟨b, hb⟩ : ∃ b, decide (m.body.getD 9 0 = 1) = b := ⟨_, rfl⟩
  have HBB := HF.out b hb.symm
  rw [hb] at he
  clear hM hM1 HM hta hb HF
  have HBC : (b = false ∧ True) ∨ (b = true ∧ (s.port == d.port) = true) := by
    rcases HBB with h | ⟨h1, h2⟩
    · exact Or.inl ⟨h, trivial⟩
    · exact Or.inr ⟨h1, by simp [h2]⟩
  clear HBB
  rcases HBC with ⟨rfl, -⟩ | ⟨rfl, hpp⟩
  all_goals
    go_wp2_with fail
    refine he.mono ?_
    rintro e w' ⟨rfl, rfl⟩
    clear he
    have hA := putA_any (HO.out w1 HM1.out) HN.out.2.2.2.2.2.1.body HN.out.1 HN.out.2.1 (by have := HN.out; omega) HN.out.2.2.2.2.1 s.ip d.ip HN.out.2.2.2.2.2.2.1.ip.1 HN.out.2.2.2.2.2.2.1.ip.2 HN.out.2.2.2.2.2.2.2.1.ip.1 HN.out.2.2.2.2.2.2.2.1.ip.2
    go_wp2_with fail
    refine hA.mono ?_
    rintro e w2 ⟨rfl, ho2, hon2⟩
    clear hA k0 k1 k2
    have h0 : w2.heap[w.heap.size]? = some (.cells (ptA s) ptT (0, 0)) := (hon2.there _ (by have := HN.out; omega)).trans (HM1.out.get 0 rfl)
    have h1 : w2.heap[w.heap.size + 1]? = some (.cells (ptA d) ptT (0, 0)) := (hon2.there _ (by have := HN.out; omega)).trans (HM1.out.get 1 rfl)
    have h2 : w2.heap[w.heap.size + 2]? = some (.cells (mgA m.typ m.code m.sum m.rest (.slice (some ⟨g, 0, none⟩) n cap)) mgT (0, 0)) := (hon2.there _ (by have := HN.out; omega)).trans (HM1.out.get 2 rfl)
    have HH : Hid (w2.heap[w.heap.size + 2]? = some (.cells (mgA m.typ m.code m.sum m.rest (.slice (some ⟨g, 0, none⟩) n cap)) mgT (0, 0))) := h2
    have HT2 : Hid (Turn g w w2 ∧ w.heap.size ≤ w2.heap.size) := ⟨(turn_of HM1.out.below).trans hon2.turn, by rw [hon2.size]; exact HM1.out.below.size⟩
    have k0 := cells_at h0
    have k1 := cells_at h1
    have k2 := cells_at h2
    have hPp := putP_any ho2 (putA_bytes HN.out.2.2.2.2.2.1.body (by have := HN.out; omega) HN.out.2.2.2.2.2.2.1.ip HN.out.2.2.2.2.2.2.2.1.ip) (by rw [putA_len]; exact HN.out.1) HN.out.2.1 (by rw [hdl_putA (by have := HN.out; omega)]; exact HN.out.2.2.1) (by have := HN.out; omega) HN.out.2.2.2.2.1 s.port d.port HN.out.2.2.2.2.2.2.1.port.1 HN.out.2.2.2.2.2.2.1.port.2 HN.out.2.2.2.2.2.2.2.1.port.1 HN.out.2.2.2.2.2.2.2.1.port.2
    clear ho2 hon2 h0 h1 h2 HM1
    go_wp2_with fail
    refine hPp.mono ?_
    rintro e w3 ⟨rfl, ho3, hon3⟩
    clear hPp k0 k1 k2
    have h2 : w3.heap[w.heap.size + 2]? = some (.cells (mgA m.typ m.code m.sum m.rest (.slice (some ⟨g, 0, none⟩) n cap)) mgT (0, 0)) := (hon3.there _ (by have := HN.out; omega)).trans HH.out
    have k2 := cells_at h2
    have HT3 : Hid (Turn g w w3 ∧ w.heap.size ≤ w3.heap.size) := ⟨HT2.out.1.trans hon3.turn, by rw [hon3.size]; exact HT2.out.2⟩
    have hby := inPut_bytes HN.out.2.2.2.2.2.1.body (by have := HN.out; omega) (by have := HN.out; omega) HN.out.2.2.2.2.2.2.1 HN.out.2.2.2.2.2.2.2.1
    have hln : (inPut m.body s d).length = n := by rw [inPut_len]; exact HN.out.1
    have hv3 : MgV w3 0 (.agg (mgA m.typ m.code m.sum m.rest (.slice (some ⟨g, 0, none⟩) n cap))) (m.bod (inPut m.body s d)) := ⟨some ⟨g, 0, none⟩, cap, by rw [← hln]; rfl, ho3.row hby (by show (inPut m.body s d).length ≤ _; have := HN.out; rw [hln]; omega), fun e => (by cases e), fun _ _ => Nat.zero_le _⟩
    have hSl := seal_any (bod_ok HN.out.2.2.2.2.2.1 hby) hv3
    clear h2 ho3 hon3 hv3 hby hln HH HT2
    go_wp2_with fail
    refine hSl.mono ?_
    rintro e w4 ⟨x, rfl, hown, hb4⟩
    have HU : Hid (w4.ownsRow w.heap.size 5 1 x (mgOut (inMg m s d)).length ((mgOut (inMg m s d)).map (Value.int .u8))) := own_base hown HT3.out.2
    have HT4 : Hid (Turn g w w4) := HT3.out.1.trans (turn_of hb4)
    clear hSl hown hb4 k2
    go_wp2_with fail
    go_ret2
    exact ⟨_, rfl, HT4.out, HU.out⟩
end Go.Proofs.YtjalpbkfpjfigaaGreat
