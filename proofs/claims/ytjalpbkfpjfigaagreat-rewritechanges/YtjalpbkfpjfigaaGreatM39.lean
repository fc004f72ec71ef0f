/-
  What rewrite.innerChanged and rewrite.Inner answer, whatever they are handed.
  What the document's own lychref8.Look answers, whatever bytes it is handed.
  What a packet's few numbers, a point and a slice of bytes that come in are.
-/
import Derived.Test.YtjalpbkfpjfigaaGreatM37
import Derived.Test.YtjalpbkfpjfigaaGreatM35
import Derived.Test.YtjalpbkfpjfigaaGreatM38
import Derived.Test.YtjalpbkfpjfigaaGreatM32
import Derived.Test.YtjalpbkfpjfigaaGreatM30
import Derived.Test.YtjalpbkfpjfigaaGreatM23
import Derived.Deep.CutBlock
import Derived.Test.YtjalpbkfpjfigaaGreatM07
namespace Go.Proofs.YtjalpbkfpjfigaaGreat
open Go.RowKit
open Sm
set_option linter.unusedVariables false
set_option maxRecDepth 20000

/-! ### What turns one old block, and makes new ones. -/
structure Turn (g : Nat) (w w' : World) : Prop where
  there : ∀ k, k < w.heap.size → k ≠ g → w'.heap[k]? = w.heap[k]?
  size : w.heap.size ≤ w'.heap.size
  below : ∀ B w0, B ≤ g → B ≤ w.heap.size → Below B w0 w → Below B w0 w'
theorem Only.turn {g : Nat} {w w' : World} (h : Only g w w') : Turn g w w' := ⟨fun k _ hk => h.there k hk, Nat.le_of_eq h.size.symm, fun B w0 hB _ hb => h.below B w0 hB hb⟩
theorem turn_of {g : Nat} {w w' : World} (h : Below w.heap.size w w') : Turn g w w' := ⟨fun k hk _ => h.block k hk, h.size, fun B w0 _ hB hb => hb.trans (h.mono hB)⟩
theorem Turn.trans {g : Nat} {w w1 w2 : World} (h : Turn g w w1) (k : Turn g w1 w2) : Turn g w w2 :=
  ⟨fun j hj hg => (k.there j (Nat.lt_of_lt_of_le hj h.size) hg).trans (h.there j hj hg), Nat.le_trans h.size k.size, fun B w0 hB hw hb => k.below B w0 hB (Nat.le_trans hw h.size) (h.below B w0 hB hw hb)⟩
theorem Turn.mem {g : Nat} {w W W' : World} {L : List (Nat × Obj)} (h : Turn g W W') (hM : Mem w W L) (hg : w.heap.size ≤ g) (hn : ∀ p ∈ L, p.1 ≠ g) : Mem w W' L :=
  ⟨h.below _ _ hg hM.below.size hM.below, hM.low, fun p hp => by rw [h.there _ (hM.lt hp) (hn p hp)]; exact hM.at_ p hp, hM.apart⟩
theorem Turn.row {g : Nat} {W W' : World} (h : Turn g W W') {a : Option Addr} {l : List Int} (hr : Row W a l) (hf : Far g a l) : Row W' a l := by
  refine ⟨hr.bytes, hr.len, ?_⟩
  rcases hf with e | hf
  · exact Or.inl e
  · rcases hr.cells with e | ⟨b, off, rfl, hc⟩
    · exact Or.inl e
    · refine Or.inr ⟨b, off, rfl, fun i hi => ?_⟩
      have h1 := hc i hi
      have h2 := cell_lt h1
      have h3 := hf _ rfl
      unfold World.cell? at h1 ⊢
      simp only at h1 h2 h3 ⊢
      rw [h.there b h2 (fun e => h3 e.symm)]
      exact h1
theorem cells_at {W : World} {k : Nat} {cs : Array Value} {t : TypeId} (hk : W.heap[k]? = some (.cells cs t (0, 0))) (i : Nat) : W.cell? ⟨k, i, none⟩ = cs[i]? := by
  unfold World.cell?; simp only [hk] <;> rfl
theorem OwnB.base {w : World} {B C g cap : Nat} {l : List Int} (h : OwnB w B g cap l) (hC : C ≤ B) : OwnB w C g cap l := own_base h hC
theorem OwnB.after {w w' : World} {B C g cap : Nat} {l : List Int} (h : OwnB w B g cap l) (hb : Below C w w') (hC : w.heap.size ≤ C) : OwnB w' B g cap l := own_after h hb hC
theorem OwnB.lt {w : World} {B g cap : Nat} {l : List Int} (h : OwnB w B g cap l) (hl : 0 < l.length) : g < w.heap.size := cell_lt (h.cell 0 hl)

namespace Sm
theorem putA_get {l : List Int} (h : 20 ≤ l.length) (s d : Int) (i : Nat) (hi : i < 10 ∨ 20 ≤ i) : (putA l s d).getD i 0 = l.getD i 0 := by
  unfold putA
  rw [putw_getD _ _ _ _ (by simp only [putw_len]; omega), if_neg (by omega), if_neg (by omega), putw_getD _ _ _ _ (by simp only [putw_len]; omega), if_neg (by omega), if_neg (by omega), putw_getD _ _ _ _ (by simp only [putw_len]; omega), if_neg (by omega), if_neg (by omega), putw_getD _ _ _ _ (by simp only [putw_len]; omega), if_neg (by omega), if_neg (by omega), putw_getD _ _ _ _ (by omega), if_neg (by omega), if_neg (by omega)]
theorem hdl_putA {l : List Int} (h : 20 ≤ l.length) (s d : Int) : hdl (putA l s d) = hdl l := by unfold hdl; rw [putA_get h s d 0 (by omega)]
theorem putA_bytes {l : List Int} (hb : IsBytes l) (h : 20 ≤ l.length) {s d : Int} (hs : 0 ≤ s ∧ s ≤ 4294967295) (hd : 0 ≤ d ∧ d ≤ 4294967295) : IsBytes (putA l s d) := by
  have r : 0 ≤ inSum l s d ∧ inSum l s d ≤ 65535 := updv_range _ _ _
  unfold putA
  refine putw_bytes (putw_bytes (putw_bytes (putw_bytes (putw_bytes hb _ _ ?_ ?_ ?_) _ _ ?_ ?_ ?_) _ _ ?_ ?_ ?_) _ _ ?_ ?_ ?_) _ _ ?_ ?_ ?_
  all_goals first | omega | (simp only [putw_len]; omega) | exact r.1 | exact r.2
theorem putP_bytes {l : List Int} (hb : IsBytes l) (h : hdl l + 8 ≤ l.length) {s d : Int} (hs : 0 ≤ s ∧ s ≤ 65535) (hd : 0 ≤ d ∧ d ≤ 65535) : IsBytes (putP l s d) := by
  unfold putP
  split
  · exact putw_bytes hb _ _ (by omega) hs.1 hs.2
  · exact putw_bytes (putw_bytes hb _ _ (by omega) hs.1 hs.2) _ _ (by rw [putw_len]; omega) hd.1 hd.2
theorem inPut_bytes {l : List Int} (hb : IsBytes l) (h : 20 ≤ l.length) (h8 : hdl l + 8 ≤ l.length) {s d : Pt} (hs : s.Ok) (hd : d.Ok) : IsBytes (inPut l s d) :=
  putP_bytes (putA_bytes hb h hs.ip hd.ip) (by rw [hdl_putA h, putA_len]; exact h8) hs.port hd.port
theorem bod_ok {m : Mg} (hm : m.Ok) {b : List Int} (hb : IsBytes b) : (m.bod b).Ok := ⟨hm.typ, hm.code, hm.sum, hm.rest, hb⟩
theorem pkbod_ok {p : Pk} (h : p.Ok) {b : List Int} (hb : IsBytes b) : (p.bod b).Ok := ⟨h.tos, h.ttl, h.proto, h.id, h.flags, h.off, h.src, h.dst, h.opts, hb⟩
theorem inner_some {p : Pk} (h : (flFl p).inner.length ≠ 0) : ¬ p.proto = 17 ∧ ¬ p.proto = 6 ∧ inOk (mgRes p.body).body = true := by
  unfold flFl at h
  split at h
  · simp at h
  · split at h
    · simp at h
    · refine ⟨by assumption, by assumption, ?_⟩
      unfold mfFl fl0 at h
      split at h
      · simp at h
      · split at h
        · rename_i hx; exact hx.2
        · simp [Fl.zero] at h
theorem inMg_ok {m : Mg} (hm : m.Ok) (h : 20 ≤ m.body.length) (h8 : hdl m.body + 8 ≤ m.body.length) {s d : Pt} (hs : s.Ok) (hd : d.Ok) : (inMg m s d).Ok := msl_ok (bod_ok hm (inPut_bytes hm.body h h8 hs hd))
end Sm

set_option maxHeartbeats 4000000 in
theorem inch_bad {w : World} {C g cap n : Nat} {m : Mg} (hm : m.Ok) (ho : OwnB w C g cap m.body) (hn : m.body.length = n) (h20 : 20 ≤ n) (hl : n ≤ 65535) (s d : Pt) (hbad : m.body.getD 9 0 = 1 ∧ s.port ≠ d.port) :
    Calls Tryz.prog 39 #[.iface mgT (.agg (mgA m.typ m.code m.sum m.rest (.slice (some ⟨g, 0, none⟩) n cap))), .agg (ptA s), .agg (ptA d)] w fun e w' => e = .returned (.tuple #[.slice none 0 0, .int .i64 21]) ∧ Below w.heap.size w w' := by
  have hM : Mem w (((w.alloc (.cells (ptA s) ptT)).alloc (.cells (ptA d) ptT)).alloc (.cells (mgA m.typ m.code m.sum m.rest (.slice (some ⟨g, 0, none⟩) n cap)) mgT)) [(w.heap.size, .cells (ptA s) ptT), (w.heap.size + 1, .cells (ptA d) ptT), (w.heap.size + 2, .cells (mgA m.typ m.code m.sum m.rest (.slice (some ⟨g, 0, none⟩) n cap)) mgT)] := (((Mem.nil w).push1 rfl).push2 (by simp)).push3 (by simp)
  have hta := assert_icmp (.agg (mgA m.typ m.code m.sum m.rest (.slice (some ⟨g, 0, none⟩) n cap)))
  have HM : Hid _ := hM
  have he := xecho_any (c := cap) ((ho.after hM.below (Nat.le_refl _)).row hm.body (by omega)) hn h20
  simp only [hbad.1, decide_true] at he
  have hne : (s.port == d.port) = false := by simp [hbad.2]
  clear hm ho hn h20 hl hbad
  go_enter Tryz.func39, Tryz.ntmps39
  go_upto_region 2 with fail
  refine wp_letter (fun W => Mem w W [(w.heap.size, .cells (ptA s) ptT), (w.heap.size + 1, .cells (ptA d) ptT), (w.heap.size + 2, .cells (mgA m.typ m.code m.sum m.rest (.slice (some ⟨g, 0, none⟩) n cap)) mgT)] ∧ Calls Tryz.prog 71 #[.slice (some ⟨g, 0, none⟩) n cap] W fun e w' => e = .returned (.bool true) ∧ W = w') ⟨HM.out, he⟩ ?_
  intro w1 ⟨hM1, he1⟩
  have HB1 : Hid (Below w.heap.size w w1) := hM1.below
  have k0 : ∀ i, w1.cell? ⟨w.heap.size, i, none⟩ = (ptA s)[i]? := hM1.cell 0 rfl
  have k1 : ∀ i, w1.cell? ⟨w.heap.size + 1, i, none⟩ = (ptA d)[i]? := hM1.cell 1 rfl
  have k2 : ∀ i, w1.cell? ⟨w.heap.size + 2, i, none⟩ = (mgA m.typ m.code m.sum m.rest (.slice (some ⟨g, 0, none⟩) n cap))[i]? := hM1.cell 2 rfl
  clear hM hM1 HM he hta
  go_wp2_with fail
  refine he1.mono ?_
  rintro e w' ⟨rfl, rfl⟩
  clear he1
  go_wp2_with fail
  go_ret2
  exact ⟨rfl, HB1.out⟩

set_option maxHeartbeats 8000000 in
theorem inch_ok {w : World} {C g cap n : Nat} {m : Mg} (hm : m.Ok) (ho : OwnB w C g cap m.body) (hn : m.body.length = n) (h20 : 20 ≤ n) (h8 : hdl m.body + 8 ≤ n) (hl : n ≤ 65535) (hc : n ≤ cap) (s d : Pt) (hs : s.Ok) (hd : d.Ok) (hbad : ¬ (m.body.getD 9 0 = 1 ∧ s.port ≠ d.port)) :
    Calls Tryz.prog 39 #[.iface mgT (.agg (mgA m.typ m.code m.sum m.rest (.slice (some ⟨g, 0, none⟩) n cap))), .agg (ptA s), .agg (ptA d)] w fun e w' => ∃ x, e = .returned (.tuple #[x, .int .i64 0]) ∧ Turn g w w' ∧ w'.ownsRow w.heap.size 5 1 x (mgOut (inMg m s d)).length ((mgOut (inMg m s d)).map (Value.int .u8)) := by
  have hM : Mem w (((w.alloc (.cells (ptA s) ptT)).alloc (.cells (ptA d) ptT)).alloc (.cells (mgA m.typ m.code m.sum m.rest (.slice (some ⟨g, 0, none⟩) n cap)) mgT)) [(w.heap.size, .cells (ptA s) ptT), (w.heap.size + 1, .cells (ptA d) ptT), (w.heap.size + 2, .cells (mgA m.typ m.code m.sum m.rest (.slice (some ⟨g, 0, none⟩) n cap)) mgT)] := (((Mem.nil w).push1 rfl).push2 (by simp)).push3 (by simp)
  have hta := assert_icmp (.agg (mgA m.typ m.code m.sum m.rest (.slice (some ⟨g, 0, none⟩) n cap)))
  have HM : Hid _ := hM
  have hg := ho.lt (by omega)
  have HO : Hid (∀ W, Mem w W [(w.heap.size, .cells (ptA s) ptT), (w.heap.size + 1, .cells (ptA d) ptT), (w.heap.size + 2, .cells (mgA m.typ m.code m.sum m.rest (.slice (some ⟨g, 0, none⟩) n cap)) mgT)] → OwnB W C g cap m.body) := fun W h => ho.after h.below (Nat.le_refl _)
  have HN : Hid (m.body.length = n ∧ 20 ≤ n ∧ hdl m.body + 8 ≤ n ∧ n ≤ 65535 ∧ n ≤ cap ∧ m.Ok ∧ s.Ok ∧ d.Ok ∧ g < w.heap.size) := ⟨hn, h20, h8, hl, hc, hm, hs, hd, hg⟩
  have HF : Hid (∀ b, b = decide (m.body.getD 9 0 = 1) → b = false ∨ (b = true ∧ s.port = d.port)) := fun b hb => by
    subst hb
    by_cases h9 : m.body.getD 9 0 = 1
    · right
      refine ⟨by simp only [h9, decide_true], ?_⟩
      rcases Decidable.em (s.port = d.port) with h | h
      · exact h
      · exact absurd ⟨h9, h⟩ hbad
    · left; simp only [h9, decide_false]
  clear hm ho hn h20 h8 hl hc hs hd hbad hg
  go_enter Tryz.func39, Tryz.ntmps39
  go_upto_region 2 with fail
  refine wp_letter (fun W => Mem w W [(w.heap.size, .cells (ptA s) ptT), (w.heap.size + 1, .cells (ptA d) ptT), (w.heap.size + 2, .cells (mgA m.typ m.code m.sum m.rest (.slice (some ⟨g, 0, none⟩) n cap)) mgT)]) HM.out ?_
  intro w1 hM1
  have HM1 : Hid (Mem w w1 [(w.heap.size, .cells (ptA s) ptT), (w.heap.size + 1, .cells (ptA d) ptT), (w.heap.size + 2, .cells (mgA m.typ m.code m.sum m.rest (.slice (some ⟨g, 0, none⟩) n cap)) mgT)]) := hM1
  have k0 : ∀ i, w1.cell? ⟨w.heap.size, i, none⟩ = (ptA s)[i]? := hM1.cell 0 rfl
  have k1 : ∀ i, w1.cell? ⟨w.heap.size + 1, i, none⟩ = (ptA d)[i]? := hM1.cell 1 rfl
  have k2 : ∀ i, w1.cell? ⟨w.heap.size + 2, i, none⟩ = (mgA m.typ m.code m.sum m.rest (.slice (some ⟨g, 0, none⟩) n cap))[i]? := hM1.cell 2 rfl
  have he := xecho_any (c := cap) ((HO.out w1 hM1).row HN.out.2.2.2.2.2.1.body (by have := HN.out; omega)) HN.out.1 HN.out.2.1
  obtain ⟨b, hb⟩ : ∃ b, decide (m.body.getD 9 0 = 1) = b := ⟨_, rfl⟩
  have HBB := HF.out b hb.symm
  rw [hb] at he
  clear hM hM1 HM hta hb HF
  have HBC : (b = false ∧ True) ∨ (b = true ∧ (s.port == d.port) = true) := by
    rcases HBB with h | ⟨h1, h2⟩
    · exact Or.inl ⟨h, trivial⟩
    · exact Or.inr ⟨h1, by simp [h2]⟩
  clear HBB
  rcases HBC with ⟨rfl, -⟩ | ⟨rfl, hpp⟩
  all_goals
    go_wp2_with fail
    refine he.mono ?_
    rintro e w' ⟨rfl, rfl⟩
    clear he
    have hA := putA_any (HO.out w1 HM1.out) HN.out.2.2.2.2.2.1.body HN.out.1 HN.out.2.1 (by have := HN.out; omega) HN.out.2.2.2.2.1 s.ip d.ip HN.out.2.2.2.2.2.2.1.ip.1 HN.out.2.2.2.2.2.2.1.ip.2 HN.out.2.2.2.2.2.2.2.1.ip.1 HN.out.2.2.2.2.2.2.2.1.ip.2
    go_wp2_with fail
    refine hA.mono ?_
    rintro e w2 ⟨rfl, ho2, hon2⟩
    clear hA k0 k1 k2
    have h0 : w2.heap[w.heap.size]? = some (.cells (ptA s) ptT (0, 0)) := (hon2.there _ (by have := HN.out; omega)).trans (HM1.out.get 0 rfl)
    have h1 : w2.heap[w.heap.size + 1]? = some (.cells (ptA d) ptT (0, 0)) := (hon2.there _ (by have := HN.out; omega)).trans (HM1.out.get 1 rfl)
    have h2 : w2.heap[w.heap.size + 2]? = some (.cells (mgA m.typ m.code m.sum m.rest (.slice (some ⟨g, 0, none⟩) n cap)) mgT (0, 0)) := (hon2.there _ (by have := HN.out; omega)).trans (HM1.out.get 2 rfl)
    have HH : Hid (w2.heap[w.heap.size + 2]? = some (.cells (mgA m.typ m.code m.sum m.rest (.slice (some ⟨g, 0, none⟩) n cap)) mgT (0, 0))) := h2
    have HT2 : Hid (Turn g w w2 ∧ w.heap.size ≤ w2.heap.size) := ⟨(turn_of HM1.out.below).trans hon2.turn, by rw [hon2.size]; exact HM1.out.below.size⟩
    have k0 := cells_at h0
    have k1 := cells_at h1
    have k2 := cells_at h2
    have hPp := putP_any ho2 (putA_bytes HN.out.2.2.2.2.2.1.body (by have := HN.out; omega) HN.out.2.2.2.2.2.2.1.ip HN.out.2.2.2.2.2.2.2.1.ip) (by rw [putA_len]; exact HN.out.1) HN.out.2.1 (by rw [hdl_putA (by have := HN.out; omega)]; exact HN.out.2.2.1) (by have := HN.out; omega) HN.out.2.2.2.2.1 s.port d.port HN.out.2.2.2.2.2.2.1.port.1 HN.out.2.2.2.2.2.2.1.port.2 HN.out.2.2.2.2.2.2.2.1.port.1 HN.out.2.2.2.2.2.2.2.1.port.2
    clear ho2 hon2 h0 h1 h2 HM1
    go_wp2_with fail
    refine hPp.mono ?_
    rintro e w3 ⟨rfl, ho3, hon3⟩
    clear hPp k0 k1 k2
    have h2 : w3.heap[w.heap.size + 2]? = some (.cells (mgA m.typ m.code m.sum m.rest (.slice (some ⟨g, 0, none⟩) n cap)) mgT (0, 0)) := (hon3.there _ (by have := HN.out; omega)).trans HH.out
    have k2 := cells_at h2
    have HT3 : Hid (Turn g w w3 ∧ w.heap.size ≤ w3.heap.size) := ⟨HT2.out.1.trans hon3.turn, by rw [hon3.size]; exact HT2.out.2⟩
    have hby := inPut_bytes HN.out.2.2.2.2.2.1.body (by have := HN.out; omega) (by have := HN.out; omega) HN.out.2.2.2.2.2.2.1 HN.out.2.2.2.2.2.2.2.1
    have hln : (inPut m.body s d).length = n := by rw [inPut_len]; exact HN.out.1
    have hv3 : MgV w3 0 (.agg (mgA m.typ m.code m.sum m.rest (.slice (some ⟨g, 0, none⟩) n cap))) (m.bod (inPut m.body s d)) := ⟨some ⟨g, 0, none⟩, cap, by rw [← hln]; rfl, ho3.row hby (by show (inPut m.body s d).length ≤ _; have := HN.out; rw [hln]; omega), fun e => (by cases e), fun _ _ => Nat.zero_le _⟩
    have hSl := seal_any (bod_ok HN.out.2.2.2.2.2.1 hby) hv3
    clear h2 ho3 hon3 hv3 hby hln HH HT2
    go_wp2_with fail
    refine hSl.mono ?_
    rintro e w4 ⟨x, rfl, hown, hb4⟩
    have HU : Hid (w4.ownsRow w.heap.size 5 1 x (mgOut (inMg m s d)).length ((mgOut (inMg m s d)).map (Value.int .u8))) := own_base hown HT3.out.2
    have HT4 : Hid (Turn g w w4) := HT3.out.1.trans (turn_of hb4)
    clear hSl hown hb4 k2
    go_wp2_with fail
    go_ret2
    exact ⟨_, rfl, HT4.out, HU.out⟩
end Go.Proofs.YtjalpbkfpjfigaaGreat

namespace Go.Proofs.YtjalpbkfpjfigaaGreat
open Go.RowKit
open Sm
set_option linter.unusedVariables false
set_option maxRecDepth 20000

abbrev rfT : TypeId := 49
theorem wrote_flT (t : TypeId) (g : Nat) (f : Fl) (iv : Value) (w : World) (h : w.heap[g]? = some (.cells flZ t (0, 0))) : Wrote w (((((((w.setCell ⟨g, 0, none⟩ (.int .u8 f.proto)).setCell ⟨g, 1, none⟩ (.int .u32 f.src.ip)).setCell ⟨g, 2, none⟩ (.int .u16 f.src.port)).setCell ⟨g, 3, none⟩ (.int .u32 f.dst.ip)).setCell ⟨g, 4, none⟩ (.int .u16 f.dst.port)).setCell ⟨g, 5, none⟩ (.int .u8 f.flags)).setCell ⟨g, 6, none⟩ (iv)) g (flB f iv) t := by
  have h1 := wrote_all g t [.int .u8 f.proto, .int .u32 f.src.ip, .int .u16 f.src.port, .int .u32 f.dst.ip, .int .u16 f.dst.port, .int .u8 f.flags, iv] 0 flZ w h
  have e : setAll [.int .u8 f.proto, .int .u32 f.src.ip, .int .u16 f.src.port, .int .u32 f.dst.ip, .int .u16 f.dst.port, .int .u8 f.flags, iv] 0 flZ = flB f iv := by kernel_rfl
  rw [e] at h1
  simp only [putAll] at h1
  exact h1
theorem post_fillT {P : Program} {fn : Func} {R : Ending → World → Prop} {e : Exit} {a : Act} {w : World} {g k : Nat} {p : Pk} {o b : Value} {f : Fl} {iv : Value} {t : TypeId} (hg : w.heap[g]? = some (.cells ip0 ipT (0, 0))) (hk : w.heap[k]? = some (.cells flZ t (0, 0))) (hne : k ≠ g)
    (K : ∀ W1 W2, Wrote w W1 g (ipB p o b) ipT → Wrote W1 W2 k (flB f iv) t → bodyPost P fn R e a W2) :
    bodyPost P fn R e a ((((((((((((((((((w.setCell ⟨g, 0, none⟩ (.int .u8 p.tos)).setCell ⟨g, 1, none⟩ (.int .u8 p.ttl)).setCell ⟨g, 2, none⟩ (.int .u8 p.proto)).setCell ⟨g, 3, none⟩ (.int .u16 p.id)).setCell ⟨g, 4, none⟩ (.int .u8 p.flags)).setCell ⟨g, 5, none⟩ (.int .u16 p.off)).setCell ⟨g, 6, none⟩ (.int .u32 p.src)).setCell ⟨g, 7, none⟩ (.int .u32 p.dst)).setCell ⟨g, 8, none⟩ (o)).setCell ⟨g, 9, none⟩ (b)).setCell ⟨k, 0, none⟩ (.int .u8 f.proto)).setCell ⟨k, 1, none⟩ (.int .u32 f.src.ip)).setCell ⟨k, 2, none⟩ (.int .u16 f.src.port)).setCell ⟨k, 3, none⟩ (.int .u32 f.dst.ip)).setCell ⟨k, 4, none⟩ (.int .u16 f.dst.port)).setCell ⟨k, 5, none⟩ (.int .u8 f.flags)).setCell ⟨k, 6, none⟩ (iv))) := by
  have h1 := wrote_ip g p o b w hg
  have h2 := wrote_flT t k f iv _ ((h1.there k hne).trans hk)
  exact K _ _ h1 h2
/-- Look's answers. -/
def RlV (w w' : World) (l : List Int) (e : Ending) : Prop :=
  (lkErr l ≠ 0 ∧ e = .returned (.tuple #[.agg ip0, .agg flZ, .int .i64 (lkErr l)]) ∧ Below w.heap.size w w') ∨
  (lkErr l = 0 ∧ ∃ ao bo ia co cb ic, e = .returned (.tuple #[.agg (ipB (ipPk l) (.slice ao (ipPk l).opts.length co) (.slice bo (ipPk l).body.length cb)), .agg (flB (flFl (ipPk l)) (.slice ia (flFl (ipPk l)).inner.length ic)), .int .i64 0]) ∧
    IpV w' w.heap.size (.agg (ipB (ipPk l) (.slice ao (ipPk l).opts.length co) (.slice bo (ipPk l).body.length cb))) (ipPk l) ∧ (ipPk l).body.length ≤ cb ∧ PtsV w' w.heap.size (.slice ia (flFl (ipPk l)).inner.length ic) (flFl (ipPk l)).inner ∧ Below w.heap.size w w')
/-- A refusal's end. -/
theorem noughts_end {w W : World} {L : List (Nat × Obj)} {R : Ending → World → Prop} {tmps : Array Value} {df : List _} {E : Int} (hM : Mem w W ((w.heap.size, .cells ip0 ipT (0, 0)) :: (w.heap.size + 1, .cells flZ rfT (0, 0)) :: L))
    (h2 : tmps.getD 2 undef = .pointer (some ⟨w.heap.size, 0, none⟩)) (h3 : tmps.getD 3 undef = .pointer (some ⟨w.heap.size + 1, 0, none⟩)) (h4 : tmps.getD 4 undef = .int .i64 E) (hd : df = [])
    (hR : ∀ W', Below w.heap.size w W' → R (.returned (.tuple #[.agg ip0, .agg flZ, .int .i64 E])) W') :
    bodyPost Tryz.prog Tryz.f16 R .ret ⟨tmps, df⟩ ((((((((((((((((((W.setCell ⟨w.heap.size, 0, none⟩ (.int .u8 0)).setCell ⟨w.heap.size, 1, none⟩ (.int .u8 0)).setCell ⟨w.heap.size, 2, none⟩ (.int .u8 0)).setCell ⟨w.heap.size, 3, none⟩ (.int .u16 0)).setCell ⟨w.heap.size, 4, none⟩ (.int .u8 0)).setCell ⟨w.heap.size, 5, none⟩ (.int .u16 0)).setCell ⟨w.heap.size, 6, none⟩ (.int .u32 0)).setCell ⟨w.heap.size, 7, none⟩ (.int .u32 0)).setCell ⟨w.heap.size, 8, none⟩ (.slice none 0 0)).setCell ⟨w.heap.size, 9, none⟩ (.slice none 0 0)).setCell ⟨w.heap.size + 1, 0, none⟩ (.int .u8 0)).setCell ⟨w.heap.size + 1, 1, none⟩ (.int .u32 0)).setCell ⟨w.heap.size + 1, 2, none⟩ (.int .u16 0)).setCell ⟨w.heap.size + 1, 3, none⟩ (.int .u32 0)).setCell ⟨w.heap.size + 1, 4, none⟩ (.int .u16 0)).setCell ⟨w.heap.size + 1, 5, none⟩ (.int .u8 0)).setCell ⟨w.heap.size + 1, 6, none⟩ (.slice none 0 0))) := by
  refine post_fillT (p := ⟨0, 0, 0, 0, 0, 0, 0, 0, [], []⟩) (f := ⟨0, ⟨0, 0⟩, ⟨0, 0⟩, 0, []⟩) (o := .slice none 0 0) (b := .slice none 0 0) (iv := .slice none 0 0) (hM.get 0 rfl) (hM.get 1 rfl) (by omega) ?_
  intro W1 W2 k1 k2
  have hz := (hM.wrote 0 rfl k1).wrote 1 rfl k2
  refine bodyPost_ret (v := .tuple #[.agg ip0, .agg flZ, .int .i64 E]) ?hres hd ?hpost
  case hres =>
    have := results_cell2_tmp (fn := Tryz.f16) (p := 2) (q := 3) (r := 4) (ty := ipT) (tz := rfT) rfl tmps W2 w.heap.size (w.heap.size + 1) ip0 flZ h2 h3 (run_loadVar_row _ _ ipT ipT _ (0, 0) _ (hz.get 0 rfl) Tryz.underlying42 rfl (by kernel_rfl)) (run_loadVar_row _ _ rfT rfT _ (0, 0) _ (hz.get 1 rfl) Tryz.underlying49 rfl (by kernel_rfl))
    rw [h4] at this
    exact this
  case hpost => exact hR W2 hz.below

set_option maxHeartbeats 4000000 in
theorem rlook_no {w : World} {a : Option Addr} {n c : Nat} {l : List Int} (hr : Row w a l) (hn : l.length = n) (hc : n ≤ c) (h0 : ipErr l ≠ 0) :
    Calls Tryz.prog 16 #[.slice a n c] w fun e w' => RlV w w' l e := by
  have hM : Mem w ((w.alloc (.cells ip0 ipT)).alloc (.cells flZ rfT)) [(w.heap.size, .cells ip0 ipT), (w.heap.size + 1, .cells flZ rfT)] := ((Mem.nil w).push1 rfl).push2 (by simp)
  have hP := rip_seen (hM.row hr) hn hc
  have HE : Hid (lkErr l = ipErr l ∧ ipErr l ≠ 0) := ⟨by unfold lkErr; rw [if_pos h0], h0⟩
  have HF : Hid (∀ W' E, E = ipErr l → Below w.heap.size w W' → RlV w W' l (.returned (.tuple #[.agg ip0, .agg flZ, .int .i64 E]))) := fun W' E hE hb => Or.inl ⟨by rw [HE.out.1]; exact HE.out.2, by rw [hE, HE.out.1], hb⟩
  have HM : Hid _ := hM
  clear hM hr hn hc
  generalize ipRes l = p at *
  generalize hE : ipErr l = E at *
  have h0' : (E == 0) = false := by simp [h0]
  have h0'' : (E != 0) = true := bne_iff_ne.mpr h0
  clear HE hE
  go_enter Tryz.func16, Tryz.ntmps16
  go_wp2_with fail
  refine hP.mono ?_
  rintro e w1 ⟨ao, co, bo, cb, rfl, -, -, hb1⟩
  have hM1 := HM.out.after hb1
  clear hP hb1
  go_upto_region 3 with fail
  refine wp_letter (fun W => Mem w W [(w.heap.size, .cells ip0 ipT), (w.heap.size + 1, .cells flZ rfT)]) (hM1.after ((Below.refl _ _).alloc (Nat.le_refl _) _)) ?_
  intro w2 hM2
  have HM2 : Hid (Mem w w2 [(w.heap.size, .cells ip0 ipT), (w.heap.size + 1, .cells flZ rfT)]) := hM2
  have ka : ∀ i, w2.cell? ⟨w.heap.size, i, none⟩ = ip0[i]? := hM2.cell 0 rfl
  have kaf : ∀ i, w2.frozen? ⟨w.heap.size, i, none⟩ = false := hM2.free 0 rfl
  have kb : ∀ i, w2.cell? ⟨w.heap.size + 1, i, none⟩ = flZ[i]? := hM2.cell 1 rfl
  have kbf : ∀ i, w2.frozen? ⟨w.heap.size + 1, i, none⟩ = false := hM2.free 1 rfl
  clear hM1 hM2
  go_wp2_with fail
  (try simp only [Exit.inBlock, Exit.then])
  exact noughts_end HM2.out rfl rfl rfl rfl (fun W' hb => HF.out W' _ rfl hb)
end Go.Proofs.YtjalpbkfpjfigaaGreat

namespace Go.Proofs.YtjalpbkfpjfigaaGreat
open Go.ChangeShapes Go.WideShapes Go.ChangeAt Go.RowKit Go.Joins
open Sm
set_option linter.unusedVariables false
set_option maxRecDepth 100000

theorem array2 {α : Type} {cs : Array α} (h : cs.size = 2) : ∃ c0 c1, cs = #[c0, c1] := by
  obtain ⟨l⟩ := cs
  simp only [List.size_toArray] at h
  rcases l with _ | ⟨c0, l⟩
  · simp at h
  rcases l with _ | ⟨c1, l⟩
  · simp at h
  rcases l with _ | ⟨c2, l⟩
  · exact ⟨c0, c1, rfl⟩
  · simp at h

section
variable {H : Type} {enc : TypeId × Value → H} {W : World} {base : Nat} {held : Bool}
theorem trod_struct2 {t : TypeId} {f0 f1 : Field} {fuel : Nat} {cs : List Value} {x : DataW H × List MemPlace} (ht : Tryz.prog.underlying t = some (.struct #[f0, f1])) (h : DataW.trod enc Tryz.prog W base (fun _ => true) held fuel t cs = some x) :
    ∃ y0 y1 n, DataW.trod enc Tryz.prog W base (fun _ => true) held n f0.type ((cs.drop f0.offset).take (Tryz.prog.cellsOf f0.type)) = some y0 ∧ DataW.trod enc Tryz.prog W base (fun _ => true) held n f1.type ((cs.drop f1.offset).take (Tryz.prog.cellsOf f1.type)) = some y1 := by
  obtain ⟨xs, n, _, _, hl, hlen, hf⟩ := DataW.trod_struct ht h
  match xs, hlen with
  | [y0, y1], _ => exact ⟨y0, y1, n, by simpa using hf 0 f0 rfl, by simpa using hf 1 f1 rfl⟩
theorem open_point {r : Reach} {b0 : Nat} {v : Value} {d : DataW H} {p : List MemPlace} (hv : Value.okWide Tryz.prog W r b0 ptT v) (h : DataW.Trod enc Tryz.prog W base (fun _ => true) held ptT v d p) :
    ∃ s : Pt, v = .agg (ptA s) ∧ s.Ok := by
  obtain ⟨cs, rfl, hsz⟩ := okWide_struct Tryz.underlying32 hv
  rw [show Tryz.prog.cellsOf 32 = 2 by kernel_rfl] at hsz
  obtain ⟨c0, c1, rfl⟩ := array2 hsz
  obtain ⟨fuel, hf⟩ := h
  obtain ⟨y0, y1, n, h0, h1⟩ := trod_struct2 Tryz.underlying32 hf
  have k0 : DataW.trod enc Tryz.prog W base (fun _ => true) held n 29 [c0] = some y0 := by
    have := h0; simp only [show Tryz.prog.cellsOf 29 = 1 by kernel_rfl] at this; exact this
  have k1 : DataW.trod enc Tryz.prog W base (fun _ => true) held n 30 [c1] = some y1 := by
    have := h1; simp only [show Tryz.prog.cellsOf 30 = 1 by kernel_rfl] at this; exact this
  obtain ⟨x0, rfl, q0⟩ := open_cell Tryz.underlying29 k0
  obtain ⟨x1, rfl, q1⟩ := open_cell Tryz.underlying30 k1
  exact ⟨⟨x0, x1⟩, rfl, bounds_u32 q0, bounds_u16 q1⟩
theorem open_pack {r : Reach} {b0 : Nat} {v : Value} {d : DataW H} {p : List MemPlace} (hv : Value.okWide Tryz.prog W r b0 paT v) (h : DataW.Trod enc Tryz.prog W base (fun _ => true) held paT v d p) :
    ∃ P : Pa, v = .agg (paB P) ∧ P.Ok := by
  obtain ⟨cs, rfl, hsz⟩ := okWide_struct Tryz.underlying24 hv
  rw [show Tryz.prog.cellsOf 24 = 10 by kernel_rfl] at hsz
  obtain ⟨c0, c1, c2, c3, c4, c5, c6, c7, c8, c9, rfl⟩ := array10 hsz
  obtain ⟨fuel, hf⟩ := h
  obtain ⟨y0, y1, y2, y3, y4, y5, y6, y7, y8, y9, n, h0, h1, h2, h3, h4, h5, h6, h7, h8, h9⟩ := trod_struct10 Tryz.underlying24 hf
  have k0 : DataW.trod enc Tryz.prog W base (fun _ => true) held n 5 [c0] = some y0 := by
    have := h0; simp only [show Tryz.prog.cellsOf 5 = 1 by kernel_rfl] at this; exact this
  have k1 : DataW.trod enc Tryz.prog W base (fun _ => true) held n 5 [c1] = some y1 := by
    have := h1; simp only [show Tryz.prog.cellsOf 5 = 1 by kernel_rfl] at this; exact this
  have k2 : DataW.trod enc Tryz.prog W base (fun _ => true) held n 5 [c2] = some y2 := by
    have := h2; simp only [show Tryz.prog.cellsOf 5 = 1 by kernel_rfl] at this; exact this
  have k3 : DataW.trod enc Tryz.prog W base (fun _ => true) held n 5 [c3] = some y3 := by
    have := h3; simp only [show Tryz.prog.cellsOf 5 = 1 by kernel_rfl] at this; exact this
  have k4 : DataW.trod enc Tryz.prog W base (fun _ => true) held n 5 [c4] = some y4 := by
    have := h4; simp only [show Tryz.prog.cellsOf 5 = 1 by kernel_rfl] at this; exact this
  have k5 : DataW.trod enc Tryz.prog W base (fun _ => true) held n 5 [c5] = some y5 := by
    have := h5; simp only [show Tryz.prog.cellsOf 5 = 1 by kernel_rfl] at this; exact this
  have k6 : DataW.trod enc Tryz.prog W base (fun _ => true) held n 5 [c6] = some y6 := by
    have := h6; simp only [show Tryz.prog.cellsOf 5 = 1 by kernel_rfl] at this; exact this
  have k7 : DataW.trod enc Tryz.prog W base (fun _ => true) held n 5 [c7] = some y7 := by
    have := h7; simp only [show Tryz.prog.cellsOf 5 = 1 by kernel_rfl] at this; exact this
  have k8 : DataW.trod enc Tryz.prog W base (fun _ => true) held n 5 [c8] = some y8 := by
    have := h8; simp only [show Tryz.prog.cellsOf 5 = 1 by kernel_rfl] at this; exact this
  have k9 : DataW.trod enc Tryz.prog W base (fun _ => true) held n 5 [c9] = some y9 := by
    have := h9; simp only [show Tryz.prog.cellsOf 5 = 1 by kernel_rfl] at this; exact this
  obtain ⟨x0, rfl, q0⟩ := open_cell Tryz.underlying5 k0
  obtain ⟨x1, rfl, q1⟩ := open_cell Tryz.underlying5 k1
  obtain ⟨x2, rfl, q2⟩ := open_cell Tryz.underlying5 k2
  obtain ⟨x3, rfl, q3⟩ := open_cell Tryz.underlying5 k3
  obtain ⟨x4, rfl, q4⟩ := open_cell Tryz.underlying5 k4
  obtain ⟨x5, rfl, q5⟩ := open_cell Tryz.underlying5 k5
  obtain ⟨x6, rfl, q6⟩ := open_cell Tryz.underlying5 k6
  obtain ⟨x7, rfl, q7⟩ := open_cell Tryz.underlying5 k7
  obtain ⟨x8, rfl, q8⟩ := open_cell Tryz.underlying5 k8
  obtain ⟨x9, rfl, q9⟩ := open_cell Tryz.underlying5 k9
  exact ⟨⟨x0, x1, x2, x3, x4, x5, x6, x7, x8, x9⟩, rfl, bounds_u8 q0, bounds_u8 q1, bounds_u8 q2, bounds_u8 q3, bounds_u8 q4, bounds_u8 q5, bounds_u8 q6, bounds_u8 q7, bounds_u8 q8, bounds_u8 q9⟩
theorem open_slice {r : Reach} {b0 : Nat} {v : Value} {d : DataW H} {p : List MemPlace} (hv : Value.okWide Tryz.prog W r b0 22 v) (h : DataW.Trod enc Tryz.prog W base (fun _ => true) held 22 v d p) :
    ∃ a len cap l, v = .slice a len cap ∧ (len ≤ 140737488351232 → Row W a l ∧ l.length = len ∧ len ≤ cap) := by
  obtain ⟨a, len, cap, rfl⟩ := okWide_slice Tryz.underlying22 hv
  obtain ⟨fuel, hf⟩ := h
  rcases open_ints Tryz.underlying22 Tryz.underlying5 (by kernel_rfl) hf with ⟨hcs, _⟩ | ⟨x, l, c, zs, hcs, _, hl, hm, hz, _, hcell, hwz⟩
  · simp [Value.cells] at hcs
    obtain ⟨rfl, rfl, rfl⟩ := hcs
    exact ⟨none, 0, 0, [], rfl, fun _ => ⟨row_nil W, rfl, Nat.le_refl _⟩⟩
  · simp [Value.cells] at hcs
    obtain ⟨rfl, rfl, rfl⟩ := hcs
    refine ⟨some x, len, cap, zs.take len, rfl, fun h2 => ?_⟩
    obtain ⟨hrow, hlen⟩ := row_of hl (by simpa using hz) hcell (fun n hn => bounds_u8 (hwz n hn)) h2
    exact ⟨hrow, hlen, hl⟩
end
end Go.Proofs.YtjalpbkfpjfigaaGreat

