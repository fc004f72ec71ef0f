/-
  What rewrite.innerChanged and rewrite.Inner answer, whatever they are handed.
  Packets that carry what the document asks, as lists of numbers: they are read, changed, read again and changed back.
  What a packet's few numbers, a point and a slice of bytes that come in are.
-/
import Derived.Test.YtjalpbkfpjfigabM34
import Derived.Test.YtjalpbkfpjfigabM32
import Derived.Test.YtjalpbkfpjfigabM35
import Derived.Test.YtjalpbkfpjfigabM33
import Derived.Test.YtjalpbkfpjfigabM08
namespace Go.Proofs.Ytjalpbkfpjfigab
open Go.RowKit
open Sm
set_option linter.unusedVariables false
set_option maxRecDepth 20000

/-! ### What turns one old block, and makes new ones. -/
structure Turn (g : Nat) (w w' : World) : Prop where
  there : ∀ k, k < w.heap.size → k ≠ g → w'.heap[k]? = w.heap[k]?
  size : w.heap.size ≤ w'.heap.size
  below : ∀ B w0, B ≤ g → B ≤ w.heap.size → Below B w0 w → Below B w0 w'
theorem Only.turn {g : Nat} {w w' : World} (h : Only g w w') : Turn g w w' := ⟨fun k _ hk => h.there k hk, Nat.le_of_eq h.size.symm, fun B w0 hB _ hb => h.below B w0 hB hb⟩
theorem turn_of {g : Nat} {w w' : World} (h : Below w.heap.size w w') : Turn g w w' := ⟨fun k hk _ => h.block k hk, h.size, fun B w0 _ hB hb => hb.trans (h.mono hB)⟩
theorem Turn.trans {g : Nat} {w w1 w2 : World} (h : Turn g w w1) (k : Turn g w1 w2) : Turn g w w2 :=
  ⟨fun j hj hg => (k.there j (Nat.lt_of_lt_of_le hj h.size) hg).trans (h.there j hj hg), Nat.le_trans h.size k.size, fun B w0 hB hw hb => k.below B w0 hB (Nat.le_trans hw h.size) (h.below B w0 hB hw hb)⟩
theorem Turn.mem {g : Nat} {w W W' : World} {L : List (Nat × Obj)} (h : Turn g W W') (hM : Mem w W L) (hg : w.heap.size ≤ g) (hn : ∀ p ∈ L, p.1 ≠ g) : Mem w W' L :=
  ⟨h.below _ _ hg hM.below.size hM.below, hM.low, fun p hp => by rw [h.there _ (hM.lt hp) (hn p hp)]; exact hM.at_ p hp, hM.apart⟩
theorem Turn.row {g : Nat} {W W' : World} (h : Turn g W W') {a : Option Addr} {l : List Int} (hr : Row W a l) (hf : Far g a l) : Row W' a l := by
  refine ⟨hr.bytes, hr.len, ?_⟩
  rcases hf with e | hf
  · exact Or.inl e
  · rcases hr.cells with e | ⟨b, off, rfl, hc⟩
    · exact Or.inl e
    · refine Or.inr ⟨b, off, rfl, fun i hi => ?_⟩
      have h1 := hc i hi
      have h2 := cell_lt h1
      have h3 := hf _ rfl
      unfold World.cell? at h1 ⊢
      simp only at h1 h2 h3 ⊢
      rw [h.there b h2 (fun e => h3 e.symm)]
      exact h1
theorem cells_at {W : World} {k : Nat} {cs : Array Value} {t : TypeId} (hk : W.heap[k]? = some (.cells cs t (0, 0))) (i : Nat) : W.cell? ⟨k, i, none⟩ = cs[i]? := by
  unfold World.cell?; simp only [hk] <;> rfl
theorem OwnB.base {w : World} {B C g cap : Nat} {l : List Int} (h : OwnB w B g cap l) (hC : C ≤ B) : OwnB w C g cap l := own_base h hC
theorem OwnB.after {w w' : World} {B C g cap : Nat} {l : List Int} (h : OwnB w B g cap l) (hb : Below C w w') (hC : w.heap.size ≤ C) : OwnB w' B g cap l := own_after h hb hC
theorem OwnB.lt {w : World} {B g cap : Nat} {l : List Int} (h : OwnB w B g cap l) (hl : 0 < l.length) : g < w.heap.size := cell_lt (h.cell 0 hl)

namespace Sm
theorem putA_get {l : List Int} (h : 20 ≤ l.length) (s d : Int) (i : Nat) (hi : i < 10 ∨ 20 ≤ i) : (putA l s d).getD i 0 = l.getD i 0 := by
  unfold putA
  rw [putw_getD _ _ _ _ (by simp only [putw_len]; omega), if_neg (by omega), if_neg (by omega), putw_getD _ _ _ _ (by simp only [putw_len]; omega), if_neg (by omega), if_neg (by omega), putw_getD _ _ _ _ (by simp only [putw_len]; omega), if_neg (by omega), if_neg (by omega), putw_getD _ _ _ _ (by simp only [putw_len]; omega), if_neg (by omega), if_neg (by omega), putw_getD _ _ _ _ (by omega), if_neg (by omega), if_neg (by omega)]
theorem hdl_putA {l : List Int} (h : 20 ≤ l.length) (s d : Int) : hdl (putA l s d) = hdl l := by unfold hdl; rw [putA_get h s d 0 (by omega)]
theorem putA_bytes {l : List Int} (hb : IsBytes l) (h : 20 ≤ l.length) {s d : Int} (hs : 0 ≤ s ∧ s ≤ 4294967295) (hd : 0 ≤ d ∧ d ≤ 4294967295) : IsBytes (putA l s d) := by
  have r : 0 ≤ inSum l s d ∧ inSum l s d ≤ 65535 := updv_range _ _ _
  unfold putA
  refine putw_bytes (putw_bytes (putw_bytes (putw_bytes (putw_bytes hb _ _ ?_ ?_ ?_) _ _ ?_ ?_ ?_) _ _ ?_ ?_ ?_) _ _ ?_ ?_ ?_) _ _ ?_ ?_ ?_
  all_goals first | omega | (simp only [putw_len]; omega) | exact r.1 | exact r.2
theorem putP_bytes {l : List Int} (hb : IsBytes l) (h : hdl l + 8 ≤ l.length) {s d : Int} (hs : 0 ≤ s ∧ s ≤ 65535) (hd : 0 ≤ d ∧ d ≤ 65535) : IsBytes (putP l s d) := by
  unfold putP
  split
  · exact putw_bytes hb _ _ (by omega) hs.1 hs.2
  · exact putw_bytes (putw_bytes hb _ _ (by omega) hs.1 hs.2) _ _ (by rw [putw_len]; omega) hd.1 hd.2
theorem inPut_bytes {l : List Int} (hb : IsBytes l) (h : 20 ≤ l.length) (h8 : hdl l + 8 ≤ l.length) {s d : Pt} (hs : s.Ok) (hd : d.Ok) : IsBytes (inPut l s d) :=
  putP_bytes (putA_bytes hb h hs.ip hd.ip) (by rw [hdl_putA h, putA_len]; exact h8) hs.port hd.port
theorem bod_ok {m : Mg} (hm : m.Ok) {b : List Int} (hb : IsBytes b) : (m.bod b).Ok := ⟨hm.typ, hm.code, hm.sum, hm.rest, hb⟩
theorem pkbod_ok {p : Pk} (h : p.Ok) {b : List Int} (hb : IsBytes b) : (p.bod b).Ok := ⟨h.tos, h.ttl, h.proto, h.id, h.flags, h.off, h.src, h.dst, h.opts, hb⟩
theorem inner_some {p : Pk} (h : (flFl p).inner.length ≠ 0) : ¬ p.proto = 17 ∧ ¬ p.proto = 6 ∧ inOk (mgRes p.body).body = true := by
  unfold flFl at h
  split at h
  · simp at h
  · split at h
    · simp at h
    · refine ⟨by assumption, by assumption, ?_⟩
      unfold mfFl fl0 at h
      split at h
      · simp at h
      · split at h
        · rename_i hx; exact hx.2
        · simp [Fl.zero] at h
theorem inMg_ok {m : Mg} (hm : m.Ok) (h : 20 ≤ m.body.length) (h8 : hdl m.body + 8 ≤ m.body.length) {s d : Pt} (hs : s.Ok) (hd : d.Ok) : (inMg m s d).Ok := msl_ok (bod_ok hm (inPut_bytes hm.body h h8 hs hd))
end Sm

set_option maxHeartbeats 4000000 in
theorem inch_bad {w : World} {C g cap n : Nat} {m : Mg} (hm : m.Ok) (ho : OwnB w C g cap m.body) (hn : m.body.length = n) (h20 : 20 ≤ n) (hl : n ≤ 65535) (s d : Pt) (hbad : m.body.getD 9 0 = 1 ∧ s.port ≠ d.port) :
    Calls Try.prog 22 #[.iface mgT (.agg (mgA m.typ m.code m.sum m.rest (.slice (some ⟨g, 0, none⟩) n cap))), .agg (ptA s), .agg (ptA d)] w fun e w' => e = .returned (.tuple #[.slice none 0 0, .int .i64 21]) ∧ Below w.heap.size w w' := by
  have hM : Mem w (((w.alloc (.cells (ptA s) ptT)).alloc (.cells (ptA d) ptT)).alloc (.cells (mgA m.typ m.code m.sum m.rest (.slice (some ⟨g, 0, none⟩) n cap)) mgT)) [(w.heap.size, .cells (ptA s) ptT), (w.heap.size + 1, .cells (ptA d) ptT), (w.heap.size + 2, .cells (mgA m.typ m.code m.sum m.rest (.slice (some ⟨g, 0, none⟩) n cap)) mgT)] := (((Mem.nil w).push1 rfl).push2 (by simp)).push3 (by simp)
  have hta := assert_icmp (.agg (mgA m.typ m.code m.sum m.rest (.slice (some ⟨g, 0, none⟩) n cap)))
  have HM : Hid _ := hM
  have he := xecho_any (c := cap) ((ho.after hM.below (Nat.le_refl _)).row hm.body (by omega)) hn h20
  simp only [hbad.1, decide_true] at he
  have hne : (s.port == d.port) = false := by simp [hbad.2]
  clear hm ho hn h20 hl hbad
  go_enter Try.func22, Try.ntmps22
  go_upto_region 2 with fail
  refine wp_letter (fun W => Mem w W [(w.heap.size, .cells (ptA s) ptT), (w.heap.size + 1, .cells (ptA d) ptT), (w.heap.size + 2, .cells (mgA m.typ m.code m.sum m.rest (.slice (some ⟨g, 0, none⟩) n cap)) mgT)] ∧ Calls Try.prog 38 #[.slice (some ⟨g, 0, none⟩) n cap] W fun e w' => e = .returned (.bool true) ∧ W = w') ⟨HM.out, he⟩ ?_
  intro w1 ⟨hM1, he1⟩
  have HB1 : Hid (Below w.heap.size w w1) := hM1.below
  have k0 : ∀ i, w1.cell? ⟨w.heap.size, i, none⟩ = (ptA s)[i]? := hM1.cell 0 rfl
  have k1 : ∀ i, w1.cell? ⟨w.heap.size + 1, i, none⟩ = (ptA d)[i]? := hM1.cell 1 rfl
  have k2 : ∀ i, w1.cell? ⟨w.heap.size + 2, i, none⟩ = (mgA m.typ m.code m.sum m.rest (.slice (some ⟨g, 0, none⟩) n cap))[i]? := hM1.cell 2 rfl
  clear hM hM1 HM he hta
  go_wp2_with fail
  refine he1.mono ?_
  rintro e w' ⟨rfl, rfl⟩
  clear he1
  go_wp2_with fail
  go_ret2
  exact ⟨rfl, HB1.out⟩

set_option maxHeartbeats 8000000 in
theorem inch_ok {w : World} {C g cap n : Nat} {m : Mg} (hm : m.Ok) (ho : OwnB w C g cap m.body) (hn : m.body.length = n) (h20 : 20 ≤ n) (h8 : hdl m.body + 8 ≤ n) (hl : n ≤ 65535) (hc : n ≤ cap) (s d : Pt) (hs : s.Ok) (hd : d.Ok) (hbad : ¬ (m.body.getD 9 0 = 1 ∧ s.port ≠ d.port)) :
    Calls Try.prog 22 #[.iface mgT (.agg (mgA m.typ m.code m.sum m.rest (.slice (some ⟨g, 0, none⟩) n cap))), .agg (ptA s), .agg (ptA d)] w fun e w' => ∃ x, e = .returned (.tuple #[x, .int .i64 0]) ∧ Turn g w w' ∧ w'.ownsRow w.heap.size 5 1 x (mgOut (inMg m s d)).length ((mgOut (inMg m s d)).map (Value.int .u8)) := by
  have hM : Mem w (((w.alloc (.cells (ptA s) ptT)).alloc (.cells (ptA d) ptT)).alloc (.cells (mgA m.typ m.code m.sum m.rest (.slice (some ⟨g, 0, none⟩) n cap)) mgT)) [(w.heap.size, .cells (ptA s) ptT), (w.heap.size + 1, .cells (ptA d) ptT), (w.heap.size + 2, .cells (mgA m.typ m.code m.sum m.rest (.slice (some ⟨g, 0, none⟩) n cap)) mgT)] := (((Mem.nil w).push1 rfl).push2 (by simp)).push3 (by simp)
  have hta := assert_icmp (.agg (mgA m.typ m.code m.sum m.rest (.slice (some ⟨g, 0, none⟩) n cap)))
  have HM : Hid _ := hM
  have hg := ho.lt (by omega)
  have HO : Hid (∀ W, Mem w W [(w.heap.size, .cells (ptA s) ptT), (w.heap.size + 1, .cells (ptA d) ptT), (w.heap.size + 2, .cells (mgA m.typ m.code m.sum m.rest (.slice (some ⟨g, 0, none⟩) n cap)) mgT)] → OwnB W C g cap m.body) := fun W h => ho.after h.below (Nat.le_refl _)
  have HN : Hid (m.body.length = n ∧ 20 ≤ n ∧ hdl m.body + 8 ≤ n ∧ n ≤ 65535 ∧ n ≤ cap ∧ m.Ok ∧ s.Ok ∧ d.Ok ∧ g < w.heap.size) := ⟨hn, h20, h8, hl, hc, hm, hs, hd, hg⟩
  have HF : Hid (∀ b, b = decide (m.body.getD 9 0 = 1) → b = false ∨ (b = true ∧ s.port = d.port)) := fun b hb => by
    subst hb
    by_cases h9 : m.body.getD 9 0 = 1
    · right
      refine ⟨by simp only [h9, decide_true], ?_⟩
      rcases Decidable.em (s.port = d.port) with h | h
      · exact h
      · exact absurd ⟨h9, h⟩ hbad
    · left; simp only [h9, decide_false]
  clear hm ho hn h20 h8 hl hc hs hd hbad hg
  go_enter Try.func22, Try.ntmps22
  go_upto_region 2 with fail
  refine wp_letter (fun W => Mem w W [(w.heap.size, .cells (ptA s) ptT), (w.heap.size + 1, .cells (ptA d) ptT), (w.heap.size + 2, .cells (mgA m.typ m.code m.sum m.rest (.slice (some ⟨g, 0, none⟩) n cap)) mgT)]) HM.out ?_
  intro w1 hM1
  have HM1 : Hid (Mem w w1 [(w.heap.size, .cells (ptA s) ptT), (w.heap.size + 1, .cells (ptA d) ptT), (w.heap.size + 2, .cells (mgA m.typ m.code m.sum m.rest (.slice (some ⟨g, 0, none⟩) n cap)) mgT)]) := hM1
  have k0 : ∀ i, w1.cell? ⟨w.heap.size, i, none⟩ = (ptA s)[i]? := hM1.cell 0 rfl
  have k1 : ∀ i, w1.cell? ⟨w.heap.size + 1, i, none⟩ = (ptA d)[i]? := hM1.cell 1 rfl
  have k2 : ∀ i, w1.cell? ⟨w.heap.size + 2, i, none⟩ = (mgA m.typ m.code m.sum m.rest (.slice (some ⟨g, 0, none⟩) n cap))[i]? := hM1.cell 2 rfl
  have he := xecho_any (c := cap) ((HO.out w1 hM1).row HN.out.2.2.2.2.2.1.body (by have := HN.out; omega)) HN.out.1 HN.out.2.1
  obtain ⟨b, hb⟩ : ∃ b, decide (m.body.getD 9 0 = 1) = b := ⟨_, rfl⟩
  have HBB := HF.out b hb.symm
  rw [hb] at he
  clear hM hM1 HM hta hb HF
  have HBC : (b = false ∧ True) ∨ (b = true ∧ (s.port == d.port) = true) := by
    rcases HBB with h | ⟨h1, h2⟩
    · exact Or.inl ⟨h, trivial⟩
    · exact Or.inr ⟨h1, by simp [h2]⟩
  clear HBB
  rcases HBC with ⟨rfl, -⟩ | ⟨rfl, hpp⟩
  all_goals
    go_wp2_with fail
    refine he.mono ?_
    rintro e w' ⟨rfl, rfl⟩
    clear he
    have hA := putA_any (HO.out w1 HM1.out) HN.out.2.2.2.2.2.1.body HN.out.1 HN.out.2.1 (by have := HN.out; omega) HN.out.2.2.2.2.1 s.ip d.ip HN.out.2.2.2.2.2.2.1.ip.1 HN.out.2.2.2.2.2.2.1.ip.2 HN.out.2.2.2.2.2.2.2.1.ip.1 HN.out.2.2.2.2.2.2.2.1.ip.2
    go_wp2_with fail
    refine hA.mono ?_
    rintro e w2 ⟨rfl, ho2, hon2⟩
    clear hA k0 k1 k2
    have h0 : w2.heap[w.heap.size]? = some (.cells (ptA s) ptT (0, 0)) := (hon2.there _ (by have := HN.out; omega)).trans (HM1.out.get 0 rfl)
    have h1 : w2.heap[w.heap.size + 1]? = some (.cells (ptA d) ptT (0, 0)) := (hon2.there _ (by have := HN.out; omega)).trans (HM1.out.get 1 rfl)
    have h2 : w2.heap[w.heap.size + 2]? = some (.cells (mgA m.typ m.code m.sum m.rest (.slice (some ⟨g, 0, none⟩) n cap)) mgT (0, 0)) := (hon2.there _ (by have := HN.out; omega)).trans (HM1.out.get 2 rfl)
    have HH : Hid (w2.heap[w.heap.size + 2]? = some (.cells (mgA m.typ m.code m.sum m.rest (.slice (some ⟨g, 0, none⟩) n cap)) mgT (0, 0))) := h2
    have HT2 : Hid (Turn g w w2 ∧ w.heap.size ≤ w2.heap.size) := ⟨(turn_of HM1.out.below).trans hon2.turn, by rw [hon2.size]; exact HM1.out.below.size⟩
    have k0 := cells_at h0
    have k1 := cells_at h1
    have k2 := cells_at h2
    have hPp := putP_any ho2 (putA_bytes HN.out.2.2.2.2.2.1.body (by have := HN.out; omega) HN.out.2.2.2.2.2.2.1.ip HN.out.2.2.2.2.2.2.2.1.ip) (by rw [putA_len]; exact HN.out.1) HN.out.2.1 (by rw [hdl_putA (by have := HN.out; omega)]; exact HN.out.2.2.1) (by have := HN.out; omega) HN.out.2.2.2.2.1 s.port d.port HN.out.2.2.2.2.2.2.1.port.1 HN.out.2.2.2.2.2.2.1.port.2 HN.out.2.2.2.2.2.2.2.1.port.1 HN.out.2.2.2.2.2.2.2.1.port.2
    clear ho2 hon2 h0 h1 h2 HM1
    go_wp2_with fail
    refine hPp.mono ?_
    rintro e w3 ⟨rfl, ho3, hon3⟩
    clear hPp k0 k1 k2
    have h2 : w3.heap[w.heap.size + 2]? = some (.cells (mgA m.typ m.code m.sum m.rest (.slice (some ⟨g, 0, none⟩) n cap)) mgT (0, 0)) := (hon3.there _ (by have := HN.out; omega)).trans HH.out
    have k2 := cells_at h2
    have HT3 : Hid (Turn g w w3 ∧ w.heap.size ≤ w3.heap.size) := ⟨HT2.out.1.trans hon3.turn, by rw [hon3.size]; exact HT2.out.2⟩
    have hby := inPut_bytes HN.out.2.2.2.2.2.1.body (by have := HN.out; omega) (by have := HN.out; omega) HN.out.2.2.2.2.2.2.1 HN.out.2.2.2.2.2.2.2.1
    have hln : (inPut m.body s d).length = n := by rw [inPut_len]; exact HN.out.1
    have hv3 : MgV w3 0 (.agg (mgA m.typ m.code m.sum m.rest (.slice (some ⟨g, 0, none⟩) n cap))) (m.bod (inPut m.body s d)) := ⟨some ⟨g, 0, none⟩, cap, by rw [← hln]; rfl, ho3.row hby (by show (inPut m.body s d).length ≤ _; have := HN.out; rw [hln]; omega), fun e => (by cases e), fun _ _ => Nat.zero_le _⟩
    have hSl := seal_any (bod_ok HN.out.2.2.2.2.2.1 hby) hv3
    clear h2 ho3 hon3 hv3 hby hln HH HT2
    go_wp2_with fail
    refine hSl.mono ?_
    rintro e w4 ⟨x, rfl, hown, hb4⟩
    have HU : Hid (w4.ownsRow w.heap.size 5 1 x (mgOut (inMg m s d)).length ((mgOut (inMg m s d)).map (Value.int .u8))) := own_base hown HT3.out.2
    have HT4 : Hid (Turn g w w4) := HT3.out.1.trans (turn_of hb4)
    clear hSl hown hb4 k2
    go_wp2_with fail
    go_ret2
    exact ⟨_, rfl, HT4.out, HU.out⟩
end Go.Proofs.Ytjalpbkfpjfigab

namespace Go.Proofs.Ytjalpbkfpjfigab
open Go.RowKit
open Sm
set_option linter.unusedVariables false
namespace Sm
/-- What is carried, with its own checksum. -/
def Kd (K : Pk) : Prop :=
  (K.proto = 17 ∧ ∃ D : Dg, K.body = udb D ∧ D.Ok ∧ D.body.length ≤ 65527 ∧ (D.sum = 0 ∨ D.sum = usum K.src K.dst D)) ∨
  (K.proto = 6 ∧ ∃ S : Sg, K.body = tcb S ∧ S.Ok ∧ TFits S ∧ S.sum = tsum K.src K.dst S) ∨
  (K.proto = 1 ∧ ∃ m : Mg, K.body = mgb m ∧ m.Ok ∧ m.body.length ≤ 65507 ∧ m.sum = msum m ∧ (mecho m = true ∨ (mecho m = false ∧ merror m = true ∧ inOk m.body = true)))

theorem ipOut_fits {K : Pk} (f : Fits K) : ipOut K = ipb K := if_pos ((fits_iff K).mpr f)
theorem udOut_fits {D : Dg} (f : D.body.length ≤ 65527) : udOut D = udb D := if_pos ((udbErr_zero D).mpr f)
theorem tcOut_fits {S : Sg} (f : TFits S) : tcOut S = tcb S := if_pos ((tfits_iff S).mpr f)
theorem mgOut_fits {m : Mg} (f : m.body.length ≤ 65507) : mgOut m = mgb m := if_pos ((mfits_iff m).mpr f)
theorem ip_back {K : Pk} (h : K.Ok) (f : Fits K) : ipErr (ipb K) = 0 ∧ ipPk (ipb K) = K ∧ ipRes (ipb K) = K := by
  have a := back_err h f []
  have b := back_pk h f []
  have c := back_res h f []
  rw [List.append_nil] at a b c
  exact ⟨a, b, c⟩

/-- What is read of it. -/
theorem kd_body {K : Pk} (h : K.Ok) (k : Kd K) : bdErr K = 0 ∧ bdRight K = true ∧ flErr K = 0 := by
  have h1 := h.src
  have h2 := h.dst
  rcases k with ⟨hp, D, hb, hD, hn, hs⟩ | ⟨hp, S, hb, hS, hn, hs⟩ | ⟨hp, m, hb, hm, hn, hs, hk⟩
  · have e := back_ures hD hn
    refine ⟨by unfold bdErr; rw [if_pos hp, hb]; exact back_uerr D hn, ?_, by unfold flErr; rw [if_pos hp]⟩
    unfold bdRight
    rw [if_pos hp, hb, e]
    have := uright_at hD hn K.src K.dst h1.1 h2.1 D.sum hD.sum.1 hD.sum.2
    rw [show D.at D.sum = D from rfl] at this
    rw [this]
    rcases hs with hs | hs
    · simp [hs]
    · simp [← hs]
  · have e := back_tres hS hn
    have hp1 : ¬ K.proto = 17 := by omega
    refine ⟨by unfold bdErr; rw [if_neg hp1, if_pos hp, hb]; exact back_terr S hn, ?_, by unfold flErr; rw [if_neg hp1, if_pos hp]⟩
    unfold bdRight
    rw [if_neg hp1, if_pos hp, hb, e]
    have := tright_at hS hn K.src K.dst h1.1 h2.1 S.sum hS.sum.1 hS.sum.2
    rw [show S.at S.sum = S from rfl] at this
    rw [this]
    simp [← hs]
  · have e := back_mres hm
    have hp1 : ¬ K.proto = 17 := by omega
    have hp2 : ¬ K.proto = 6 := by omega
    refine ⟨by unfold bdErr; rw [if_neg hp1, if_neg hp2, if_pos hp, hb]; exact back_merr m, ?_, ?_⟩
    · unfold bdRight
      rw [if_neg hp1, if_neg hp2, hb, e]
      have := mright_own hm ((mfits_iff m).mpr hn)
      rw [← hs, show m.at m.sum = m from rfl] at this
      exact this
    · unfold flErr mfErr
      rw [if_neg hp1, if_neg hp2, hb, e]
      rcases hk with hk | ⟨hk1, hk2, hk3⟩
      · rw [if_pos hk]
      · rw [if_neg (by simp [hk1]), if_pos ⟨hk2, hk3⟩]
theorem kd_look {K : Pk} (h : K.Ok) (f : Fits K) (k : Kd K) : lkErr (ipb K) = 0 ∧ ipPk (ipb K) = K := by
  obtain ⟨a, b, c⟩ := ip_back h f
  obtain ⟨d, e, g⟩ := kd_body h k
  refine ⟨?_, b⟩
  unfold lkErr
  rw [b, a, d, e, g, if_neg (by decide), if_neg (by decide), if_neg (by decide)]

/-- Changed, and changed back. -/
structure Twice (K X : Pk) (s d : Pt) : Prop where
  ok : X.Ok
  fits : Fits X
  kd : Kd X
  fl : flFl X = ⟨(flFl K).proto, s, d, (flFl K).flags, (flFl K).inner⟩
  fit : pfit (flFl X) (flFl K).src (flFl K).dst = true
  back : chPk X (flFl X) (flFl K).src (flFl K).dst = K
theorem usum_to (s d : Int) (u : Dg) (c : Int) : usum s d (u.at c) = usum s d u := rfl
theorem tsum_to (s d : Int) (u : Sg) (c : Int) : tsum s d (u.at c) = tsum s d u := rfl
theorem msum_to (u : Mg) (c : Int) : msum (u.at c) = msum u := rfl
theorem chDg_body (u : Dg) (s d : Pt) : (chDg u s d).body = u.body := by unfold chDg; split <;> rfl
theorem chDg_sum (u : Dg) (s d : Pt) : (chDg u s d).sum = 0 ∨ (chDg u s d).sum = usum s.ip d.ip (chDg u s d) := by
  unfold chDg
  split
  · left; assumption
  · right; rfl
theorem chDg_src (u : Dg) (s d : Pt) : (chDg u s d).src = s.port ∧ (chDg u s d).dst = d.port := by unfold chDg; split <;> exact ⟨rfl, rfl⟩
theorem chDg_none (u : Dg) (hn : u.body.length ≤ 65527) (s d : Pt) : (chDg u s d).sum = 0 ↔ u.sum = 0 := by
  unfold chDg
  by_cases e : u.sum = 0
  · rw [if_pos e]; exact Iff.rfl
  · rw [if_neg e]
    exact ⟨fun h => absurd h (usum_some (u := u.to s d) hn _ _), fun h => absurd h e⟩
theorem chDg_back {u : Dg} (hn : u.body.length ≤ 65527) {x y : Int} (hs : u.sum = 0 ∨ u.sum = usum x y u) (s d : Pt) : chDg (chDg u s d) ⟨x, u.src⟩ ⟨y, u.dst⟩ = u := by
  by_cases e : u.sum = 0
  · have e1 : chDg u s d = u.to s d := if_pos e
    rw [e1]
    have e2 : chDg (u.to s d) ⟨x, u.src⟩ ⟨y, u.dst⟩ = (u.to s d).to ⟨x, u.src⟩ ⟨y, u.dst⟩ := if_pos e
    rw [e2]; rfl
  · have hs' : u.sum = usum x y u := by rcases hs with h | h; exact absurd h e; exact h
    have e1 := mt (chDg_none u hn s d).mp e
    have e2 : chDg (chDg u s d) ⟨x, u.src⟩ ⟨y, u.dst⟩ = ((chDg u s d).to ⟨x, u.src⟩ ⟨y, u.dst⟩).at (usum x y ((chDg u s d).to ⟨x, u.src⟩ ⟨y, u.dst⟩)) := if_neg e1
    have e3 : chDg u s d = (u.to s d).at (usum s.ip d.ip (u.to s d)) := if_neg e
    have e4 : (chDg u s d).to ⟨x, u.src⟩ ⟨y, u.dst⟩ = u.at (usum s.ip d.ip (u.to s d)) := by rw [e3]; rfl
    rw [e2, e4, usum_to, ← hs']
    rfl
theorem chSg_back {u : Sg} {x y : Int} (hs : u.sum = tsum x y u) (s d : Pt) : chSg (chSg u s d) ⟨x, u.src⟩ ⟨y, u.dst⟩ = u := by
  show (u.at (tsum s.ip d.ip (u.to s d))).at (tsum x y (u.at (tsum s.ip d.ip (u.to s d)))) = u
  rw [tsum_to, ← hs]
  rfl
theorem msl_self {m : Mg} (h : m.sum = msum m) : msl m = m := by unfold msl; rw [← h]; rfl
theorem msl_id {m : Mg} (hm : m.Ok) (h : m.sum = msum m) (x : Int) (hx : 0 ≤ x ∧ x ≤ 65535) : msl ((msl (m.id x)).id (m.rest / 65536)) = m := by
  have hr := hm.rest
  have e : (msl (m.id x)).id (m.rest / 65536) = m.at (msum (m.id x)) := by
    have e1 : (m.rest / 65536) * 65536 + (x * 65536 + m.rest % 65536) % 65536 = m.rest := by omega
    show Mg.mk m.typ m.code (msum (m.id x)) ((m.rest / 65536) * 65536 + (x * 65536 + m.rest % 65536) % 65536) m.body = _
    rw [e1]; rfl
  rw [e]
  show (m.at (msum (m.id x))).at (msum (m.at (msum (m.id x)))) = m
  rw [msum_to, ← h]
  rfl
theorem pk_eta (K : Pk) : (⟨K.tos, K.ttl, K.proto, K.id, K.flags, K.off, K.src, K.dst, K.opts, K.body⟩ : Pk) = K := rfl

theorem kd_twice {K : Pk} (h : K.Ok) (f : Fits K) (k : Kd K) {s d : Pt} (hs : s.Ok) (hd : d.Ok) (hp : pfit (flFl K) s d = true) : Twice K (chPk K (flFl K) s d) s d := by
  have hok := chPk_ok h (flFl K) hs hd
  rcases k with ⟨pr, D, hb, hD, hn, hsm⟩ | ⟨pr, S, hb, hS, hn, hsm⟩ | ⟨pr, m, hb, hm, hn, hsm, hk⟩
  · have e1 := back_ures hD hn
    have hl : (chDg D s d).body.length ≤ 65527 := by rw [chDg_body]; exact hn
    have hDo := chDg_ok hD hs hd
    have eb : chBody K (flFl K) s d = udb (chDg D s d) := by unfold chBody; rw [if_pos pr, hb, e1, udOut_fits hl]
    have ef : flFl K = ⟨17, ⟨K.src, D.src⟩, ⟨K.dst, D.dst⟩, 0, []⟩ := by unfold flFl; rw [if_pos pr, hb, e1, pr]
    have ex : chPk K (flFl K) s d = ⟨K.tos, K.ttl, K.proto, K.id, K.flags, K.off, s.ip, d.ip, K.opts, udb (chDg D s d)⟩ := by unfold chPk Pk.to; rw [eb]
    have hlen : (udb (chDg D s d)).length = K.body.length := by rw [hb, udb_len, udb_len, chDg_body]
    rw [ef] at hp hok ex ⊢
    rw [ex] at hok ⊢
    have e2 := back_ures hDo hl
    have fx : flFl ⟨K.tos, K.ttl, K.proto, K.id, K.flags, K.off, s.ip, d.ip, K.opts, udb (chDg D s d)⟩ = ⟨17, s, d, 0, []⟩ := by
      unfold flFl; rw [if_pos pr]; simp only; rw [e2, pr, (chDg_src D s d).1, (chDg_src D s d).2]
    refine ⟨hok, ⟨f.o4, f.o40, f.flags, f.off, by have := f.n; simp only; omega⟩, Or.inl ⟨pr, _, rfl, hDo, hl, chDg_sum D s d⟩, ?_, ?_, ?_⟩
    · rw [fx, ef]
    · rw [fx]; simp [pfit]
    · rw [fx, ef]
      have eb2 : chBody ⟨K.tos, K.ttl, K.proto, K.id, K.flags, K.off, s.ip, d.ip, K.opts, udb (chDg D s d)⟩ ⟨17, s, d, 0, []⟩ ⟨K.src, D.src⟩ ⟨K.dst, D.dst⟩ = udb D := by
        unfold chBody; rw [if_pos pr]; simp only; rw [e2, chDg_back hn hsm, udOut_fits hn]
      unfold chPk Pk.to
      rw [eb2, ← hb]
  · have e1 := back_tres hS hn
    have p1 : ¬ K.proto = 17 := by omega
    have hl : TFits (chSg S s d) := ⟨hn.o4, hn.o40, hn.n⟩
    have hDo := chSg_ok hS hs hd
    have eb : chBody K (flFl K) s d = tcb (chSg S s d) := by unfold chBody; rw [if_neg p1, if_pos pr, hb, e1, tcOut_fits hl]
    have ef : flFl K = ⟨6, ⟨K.src, S.src⟩, ⟨K.dst, S.dst⟩, S.flags, []⟩ := by unfold flFl; rw [if_neg p1, if_pos pr, hb, e1, pr]
    have ex : chPk K (flFl K) s d = ⟨K.tos, K.ttl, K.proto, K.id, K.flags, K.off, s.ip, d.ip, K.opts, tcb (chSg S s d)⟩ := by unfold chPk Pk.to; rw [eb]
    have hlen : (tcb (chSg S s d)).length = K.body.length := by rw [hb, tcb_len, tcb_len]; rfl
    rw [ef] at hp hok ex ⊢
    rw [ex] at hok ⊢
    have e2 := back_tres hDo hl
    have fx : flFl ⟨K.tos, K.ttl, K.proto, K.id, K.flags, K.off, s.ip, d.ip, K.opts, tcb (chSg S s d)⟩ = ⟨6, s, d, S.flags, []⟩ := by
      unfold flFl; rw [if_neg p1, if_pos pr]; simp only; rw [e2, pr]; rfl
    refine ⟨hok, ⟨f.o4, f.o40, f.flags, f.off, by have := f.n; simp only; omega⟩, Or.inr (Or.inl ⟨pr, _, rfl, hDo, hl, rfl⟩), ?_, ?_, ?_⟩
    · rw [fx, ef]
    · rw [fx]; simp [pfit]
    · rw [fx, ef]
      have eb2 : chBody ⟨K.tos, K.ttl, K.proto, K.id, K.flags, K.off, s.ip, d.ip, K.opts, tcb (chSg S s d)⟩ ⟨6, s, d, S.flags, []⟩ ⟨K.src, S.src⟩ ⟨K.dst, S.dst⟩ = tcb S := by
        unfold chBody; rw [if_neg p1, if_pos pr]; simp only; rw [e2, chSg_back hsm, tcOut_fits hn]
      unfold chPk Pk.to
      rw [eb2, ← hb]
  · have e1 := back_mres hm
    have p1 : ¬ K.proto = 17 := by omega
    have p2 : ¬ K.proto = 6 := by omega
    have hr := hm.rest
    have sp := hs.port
    rcases hk with hk | ⟨hk1, hk2, hk3⟩
    · have ef : flFl K = ⟨1, ⟨K.src, m.rest / 65536⟩, ⟨K.dst, m.rest / 65536⟩, 0, []⟩ := by unfold flFl mfFl fl0; rw [if_neg p1, if_neg p2, hb, e1, if_pos hk, pr]
      have hl : (msl (m.id s.port)).body.length ≤ 65507 := hn
      have hDo : (msl (m.id s.port)).Ok := msl_ok ⟨hm.typ, hm.code, hm.sum, ⟨by simp only [Mg.id]; omega, by simp only [Mg.id]; omega⟩, hm.body⟩
      have eb : chBody K (flFl K) s d = mgb (msl (m.id s.port)) := by unfold chBody chMg; rw [ef, if_neg p1, if_neg p2, if_pos pr, hb, e1, if_neg (by simp), mgOut_fits hl]
      have ex : chPk K (flFl K) s d = ⟨K.tos, K.ttl, K.proto, K.id, K.flags, K.off, s.ip, d.ip, K.opts, mgb (msl (m.id s.port))⟩ := by unfold chPk Pk.to; rw [eb]
      have hlen : (mgb (msl (m.id s.port))).length = K.body.length := by rw [hb, mgb_len, mgb_len]; rfl
      have hk' : mecho (msl (m.id s.port)) = true := hk
      rw [ef] at hp hok ex ⊢
      rw [ex] at hok ⊢
      have hsd : s.port = d.port := by simpa [pfit] using hp
      have e2 := back_mres hDo
      have er : (msl (m.id s.port)).rest / 65536 = s.port := by show (s.port * 65536 + m.rest % 65536) / 65536 = s.port; omega
      have fx : flFl ⟨K.tos, K.ttl, K.proto, K.id, K.flags, K.off, s.ip, d.ip, K.opts, mgb (msl (m.id s.port))⟩ = ⟨1, s, d, 0, []⟩ := by
        unfold flFl mfFl fl0; rw [if_neg p1, if_neg p2]; simp only; rw [e2, if_pos hk', pr, er]
        cases s; cases d; simp only at hsd; subst hsd; rfl
      refine ⟨hok, ⟨f.o4, f.o40, f.flags, f.off, by have := f.n; simp only; omega⟩, Or.inr (Or.inr ⟨pr, _, rfl, hDo, hl, rfl, Or.inl hk'⟩), ?_, ?_, ?_⟩
      · rw [fx, ef]
      · rw [fx, ef]; simp [pfit]
      · rw [fx, ef]
        have eb2 : chBody ⟨K.tos, K.ttl, K.proto, K.id, K.flags, K.off, s.ip, d.ip, K.opts, mgb (msl (m.id s.port))⟩ ⟨1, s, d, 0, []⟩ ⟨K.src, m.rest / 65536⟩ ⟨K.dst, m.rest / 65536⟩ = mgb m := by
          unfold chBody chMg; rw [if_neg p1, if_neg p2, if_pos pr]; simp only; rw [e2, if_neg (by simp), msl_id hm hsm s.port sp, mgOut_fits hn]
        unfold chPk Pk.to
        rw [eb2, ← hb]
    · have ef : flFl K = ⟨1, ⟨K.src, 0⟩, ⟨K.dst, 0⟩, 0, [inSrc m.body, inDst m.body]⟩ := by unfold flFl mfFl fl0; rw [if_neg p1, if_neg p2, hb, e1, if_neg (by simp [hk1]), if_pos ⟨hk2, hk3⟩, pr]
      have eb : chBody K (flFl K) s d = mgb m := by unfold chBody chMg; rw [ef, if_neg p1, if_neg p2, if_pos pr, hb, e1, if_pos (by simp), msl_self hsm, mgOut_fits hn]
      have ex : chPk K (flFl K) s d = ⟨K.tos, K.ttl, K.proto, K.id, K.flags, K.off, s.ip, d.ip, K.opts, mgb m⟩ := by unfold chPk Pk.to; rw [eb]
      rw [ef] at hp hok ex ⊢
      rw [ex] at hok ⊢
      have hsd : s.port = 0 ∧ d.port = 0 := by simpa [pfit] using hp
      have fx : flFl ⟨K.tos, K.ttl, K.proto, K.id, K.flags, K.off, s.ip, d.ip, K.opts, mgb m⟩ = ⟨1, s, d, 0, [inSrc m.body, inDst m.body]⟩ := by
        unfold flFl mfFl fl0; rw [if_neg p1, if_neg p2]; simp only; rw [e1, if_neg (by simp [hk1]), if_pos ⟨hk2, hk3⟩, pr]
        cases s; cases d; simp only at hsd; obtain ⟨rfl, rfl⟩ := hsd; rfl
      refine ⟨hok, ⟨f.o4, f.o40, f.flags, f.off, by have := f.n; rw [hb] at this; exact this⟩, Or.inr (Or.inr ⟨pr, _, rfl, hm, hn, hsm, Or.inr ⟨hk1, hk2, hk3⟩⟩), ?_, ?_, ?_⟩
      · rw [fx, ef]
      · rw [fx, ef]; simp [pfit]
      · rw [fx, ef]
        have eb2 : chBody ⟨K.tos, K.ttl, K.proto, K.id, K.flags, K.off, s.ip, d.ip, K.opts, mgb m⟩ ⟨1, s, d, 0, [inSrc m.body, inDst m.body]⟩ ⟨K.src, 0⟩ ⟨K.dst, 0⟩ = mgb m := by
          unfold chBody chMg; rw [if_neg p1, if_neg p2, if_pos pr]; simp only; rw [e1, if_pos (by simp), msl_self hsm, mgOut_fits hn]
        unfold chPk Pk.to
        rw [eb2, ← hb]
end Sm
end Go.Proofs.Ytjalpbkfpjfigab

namespace Go.Proofs.Ytjalpbkfpjfigab
open Go.ChangeShapes Go.WideShapes Go.ChangeAt Go.RowKit Go.Joins
open Sm
set_option linter.unusedVariables false
set_option maxRecDepth 100000

theorem array2 {α : Type} {cs : Array α} (h : cs.size = 2) : ∃ c0 c1, cs = #[c0, c1] := by
  obtain ⟨l⟩ := cs
  simp only [List.size_toArray] at h
  rcases l with _ | ⟨c0, l⟩
  · simp at h
  rcases l with _ | ⟨c1, l⟩
  · simp at h
  rcases l with _ | ⟨c2, l⟩
  · exact ⟨c0, c1, rfl⟩
  · simp at h

section
variable {H : Type} {enc : TypeId × Value → H} {W : World} {base : Nat} {held : Bool}
theorem trod_struct2 {t : TypeId} {f0 f1 : Field} {fuel : Nat} {cs : List Value} {x : DataW H × List MemPlace} (ht : Try.prog.underlying t = some (.struct #[f0, f1])) (h : DataW.trod enc Try.prog W base (fun _ => true) held fuel t cs = some x) :
    ∃ y0 y1 n, DataW.trod enc Try.prog W base (fun _ => true) held n f0.type ((cs.drop f0.offset).take (Try.prog.cellsOf f0.type)) = some y0 ∧ DataW.trod enc Try.prog W base (fun _ => true) held n f1.type ((cs.drop f1.offset).take (Try.prog.cellsOf f1.type)) = some y1 := by
  obtain ⟨xs, n, _, _, hl, hlen, hf⟩ := DataW.trod_struct ht h
  match xs, hlen with
  | [y0, y1], _ => exact ⟨y0, y1, n, by simpa using hf 0 f0 rfl, by simpa using hf 1 f1 rfl⟩
theorem open_point {r : Reach} {b0 : Nat} {v : Value} {d : DataW H} {p : List MemPlace} (hv : Value.okWide Try.prog W r b0 ptT v) (h : DataW.Trod enc Try.prog W base (fun _ => true) held ptT v d p) :
    ∃ s : Pt, v = .agg (ptA s) ∧ s.Ok := by
  obtain ⟨cs, rfl, hsz⟩ := okWide_struct Try.underlying27 hv
  rw [show Try.prog.cellsOf 27 = 2 by kernel_rfl] at hsz
  obtain ⟨c0, c1, rfl⟩ := array2 hsz
  obtain ⟨fuel, hf⟩ := h
  obtain ⟨y0, y1, n, h0, h1⟩ := trod_struct2 Try.underlying27 hf
  have k0 : DataW.trod enc Try.prog W base (fun _ => true) held n 24 [c0] = some y0 := by
    have := h0; simp only [show Try.prog.cellsOf 24 = 1 by kernel_rfl] at this; exact this
  have k1 : DataW.trod enc Try.prog W base (fun _ => true) held n 25 [c1] = some y1 := by
    have := h1; simp only [show Try.prog.cellsOf 25 = 1 by kernel_rfl] at this; exact this
  obtain ⟨x0, rfl, q0⟩ := open_cell Try.underlying24 k0
  obtain ⟨x1, rfl, q1⟩ := open_cell Try.underlying25 k1
  exact ⟨⟨x0, x1⟩, rfl, bounds_u32 q0, bounds_u16 q1⟩
theorem open_pack {r : Reach} {b0 : Nat} {v : Value} {d : DataW H} {p : List MemPlace} (hv : Value.okWide Try.prog W r b0 paT v) (h : DataW.Trod enc Try.prog W base (fun _ => true) held paT v d p) :
    ∃ P : Pa, v = .agg (paB P) ∧ P.Ok := by
  obtain ⟨cs, rfl, hsz⟩ := okWide_struct Try.underlying23 hv
  rw [show Try.prog.cellsOf 23 = 10 by kernel_rfl] at hsz
  obtain ⟨c0, c1, c2, c3, c4, c5, c6, c7, c8, c9, rfl⟩ := array10 hsz
  obtain ⟨fuel, hf⟩ := h
  obtain ⟨y0, y1, y2, y3, y4, y5, y6, y7, y8, y9, n, h0, h1, h2, h3, h4, h5, h6, h7, h8, h9⟩ := trod_struct10 Try.underlying23 hf
  have k0 : DataW.trod enc Try.prog W base (fun _ => true) held n 5 [c0] = some y0 := by
    have := h0; simp only [show Try.prog.cellsOf 5 = 1 by kernel_rfl] at this; exact this
  have k1 : DataW.trod enc Try.prog W base (fun _ => true) held n 5 [c1] = some y1 := by
    have := h1; simp only [show Try.prog.cellsOf 5 = 1 by kernel_rfl] at this; exact this
  have k2 : DataW.trod enc Try.prog W base (fun _ => true) held n 5 [c2] = some y2 := by
    have := h2; simp only [show Try.prog.cellsOf 5 = 1 by kernel_rfl] at this; exact this
  have k3 : DataW.trod enc Try.prog W base (fun _ => true) held n 5 [c3] = some y3 := by
    have := h3; simp only [show Try.prog.cellsOf 5 = 1 by kernel_rfl] at this; exact this
  have k4 : DataW.trod enc Try.prog W base (fun _ => true) held n 5 [c4] = some y4 := by
    have := h4; simp only [show Try.prog.cellsOf 5 = 1 by kernel_rfl] at this; exact this
  have k5 : DataW.trod enc Try.prog W base (fun _ => true) held n 5 [c5] = some y5 := by
    have := h5; simp only [show Try.prog.cellsOf 5 = 1 by kernel_rfl] at this; exact this
  have k6 : DataW.trod enc Try.prog W base (fun _ => true) held n 5 [c6] = some y6 := by
    have := h6; simp only [show Try.prog.cellsOf 5 = 1 by kernel_rfl] at this; exact this
  have k7 : DataW.trod enc Try.prog W base (fun _ => true) held n 5 [c7] = some y7 := by
    have := h7; simp only [show Try.prog.cellsOf 5 = 1 by kernel_rfl] at this; exact this
  have k8 : DataW.trod enc Try.prog W base (fun _ => true) held n 5 [c8] = some y8 := by
    have := h8; simp only [show Try.prog.cellsOf 5 = 1 by kernel_rfl] at this; exact this
  have k9 : DataW.trod enc Try.prog W base (fun _ => true) held n 5 [c9] = some y9 := by
    have := h9; simp only [show Try.prog.cellsOf 5 = 1 by kernel_rfl] at this; exact this
  obtain ⟨x0, rfl, q0⟩ := open_cell Try.underlying5 k0
  obtain ⟨x1, rfl, q1⟩ := open_cell Try.underlying5 k1
  obtain ⟨x2, rfl, q2⟩ := open_cell Try.underlying5 k2
  obtain ⟨x3, rfl, q3⟩ := open_cell Try.underlying5 k3
  obtain ⟨x4, rfl, q4⟩ := open_cell Try.underlying5 k4
  obtain ⟨x5, rfl, q5⟩ := open_cell Try.underlying5 k5
  obtain ⟨x6, rfl, q6⟩ := open_cell Try.underlying5 k6
  obtain ⟨x7, rfl, q7⟩ := open_cell Try.underlying5 k7
  obtain ⟨x8, rfl, q8⟩ := open_cell Try.underlying5 k8
  obtain ⟨x9, rfl, q9⟩ := open_cell Try.underlying5 k9
  exact ⟨⟨x0, x1, x2, x3, x4, x5, x6, x7, x8, x9⟩, rfl, bounds_u8 q0, bounds_u8 q1, bounds_u8 q2, bounds_u8 q3, bounds_u8 q4, bounds_u8 q5, bounds_u8 q6, bounds_u8 q7, bounds_u8 q8, bounds_u8 q9⟩
theorem open_slice {r : Reach} {b0 : Nat} {v : Value} {d : DataW H} {p : List MemPlace} (hv : Value.okWide Try.prog W r b0 29 v) (h : DataW.Trod enc Try.prog W base (fun _ => true) held 29 v d p) :
    ∃ a len cap l, v = .slice a len cap ∧ (len ≤ 140737488351232 → Row W a l ∧ l.length = len ∧ len ≤ cap) := by
  obtain ⟨a, len, cap, rfl⟩ := okWide_slice Try.underlying29 hv
  obtain ⟨fuel, hf⟩ := h
  rcases open_ints Try.underlying29 Try.underlying5 (by kernel_rfl) hf with ⟨hcs, _⟩ | ⟨x, l, c, zs, hcs, _, hl, hm, hz, _, hcell, hwz⟩
  · simp [Value.cells] at hcs
    obtain ⟨rfl, rfl, rfl⟩ := hcs
    exact ⟨none, 0, 0, [], rfl, fun _ => ⟨row_nil W, rfl, Nat.le_refl _⟩⟩
  · simp [Value.cells] at hcs
    obtain ⟨rfl, rfl, rfl⟩ := hcs
    refine ⟨some x, len, cap, zs.take len, rfl, fun h2 => ?_⟩
    obtain ⟨hrow, hlen⟩ := row_of hl (by simpa using hz) hcell (fun n hn => bounds_u8 (hwz n hn)) h2
    exact ⟨hrow, hlen, hl⟩
end
end Go.Proofs.Ytjalpbkfpjfigab

