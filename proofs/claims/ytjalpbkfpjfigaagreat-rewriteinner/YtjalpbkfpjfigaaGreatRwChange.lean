/-
  What rewrite.isError, rewrite.portsFit, rewrite.sealed and rewrite.changed answer.
-/
import Derived.Test.YtjalpbkfpjfigaaGreatRwLookAll
import Derived.Test.YtjalpbkfpjfigaaGreatUdpBytes
import Derived.Test.YtjalpbkfpjfigaaGreatTcpBytes
import Derived.Test.YtjalpbkfpjfigaaGreatIpBytesNo
namespace Go.Proofs.YtjalpbkfpjfigaaGreat
open Go.RowKit
open Sm
set_option linter.unusedVariables false
set_option maxRecDepth 20000

abbrev ptA (s : Pt) : Array Value := #[.int .u32 s.ip, .int .u16 s.port]

set_option maxHeartbeats 400000 in
theorem iserr_any {w : World} (f : Fl) (ia : Option Addr) (n ic : Nat) :
    Calls Tryz.prog 38 #[.agg (flB f (.slice ia n ic))] w fun e w' => e = .returned (.bool (decide (0 < n))) ∧ Below w.heap.size w w' := by
  have HB : Hid (∀ o, Below w.heap.size w (w.alloc o)) := fun o => (Below.refl _ _).alloc (Nat.le_refl _) o
  go_enter Tryz.func38, Tryz.ntmps38
  go_wp2
  go_ret
  exact ⟨by simp, HB.out _⟩

set_option maxHeartbeats 1000000 in
theorem pfit_any {w : World} (f : Fl) (ia : Option Addr) (ic : Nat) (s d : Pt) :
    Calls Tryz.prog 28 #[.agg (flB f (.slice ia f.inner.length ic)), .agg (ptA s), .agg (ptA d)] w fun e w' => e = .returned (.bool (pfit f s d)) ∧ Below w.heap.size w w' := by
  have hM : Mem w (((w.alloc (.cells (flB f (.slice ia f.inner.length ic)) flT)).alloc (.cells (ptA s) ptT)).alloc (.cells (ptA d) ptT)) [(w.heap.size, .cells (flB f (.slice ia f.inner.length ic)) flT), (w.heap.size + 1, .cells (ptA s) ptT), (w.heap.size + 2, .cells (ptA d) ptT)] := (((Mem.nil w).push1 rfl).push2 (by simp)).push3 (by simp)
  have HF : Hid (pfit f s d = if 0 < f.inner.length then decide (s.port = 0 ∧ d.port = 0) else decide (f.proto ≠ 1 ∨ s.port = d.port)) := rfl
  have HM : Hid _ := hM
  clear hM
  generalize pfit f s d = R at *
  generalize f.inner.length = n at *
  go_enter Tryz.func28, Tryz.ntmps28
  go_upto_region 1 with fail
  refine wp_letter (fun W => Mem w W [(w.heap.size, .cells (flB f (.slice ia n ic)) flT), (w.heap.size + 1, .cells (ptA s) ptT), (w.heap.size + 2, .cells (ptA d) ptT)]) HM.out ?_
  intro w1 hM1
  have HM1 : Hid _ := hM1
  have kc : ∀ i, w1.cell? ⟨w.heap.size, i, none⟩ = (flB f (.slice ia n ic))[i]? := hM1.cell 0 rfl
  have hC := iserr_any (w := w1) f ia n ic
  clear hM1 HM
  go_wp2_with fail
  refine hC.mono ?_
  rintro e w2 ⟨rfl, hb2⟩
  have hM2 := HM1.out.after hb2
  have HB : Hid _ := hM2.below
  have k0 : w2.cell? ⟨w.heap.size, 0, none⟩ = some (.int .u8 f.proto) := hM2.cell 0 rfl 0
  have k1 : w2.cell? ⟨w.heap.size + 1, 1, none⟩ = some (.int .u16 s.port) := hM2.cell 1 rfl 1
  have k2 : w2.cell? ⟨w.heap.size + 2, 1, none⟩ = some (.int .u16 d.port) := hM2.cell 2 rfl 1
  clear hC kc hb2 hM2 HM1
  by_cases hn : 0 < n
  · rw [decide_eq_true hn]
    rw [if_pos hn] at HF
    clear hn
    by_cases hs : s.port = 0
    · rw [hs] at k1
      rw [hs] at HF
      go_wp2_with fail
      go_ret
      exact ⟨by rw [HF.out]; simp <;> rfl, HB.out⟩
    · go_wp2_with fail
      go_ret
      exact ⟨by rw [HF.out]; simp [hs] <;> rfl, HB.out⟩
  · rw [decide_eq_false hn]
    rw [if_neg hn] at HF
    clear hn
    by_cases hp : f.proto = 1
    · rw [hp] at k0
      rw [hp] at HF
      go_wp2_with fail
      go_ret
      exact ⟨by rw [HF.out]; simp <;> rfl, HB.out⟩
    · go_wp2_with fail
      go_ret
      exact ⟨by rw [HF.out]; simp [hp] <;> rfl, HB.out⟩

set_option maxHeartbeats 1000000 in
/-- What rewrite.sealed answers, whatever message it is handed. -/
theorem seal_any {w : World} {B : Nat} {v : Value} {m : Mg} (hm : m.Ok) (hv : MgV w B v m) :
    Calls Tryz.prog 62 #[v] w fun e w' => ∃ u, e = .returned u ∧ w'.ownsRow w.heap.size 5 1 u (mgOut (msl m)).length ((mgOut (msl m)).map (Value.int .u8)) ∧ Below w.heap.size w w' := by
  have hv' := hv
  obtain ⟨bo, cb, rfl, -⟩ := hv'
  have hM : Mem w (w.alloc (.cells (mgB m bo m.body.length cb) mgT)) [(w.heap.size, .cells (mgB m bo m.body.length cb) mgT)] := (Mem.nil w).push1 rfl
  have hS := msum_any hm (mgv_box hv (.cells (mgB m bo m.body.length cb) mgT))
  have hr := msum_range m
  have HK : Hid (msl m).Ok := hm.at hr.1 hr.2
  have HV : Hid (∀ W, Below w.heap.size w W → MgV W 0 (.agg (mgA m.typ m.code (msum m) m.rest (.slice bo m.body.length cb))) (msl m)) := fun W hb => ((mgv_at hv (msum m)).below hb (Nat.le_refl _)).mono (Nat.zero_le _)
  have HM : Hid _ := hM
  clear hM hr hm hv
  generalize msum m = S at *
  generalize m.body.length = n at *
  generalize msl m = q at *
  go_enter Tryz.func62, Tryz.ntmps62
  go_wp2_with fail
  refine hS.mono ?_
  rintro e w1 ⟨rfl, hb1⟩
  have hM1 := HM.out.after hb1
  have kc : ∀ i, w1.cell? ⟨w.heap.size, i, none⟩ = (mgB m bo n cb)[i]? := hM1.cell 0 rfl
  have kf : ∀ i, w1.frozen? ⟨w.heap.size, i, none⟩ = false := hM1.free 0 rfl
  have HM1 : Hid _ := hM1
  clear hM1 hb1 hS HM
  go_upto_region 2 with fail
  refine wp_letter (fun W => Mem w W [(w.heap.size, .cells (mgA m.typ m.code S m.rest (.slice bo n cb)) mgT (0, 0))]) (HM1.out.set 0 rfl 2 _) ?_
  intro w2 hM2
  have HM2 : Hid _ := hM2
  clear kc kf HM1
  have kc : ∀ i, w2.cell? ⟨w.heap.size, i, none⟩ = (mgA m.typ m.code S m.rest (.slice bo n cb))[i]? := hM2.cell 0 rfl
  have hB := mbytes_any HK.out (HV.out w2 hM2.below)
  clear hM2
  go_wp2_with fail
  refine hB.mono ?_
  rintro e w3 ⟨u, rfl, hown, hb3⟩
  have HB3 : Hid _ := HM2.out.below.trans (hb3.mono HM2.out.below.size)
  have HU : Hid _ := own_base hown HM2.out.below.size
  clear hown hb3 hB kc
  go_wp2_with fail
  go_ret
  exact ⟨_, rfl, HU.out, HB3.out⟩
end Go.Proofs.YtjalpbkfpjfigaaGreat
