/-
  What tcp.total, tcp.Sum, tcp.Right answer, and the document's own lychref1.TcpSum, lychref1.TcpRight.
  What ip.Parse answers: the document's packet, in memory of the call's own, or the error.
  What rewrite.innerPoints answers: the two points of the packet within an error.
-/
import Derived.Test.YtjalpbkfpjfigaaGreatM20
import Derived.Test.YtjalpbkfpjfigaaGreatM13
import Derived.Test.YtjalpbkfpjfigaaGreatM06
import Derived.Test.YtjalpbkfpjfigaaGreatM19
import Derived.Defers
import Derived.Recover
namespace Go.Proofs.YtjalpbkfpjfigaaGreat
open Go.RowKit
open Sm
set_option linter.unusedVariables false

/-- A segment in its box. -/
theorem tcv_box {w : World} {B : Nat} {v : Value} {q : Sg} (hv : TcV w B v q) (o : Obj) : TcV (w.alloc o) B v q := hv.below ((Below.refl _ _).alloc (Nat.le_refl _) _) (Nat.le_refl _)
/-- A segment's fields, with their lists. -/
abbrev tcB (q : Sg) (ao : Option Addr) (lo co : Nat) (bo : Option Addr) (lb cb : Nat) : Array Value := tcA q.src q.dst q.seq q.ack q.flags q.win q.sum q.urg (.slice ao lo co) (.slice bo lb cb)
theorem tcv_at {w : World} {B : Nat} {ao bo : Option Addr} {co cb : Nat} {q : Sg} (hv : TcV w B (.agg (tcB q ao q.opts.length co bo q.body.length cb)) q) (c : Int) : TcV w B (.agg (tcA q.src q.dst q.seq q.ack q.flags q.win c q.urg (.slice ao q.opts.length co) (.slice bo q.body.length cb))) (q.at c) := by
  obtain ⟨ao', co', bo', cb', e, h⟩ := hv
  simp only [tcB, tcA, Value.agg.injEq, Array.mk.injEq, List.cons.injEq, true_and, and_true, Value.slice.injEq] at e
  obtain ⟨⟨rfl, rfl⟩, rfl, rfl⟩ := e
  exact ⟨ao, co, bo, cb, rfl, h⟩

set_option maxHeartbeats 1000000 in
theorem ttotal_ok {w : World} {B : Nat} {v : Value} {q : Sg} (hq : q.Ok) (hv : TcV w B v q) (f : TFits q) (src dst : Int) (a0 : 0 ≤ src) (a1 : src ≤ 4294967295) (b0 : 0 ≤ dst) (b1 : dst ≤ 4294967295) :
    Calls Tryz.prog 85 #[.int .u32 src, .int .u32 dst, v] w fun r w' => r = .returned (.tuple #[.int .u16 (ttot src dst q), .int .i64 0]) ∧ Below w.heap.size w w' := by
  have hv' := hv
  obtain ⟨ao, co, bo, cb, rfl, -⟩ := hv'
  have e := (tfits_iff q).mpr f
  have hB := tbytes_any hq (tcv_box hv (.cells (tcB q ao q.opts.length co bo q.body.length cb) tcT))
  rw [e, show tcOut q = tcb q from if_pos e] at hB
  have hlen := tcb_len q
  have hby := tcb_bytes hq f
  have HT : Hid (ttot src dst q = foldv (acc (tcb q) (psv src dst 6 (tlen q : Nat)) (cnt (tlen q)))) := rfl
  have hps := tpsv_range src dst 6 (tlen q : Nat) a0 b0 (by omega)
  have hN1 : 20 ≤ tlen q ∧ tlen q ≤ 65515 := ⟨by unfold tlen; omega, f.n⟩
  generalize tcb q = l at *
  generalize tlen q = N at *
  rw [hlen] at hB
  have hpc := fun W => pseudo_any src dst 6 N W a0 a1 b0 b1 (by omega) (by omega)
  have har := acc_range hby (psv src dst 6 N) (by omega) (by omega) (cnt N)
  have hadd : ∀ W g cap B, OwnB W B g cap l → Calls Tryz.prog 91 #[.int .u32 (psv src dst 6 N), .slice (some ⟨g, 0, none⟩) N cap] W _ := fun W g cap B hob => by
    have := add_any (hob.row hby (by omega)) cap (psv src dst 6 N) (by omega) (by omega)
    rw [hlen] at this
    exact this
  have HL : Hid (l.length = N ∧ 0 < N) := ⟨hlen, by omega⟩
  have HA : Hid _ := hadd
  generalize ttot src dst q = T at *
  generalize hP : psv src dst 6 (N : Int) = P at *
  generalize hS : acc l P (cnt N) = S at *
  generalize q.body.length = m at *
  generalize q.opts.length = o at *
  obtain ⟨har0, har1⟩ := har
  have hNi : (N : Int) ≤ 65515 := by omega
  clear hv hq e hlen hby hps f hadd hN1
  go_enter Tryz.func85, Tryz.ntmps85
  go_wp2_with fail
  refine hB.mono ?_
  rintro e w1 ⟨x, rfl, hown, hbel⟩
  obtain ⟨g, cap, rfl, hg, hcap, hob⟩ := own_shape2 hown HL.out.1 HL.out.2
  have hadd := HA.out _ _ _ _ hob
  have HBl : Hid (Below w.heap.size w w1) := by
    have h1 := (Below.refl w.heap.size w).alloc (Nat.le_refl _) (.cells (tcB q ao o co bo m cb) tcT)
    exact h1.trans (hbel.mono h1.size)
  clear hB hown hob hbel HA
  go_wp2_with fail
  refine (hpc _).mono ?_
  rintro e w' ⟨rfl, rfl⟩
  go_wp2_with fail
  refine hadd.mono ?_
  rintro e w' ⟨rfl, rfl⟩
  go_wp2_with fail
  refine (fold_any S _ har0 har1).mono ?_
  rintro e w' ⟨rfl, rfl⟩
  go_wp2_with fail
  go_ret2
  exact ⟨by rw [HT.out] <;> rfl, HBl.out⟩

set_option maxHeartbeats 1000000 in
theorem ttotal_no {w : World} {B : Nat} {v : Value} {q : Sg} (hq : q.Ok) (hv : TcV w B v q) (E : Int) (hE : tcbErr q = E) (h0 : E ≠ 0) (src dst : Int) :
    Calls Tryz.prog 85 #[.int .u32 src, .int .u32 dst, v] w fun r w' => r = .returned (.tuple #[.int .u16 0, .int .i64 E]) ∧ Below w.heap.size w w' := by
  have hv' := hv
  obtain ⟨ao, co, bo, cb, rfl, -⟩ := hv'
  have hB := tbytes_any hq (tcv_box hv (.cells (tcB q ao q.opts.length co bo q.body.length cb) tcT))
  rw [hE] at hB
  have h0' : (E == 0) = false := by simp [h0]
  generalize q.body.length = m at *
  generalize q.opts.length = o at *
  clear hv hq hE
  go_enter Tryz.func85, Tryz.ntmps85
  go_wp2_with fail
  refine hB.mono ?_
  rintro e w1 ⟨x, rfl, -, hbel⟩
  have HBl : Hid (Below w.heap.size w w1) := by
    have h1 := (Below.refl w.heap.size w).alloc (Nat.le_refl _) (.cells (tcB q ao o co bo m cb) tcT)
    exact h1.trans (hbel.mono h1.size)
  clear hB hbel
  go_wp2_with fail
  go_ret2
  exact ⟨rfl, HBl.out⟩

set_option maxHeartbeats 1000000 in
/-- What tcp.Sum answers, whatever it is handed. -/
theorem tsum_any {w : World} {B : Nat} {v : Value} {q : Sg} (hq : q.Ok) (hv : TcV w B v q) (src dst : Int) (a0 : 0 ≤ src) (a1 : src ≤ 4294967295) (b0 : 0 ≤ dst) (b1 : dst ≤ 4294967295) :
    Calls Tryz.prog 60 #[.int .u32 src, .int .u32 dst, v] w fun r w' => r = .returned (.int .u16 (tsum src dst q)) ∧ Below w.heap.size w w' := by
  have hv' := hv
  obtain ⟨ao, co, bo, cb, rfl, -⟩ := hv'
  have hz := hq.at (c := 0) (by omega) (by omega)
  have hv0 := tcv_box (tcv_at hv 0) (.cells (tcA q.src q.dst q.seq q.ack q.flags q.win 0 q.urg (.slice ao q.opts.length co) (.slice bo q.body.length cb)) tcT)
  have HBl : Hid (Below w.heap.size w (w.alloc (.cells (tcA q.src q.dst q.seq q.ack q.flags q.win 0 q.urg (.slice ao q.opts.length co) (.slice bo q.body.length cb)) tcT))) := (Below.refl w.heap.size w).alloc (Nat.le_refl _) _
  by_cases e : tcbErr q = 0
  · have f := (tfits_iff q).mp e
    have hT := ttotal_ok hz hv0 (f.at 0) src dst a0 a1 b0 b1
    have HU : Hid (tsum src dst q = 65535 - ttot src dst (q.at 0)) := by
      show _ = _
      unfold tsum; rw [if_neg (by omega)]
    have hr := ttot_range src dst (q.at 0)
    have hx := sm_not16 _ hr.1 hr.2
    have hsg : IntKind.u16.signed = false := rfl
    generalize ttot src dst (q.at 0) = T at *
    generalize tsum src dst q = R at *
    generalize q.body.length = m at *
    generalize q.opts.length = o at *
    clear hv hq hz hv0 e f
    go_enter Tryz.func60, Tryz.ntmps60
    go_wp2_with fail
    refine hT.mono ?_
    rintro e w1 ⟨rfl, hbel⟩
    have HB1 : Hid _ := HBl.out.trans (hbel.mono HBl.out.size)
    clear hT hbel HBl
    go_wp2_with fail
    go_ret
    exact ⟨by rw [HU.out] <;> rfl, HB1.out⟩
  · have hT := ttotal_no hz hv0 (tcbErr q) (tcErr_at q 0) e src dst
    have HU : Hid (tsum src dst q = 0) := by
      show _ = _
      unfold tsum; rw [if_pos e]
    generalize tcbErr q = E at *
    have h0' : (E == 0) = false := by simp [e]
    generalize tsum src dst q = R at *
    generalize q.body.length = m at *
    generalize q.opts.length = o at *
    clear hv hq hz hv0
    go_enter Tryz.func60, Tryz.ntmps60
    go_wp2_with fail
    refine hT.mono ?_
    rintro e w1 ⟨rfl, hbel⟩
    have HB1 : Hid _ := HBl.out.trans (hbel.mono HBl.out.size)
    clear hT hbel HBl
    go_wp2_with fail
    go_ret
    exact ⟨by rw [HU.out] <;> rfl, HB1.out⟩

set_option maxHeartbeats 1000000 in
/-- What tcp.Right answers, whatever it is handed. -/
theorem tright_any {w : World} {B : Nat} {v : Value} {q : Sg} (hq : q.Ok) (hv : TcV w B v q) (src dst : Int) (a0 : 0 ≤ src) (a1 : src ≤ 4294967295) (b0 : 0 ≤ dst) (b1 : dst ≤ 4294967295) :
    Calls Tryz.prog 80 #[.int .u32 src, .int .u32 dst, v] w fun r w' => r = .returned (.bool (tright src dst q)) ∧ Below w.heap.size w w' := by
  have hv' := hv
  obtain ⟨ao, co, bo, cb, rfl, -⟩ := hv'
  have hv0 := tcv_box hv (.cells (tcB q ao q.opts.length co bo q.body.length cb) tcT)
  have HBl : Hid (Below w.heap.size w (w.alloc (.cells (tcB q ao q.opts.length co bo q.body.length cb) tcT))) := (Below.refl w.heap.size w).alloc (Nat.le_refl _) _
  by_cases e : tcbErr q = 0
  · have f := (tfits_iff q).mp e
    have hT := ttotal_ok hq hv0 f src dst a0 a1 b0 b1
    have HU : Hid (tright src dst q = decide (ttot src dst q = 65535)) := by
      show _ = _
      unfold tright; simp [e]
    generalize ttot src dst q = T at *
    generalize tright src dst q = R at *
    generalize q.body.length = m at *
    generalize q.opts.length = o at *
    clear hv hq hv0 e f
    go_enter Tryz.func80, Tryz.ntmps80
    go_wp2_with fail
    refine hT.mono ?_
    rintro e w1 ⟨rfl, hbel⟩
    have HB1 : Hid _ := HBl.out.trans (hbel.mono HBl.out.size)
    clear hT hbel HBl
    go_wp2_with fail
    go_ret
    exact ⟨by rw [HU.out]; rfl, HB1.out⟩
  · have hT := ttotal_no hq hv0 (tcbErr q) rfl e src dst
    have HU : Hid (tright src dst q = false) := by
      show _ = _
      unfold tright; simp [e]
    generalize tcbErr q = E at *
    have h0' : (E == 0) = false := by simp [e]
    generalize tright src dst q = R at *
    generalize q.body.length = m at *
    generalize q.opts.length = o at *
    clear hv hq hv0
    go_enter Tryz.func80, Tryz.ntmps80
    go_wp2_with fail
    refine hT.mono ?_
    rintro e w1 ⟨rfl, hbel⟩
    have HB1 : Hid _ := HBl.out.trans (hbel.mono HBl.out.size)
    clear hT hbel HBl
    go_wp2_with fail
    go_ret
    exact ⟨by rw [HU.out] <;> rfl, HB1.out⟩

set_option maxHeartbeats 1000000 in
/-- What lychref1.TcpSum answers, whatever it is handed. -/
theorem rtsum_any {w : World} {B : Nat} {v : Value} {q : Sg} (hq : q.Ok) (hv : TcV w B v q) (src dst : Int) (a0 : 0 ≤ src) (a1 : src ≤ 4294967295) (b0 : 0 ≤ dst) (b1 : dst ≤ 4294967295) :
    Calls Tryz.prog 35 #[.int .u32 src, .int .u32 dst, v] w fun r w' => r = .returned (.int .u16 (tsum src dst q)) ∧ Below w.heap.size w w' := by
  have hv' := hv
  obtain ⟨ao, co, bo, cb, rfl, -⟩ := hv'
  have hz := hq.at (c := 0) (by omega) (by omega)
  have hv0 := tcv_box (tcv_at hv 0) (.cells (tcA q.src q.dst q.seq q.ack q.flags q.win 0 q.urg (.slice ao q.opts.length co) (.slice bo q.body.length cb)) tcT)
  have HBl : Hid (Below w.heap.size w (w.alloc (.cells (tcA q.src q.dst q.seq q.ack q.flags q.win 0 q.urg (.slice ao q.opts.length co) (.slice bo q.body.length cb)) tcT))) := (Below.refl w.heap.size w).alloc (Nat.le_refl _) _
  have hB := rtbytes_any hz hv0
  rw [tcErr_at] at hB
  by_cases e : tcbErr q = 0
  · have f := (tfits_iff q).mp e
    rw [e, show tcOut (q.at 0) = tcb (q.at 0) from if_pos e] at hB
    have hlen : (tcb (q.at 0)).length = tlen q := tcb_len (q.at 0)
    have hby := tcb_bytes hz (f.at 0)
    have HU : Hid (tsum src dst q = 65535 - ttot src dst (q.at 0)) := by
      show _ = _
      unfold tsum; rw [if_neg (by omega)]
    have HT : Hid (ttot src dst (q.at 0) = foldv (acc (tcb (q.at 0)) (psv src dst 6 (tlen q : Nat)) (cnt (tlen q)))) := rfl
    have hps := tpsv_range src dst 6 (tlen q : Nat) a0 b0 (by omega)
    have hN1 : 20 ≤ tlen q ∧ tlen q ≤ 65515 := ⟨by unfold tlen; omega, f.n⟩
    generalize tcb (q.at 0) = l at *
    generalize tlen q = N at *
    rw [hlen] at hB
    have hpc := fun W => rpseudo_any src dst 6 N W a0 a1 b0 b1 (by omega) (by omega)
    have har := acc_range hby (psv src dst 6 N) (by omega) (by omega) (cnt N)
    have hadd : ∀ W g cap B, OwnB W B g cap l → Calls Tryz.prog 68 #[.int .u32 (psv src dst 6 N), .slice (some ⟨g, 0, none⟩) N cap] W _ := fun W g cap B hob => by
      have := radd_any (hob.row hby (by omega)) (by omega) cap (psv src dst 6 N) (by omega) (by omega)
      rw [hlen] at this
      exact this
    have HL : Hid (l.length = N ∧ 0 < N) := ⟨hlen, by omega⟩
    have HA : Hid _ := hadd
    have hr := ttot_range src dst (q.at 0)
    have hx := sm_not16 _ hr.1 hr.2
    have hsg : IntKind.u16.signed = false := rfl
    generalize tsum src dst q = R at *
    generalize ttot src dst (q.at 0) = T at *
    generalize hP : psv src dst 6 (N : Int) = P at *
    generalize hS : acc l P (cnt N) = S at *
    generalize q.body.length = m at *
    generalize q.opts.length = o at *
    obtain ⟨har0, har1⟩ := har
    obtain ⟨hr0, hr1⟩ := hr
    have hNi : (N : Int) ≤ 65515 := by omega
    clear hv hq hz hv0 e hlen hby hps f hadd hN1
    go_enter Tryz.func35, Tryz.ntmps35
    go_wp2_with fail
    refine hB.mono ?_
    rintro e w1 ⟨x, rfl, hown, hbel⟩
    obtain ⟨g, cap, rfl, hg, hcap, hob⟩ := own_shape2 hown HL.out.1 HL.out.2
    have hadd := HA.out _ _ _ _ hob
    have HB1 : Hid (Below w.heap.size w w1) := HBl.out.trans (hbel.mono HBl.out.size)
    clear hB hown hob hbel HA HBl hg hcap
    go_wp2_with fail
    refine (hpc _).mono ?_
    rintro e w' ⟨rfl, rfl⟩
    go_wp2_with fail
    refine hadd.mono ?_
    rintro e w2 ⟨rfl, hbel2⟩
    have HB2 : Hid (Below w.heap.size w w2) := HB1.out.trans (hbel2.mono HB1.out.size)
    clear hadd hbel2 HB1
    go_wp2_with fail
    refine (rfold_any S _ har0 har1).mono ?_
    rintro e w' ⟨rfl, rfl⟩
    rw [← HT.out]
    go_wp2_with fail
    go_ret
    exact ⟨by rw [HU.out] <;> rfl, HB2.out⟩
  · have HU : Hid (tsum src dst q = 0) := by
      show _ = _
      unfold tsum; rw [if_pos e]
    generalize tcbErr q = E at *
    have h0' : (E == 0) = false := by simp [e]
    generalize tsum src dst q = R at *
    generalize q.body.length = m at *
    generalize q.opts.length = o at *
    clear hv hq hz hv0
    go_enter Tryz.func35, Tryz.ntmps35
    go_wp2_with fail
    refine hB.mono ?_
    rintro e w1 ⟨x, rfl, -, hbel⟩
    have HB1 : Hid _ := HBl.out.trans (hbel.mono HBl.out.size)
    clear hB hbel HBl
    go_wp2_with fail
    go_ret
    exact ⟨by rw [HU.out] <;> rfl, HB1.out⟩

set_option maxHeartbeats 1000000 in
/-- What lychref1.TcpRight answers, whatever it is handed. -/
theorem rtright_any {w : World} {B : Nat} {v : Value} {q : Sg} (hq : q.Ok) (hv : TcV w B v q) (src dst : Int) (a0 : 0 ≤ src) (a1 : src ≤ 4294967295) (b0 : 0 ≤ dst) (b1 : dst ≤ 4294967295) :
    Calls Tryz.prog 46 #[.int .u32 src, .int .u32 dst, v] w fun r w' => r = .returned (.bool (tright src dst q)) ∧ Below w.heap.size w w' := by
  have hv' := hv
  obtain ⟨ao, co, bo, cb, rfl, -⟩ := hv'
  have hv0 := tcv_box hv (.cells (tcB q ao q.opts.length co bo q.body.length cb) tcT)
  have HBl : Hid (Below w.heap.size w (w.alloc (.cells (tcB q ao q.opts.length co bo q.body.length cb) tcT))) := (Below.refl w.heap.size w).alloc (Nat.le_refl _) _
  have hB := rtbytes_any hq hv0
  by_cases e : tcbErr q = 0
  · have f := (tfits_iff q).mp e
    rw [e, show tcOut q = tcb q from if_pos e] at hB
    have hlen := tcb_len q
    have hby := tcb_bytes hq f
    have HU : Hid (tright src dst q = decide (ttot src dst q = 65535)) := by
      show _ = _
      unfold tright; simp [e]
    have HT : Hid (ttot src dst q = foldv (acc (tcb q) (psv src dst 6 (tlen q : Nat)) (cnt (tlen q)))) := rfl
    have hps := tpsv_range src dst 6 (tlen q : Nat) a0 b0 (by omega)
    have hN1 : 20 ≤ tlen q ∧ tlen q ≤ 65515 := ⟨by unfold tlen; omega, f.n⟩
    generalize tcb q = l at *
    generalize tlen q = N at *
    rw [hlen] at hB
    have hpc := fun W => rpseudo_any src dst 6 N W a0 a1 b0 b1 (by omega) (by omega)
    have har := acc_range hby (psv src dst 6 N) (by omega) (by omega) (cnt N)
    have hadd : ∀ W g cap B, OwnB W B g cap l → Calls Tryz.prog 68 #[.int .u32 (psv src dst 6 N), .slice (some ⟨g, 0, none⟩) N cap] W _ := fun W g cap B hob => by
      have := radd_any (hob.row hby (by omega)) (by omega) cap (psv src dst 6 N) (by omega) (by omega)
      rw [hlen] at this
      exact this
    have HL : Hid (l.length = N ∧ 0 < N) := ⟨hlen, by omega⟩
    have HA : Hid _ := hadd
    generalize tright src dst q = R at *
    generalize ttot src dst q = T at *
    generalize hP : psv src dst 6 (N : Int) = P at *
    generalize hS : acc l P (cnt N) = S at *
    generalize q.body.length = m at *
    generalize q.opts.length = o at *
    obtain ⟨har0, har1⟩ := har
    have hNi : (N : Int) ≤ 65515 := by omega
    clear hv hq hv0 e hlen hby hps f hadd hN1
    go_enter Tryz.func46, Tryz.ntmps46
    go_wp2_with fail
    refine hB.mono ?_
    rintro e w1 ⟨x, rfl, hown, hbel⟩
    obtain ⟨g, cap, rfl, hg, hcap, hob⟩ := own_shape2 hown HL.out.1 HL.out.2
    have hadd := HA.out _ _ _ _ hob
    have HB1 : Hid (Below w.heap.size w w1) := HBl.out.trans (hbel.mono HBl.out.size)
    clear hB hown hob hbel HA HBl hg hcap
    go_wp2_with fail
    refine (hpc _).mono ?_
    rintro e w' ⟨rfl, rfl⟩
    go_wp2_with fail
    refine hadd.mono ?_
    rintro e w2 ⟨rfl, hbel2⟩
    have HB2 : Hid (Below w.heap.size w w2) := HB1.out.trans (hbel2.mono HB1.out.size)
    clear hadd hbel2 HB1
    go_wp2_with fail
    refine (rfold_any S _ har0 har1).mono ?_
    rintro e w' ⟨rfl, rfl⟩
    rw [← HT.out]
    go_wp2_with fail
    go_ret
    exact ⟨by rw [HU.out]; rfl, HB2.out⟩
  · have HU : Hid (tright src dst q = false) := by
      show _ = _
      unfold tright; simp [e]
    generalize tcbErr q = E at *
    have h0' : (E == 0) = false := by simp [e]
    generalize tright src dst q = R at *
    generalize q.body.length = m at *
    generalize q.opts.length = o at *
    clear hv hq hv0
    go_enter Tryz.func46, Tryz.ntmps46
    go_wp2_with fail
    refine hB.mono ?_
    rintro e w1 ⟨x, rfl, -, hbel⟩
    have HB1 : Hid _ := HBl.out.trans (hbel.mono HBl.out.size)
    clear hB hbel HBl
    go_wp2_with fail
    go_ret
    exact ⟨by rw [HU.out] <;> rfl, HB1.out⟩
end Go.Proofs.YtjalpbkfpjfigaaGreat

namespace Go.Proofs.YtjalpbkfpjfigaaGreat
open Go.RowKit
open Sm
set_option linter.unusedVariables false
set_option maxRecDepth 20000

set_option maxHeartbeats 1000000 in
theorem read_falls {w : World} {s : Value} {E : Int} (hs : Calls Tryz.prog 97 #[s] (w.alloc (.cells ip0 ipT)) fun r w' => r = .panicked (failing E) ∧ Below (w.alloc (.cells ip0 ipT)).heap.size (w.alloc (.cells ip0 ipT)) w') :
    Calls Tryz.prog 75 #[s] w fun r w' => r = .panicked (failing E) ∧ Below w.heap.size w w' := by
  go_enter Tryz.func75, Tryz.ntmps75
  go_wp2_with fail
  refine hs.mono ?_
  rintro e w2 ⟨rfl, hbel⟩
  exact ⟨rfl, rfl, (((Mem.nil w).push w.heap.size (.cells ip0 ipT) rfl).after hbel).below⟩

set_option maxHeartbeats 2000000 in
theorem read_sum {w : World} {b off n c : Nat} {l : List Int} (hr : Row w (some ⟨b, off, none⟩) l) (hn : l.length = n) (hc : n ≤ c) (p1 : 20 ≤ l.length) (p2 : l.getD 0 0 / 16 = 4) (p3 : 20 ≤ hdl l) (p4 : hdl l ≤ whl l) (p5 : hdl l ≤ l.length) (p6 : whl l ≤ l.length)
    (p7 : foldv (tot (l.take (hdl l)) (cnt (hdl l))) ≠ 65535) :
    Calls Tryz.prog 75 #[.slice (some ⟨b, off, none⟩) n c] w fun r w' => r = .panicked (failing 22) ∧ Below w.heap.size w w' := by
  have hR1 : Row (w.alloc (.cells ip0 ipT)) (some ⟨b, off, none⟩) l := hr.below ((Below.refl _ _).alloc (Nat.le_refl _) _) (Nat.le_refl _)
  have hs := split_rest (front_of hR1 p1 n hn) c hc p2 p3 p4
  have hln := hr.len
  have hlt : (l.take (hdl l)).length = hdl l := by rw [List.length_take]; omega
  have hrh : Row w (some ⟨b, off, none⟩) (l.take (hdl l)) := by
    have := hr.part 0 (hdl l) (by omega)
    simpa using this
  have hfold : foldv (acc (l.take (hdl l)) 0 (cnt (hdl l))) ≠ 65535 := by
    rw [foldv_acc hrh.bytes 0 (by omega) (by omega), Int.zero_add]; exact p7
  have hsr := acc_range hrh.bytes 0 (by omega) (by omega) (cnt (hdl l))
  have hadd : ∀ W L, Mem w W L → Calls Tryz.prog 91 #[.int .u32 0, .slice (some ⟨b, off, none⟩) (hdl l) c] W _ := fun W L hM => by
    have := add_any (hM.row hrh) c 0 (by omega) (by omega)
    rw [hlt] at this
    exact this
  have e4 : 4 * (l.getD 0 0 % 16).toNat = hdl l := rfl
  rw [e4] at hs
  have HN : Hid (hdl l ≤ n ∧ whl l ≤ n) := ⟨by omega, by omega⟩
  generalize acc (l.take (hdl l)) 0 (cnt (hdl l)) = S at *
  generalize hdl l = m at *
  have HA : Hid _ := hadd
  obtain ⟨s0, s1⟩ := hsr
  obtain ⟨T, hT⟩ : ∃ T, foldv S = T := ⟨_, rfl⟩
  have HT : Hid (foldv S = T) := hT
  rw [hT] at hfold
  clear hr hn hc p1 p2 p3 p4 p5 p6 p7 hR1 hln hlt hrh hadd e4 hT
  go_enter Tryz.func75, Tryz.ntmps75
  go_wp2_with fail
  refine hs.mono ?_
  rintro e w2 ⟨hbel, ⟨rfl, hx⟩ | ⟨o2, rfl, h4n, hwn, ho2⟩⟩
  · exfalso; have := HN.out; omega
  · have HM2 : Hid (Mem w w2 [(w.heap.size, .cells ip0 ipT)]) := ((Mem.nil w).push w.heap.size (.cells ip0 ipT) rfl).after hbel
    clear hbel h4n hwn ho2 hs HN
    go_wp2_with fail
    refine (HA.out w2 _ HM2.out).mono ?_
    rintro e w' ⟨rfl, rfl⟩
    go_wp2_with fail
    refine (fold_any S _ s0 s1).mono ?_
    rintro e w' ⟨rfl, rfl⟩
    rw [HT.out]
    go_wp2_with fail
    rw [show (T == 65535) = false from beq_eq_false_iff_ne.mpr hfold]
    refine (must_no 22 _).mono ?_
    rintro e w' ⟨rfl, rfl⟩
    exact ⟨rfl, rfl, HM2.out.below⟩

theorem read_no {w : World} {a : Option Addr} {n c : Nat} {l : List Int} (hr : Row w a l) (hn : l.length = n) (hc : n ≤ c) (h0 : ipErr l ≠ 0) :
    Calls Tryz.prog 75 #[.slice a n c] w fun r w' => r = .panicked (failing (ipErr l)) ∧ Below w.heap.size w w' := by
  by_cases p1 : l.length < 20
  · have e : ipErr l = 20 := by unfold ipErr; rw [if_pos p1]
    rw [e]
    exact read_falls (split_few a n c (by omega))
  · have hne : l ≠ [] := by rintro rfl; simp at p1
    obtain ⟨b, off, rfl, -⟩ : ∃ b off, a = some ⟨b, off, none⟩ ∧ ∀ i, i < l.length → w.cell? ⟨b, off + i, none⟩ = some (.int .u8 (l.getD i 0)) := by
      rcases hr.cells with e | e
      · exact absurd e hne
      · exact e
    have hR1 : Row (w.alloc (.cells ip0 ipT)) (some ⟨b, off, none⟩) l := hr.below ((Below.refl _ _).alloc (Nat.le_refl _) _) (Nat.le_refl _)
    by_cases p2 : l.getD 0 0 / 16 = 4 ∧ 20 ≤ hdl l ∧ hdl l ≤ whl l
    · by_cases p3 : l.length < hdl l ∨ l.length < whl l
      · have e : ipErr l = 20 := by unfold ipErr; rw [if_neg p1, if_neg (by simpa using p2), if_pos p3]
        rw [e]
        refine read_falls ((split_rest (front_of hR1 (by omega) n hn) c hc p2.1 p2.2.1 p2.2.2).mono ?_)
        rintro r w' ⟨hb, ⟨rfl, -⟩ | ⟨o2, -, q1, q2, -⟩⟩
        · exact ⟨rfl, hb⟩
        · exfalso
          have e4 : 4 * (l.getD 0 0 % 16).toNat = hdl l := rfl
          omega
      · by_cases p4 : foldv (tot (l.take (hdl l)) (cnt (hdl l))) ≠ 65535
        · have e : ipErr l = 22 := by unfold ipErr; rw [if_neg p1, if_neg (by simpa using p2), if_neg p3, if_pos p4]
          rw [e]
          exact read_sum hr hn hc (by omega) p2.1 p2.2.1 p2.2.2 (by omega) (by omega) p4
        · exfalso; apply h0; unfold ipErr; rw [if_neg p1, if_neg (by simpa using p2), if_neg p3, if_neg p4]
    · have e : ipErr l = 21 := by unfold ipErr; rw [if_neg p1, if_pos p2]
      rw [e]
      exact read_falls (split_form (front_of hR1 (by omega) n hn) c p2)

/-- The deferred closure, where read has failed, and where it has not. -/
theorem catch_panicking (p : Addr) (x e : Int) (w : World) (hc : w.cell? p = some (.int .i64 x)) (hz : w.frozen? p = false) :
    CallsD Tryz.prog 74 #[.pointer (some p)] (.panicking (failing e)) w fun r u' w' =>
      r = .returned (.tuple #[]) ∧ u' = .panicking [{ v := .iface 124 (.agg #[.int .i64 e]), recovered := true }] ∧ w' = w.setCell p (.int .i64 e) := by
  refine callsD_of_wpS Tryz.func74 rfl fun c₀ cs hu => ?_
  apply wpS_seq
  apply wpS_region
  simp [wpOpsS, go_sem, recoverD, hu, Tryz.ntmps74, Exit.thenS]
  refine wpS_of_wp ?_
  change Code.wp Tryz.prog _ _ { tmps := #[.pointer (some p), .iface 124 (.agg #[.int .i64 e]), .iface 124 (.agg #[.int .i64 e]), undef, undef, undef, undef, undef], defers := [] } w
  have hta : ∀ w : World, (Instr.typeAssert (.iface 124 (.agg #[.int .i64 e])) 20 124 false).run Tryz.prog w = .ok (.agg #[.int .i64 e]) w := fun w => by kernel_rfl
  have hfd : ∀ w : World, (Instr.field 124 (.agg #[.int .i64 e]) 0).run Tryz.prog w = .ok (.int .i64 e) w := fun w => by kernel_rfl
  go_wp2
  refine ⟨rfl, _, rfl, .tuple #[], ?_, rfl, rfl, rfl⟩
  simp [results, Tryz.results74]
theorem catch_idle (p : Addr) (w : World) :
    CallsD Tryz.prog 74 #[.pointer (some p)] .returning w fun r u' w' => r = .returned (.tuple #[]) ∧ u' = .returning ∧ w' = w := by
  refine callsD_of_wpS Tryz.func74 rfl fun c₀ cs hu => ?_
  apply wpS_seq
  apply wpS_region
  simp [wpOpsS, go_sem, recoverD, hu, Tryz.ntmps74, Exit.thenS]
  refine wpS_of_wp ?_
  change Code.wp Tryz.prog _ _ { tmps := #[.pointer (some p), .nilIface, .nilIface, undef, undef, undef, undef, undef], defers := [] } w
  go_wp2
  cases c₀
  simp_all [bodyPostS, results, Tryz.results74]

set_option maxHeartbeats 2000000 in
theorem parse_no {w : World} {a : Option Addr} {n c : Nat} {l : List Int} (hr : Row w a l) (hn : l.length = n) (hc : n ≤ c) (h0 : ipErr l ≠ 0) :
    Calls Tryz.prog 43 #[.slice a n c] w fun r w' => r = .returned (.tuple #[.agg ip0, .int .i64 (ipErr l)]) ∧ Below w.heap.size w w' := by
  have hmf : ∀ (fn : Fn) (first cap : Array Value) (w : World), (Instr.makeFunc fn first cap).run Tryz.prog w = .ok (.func fn first cap) w := fun _ _ _ _ => rfl
  have hM : Mem w ((w.alloc (.cells ip0 ipT)).alloc (.cells #[.int .i64 0] 33)) [(w.heap.size, .cells ip0 ipT), (w.heap.size + 1, .cells #[.int .i64 0] 33)] := ((Mem.nil w).push w.heap.size _ rfl).push (w.heap.size + 1) _ (by simp)
  have hread := read_no (hM.row hr) hn hc h0
  generalize ipErr l = E at *
  have HM : Hid _ := hM
  clear hM hr hn hc
  go_enter_defers Tryz.func43, Tryz.ntmps43
  go_wp2_with fail
  refine hread.mono ?_
  rintro e w2 ⟨rfl, hbel⟩
  have hM2 := HM.out.after hbel
  clear hbel HM hread
  refine leaves_cons (f := 74) (args := #[.pointer (some ⟨w.heap.size + 1, 0, none⟩)]) (by simp) (by simp [go_sem]) ?_
  refine (catch_panicking ⟨w.heap.size + 1, 0, none⟩ 0 E _ (hM2.cell 1 rfl 0) (hM2.free 1 rfl 0)).mono ?_
  rintro e u' w'' ⟨rfl, rfl, rfl⟩
  have hM3 := hM2.set 1 rfl 0 (.int .i64 E)
  have kc : ∀ i, (w2.setCell ⟨w.heap.size + 1, 0, none⟩ (.int .i64 E)).cell? ⟨w.heap.size, i, none⟩ = ip0[i]? := hM3.cell 0 rfl
  have ke : (w2.setCell ⟨w.heap.size + 1, 0, none⟩ (.int .i64 E)).cell? ⟨w.heap.size + 1, 0, none⟩ = some (.int .i64 E) := hM3.cell 1 rfl 0
  have hb := hM3.below
  generalize w2.setCell ⟨w.heap.size + 1, 0, none⟩ (.int .i64 E) = w3 at *
  clear hM2 hM3
  simp [Leaves, settle, results, Tryz.results43, go_sem, kc, ke]
  exact hb

set_option maxHeartbeats 2000000 in
theorem parse_ok {w : World} {b off n c : Nat} {l : List Int} (hr : Row w (some ⟨b, off, none⟩) l) (hn : l.length = n) (hc : n ≤ c) (h0 : ipErr l = 0) :
    Calls Tryz.prog 43 #[.slice (some ⟨b, off, none⟩) n c] w fun r w' => ∃ v, r = .returned (.tuple #[v, .int .i64 0]) ∧ (IpV w' w.heap.size v (ipPk l) ∧ IpCap v (ipPk l)) ∧ Below w.heap.size w w' := by
  have hmf : ∀ (fn : Fn) (first cap : Array Value) (w : World), (Instr.makeFunc fn first cap).run Tryz.prog w = .ok (.func fn first cap) w := fun _ _ _ _ => rfl
  have hM : Mem w ((w.alloc (.cells ip0 ipT)).alloc (.cells #[.int .i64 0] 33)) [(w.heap.size, .cells ip0 ipT), (w.heap.size + 1, .cells #[.int .i64 0] 33)] := ((Mem.nil w).push w.heap.size _ rfl).push (w.heap.size + 1) _ (by simp)
  have hread := read_ok (hM.row hr) hn hc h0
  have HM : Hid _ := hM
  clear hM hr hn hc h0
  generalize ipPk l = P at *
  go_enter_defers Tryz.func43, Tryz.ntmps43
  go_wp2_with fail
  refine hread.mono ?_
  rintro e w2 ⟨v, rfl, hv, hbel⟩
  obtain ⟨⟨ao, co, bo, cb, rfl, ho, hb, hn1, hn2, hf1, hf2⟩, hcap⟩ := hv
  have HC : Hid _ := hcap
  clear hcap
  have hM2 := HM.out.after hbel
  have hsz : ((w.alloc (.cells ip0 ipT)).alloc (.cells #[.int .i64 0] 33)).heap.size = w.heap.size + 2 := by simp
  rw [hsz] at hf1 hf2
  have HV : Hid (Row w2 ao P.opts ∧ Row w2 bo P.body ∧ (ao = none → co = 0) ∧ (bo = none → cb = 0) ∧ (∀ x, ao = some x → w.heap.size + 2 ≤ x.block) ∧ (∀ x, bo = some x → w.heap.size + 2 ≤ x.block)) := ⟨ho, hb, hn1, hn2, hf1, hf2⟩
  have HM2 : Hid _ := hM2
  have kc : ∀ i, w2.cell? ⟨w.heap.size, i, none⟩ = ip0[i]? := hM2.cell 0 rfl
  have kf : ∀ i, w2.frozen? ⟨w.heap.size, i, none⟩ = false := hM2.free 0 rfl
  have ke : w2.cell? ⟨w.heap.size + 1, 0, none⟩ = some (.int .i64 0) := hM2.cell 1 rfl 0
  have kef : w2.frozen? ⟨w.heap.size + 1, 0, none⟩ = false := hM2.free 1 rfl 0
  clear ho hb hn1 hn2 hf1 hf2 hsz hM2 hbel HM hread
  go_wp2_with fail
  refine leaves_cons (f := 74) (args := #[.pointer (some ⟨w.heap.size + 1, 0, none⟩)]) (by simp) (by simp [go_sem]) ?_
  refine (catch_idle ⟨w.heap.size + 1, 0, none⟩ _).mono ?_
  rintro e u' w'' ⟨rfl, rfl, rfl⟩
  simp [Leaves, settle, results, Tryz.results43, go_sem, kc, ke]
  obtain ⟨ho, hb, hn1, hn2, hf1, hf2⟩ := HV.out
  have q1 : ∀ x, ao = some x → w.heap.size + 1 ≠ x.block := fun x hx => by have := hf1 x hx; omega
  have q2 : ∀ x, ao = some x → w.heap.size ≠ x.block := fun x hx => by have := hf1 x hx; omega
  have q3 : ∀ x, bo = some x → w.heap.size + 1 ≠ x.block := fun x hx => by have := hf2 x hx; omega
  have q4 : ∀ x, bo = some x → w.heap.size ≠ x.block := fun x hx => by have := hf2 x hx; omega
  refine ⟨⟨⟨ao, co, bo, cb, rfl, ?_, ?_, hn1, hn2, fun x hx => by have := hf1 x hx; omega, fun x hx => by have := hf2 x hx; omega⟩, HC.out⟩, ?_⟩
  · refine Row.far ?_ q1
    iterate 10 (refine Row.far ?_ q2)
    exact ho
  · refine Row.far ?_ q3
    iterate 10 (refine Row.far ?_ q4)
    exact hb
  · refine below_set ?_ (Nat.le_succ _)
    iterate 10 (refine below_set ?_ (Nat.le_refl _))
    exact HM2.out.below

/-- What ip.Parse answers, whatever it is handed. -/
theorem parse_cap {w : World} {a : Option Addr} {n c : Nat} {l : List Int} (hr : Row w a l) (hn : l.length = n) (hc : n ≤ c) :
    Calls Tryz.prog 43 #[.slice a n c] w fun r w' => ∃ v, r = .returned (.tuple #[v, .int .i64 (ipErr l)]) ∧ (IpV w' w.heap.size v (ipRes l) ∧ IpCap v (ipRes l)) ∧ Below w.heap.size w w' := by
  by_cases h0 : ipErr l = 0
  · have h20 := (ip_parts h0).1
    obtain ⟨b, off, rfl, -⟩ : ∃ b off, a = some ⟨b, off, none⟩ ∧ ∀ i, i < l.length → w.cell? ⟨b, off + i, none⟩ = some (.int .u8 (l.getD i 0)) := by
      rcases hr.cells with e | e
      · subst e; simp at h20
      · exact e
    rw [show ipRes l = ipPk l from if_pos h0, h0]
    exact parse_ok hr hn hc h0
  · rw [show ipRes l = Pk.zero from if_neg h0]
    refine (parse_no hr hn hc h0).mono ?_
    rintro r w' ⟨rfl, hb⟩
    exact ⟨_, rfl, ⟨ipv_zero _ _, ipcap_zero⟩, hb⟩
/-- The same without the body's room. -/
theorem parse_any {w : World} {a : Option Addr} {n c : Nat} {l : List Int} (hr : Row w a l) (hn : l.length = n) (hc : n ≤ c) :
    Calls Tryz.prog 43 #[.slice a n c] w fun r w' => ∃ v, r = .returned (.tuple #[v, .int .i64 (ipErr l)]) ∧ IpV w' w.heap.size v (ipRes l) ∧ Below w.heap.size w w' := by
  refine (parse_cap hr hn hc).mono ?_
  rintro r w' ⟨v, rfl, hv, hb⟩
  exact ⟨v, rfl, hv.1, hb⟩
end Go.Proofs.YtjalpbkfpjfigaaGreat

namespace Go.Proofs.YtjalpbkfpjfigaaGreat
open Go.RowKit
open Sm
set_option linter.unusedVariables false
set_option maxRecDepth 20000

abbrev ptT : TypeId := 32
/-- Two points' cells. -/
abbrev pt2 (s d : Pt) : Array Value := #[.int .u32 s.ip, .int .u16 s.port, .int .u32 d.ip, .int .u16 d.port]

set_option maxHeartbeats 4000000 in
theorem points_any {w : World} {b off n c : Nat} {l : List Int} (hr : Row w (some ⟨b, off, none⟩) l) (hn : l.length = n) (hc : n ≤ c) (hi : inHead l = true) :
    Calls Tryz.prog 113 #[.slice (some ⟨b, off, none⟩) n c] w fun e w' => ∃ g, e = .returned (.slice (some ⟨g, 0, none⟩) 2 2) ∧ Mem w w' [(g, .cells (pt2 (inSrc l) (inDst l)) ptT (0, 0))] := by
  obtain ⟨h20, -, hH, h8⟩ := inHead_facts hi
  have hh := hdl_le hr.bytes
  have hcall := xhead_any (c := c) hr hn (by omega)
  have C0 : ∀ W M C, Row W (some ⟨b, off, none⟩) l → 2 ≤ M → Calls Tryz.prog 93 #[.slice (some ⟨b, off + hdl l, none⟩) M C] W _ := fun W M C hW hM => xword_at hW (hdl l) (off + hdl l) rfl (by omega) _ rfl M hM C
  have C2 : ∀ W M C, Row W (some ⟨b, off, none⟩) l → 2 ≤ M → Calls Tryz.prog 93 #[.slice (some ⟨b, off + hdl l + 2, none⟩) M C] W _ := fun W M C hW hM => xword_at hW (hdl l + 2) (off + hdl l + 2) (by omega) (by omega) _ rfl M hM C
  have C4 : ∀ W M C, Row W (some ⟨b, off, none⟩) l → 2 ≤ M → Calls Tryz.prog 93 #[.slice (some ⟨b, off + hdl l + 4, none⟩) M C] W _ := fun W M C hW hM => xword_at hW (hdl l + 4) (off + hdl l + 4) (by omega) (by omega) _ rfl M hM C
  have CE : ∀ W, Row W (some ⟨b, off, none⟩) l → Calls Tryz.prog 71 #[.slice (some ⟨b, off, none⟩) n c] W _ := fun W hW => xecho_any hW hn (by omega)
  have L1 : ∀ W M C, Row W (some ⟨b, off, none⟩) l → 4 ≤ M → M ≤ C → Calls Tryz.prog 121 #[.slice (some ⟨b, off + 12, none⟩) M C] W _ := fun W M C hW hM hC => xlong_at hW 12 (off + 12) rfl (by omega) _ rfl M hM C hC
  have L2 : ∀ W M C, Row W (some ⟨b, off, none⟩) l → 4 ≤ M → M ≤ C → Calls Tryz.prog 121 #[.slice (some ⟨b, off + 16, none⟩) M C] W _ := fun W M C hW hM hC => xlong_at hW 16 (off + 16) rfl (by omega) _ rfl M hM C hC
  have HN : Hid (2 ≤ n - hdl l ∧ 2 ≤ n - hdl l - 2 ∧ 2 ≤ n - hdl l - 4 ∧ 4 ≤ n - 12 ∧ n - 12 ≤ c - 12 ∧ 4 ≤ n - 16 ∧ n - 16 ≤ c - 16) := ⟨by omega, by omega, by omega, by omega, by omega, by omega, by omega⟩
  have hT : ((hdl l : Nat) : Int).toNat = hdl l := by omega
  have g3 : (0 : Int) ≤ ((hdl l : Nat) : Int) := by omega
  have g4 : ((hdl l : Nat) : Int) ≤ (n : Int) := by omega
  have g5 : ((hdl l : Nat) : Int) ≤ (c : Int) := by omega
  have g6 : (n : Int) ≤ c := by omega
  have g7 : ¬ c = hdl l := by omega
  have s0 : ¬ c - hdl l = 0 := by omega
  have s2 : ¬ c - hdl l = 2 := by omega
  have s4 : ¬ c - hdl l = 4 := by omega
  have s12 : ¬ c = 12 := by omega
  have s16 : ¬ c = 16 := by omega
  have t2 : (2 : Int) ≤ ((n - hdl l : Nat) : Int) := by omega
  have t4 : (4 : Int) ≤ ((n - hdl l : Nat) : Int) := by omega
  have t2' : (2 : Int) ≤ ((c - hdl l : Nat) : Int) := by omega
  have t4' : (4 : Int) ≤ ((c - hdl l : Nat) : Int) := by omega
  have t0' : (0 : Int) ≤ ((c - hdl l : Nat) : Int) := by omega
  have t0 : (0 : Int) ≤ ((n - hdl l : Nat) : Int) := by omega
  have tc : ((n - hdl l : Nat) : Int) ≤ ((c - hdl l : Nat) : Int) := by omega
  have t12 : (12 : Int) ≤ (n : Int) := by omega
  have t16 : (16 : Int) ≤ (n : Int) := by omega
  have t12c : (12 : Int) ≤ (c : Int) := by omega
  have t16c : (16 : Int) ≤ (c : Int) := by omega
  have HS : Hid (inSrc l = ⟨w32 l 12, if l.getD 9 0 = 1 then w16 l (hdl l + 4) else w16 l (hdl l)⟩) := rfl
  have HD : Hid (inDst l = ⟨w32 l 16, if l.getD 9 0 = 1 then w16 l (hdl l + 4) else w16 l (hdl l + 2)⟩) := rfl
  have HR : Hid (Row w (some ⟨b, off, none⟩) l) := hr
  clear hr hn hc hi h20 hH h8 hh
  generalize inSrc l = S at *
  generalize inDst l = D at *
  generalize w16 l (hdl l) = X0 at *
  generalize w16 l (hdl l + 2) = X2 at *
  generalize w16 l (hdl l + 4) = X4 at *
  generalize w32 l 12 = A at *
  generalize w32 l 16 = Z at *
  generalize l.getD 9 0 = x9 at *
  generalize hHN : ((hdl l : Nat) : Int) = H at *
  generalize hdl l = hd at *
  have K0 : Hid _ := C0
  have K2 : Hid _ := C2
  have K4 : Hid _ := C4
  have KE : Hid _ := CE
  have M1 : Hid _ := L1
  have M2 : Hid _ := L2
  clear C0 C2 C4 CE L1 L2 hHN
  go_enter Tryz.func113, Tryz.ntmps113
  go_wp2_with fail
  refine hcall.mono ?_
  rintro e w' ⟨rfl, rfl⟩
  have hrow := HR.out
  go_upto_region 2 with fail
  generalize n - hd = nh at *
  generalize c - hd = ch at *
  go_region_held3 (fun w' => Row w' (some ⟨b, off, none⟩) l) (repeat (first | assumption | refine row_drewN ?_ | refine row_drew ?_))
    (first
      | (go_at_call 93; with_reducible refine (K0.out _ _ _ (by assumption) HN.out.1).mono ?_; rintro e w5 ⟨rfl, q5, rfl⟩)
      | (go_at_call 93; with_reducible refine (K2.out _ _ _ (by assumption) HN.out.2.1).mono ?_; rintro e w6 ⟨rfl, q6, rfl⟩))
  all_goals
    go_upto_region 3 with fail
    refine wp_letter (fun W => Row W (some ⟨b, off, none⟩) l ∧ Mem w W []) ⟨by repeat (first | assumption | refine row_drewN ?_ | refine row_drew ?_), by repeat (first | exact Mem.nil _ | refine Mem.drewN ?_ _ | refine Mem.drew ?_)⟩ ?_
    intro w1 ⟨hrow1, hM1⟩
    have HM1 : Hid _ := hM1
    have hE := KE.out w1 hrow1
    clear hM1 hrow hcall
    go_wp2_with fail
    refine hE.mono ?_
    rintro e w' ⟨rfl, rfl⟩
    clear hE
    by_cases h9 : x9 = 1
    · rw [decide_eq_true h9]
      rw [if_pos h9] at HS HD
      clear h9
      go_wp2_with fail
      refine (K4.out _ _ _ hrow1 HN.out.2.2.1).mono ?_
      rintro e w2 ⟨rfl, q2, rfl⟩
      have HM2 : Hid _ := HM1.out.drewN q2
      have hrow2 := row_drewN (n := q2) hrow1
      generalize w1.drewN q2 = w2 at *
      clear hrow1 HM1
      go_wp2_with fail
      go_region_held3 (fun w' => Row w' (some ⟨b, off, none⟩) l) (repeat (first | assumption | refine row_drewN ?_ | refine row_drew ?_ | refine row_alloc ?_))
        (first
          | (go_at_call 121; with_reducible refine (M1.out _ _ _ (by assumption) HN.out.2.2.2.1 HN.out.2.2.2.2.1).mono ?_; rintro e w5 ⟨rfl, q5, rfl⟩)
          | (go_at_call 121; with_reducible refine (M2.out _ _ _ (by assumption) HN.out.2.2.2.2.2.1 HN.out.2.2.2.2.2.2).mono ?_; rintro e w6 ⟨rfl, q6, rfl⟩))
      all_goals
        go_wp2_with fail
        go_ret
        refine ⟨_, rfl, ?_⟩
        rw [HS.out, HD.out]
        repeat (first | refine Mem.drew ?_ | refine Mem.drewN ?_ _ | refine Mem.push1 ?_ rfl | exact HM2.out)
    · rw [decide_eq_false h9]
      rw [if_neg h9] at HS HD
      clear h9
      go_wp2_with fail
      go_region_held3 (fun w' => Row w' (some ⟨b, off, none⟩) l) (repeat (first | assumption | refine row_drewN ?_ | refine row_drew ?_ | refine row_alloc ?_))
        (first
          | (go_at_call 121; with_reducible refine (M1.out _ _ _ (by assumption) HN.out.2.2.2.1 HN.out.2.2.2.2.1).mono ?_; rintro e w5 ⟨rfl, q5, rfl⟩)
          | (go_at_call 121; with_reducible refine (M2.out _ _ _ (by assumption) HN.out.2.2.2.2.2.1 HN.out.2.2.2.2.2.2).mono ?_; rintro e w6 ⟨rfl, q6, rfl⟩))
      all_goals
        go_wp2_with fail
        go_ret
        refine ⟨_, rfl, ?_⟩
        rw [HS.out, HD.out]
        repeat (first | refine Mem.drew ?_ | refine Mem.drewN ?_ _ | refine Mem.push1 ?_ rfl | exact HM1.out)
end Go.Proofs.YtjalpbkfpjfigaaGreat

