/-
  What tcp.total, tcp.Sum, tcp.Right answer, and the document's own lychref1.TcpSum, lychref1.TcpRight.
-/
import Derived.Test.YtjalpbkfpjfigaaGreatTcpBytes
import Derived.Test.YtjalpbkfpjfigaaGreatTcpRefBytes
import Derived.Test.YtjalpbkfpjfigaaGreatRef
namespace Go.Proofs.YtjalpbkfpjfigaaGreat
open Go.RowKit
open Sm
set_option linter.unusedVariables false

/-- A segment in its box. -/
theorem tcv_box {w : World} {B : Nat} {v : Value} {q : Sg} (hv : TcV w B v q) (o : Obj) : TcV (w.alloc o) B v q := hv.below ((Below.refl _ _).alloc (Nat.le_refl _) _) (Nat.le_refl _)
/-- A segment's fields, with their lists. -/
abbrev tcB (q : Sg) (ao : Option Addr) (lo co : Nat) (bo : Option Addr) (lb cb : Nat) : Array Value := tcA q.src q.dst q.seq q.ack q.flags q.win q.sum q.urg (.slice ao lo co) (.slice bo lb cb)
theorem tcv_at {w : World} {B : Nat} {ao bo : Option Addr} {co cb : Nat} {q : Sg} (hv : TcV w B (.agg (tcB q ao q.opts.length co bo q.body.length cb)) q) (c : Int) : TcV w B (.agg (tcA q.src q.dst q.seq q.ack q.flags q.win c q.urg (.slice ao q.opts.length co) (.slice bo q.body.length cb))) (q.at c) := by
  obtain ⟨ao', co', bo', cb', e, h⟩ := hv
  simp only [tcB, tcA, Value.agg.injEq, Array.mk.injEq, List.cons.injEq, true_and, and_true, Value.slice.injEq] at e
  obtain ⟨⟨rfl, rfl⟩, rfl, rfl⟩ := e
  exact ⟨ao, co, bo, cb, rfl, h⟩

set_option maxHeartbeats 1000000 in
theorem ttotal_ok {w : World} {B : Nat} {v : Value} {q : Sg} (hq : q.Ok) (hv : TcV w B v q) (f : TFits q) (src dst : Int) (a0 : 0 ≤ src) (a1 : src ≤ 4294967295) (b0 : 0 ≤ dst) (b1 : dst ≤ 4294967295) :
    Calls Tryz.prog 85 #[.int .u32 src, .int .u32 dst, v] w fun r w' => r = .returned (.tuple #[.int .u16 (ttot src dst q), .int .i64 0]) ∧ Below w.heap.size w w' := by
  have hv' := hv
  obtain ⟨ao, co, bo, cb, rfl, -⟩ := hv'
  have e := (tfits_iff q).mpr f
  have hB := tbytes_any hq (tcv_box hv (.cells (tcB q ao q.opts.length co bo q.body.length cb) tcT))
  rw [e, show tcOut q = tcb q from if_pos e] at hB
  have hlen := tcb_len q
  have hby := tcb_bytes hq f
  have HT : Hid (ttot src dst q = foldv (acc (tcb q) (psv src dst 6 (tlen q : Nat)) (cnt (tlen q)))) := rfl
  have hps := tpsv_range src dst 6 (tlen q : Nat) a0 b0 (by omega)
  have hN1 : 20 ≤ tlen q ∧ tlen q ≤ 65515 := ⟨by unfold tlen; omega, f.n⟩
  generalize tcb q = l at *
  generalize tlen q = N at *
  rw [hlen] at hB
  have hpc := fun W => pseudo_any src dst 6 N W a0 a1 b0 b1 (by omega) (by omega)
  have har := acc_range hby (psv src dst 6 N) (by omega) (by omega) (cnt N)
  have hadd : ∀ W g cap B, OwnB W B g cap l → Calls Tryz.prog 91 #[.int .u32 (psv src dst 6 N), .slice (some ⟨g, 0, none⟩) N cap] W _ := fun W g cap B hob => by
    have := add_any (hob.row hby (by omega)) cap (psv src dst 6 N) (by omega) (by omega)
    rw [hlen] at this
    exact this
  have HL : Hid (l.length = N ∧ 0 < N) := ⟨hlen, by omega⟩
  have HA : Hid _ := hadd
  generalize ttot src dst q = T at *
  generalize hP : psv src dst 6 (N : Int) = P at *
  generalize hS : acc l P (cnt N) = S at *
  generalize q.body.length = m at *
  generalize q.opts.length = o at *
  obtain ⟨har0, har1⟩ := har
  have hNi : (N : Int) ≤ 65515 := by omega
  clear hv hq e hlen hby hps f hadd hN1
  go_enter Tryz.func85, Tryz.ntmps85
  go_wp2_with fail
  refine hB.mono ?_
  rintro e w1 ⟨x, rfl, hown, hbel⟩
  obtain ⟨g, cap, rfl, hg, hcap, hob⟩ := own_shape2 hown HL.out.1 HL.out.2
  have hadd := HA.out _ _ _ _ hob
  have HBl : Hid (Below w.heap.size w w1) := by
    have h1 := (Below.refl w.heap.size w).alloc (Nat.le_refl _) (.cells (tcB q ao o co bo m cb) tcT)
    exact h1.trans (hbel.mono h1.size)
  clear hB hown hob hbel HA
  go_wp2_with fail
  refine (hpc _).mono ?_
  rintro e w' ⟨rfl, rfl⟩
  go_wp2_with fail
  refine hadd.mono ?_
  rintro e w' ⟨rfl, rfl⟩
  go_wp2_with fail
  refine (fold_any S _ har0 har1).mono ?_
  rintro e w' ⟨rfl, rfl⟩
  go_wp2_with fail
  go_ret2
  exact ⟨by rw [HT.out] <;> rfl, HBl.out⟩

set_option maxHeartbeats 1000000 in
theorem ttotal_no {w : World} {B : Nat} {v : Value} {q : Sg} (hq : q.Ok) (hv : TcV w B v q) (E : Int) (hE : tcbErr q = E) (h0 : E ≠ 0) (src dst : Int) :
    Calls Tryz.prog 85 #[.int .u32 src, .int .u32 dst, v] w fun r w' => r = .returned (.tuple #[.int .u16 0, .int .i64 E]) ∧ Below w.heap.size w w' := by
  have hv' := hv
  obtain ⟨ao, co, bo, cb, rfl, -⟩ := hv'
  have hB := tbytes_any hq (tcv_box hv (.cells (tcB q ao q.opts.length co bo q.body.length cb) tcT))
  rw [hE] at hB
  have h0' : (E == 0) = false := by simp [h0]
  generalize q.body.length = m at *
  generalize q.opts.length = o at *
  clear hv hq hE
  go_enter Tryz.func85, Tryz.ntmps85
  go_wp2_with fail
  refine hB.mono ?_
  rintro e w1 ⟨x, rfl, -, hbel⟩
  have HBl : Hid (Below w.heap.size w w1) := by
    have h1 := (Below.refl w.heap.size w).alloc (Nat.le_refl _) (.cells (tcB q ao o co bo m cb) tcT)
    exact h1.trans (hbel.mono h1.size)
  clear hB hbel
  go_wp2_with fail
  go_ret2
  exact ⟨rfl, HBl.out⟩

set_option maxHeartbeats 1000000 in
/-- What tcp.Sum answers, whatever it is handed. -/
theorem tsum_any {w : World} {B : Nat} {v : Value} {q : Sg} (hq : q.Ok) (hv : TcV w B v q) (src dst : Int) (a0 : 0 ≤ src) (a1 : src ≤ 4294967295) (b0 : 0 ≤ dst) (b1 : dst ≤ 4294967295) :
    Calls Tryz.prog 60 #[.int .u32 src, .int .u32 dst, v] w fun r w' => r = .returned (.int .u16 (tsum src dst q)) ∧ Below w.heap.size w w' := by
  have hv' := hv
  obtain ⟨ao, co, bo, cb, rfl, -⟩ := hv'
  have hz := hq.at (c := 0) (by omega) (by omega)
  have hv0 := tcv_box (tcv_at hv 0) (.cells (tcA q.src q.dst q.seq q.ack q.flags q.win 0 q.urg (.slice ao q.opts.length co) (.slice bo q.body.length cb)) tcT)
  have HBl : Hid (Below w.heap.size w (w.alloc (.cells (tcA q.src q.dst q.seq q.ack q.flags q.win 0 q.urg (.slice ao q.opts.length co) (.slice bo q.body.length cb)) tcT))) := (Below.refl w.heap.size w).alloc (Nat.le_refl _) _
  by_cases e : tcbErr q = 0
  · have f := (tfits_iff q).mp e
    have hT := ttotal_ok hz hv0 (f.at 0) src dst a0 a1 b0 b1
    have HU : Hid (tsum src dst q = 65535 - ttot src dst (q.at 0)) := by
      show _ = _
      unfold tsum; rw [if_neg (by omega)]
    have hr := ttot_range src dst (q.at 0)
    have hx := sm_not16 _ hr.1 hr.2
    have hsg : IntKind.u16.signed = false := rfl
    generalize ttot src dst (q.at 0) = T at *
    generalize tsum src dst q = R at *
    generalize q.body.length = m at *
    generalize q.opts.length = o at *
    clear hv hq hz hv0 e f
    go_enter Tryz.func60, Tryz.ntmps60
    go_wp2_with fail
    refine hT.mono ?_
    rintro e w1 ⟨rfl, hbel⟩
    have HB1 : Hid _ := HBl.out.trans (hbel.mono HBl.out.size)
    clear hT hbel HBl
    go_wp2_with fail
    go_ret
    exact ⟨by rw [HU.out] <;> rfl, HB1.out⟩
  · have hT := ttotal_no hz hv0 (tcbErr q) (tcErr_at q 0) e src dst
    have HU : Hid (tsum src dst q = 0) := by
      show _ = _
      unfold tsum; rw [if_pos e]
    generalize tcbErr q = E at *
    have h0' : (E == 0) = false := by simp [e]
    generalize tsum src dst q = R at *
    generalize q.body.length = m at *
    generalize q.opts.length = o at *
    clear hv hq hz hv0
    go_enter Tryz.func60, Tryz.ntmps60
    go_wp2_with fail
    refine hT.mono ?_
    rintro e w1 ⟨rfl, hbel⟩
    have HB1 : Hid _ := HBl.out.trans (hbel.mono HBl.out.size)
    clear hT hbel HBl
    go_wp2_with fail
    go_ret
    exact ⟨by rw [HU.out] <;> rfl, HB1.out⟩

set_option maxHeartbeats 1000000 in
/-- What tcp.Right answers, whatever it is handed. -/
theorem tright_any {w : World} {B : Nat} {v : Value} {q : Sg} (hq : q.Ok) (hv : TcV w B v q) (src dst : Int) (a0 : 0 ≤ src) (a1 : src ≤ 4294967295) (b0 : 0 ≤ dst) (b1 : dst ≤ 4294967295) :
    Calls Tryz.prog 80 #[.int .u32 src, .int .u32 dst, v] w fun r w' => r = .returned (.bool (tright src dst q)) ∧ Below w.heap.size w w' := by
  have hv' := hv
  obtain ⟨ao, co, bo, cb, rfl, -⟩ := hv'
  have hv0 := tcv_box hv (.cells (tcB q ao q.opts.length co bo q.body.length cb) tcT)
  have HBl : Hid (Below w.heap.size w (w.alloc (.cells (tcB q ao q.opts.length co bo q.body.length cb) tcT))) := (Below.refl w.heap.size w).alloc (Nat.le_refl _) _
  by_cases e : tcbErr q = 0
  · have f := (tfits_iff q).mp e
    have hT := ttotal_ok hq hv0 f src dst a0 a1 b0 b1
    have HU : Hid (tright src dst q = decide (ttot src dst q = 65535)) := by
      show _ = _
      unfold tright; simp [e]
    generalize ttot src dst q = T at *
    generalize tright src dst q = R at *
    generalize q.body.length = m at *
    generalize q.opts.length = o at *
    clear hv hq hv0 e f
    go_enter Tryz.func80, Tryz.ntmps80
    go_wp2_with fail
    refine hT.mono ?_
    rintro e w1 ⟨rfl, hbel⟩
    have HB1 : Hid _ := HBl.out.trans (hbel.mono HBl.out.size)
    clear hT hbel HBl
    go_wp2_with fail
    go_ret
    exact ⟨by rw [HU.out]; rfl, HB1.out⟩
  · have hT := ttotal_no hq hv0 (tcbErr q) rfl e src dst
    have HU : Hid (tright src dst q = false) := by
      show _ = _
      unfold tright; simp [e]
    generalize tcbErr q = E at *
    have h0' : (E == 0) = false := by simp [e]
    generalize tright src dst q = R at *
    generalize q.body.length = m at *
    generalize q.opts.length = o at *
    clear hv hq hv0
    go_enter Tryz.func80, Tryz.ntmps80
    go_wp2_with fail
    refine hT.mono ?_
    rintro e w1 ⟨rfl, hbel⟩
    have HB1 : Hid _ := HBl.out.trans (hbel.mono HBl.out.size)
    clear hT hbel HBl
    go_wp2_with fail
    go_ret
    exact ⟨by rw [HU.out] <;> rfl, HB1.out⟩

set_option maxHeartbeats 1000000 in
/-- What lychref1.TcpSum answers, whatever it is handed. -/
theorem rtsum_any {w : World} {B : Nat} {v : Value} {q : Sg} (hq : q.Ok) (hv : TcV w B v q) (src dst : Int) (a0 : 0 ≤ src) (a1 : src ≤ 4294967295) (b0 : 0 ≤ dst) (b1 : dst ≤ 4294967295) :
    Calls Tryz.prog 35 #[.int .u32 src, .int .u32 dst, v] w fun r w' => r = .returned (.int .u16 (tsum src dst q)) ∧ Below w.heap.size w w' := by
  have hv' := hv
  obtain ⟨ao, co, bo, cb, rfl, -⟩ := hv'
  have hz := hq.at (c := 0) (by omega) (by omega)
  have hv0 := tcv_box (tcv_at hv 0) (.cells (tcA q.src q.dst q.seq q.ack q.flags q.win 0 q.urg (.slice ao q.opts.length co) (.slice bo q.body.length cb)) tcT)
  have HBl : Hid (Below w.heap.size w (w.alloc (.cells (tcA q.src q.dst q.seq q.ack q.flags q.win 0 q.urg (.slice ao q.opts.length co) (.slice bo q.body.length cb)) tcT))) := (Below.refl w.heap.size w).alloc (Nat.le_refl _) _
  have hB := rtbytes_any hz hv0
  rw [tcErr_at] at hB
  by_cases e : tcbErr q = 0
  · have f := (tfits_iff q).mp e
    rw [e, show tcOut (q.at 0) = tcb (q.at 0) from if_pos e] at hB
    have hlen : (tcb (q.at 0)).length = tlen q := tcb_len (q.at 0)
    have hby := tcb_bytes hz (f.at 0)
    have HU : Hid (tsum src dst q = 65535 - ttot src dst (q.at 0)) := by
      show _ = _
      unfold tsum; rw [if_neg (by omega)]
    have HT : Hid (ttot src dst (q.at 0) = foldv (acc (tcb (q.at 0)) (psv src dst 6 (tlen q : Nat)) (cnt (tlen q)))) := rfl
    have hps := tpsv_range src dst 6 (tlen q : Nat) a0 b0 (by omega)
    have hN1 : 20 ≤ tlen q ∧ tlen q ≤ 65515 := ⟨by unfold tlen; omega, f.n⟩
    generalize tcb (q.at 0) = l at *
    generalize tlen q = N at *
    rw [hlen] at hB
    have hpc := fun W => rpseudo_any src dst 6 N W a0 a1 b0 b1 (by omega) (by omega)
    have har := acc_range hby (psv src dst 6 N) (by omega) (by omega) (cnt N)
    have hadd : ∀ W g cap B, OwnB W B g cap l → Calls Tryz.prog 68 #[.int .u32 (psv src dst 6 N), .slice (some ⟨g, 0, none⟩) N cap] W _ := fun W g cap B hob => by
      have := radd_any (hob.row hby (by omega)) (by omega) cap (psv src dst 6 N) (by omega) (by omega)
      rw [hlen] at this
      exact this
    have HL : Hid (l.length = N ∧ 0 < N) := ⟨hlen, by omega⟩
    have HA : Hid _ := hadd
    have hr := ttot_range src dst (q.at 0)
    have hx := sm_not16 _ hr.1 hr.2
    have hsg : IntKind.u16.signed = false := rfl
    generalize tsum src dst q = R at *
    generalize ttot src dst (q.at 0) = T at *
    generalize hP : psv src dst 6 (N : Int) = P at *
    generalize hS : acc l P (cnt N) = S at *
    generalize q.body.length = m at *
    generalize q.opts.length = o at *
    obtain ⟨har0, har1⟩ := har
    obtain ⟨hr0, hr1⟩ := hr
    have hNi : (N : Int) ≤ 65515 := by omega
    clear hv hq hz hv0 e hlen hby hps f hadd hN1
    go_enter Tryz.func35, Tryz.ntmps35
    go_wp2_with fail
    refine hB.mono ?_
    rintro e w1 ⟨x, rfl, hown, hbel⟩
    obtain ⟨g, cap, rfl, hg, hcap, hob⟩ := own_shape2 hown HL.out.1 HL.out.2
    have hadd := HA.out _ _ _ _ hob
    have HB1 : Hid (Below w.heap.size w w1) := HBl.out.trans (hbel.mono HBl.out.size)
    clear hB hown hob hbel HA HBl hg hcap
    go_wp2_with fail
    refine (hpc _).mono ?_
    rintro e w' ⟨rfl, rfl⟩
    go_wp2_with fail
    refine hadd.mono ?_
    rintro e w2 ⟨rfl, hbel2⟩
    have HB2 : Hid (Below w.heap.size w w2) := HB1.out.trans (hbel2.mono HB1.out.size)
    clear hadd hbel2 HB1
    go_wp2_with fail
    refine (rfold_any S _ har0 har1).mono ?_
    rintro e w' ⟨rfl, rfl⟩
    rw [← HT.out]
    go_wp2_with fail
    go_ret
    exact ⟨by rw [HU.out] <;> rfl, HB2.out⟩
  · have HU : Hid (tsum src dst q = 0) := by
      show _ = _
      unfold tsum; rw [if_pos e]
    generalize tcbErr q = E at *
    have h0' : (E == 0) = false := by simp [e]
    generalize tsum src dst q = R at *
    generalize q.body.length = m at *
    generalize q.opts.length = o at *
    clear hv hq hz hv0
    go_enter Tryz.func35, Tryz.ntmps35
    go_wp2_with fail
    refine hB.mono ?_
    rintro e w1 ⟨x, rfl, -, hbel⟩
    have HB1 : Hid _ := HBl.out.trans (hbel.mono HBl.out.size)
    clear hB hbel HBl
    go_wp2_with fail
    go_ret
    exact ⟨by rw [HU.out] <;> rfl, HB1.out⟩

set_option maxHeartbeats 1000000 in
/-- What lychref1.TcpRight answers, whatever it is handed. -/
theorem rtright_any {w : World} {B : Nat} {v : Value} {q : Sg} (hq : q.Ok) (hv : TcV w B v q) (src dst : Int) (a0 : 0 ≤ src) (a1 : src ≤ 4294967295) (b0 : 0 ≤ dst) (b1 : dst ≤ 4294967295) :
    Calls Tryz.prog 46 #[.int .u32 src, .int .u32 dst, v] w fun r w' => r = .returned (.bool (tright src dst q)) ∧ Below w.heap.size w w' := by
  have hv' := hv
  obtain ⟨ao, co, bo, cb, rfl, -⟩ := hv'
  have hv0 := tcv_box hv (.cells (tcB q ao q.opts.length co bo q.body.length cb) tcT)
  have HBl : Hid (Below w.heap.size w (w.alloc (.cells (tcB q ao q.opts.length co bo q.body.length cb) tcT))) := (Below.refl w.heap.size w).alloc (Nat.le_refl _) _
  have hB := rtbytes_any hq hv0
  by_cases e : tcbErr q = 0
  · have f := (tfits_iff q).mp e
    rw [e, show tcOut q = tcb q from if_pos e] at hB
    have hlen := tcb_len q
    have hby := tcb_bytes hq f
    have HU : Hid (tright src dst q = decide (ttot src dst q = 65535)) := by
      show _ = _
      unfold tright; simp [e]
    have HT : Hid (ttot src dst q = foldv (acc (tcb q) (psv src dst 6 (tlen q : Nat)) (cnt (tlen q)))) := rfl
    have hps := tpsv_range src dst 6 (tlen q : Nat) a0 b0 (by omega)
    have hN1 : 20 ≤ tlen q ∧ tlen q ≤ 65515 := ⟨by unfold tlen; omega, f.n⟩
    generalize tcb q = l at *
    generalize tlen q = N at *
    rw [hlen] at hB
    have hpc := fun W => rpseudo_any src dst 6 N W a0 a1 b0 b1 (by omega) (by omega)
    have har := acc_range hby (psv src dst 6 N) (by omega) (by omega) (cnt N)
    have hadd : ∀ W g cap B, OwnB W B g cap l → Calls Tryz.prog 68 #[.int .u32 (psv src dst 6 N), .slice (some ⟨g, 0, none⟩) N cap] W _ := fun W g cap B hob => by
      have := radd_any (hob.row hby (by omega)) (by omega) cap (psv src dst 6 N) (by omega) (by omega)
      rw [hlen] at this
      exact this
    have HL : Hid (l.length = N ∧ 0 < N) := ⟨hlen, by omega⟩
    have HA : Hid _ := hadd
    generalize tright src dst q = R at *
    generalize ttot src dst q = T at *
    generalize hP : psv src dst 6 (N : Int) = P at *
    generalize hS : acc l P (cnt N) = S at *
    generalize q.body.length = m at *
    generalize q.opts.length = o at *
    obtain ⟨har0, har1⟩ := har
    have hNi : (N : Int) ≤ 65515 := by omega
    clear hv hq hv0 e hlen hby hps f hadd hN1
    go_enter Tryz.func46, Tryz.ntmps46
    go_wp2_with fail
    refine hB.mono ?_
    rintro e w1 ⟨x, rfl, hown, hbel⟩
    obtain ⟨g, cap, rfl, hg, hcap, hob⟩ := own_shape2 hown HL.out.1 HL.out.2
    have hadd := HA.out _ _ _ _ hob
    have HB1 : Hid (Below w.heap.size w w1) := HBl.out.trans (hbel.mono HBl.out.size)
    clear hB hown hob hbel HA HBl hg hcap
    go_wp2_with fail
    refine (hpc _).mono ?_
    rintro e w' ⟨rfl, rfl⟩
    go_wp2_with fail
    refine hadd.mono ?_
    rintro e w2 ⟨rfl, hbel2⟩
    have HB2 : Hid (Below w.heap.size w w2) := HB1.out.trans (hbel2.mono HB1.out.size)
    clear hadd hbel2 HB1
    go_wp2_with fail
    refine (rfold_any S _ har0 har1).mono ?_
    rintro e w' ⟨rfl, rfl⟩
    rw [← HT.out]
    go_wp2_with fail
    go_ret
    exact ⟨by rw [HU.out]; rfl, HB2.out⟩
  · have HU : Hid (tright src dst q = false) := by
      show _ = _
      unfold tright; simp [e]
    generalize tcbErr q = E at *
    have h0' : (E == 0) = false := by simp [e]
    generalize tright src dst q = R at *
    generalize q.body.length = m at *
    generalize q.opts.length = o at *
    clear hv hq hv0
    go_enter Tryz.func46, Tryz.ntmps46
    go_wp2_with fail
    refine hB.mono ?_
    rintro e w1 ⟨x, rfl, -, hbel⟩
    have HB1 : Hid _ := HBl.out.trans (hbel.mono HBl.out.size)
    clear hB hbel HBl
    go_wp2_with fail
    go_ret
    exact ⟨by rw [HU.out] <;> rfl, HB1.out⟩
end Go.Proofs.YtjalpbkfpjfigaaGreat
