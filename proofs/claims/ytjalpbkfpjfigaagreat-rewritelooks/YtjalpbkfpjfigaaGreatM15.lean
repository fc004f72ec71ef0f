/-
  What udp.total, udp.Sum, udp.Right answer, and the document's own lychref1.UdpSum, lychref1.UdpRight.
  What package ip's read answers: the packet, or a failure.
-/
import Derived.Test.YtjalpbkfpjfigaaGreatM14
import Derived.Test.YtjalpbkfpjfigaaGreatM11
import Derived.Test.YtjalpbkfpjfigaaGreatM06
namespace Go.Proofs.YtjalpbkfpjfigaaGreat
open Go.RowKit
open Sm
set_option linter.unusedVariables false

/-- A datagram in its box. -/
theorem udv_box {w : World} {B : Nat} {v : Value} {u : Dg} (hv : UdV w B v u) (o : Obj) : UdV (w.alloc o) B v u := hv.below ((Below.refl _ _).alloc (Nat.le_refl _) _) (Nat.le_refl _)
theorem udv_at {w : World} {B : Nat} {bo : Option Addr} {cb : Nat} {u : Dg} (hv : UdV w B (.agg (udA u.src u.dst u.sum (.slice bo u.body.length cb))) u) (c : Int) : UdV w B (.agg (udA u.src u.dst c (.slice bo u.body.length cb))) (u.at c) := by
  obtain ⟨bo', cb', e, h⟩ := hv
  simp only [udA, Value.agg.injEq, Array.mk.injEq, List.cons.injEq, true_and, and_true, Value.slice.injEq] at e
  obtain ⟨rfl, rfl⟩ := e
  exact ⟨bo, cb, rfl, h⟩

set_option maxHeartbeats 1000000 in
theorem utotal_ok {w : World} {B : Nat} {v : Value} {u : Dg} (hu : u.Ok) (hv : UdV w B v u) (h0 : u.body.length ≤ 65527) (src dst : Int) (a0 : 0 ≤ src) (a1 : src ≤ 4294967295) (b0 : 0 ≤ dst) (b1 : dst ≤ 4294967295) :
    Calls Tryz.prog 83 #[.int .u32 src, .int .u32 dst, v] w fun r w' => r = .returned (.tuple #[.int .u16 (utot src dst u), .int .i64 0]) ∧ Below w.heap.size w w' := by
  have hv' := hv
  obtain ⟨bo, cb, rfl, -⟩ := hv'
  have e := (udbErr_zero u).mpr h0
  have hB := ubytes_any hu (udv_box hv (.cells (udA u.src u.dst u.sum (.slice bo u.body.length cb)) udT))
  rw [e, show udOut u = udb u from if_pos e] at hB
  have hlen := udb_len u
  have hby := udb_bytes hu h0
  have HT : Hid (utot src dst u = foldv (acc (udb u) (psv src dst 17 (8 + u.body.length : Nat)) (cnt (8 + u.body.length)))) := rfl
  have hps := psv_range src dst 17 (8 + u.body.length : Nat) a0 b0 (by omega)
  generalize udb u = l at *
  obtain ⟨N, hN⟩ : ∃ N, N = 8 + u.body.length := ⟨_, rfl⟩
  rw [← hN] at hlen HT hps
  rw [hlen] at hB
  have hpc := fun W => pseudo_any src dst 17 N W a0 a1 b0 b1 (by omega) (by omega)
  have har := acc_range hby (psv src dst 17 N) (by omega) (by omega) (cnt N)
  have hadd : ∀ W g cap B, OwnB W B g cap l → Calls Tryz.prog 91 #[.int .u32 (psv src dst 17 N), .slice (some ⟨g, 0, none⟩) N cap] W _ := fun W g cap B hob => by
    have := add_any (hob.row hby (by omega)) cap (psv src dst 17 N) (by omega) (by omega)
    rw [hlen] at this
    exact this
  have HL : Hid (l.length = N ∧ 0 < N) := ⟨hlen, by omega⟩
  have HA : Hid _ := hadd
  generalize utot src dst u = T at *
  generalize hP : psv src dst 17 (N : Int) = P at *
  generalize hS : acc l P (cnt N) = S at *
  generalize u.body.length = m at *
  obtain ⟨har0, har1⟩ := har
  clear hv hu e hlen hby hN hps h0 hadd
  go_enter Tryz.func83, Tryz.ntmps83
  go_wp2_with fail
  refine hB.mono ?_
  rintro e w1 ⟨x, rfl, hown, hbel⟩
  obtain ⟨g, cap, rfl, hg, hcap, hob⟩ := own_shape2 hown HL.out.1 HL.out.2
  have hadd := HA.out _ _ _ _ hob
  have HBl : Hid (Below w.heap.size w w1) := by
    have h1 := (Below.refl w.heap.size w).alloc (Nat.le_refl _) (.cells (udA u.src u.dst u.sum (.slice bo m cb)) udT)
    exact h1.trans (hbel.mono h1.size)
  clear hB hown hob hbel HA
  go_wp2_with fail
  refine (hpc _).mono ?_
  rintro e w' ⟨rfl, rfl⟩
  go_wp2_with fail
  refine hadd.mono ?_
  rintro e w' ⟨rfl, rfl⟩
  go_wp2_with fail
  refine (fold_any S _ har0 har1).mono ?_
  rintro e w' ⟨rfl, rfl⟩
  go_wp2_with fail
  go_ret2
  exact ⟨by rw [HT.out] <;> rfl, HBl.out⟩

set_option maxHeartbeats 1000000 in
theorem utotal_big {w : World} {B : Nat} {v : Value} {u : Dg} (hu : u.Ok) (hv : UdV w B v u) (h0 : 65527 < u.body.length) (src dst : Int) :
    Calls Tryz.prog 83 #[.int .u32 src, .int .u32 dst, v] w fun r w' => r = .returned (.tuple #[.int .u16 0, .int .i64 23]) ∧ Below w.heap.size w w' := by
  have hv' := hv
  obtain ⟨bo, cb, rfl, -⟩ := hv'
  have hB := ubytes_big (w.alloc (.cells (udA u.src u.dst u.sum (.slice bo u.body.length cb)) udT)) bo _ cb h0 u.src u.dst u.sum
  generalize u.body.length = m at *
  clear hv hu
  go_enter Tryz.func83, Tryz.ntmps83
  go_wp2_with fail
  refine hB.mono ?_
  rintro e w1 ⟨rfl, hbel⟩
  have HBl : Hid (Below w.heap.size w w1) := by
    have h1 := (Below.refl w.heap.size w).alloc (Nat.le_refl _) (.cells (udA u.src u.dst u.sum (.slice bo m cb)) udT)
    exact h1.trans (hbel.mono h1.size)
  clear hB hbel
  go_wp2_with fail
  go_ret2
  exact ⟨rfl, HBl.out⟩

set_option maxHeartbeats 1000000 in
/-- What udp.Sum answers, whatever it is handed. -/
theorem usum_any {w : World} {B : Nat} {v : Value} {u : Dg} (hu : u.Ok) (hv : UdV w B v u) (src dst : Int) (a0 : 0 ≤ src) (a1 : src ≤ 4294967295) (b0 : 0 ≤ dst) (b1 : dst ≤ 4294967295) :
    Calls Tryz.prog 58 #[.int .u32 src, .int .u32 dst, v] w fun r w' => r = .returned (.int .u16 (usum src dst u)) ∧ Below w.heap.size w w' := by
  have hv' := hv
  obtain ⟨bo, cb, rfl, -⟩ := hv'
  have hz := hu.at (c := 0) (by omega) (by omega)
  have hv0 := udv_box (udv_at hv 0) (.cells (udA u.src u.dst 0 (.slice bo u.body.length cb)) udT)
  have HBl : Hid (Below w.heap.size w (w.alloc (.cells (udA u.src u.dst 0 (.slice bo u.body.length cb)) udT))) := (Below.refl w.heap.size w).alloc (Nat.le_refl _) _
  by_cases h0 : u.body.length ≤ 65527
  · have e := (udbErr_zero u).mpr h0
    have hT := utotal_ok hz hv0 h0 src dst a0 a1 b0 b1
    have HU : Hid (usum src dst u = if utot src dst (u.at 0) = 65535 then 65535 else 65535 - utot src dst (u.at 0)) := by
      show _ = _
      unfold usum; rw [if_neg (by omega)]
    have hr := utot_range src dst (u.at 0)
    have hx := sm_not16 _ hr.1 hr.2
    have hsg : IntKind.u16.signed = false := rfl
    generalize utot src dst (u.at 0) = T at *
    generalize usum src dst u = R at *
    generalize u.body.length = m at *
    clear hv hu hz hv0 e h0
    by_cases hc : T = 65535
    · subst hc
      go_enter Tryz.func58, Tryz.ntmps58
      go_wp2_with fail
      refine hT.mono ?_
      rintro e w1 ⟨rfl, hbel⟩
      have HB1 : Hid _ := HBl.out.trans (hbel.mono HBl.out.size)
      clear hT hbel HBl
      go_wp2_with fail
      go_ret
      exact ⟨by rw [HU.out] <;> rfl, HB1.out⟩
    · have hc' : (T == 65535) = false := by simp [hc]
      go_enter Tryz.func58, Tryz.ntmps58
      go_wp2_with fail
      refine hT.mono ?_
      rintro e w1 ⟨rfl, hbel⟩
      have HB1 : Hid _ := HBl.out.trans (hbel.mono HBl.out.size)
      clear hT hbel HBl
      go_wp2_with fail
      go_ret
      exact ⟨by rw [HU.out, if_neg hc] <;> rfl, HB1.out⟩
  · have e : ¬ udbErr u = 0 := fun h => h0 ((udbErr_zero u).mp h)
    have hT := utotal_big hz hv0 (show 65527 < (u.at 0).body.length from by simp only [Dg.at]; omega) src dst
    have HU : Hid (usum src dst u = 0) := by
      show _ = _
      unfold usum; rw [if_pos e]
    generalize usum src dst u = R at *
    generalize u.body.length = m at *
    clear hv hu hz hv0 e h0
    go_enter Tryz.func58, Tryz.ntmps58
    go_wp2_with fail
    refine hT.mono ?_
    rintro e w1 ⟨rfl, hbel⟩
    have HB1 : Hid _ := HBl.out.trans (hbel.mono HBl.out.size)
    clear hT hbel HBl
    go_wp2_with fail
    go_ret
    exact ⟨by rw [HU.out] <;> rfl, HB1.out⟩

set_option maxHeartbeats 1000000 in
/-- What udp.Right answers, whatever it is handed. -/
theorem uright_any {w : World} {B : Nat} {v : Value} {u : Dg} (hu : u.Ok) (hv : UdV w B v u) (src dst : Int) (a0 : 0 ≤ src) (a1 : src ≤ 4294967295) (b0 : 0 ≤ dst) (b1 : dst ≤ 4294967295) :
    Calls Tryz.prog 79 #[.int .u32 src, .int .u32 dst, v] w fun r w' => r = .returned (.bool (uright src dst u)) ∧ Below w.heap.size w w' := by
  have hv' := hv
  obtain ⟨bo, cb, rfl, -⟩ := hv'
  have hv0 := udv_box hv (.cells (udA u.src u.dst u.sum (.slice bo u.body.length cb)) udT)
  have HBl : Hid (Below w.heap.size w (w.alloc (.cells (udA u.src u.dst u.sum (.slice bo u.body.length cb)) udT))) := (Below.refl w.heap.size w).alloc (Nat.le_refl _) _
  by_cases hs : u.sum = 0
  · have HU : Hid (uright src dst u = true) := by show _ = _; unfold uright; simp [hs]
    generalize uright src dst u = R at *
    generalize u.body.length = m at *
    rw [hs] at HBl ⊢
    clear hv hu hv0
    go_enter Tryz.func79, Tryz.ntmps79
    go_wp2_with fail
    go_ret
    exact ⟨by rw [HU.out] <;> rfl, HBl.out⟩
  have hs' : (u.sum == 0) = false := by simp [hs]
  by_cases h0 : u.body.length ≤ 65527
  · have e := (udbErr_zero u).mpr h0
    have hT := utotal_ok hu hv0 h0 src dst a0 a1 b0 b1
    have HU : Hid (uright src dst u = decide (utot src dst u = 65535)) := by
      show _ = _
      unfold uright; simp [hs, e]
    generalize utot src dst u = T at *
    generalize uright src dst u = R at *
    generalize u.body.length = m at *
    clear hv hu hv0 e h0
    go_enter Tryz.func79, Tryz.ntmps79
    go_wp2_with fail
    refine hT.mono ?_
    rintro e w1 ⟨rfl, hbel⟩
    have HB1 : Hid _ := HBl.out.trans (hbel.mono HBl.out.size)
    clear hT hbel HBl
    go_wp2_with fail
    go_ret
    exact ⟨by rw [HU.out]; rfl, HB1.out⟩
  · have e : ¬ udbErr u = 0 := fun h => h0 ((udbErr_zero u).mp h)
    have hT := utotal_big hu hv0 (by omega) src dst
    have HU : Hid (uright src dst u = false) := by
      show _ = _
      unfold uright; simp [hs, e]
    generalize uright src dst u = R at *
    generalize u.body.length = m at *
    clear hv hu hv0 e h0
    go_enter Tryz.func79, Tryz.ntmps79
    go_wp2_with fail
    refine hT.mono ?_
    rintro e w1 ⟨rfl, hbel⟩
    have HB1 : Hid _ := HBl.out.trans (hbel.mono HBl.out.size)
    clear hT hbel HBl
    go_wp2_with fail
    go_ret
    exact ⟨by rw [HU.out] <;> rfl, HB1.out⟩

set_option maxHeartbeats 1000000 in
/-- What lychref1.UdpSum answers, whatever it is handed. -/
theorem rusum_any {w : World} {B : Nat} {v : Value} {u : Dg} (hu : u.Ok) (hv : UdV w B v u) (src dst : Int) (a0 : 0 ≤ src) (a1 : src ≤ 4294967295) (b0 : 0 ≤ dst) (b1 : dst ≤ 4294967295) :
    Calls Tryz.prog 32 #[.int .u32 src, .int .u32 dst, v] w fun r w' => r = .returned (.int .u16 (usum src dst u)) ∧ Below w.heap.size w w' := by
  have hv' := hv
  obtain ⟨bo, cb, rfl, -⟩ := hv'
  have hz := hu.at (c := 0) (by omega) (by omega)
  have hv0 := udv_box (udv_at hv 0) (.cells (udA u.src u.dst 0 (.slice bo u.body.length cb)) udT)
  have HBl : Hid (Below w.heap.size w (w.alloc (.cells (udA u.src u.dst 0 (.slice bo u.body.length cb)) udT))) := (Below.refl w.heap.size w).alloc (Nat.le_refl _) _
  by_cases h0 : u.body.length ≤ 65527
  · have e := (udbErr_zero u).mpr h0
    have hB := rubytes_any hz hv0
    rw [udErr_at, e, show udOut (u.at 0) = udb (u.at 0) from if_pos e] at hB
    have hlen : (udb (u.at 0)).length = 8 + u.body.length := udb_len (u.at 0)
    have hby := udb_bytes hz h0
    have HU : Hid (usum src dst u = if utot src dst (u.at 0) = 65535 then 65535 else 65535 - utot src dst (u.at 0)) := by
      show _ = _
      unfold usum; rw [if_neg (by omega)]
    have HT : Hid (utot src dst (u.at 0) = foldv (acc (udb (u.at 0)) (psv src dst 17 (8 + u.body.length : Nat)) (cnt (8 + u.body.length)))) := rfl
    have hps := psv_range src dst 17 (8 + u.body.length : Nat) a0 b0 (by omega)
    generalize udb (u.at 0) = l at *
    obtain ⟨N, hN⟩ : ∃ N, N = 8 + u.body.length := ⟨_, rfl⟩
    rw [← hN] at hlen HT hps
    rw [hlen] at hB
    have hpc := fun W => rpseudo_any src dst 17 N W a0 a1 b0 b1 (by omega) (by omega)
    have har := acc_range hby (psv src dst 17 N) (by omega) (by omega) (cnt N)
    have hadd : ∀ W g cap B, OwnB W B g cap l → Calls Tryz.prog 68 #[.int .u32 (psv src dst 17 N), .slice (some ⟨g, 0, none⟩) N cap] W _ := fun W g cap B hob => by
      have := radd_any (hob.row hby (by omega)) (by omega) cap (psv src dst 17 N) (by omega) (by omega)
      rw [hlen] at this
      exact this
    have HL : Hid (l.length = N ∧ 0 < N) := ⟨hlen, by omega⟩
    have HA : Hid _ := hadd
    have hr := utot_range src dst (u.at 0)
    have hx := sm_not16 _ hr.1 hr.2
    have hsg : IntKind.u16.signed = false := rfl
    generalize usum src dst u = R at *
    generalize utot src dst (u.at 0) = T at *
    generalize hP : psv src dst 17 (N : Int) = P at *
    generalize hS : acc l P (cnt N) = S at *
    generalize u.body.length = m at *
    obtain ⟨har0, har1⟩ := har
    obtain ⟨hr0, hr1⟩ := hr
    clear hv hu hz hv0 e hlen hby hN hps h0 hadd
    go_enter Tryz.func32, Tryz.ntmps32
    go_wp2_with fail
    refine hB.mono ?_
    rintro e w1 ⟨x, rfl, hown, hbel⟩
    obtain ⟨g, cap, rfl, hg, hcap, hob⟩ := own_shape2 hown HL.out.1 HL.out.2
    have hadd := HA.out _ _ _ _ hob
    have HB1 : Hid (Below w.heap.size w w1) := HBl.out.trans (hbel.mono HBl.out.size)
    clear hB hown hob hbel HA HBl hg hcap
    go_wp2_with fail
    refine (hpc _).mono ?_
    rintro e w' ⟨rfl, rfl⟩
    go_wp2_with fail
    refine hadd.mono ?_
    rintro e w2 ⟨rfl, hbel2⟩
    have HB2 : Hid (Below w.heap.size w w2) := HB1.out.trans (hbel2.mono HB1.out.size)
    clear hadd hbel2 HB1
    go_wp2_with fail
    refine (rfold_any S _ har0 har1).mono ?_
    rintro e w' ⟨rfl, rfl⟩
    rw [← HT.out]
    by_cases hc : T = 65535
    · subst hc
      go_wp2_with fail
      go_ret
      exact ⟨by rw [HU.out] <;> rfl, HB2.out⟩
    · have hc' : (65535 - T == 0) = false := by simp; omega
      go_wp2_with fail
      go_ret
      exact ⟨by rw [HU.out, if_neg hc] <;> rfl, HB2.out⟩
  · have e : ¬ udbErr u = 0 := fun h => h0 ((udbErr_zero u).mp h)
    have hB := rubytes_big (w.alloc (.cells (udA u.src u.dst 0 (.slice bo u.body.length cb)) udT)) bo u.body.length cb (by omega) u.src u.dst 0
    have HU : Hid (usum src dst u = 0) := by
      show _ = _
      unfold usum; rw [if_pos e]
    generalize usum src dst u = R at *
    generalize u.body.length = m at *
    clear hv hu hz hv0 e h0
    go_enter Tryz.func32, Tryz.ntmps32
    go_wp2_with fail
    refine hB.mono ?_
    rintro e w1 ⟨rfl, hbel⟩
    have HB1 : Hid _ := HBl.out.trans (hbel.mono HBl.out.size)
    clear hB hbel HBl
    go_wp2_with fail
    go_ret
    exact ⟨by rw [HU.out] <;> rfl, HB1.out⟩

set_option maxHeartbeats 1000000 in
/-- What lychref1.UdpRight answers, whatever it is handed. -/
theorem ruright_any {w : World} {B : Nat} {v : Value} {u : Dg} (hu : u.Ok) (hv : UdV w B v u) (src dst : Int) (a0 : 0 ≤ src) (a1 : src ≤ 4294967295) (b0 : 0 ≤ dst) (b1 : dst ≤ 4294967295) :
    Calls Tryz.prog 45 #[.int .u32 src, .int .u32 dst, v] w fun r w' => r = .returned (.bool (uright src dst u)) ∧ Below w.heap.size w w' := by
  have hv' := hv
  obtain ⟨bo, cb, rfl, -⟩ := hv'
  have hv0 := udv_box hv (.cells (udA u.src u.dst u.sum (.slice bo u.body.length cb)) udT)
  have HBl : Hid (Below w.heap.size w (w.alloc (.cells (udA u.src u.dst u.sum (.slice bo u.body.length cb)) udT))) := (Below.refl w.heap.size w).alloc (Nat.le_refl _) _
  by_cases hs : u.sum = 0
  · have HU : Hid (uright src dst u = true) := by show _ = _; unfold uright; simp [hs]
    generalize uright src dst u = R at *
    generalize u.body.length = m at *
    rw [hs] at HBl ⊢
    clear hv hu hv0
    go_enter Tryz.func45, Tryz.ntmps45
    go_wp2_with fail
    go_ret
    exact ⟨by rw [HU.out] <;> rfl, HBl.out⟩
  have hs' : (u.sum == 0) = false := by simp [hs]
  by_cases h0 : u.body.length ≤ 65527
  · have e := (udbErr_zero u).mpr h0
    have hB := rubytes_any hu hv0
    rw [e, show udOut u = udb u from if_pos e] at hB
    have hlen : (udb u).length = 8 + u.body.length := udb_len u
    have hby := udb_bytes hu h0
    have HU : Hid (uright src dst u = decide (utot src dst u = 65535)) := by
      show _ = _
      unfold uright; simp [hs, e]
    have HT : Hid (utot src dst u = foldv (acc (udb u) (psv src dst 17 (8 + u.body.length : Nat)) (cnt (8 + u.body.length)))) := rfl
    have hps := psv_range src dst 17 (8 + u.body.length : Nat) a0 b0 (by omega)
    generalize udb u = l at *
    obtain ⟨N, hN⟩ : ∃ N, N = 8 + u.body.length := ⟨_, rfl⟩
    rw [← hN] at hlen HT hps
    rw [hlen] at hB
    have hpc := fun W => rpseudo_any src dst 17 N W a0 a1 b0 b1 (by omega) (by omega)
    have har := acc_range hby (psv src dst 17 N) (by omega) (by omega) (cnt N)
    have hadd : ∀ W g cap B, OwnB W B g cap l → Calls Tryz.prog 68 #[.int .u32 (psv src dst 17 N), .slice (some ⟨g, 0, none⟩) N cap] W _ := fun W g cap B hob => by
      have := radd_any (hob.row hby (by omega)) (by omega) cap (psv src dst 17 N) (by omega) (by omega)
      rw [hlen] at this
      exact this
    have HL : Hid (l.length = N ∧ 0 < N) := ⟨hlen, by omega⟩
    have HA : Hid _ := hadd
    generalize uright src dst u = R at *
    generalize utot src dst u = T at *
    generalize hP : psv src dst 17 (N : Int) = P at *
    generalize hS : acc l P (cnt N) = S at *
    generalize u.body.length = m at *
    obtain ⟨har0, har1⟩ := har
    clear hv hu hv0 e hlen hby hN hps h0 hadd
    go_enter Tryz.func45, Tryz.ntmps45
    go_wp2_with fail
    refine hB.mono ?_
    rintro e w1 ⟨x, rfl, hown, hbel⟩
    obtain ⟨g, cap, rfl, hg, hcap, hob⟩ := own_shape2 hown HL.out.1 HL.out.2
    have hadd := HA.out _ _ _ _ hob
    have HB1 : Hid (Below w.heap.size w w1) := HBl.out.trans (hbel.mono HBl.out.size)
    clear hB hown hob hbel HA HBl hg hcap
    go_wp2_with fail
    refine (hpc _).mono ?_
    rintro e w' ⟨rfl, rfl⟩
    go_wp2_with fail
    refine hadd.mono ?_
    rintro e w2 ⟨rfl, hbel2⟩
    have HB2 : Hid (Below w.heap.size w w2) := HB1.out.trans (hbel2.mono HB1.out.size)
    clear hadd hbel2 HB1
    go_wp2_with fail
    refine (rfold_any S _ har0 har1).mono ?_
    rintro e w' ⟨rfl, rfl⟩
    rw [← HT.out]
    go_wp2_with fail
    go_ret
    exact ⟨by rw [HU.out]; rfl, HB2.out⟩
  · have e : ¬ udbErr u = 0 := fun h => h0 ((udbErr_zero u).mp h)
    have hB := rubytes_big (w.alloc (.cells (udA u.src u.dst u.sum (.slice bo u.body.length cb)) udT)) bo u.body.length cb (by omega) u.src u.dst u.sum
    have HU : Hid (uright src dst u = false) := by
      show _ = _
      unfold uright; simp [hs, e]
    generalize uright src dst u = R at *
    generalize u.body.length = m at *
    clear hv hu hv0 e h0
    go_enter Tryz.func45, Tryz.ntmps45
    go_wp2_with fail
    refine hB.mono ?_
    rintro e w1 ⟨rfl, hbel⟩
    have HB1 : Hid _ := HBl.out.trans (hbel.mono HBl.out.size)
    clear hB hbel HBl
    go_wp2_with fail
    go_ret
    exact ⟨by rw [HU.out] <;> rfl, HB1.out⟩
end Go.Proofs.YtjalpbkfpjfigaaGreat

namespace Go.Proofs.YtjalpbkfpjfigaaGreat
open Go.RowKit
open Sm
set_option linter.unusedVariables false
set_option maxRecDepth 20000

abbrev ipT : TypeId := 42
abbrev ipA (tos ttl proto id flags off src dst : Int) (o b : Value) : Array Value :=
  #[.int .u8 tos, .int .u8 ttl, .int .u8 proto, .int .u16 id, .int .u8 flags, .int .u16 off, .int .u32 src, .int .u32 dst, o, b]
abbrev ip0 : Array Value := ipA 0 0 0 0 0 0 0 0 (.slice none 0 0) (.slice none 0 0)

/-- A value that is the packet p, its lists behind base B. -/
def IpV (w : World) (B : Nat) (v : Value) (p : Pk) : Prop :=
  ∃ ao co bo cb, v = .agg (ipA p.tos p.ttl p.proto p.id p.flags p.off p.src p.dst (.slice ao p.opts.length co) (.slice bo p.body.length cb)) ∧ Row w ao p.opts ∧ Row w bo p.body ∧ (ao = none → co = 0) ∧ (bo = none → cb = 0) ∧
    (∀ x, ao = some x → B ≤ x.block) ∧ (∀ x, bo = some x → B ≤ x.block)
theorem IpV.below {w w' : World} {C : Nat} {v : Value} {p : Pk} (h : IpV w C v p) {B : Nat} (hb : Below B w w') (hB : w.heap.size ≤ B) : IpV w' C v p := by
  obtain ⟨ao, co, bo, cb, e, h1, h2, h3⟩ := h
  exact ⟨ao, co, bo, cb, e, h1.below hb hB, h2.below hb hB, h3⟩
theorem IpV.mono {w : World} {C D : Nat} {v : Value} {p : Pk} (h : IpV w C v p) (hD : D ≤ C) : IpV w D v p := by
  obtain ⟨ao, co, bo, cb, e, h1, h2, h3, h4, h5, h6⟩ := h
  exact ⟨ao, co, bo, cb, e, h1, h2, h3, h4, fun x hx => Nat.le_trans hD (h5 x hx), fun x hx => Nat.le_trans hD (h6 x hx)⟩
theorem ipv_zero (w : World) (B : Nat) : IpV w B (.agg ip0) Pk.zero := ⟨none, 0, none, 0, rfl, row_nil w, row_nil w, fun _ => rfl, fun _ => rfl, fun x hx => (by cases hx), fun x hx => (by cases hx)⟩

/-- The body's room: a slice's capacity is its length at least. -/
def IpCap (v : Value) (p : Pk) : Prop := ∃ ao co bo cb, v = .agg (ipA p.tos p.ttl p.proto p.id p.flags p.off p.src p.dst (.slice ao p.opts.length co) (.slice bo p.body.length cb)) ∧ p.body.length ≤ cb
theorem ipcap_zero : IpCap (.agg ip0) Pk.zero := ⟨none, 0, none, 0, rfl, Nat.le_refl _⟩
theorem IpCap.le {p : Pk} {ao bo : Option Addr} {n m co cb : Nat} (h : IpCap (.agg (ipA p.tos p.ttl p.proto p.id p.flags p.off p.src p.dst (.slice ao n co) (.slice bo m cb))) p) : p.body.length ≤ cb := by
  obtain ⟨ao', co', bo', cb', e, h⟩ := h
  simp only [ipA, Value.agg.injEq, Array.mk.injEq, List.cons.injEq, true_and, and_true, Value.slice.injEq] at e
  obtain ⟨-, -, -, rfl⟩ := e
  exact h

section steps
variable {w W : World} {L : List (Nat × Obj)} {i R b off m c j : Nat} {h : List Int}

theorem rd_far (hM : Mem w W L) (hi : L[i]? = some (R, .cells (rdr b (off + j) (m - j) (c - j)) rdT (0, 0))) (hb : b < w.heap.size) : R ≠ b := by
  have := hM.ge i hi
  omega

theorem take_at (hM : Mem w W L) (hi : L[i]? = some (R, .cells (rdr b (off + j) (m - j) (c - j)) rdT (0, 0))) (k : Nat) (hc : m ≤ c) (hj : j + k < m) (hm : m ≤ 140737488351232) :
    Calls Tryz.prog 99 #[.pointer (some ⟨R, 0, none⟩), .int .i64 k] W fun r W' => (∃ v, r = .returned v) ∧ Mem w W' (L.set i (R, .cells (rdr b (off + (j + k)) (m - (j + k)) (c - (j + k))) rdT (0, 0))) := by
  refine (take_wrote (hM.get i hi) k (by omega) (by omega) (by omega)).mono ?_
  rintro r W' ⟨rfl, off', ho, hw⟩
  obtain rfl := ho (by omega)
  have := hM.wrote i hi hw
  rw [Nat.sub_sub, Nat.sub_sub, Nat.add_assoc] at this
  exact ⟨⟨_, rfl⟩, this⟩

theorem octet_at (hM : Mem w W L) (hi : L[i]? = some (R, .cells (rdr b (off + j) (m - j) (c - j)) rdT (0, 0))) (hr : Row w (some ⟨b, off, none⟩) h) (hl : h.length = m) (hb : b < w.heap.size) (hc : m ≤ c) (hj : j + 1 < m) :
    Calls Tryz.prog 100 #[.pointer (some ⟨R, 0, none⟩)] W fun r W' => r = .returned (.int .u8 (h.getD j 0)) ∧ Mem w W' (L.set i (R, .cells (rdr b (off + (j + 1)) (m - (j + 1)) (c - (j + 1))) rdT (0, 0))) := by
  have hlen := hr.len
  refine (octet_ok (hM.get i hi) (rd_far hM hi hb) _ ((hM.row hr).cellAt j (by omega)) (by omega) (by omega) (by omega)).mono ?_
  rintro r W' ⟨rfl, off', ho, hw⟩
  obtain rfl := ho (by omega)
  have := hM.wrote i hi hw
  rw [Nat.sub_sub, Nat.sub_sub, Nat.add_assoc] at this
  exact ⟨rfl, this⟩

theorem word_at (hM : Mem w W L) (hi : L[i]? = some (R, .cells (rdr b (off + j) (m - j) (c - j)) rdT (0, 0))) (hr : Row w (some ⟨b, off, none⟩) h) (hl : h.length = m) (hb : b < w.heap.size) (hc : m ≤ c) (hj : j + 2 < m) :
    Calls Tryz.prog 101 #[.pointer (some ⟨R, 0, none⟩)] W fun r W' => r = .returned (.int .u16 (w16 h j)) ∧ Mem w W' (L.set i (R, .cells (rdr b (off + (j + 2)) (m - (j + 2)) (c - (j + 2))) rdT (0, 0))) := by
  have hlen := hr.len
  have b0 := hr.bytes j
  have b1 := hr.bytes (j + 1)
  refine (word_ok (hM.get i hi) (rd_far hM hi hb) _ _ ((hM.row hr).cellAt j (by omega)) ((hM.row hr).cellAt (j + 1) (by omega)) b0.1 b0.2 b1.1 b1.2 (by omega) (by omega) (by omega)).mono ?_
  rintro r W' ⟨rfl, off', ho, hw⟩
  obtain rfl := ho (by omega)
  have := hM.wrote i hi hw
  rw [Nat.sub_sub, Nat.sub_sub, Nat.add_assoc] at this
  exact ⟨rfl, this⟩

theorem long_end (hM : Mem w W L) (hi : L[i]? = some (R, .cells (rdr b (off + j) (m - j) (c - j)) rdT (0, 0))) (hr : Row w (some ⟨b, off, none⟩) h) (hl : h.length = m) (hb : b < w.heap.size) (hc : m ≤ c) (hj : j + 4 ≤ m) :
    Calls Tryz.prog 102 #[.pointer (some ⟨R, 0, none⟩)] W fun r W' => r = .returned (.int .u32 (w32 h j)) ∧ ∃ off', (j + 4 < m → off' = off + (j + 4)) ∧ Mem w W' (L.set i (R, .cells (rdr b off' (m - (j + 4)) (c - (j + 4))) rdT (0, 0))) := by
  have hlen := hr.len
  have b0 := hr.bytes j
  have b1 := hr.bytes (j + 1)
  have b2 := hr.bytes (j + 2)
  have b3 := hr.bytes (j + 3)
  refine (long_ok (hM.get i hi) (rd_far hM hi hb) _ _ _ _ ((hM.row hr).cellAt j (by omega)) ((hM.row hr).cellAt (j + 1) (by omega)) ((hM.row hr).cellAt (j + 2) (by omega)) ((hM.row hr).cellAt (j + 3) (by omega)) b0.1 b0.2 b1.1 b1.2 b2.1 b2.2 b3.1 b3.2 (by omega) (by omega) (by omega)).mono ?_
  rintro r W' ⟨rfl, off', ho, hw⟩
  have := hM.wrote i hi hw
  rw [Nat.sub_sub, Nat.sub_sub] at this
  refine ⟨rfl, off', fun h => ?_, this⟩
  rw [ho (by omega)]; omega

theorem long_at (hM : Mem w W L) (hi : L[i]? = some (R, .cells (rdr b (off + j) (m - j) (c - j)) rdT (0, 0))) (hr : Row w (some ⟨b, off, none⟩) h) (hl : h.length = m) (hb : b < w.heap.size) (hc : m ≤ c) (hj : j + 4 < m) :
    Calls Tryz.prog 102 #[.pointer (some ⟨R, 0, none⟩)] W fun r W' => r = .returned (.int .u32 (w32 h j)) ∧ Mem w W' (L.set i (R, .cells (rdr b (off + (j + 4)) (m - (j + 4)) (c - (j + 4))) rdT (0, 0))) := by
  refine (long_end hM hi hr hl hb hc (by omega)).mono ?_
  rintro r W' ⟨rfl, off', ho, hM'⟩
  obtain rfl := ho hj
  exact ⟨rfl, hM'⟩
end steps

theorem sm_low13 (x : Int) (h0 : 0 ≤ x) (h1 : x ≤ 65535) : bits .and .u16 x 8191 = x % 8192 := bits_mask .u16 16 (by decide) wraps_u16 13 (by decide) x h0 (by omega)
end Go.Proofs.YtjalpbkfpjfigaaGreat

