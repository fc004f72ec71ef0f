/-
  What icmp.Sum, icmp.Right answer, and the document's own lychref1.IcmpSum, lychref1.IcmpRight.
-/
import Derived.Test.YtjalpbkfpjfigaaGreatIcmpBytes
import Derived.Test.YtjalpbkfpjfigaaGreatIcmpRefBytes
import Derived.Test.YtjalpbkfpjfigaaGreatRef
namespace Go.Proofs.YtjalpbkfpjfigaaGreat
open Go.RowKit
open Sm
set_option linter.unusedVariables false

/-- A message in its box. -/
theorem mgv_box {w : World} {B : Nat} {v : Value} {q : Mg} (hv : MgV w B v q) (o : Obj) : MgV (w.alloc o) B v q := hv.below ((Below.refl _ _).alloc (Nat.le_refl _) _) (Nat.le_refl _)
/-- A message's fields, with its body. -/
abbrev mgB (q : Mg) (bo : Option Addr) (lb cb : Nat) : Array Value := mgA q.typ q.code q.sum q.rest (.slice bo lb cb)
theorem mgv_at {w : World} {B : Nat} {bo : Option Addr} {cb : Nat} {q : Mg} (hv : MgV w B (.agg (mgB q bo q.body.length cb)) q) (c : Int) : MgV w B (.agg (mgA q.typ q.code c q.rest (.slice bo q.body.length cb))) (q.at c) := by
  obtain ⟨bo', cb', e, h⟩ := hv
  simp only [mgB, mgA, Value.agg.injEq, Array.mk.injEq, List.cons.injEq, true_and, and_true, Value.slice.injEq] at e
  obtain ⟨rfl, rfl⟩ := e
  exact ⟨bo, cb, rfl, h⟩

set_option maxHeartbeats 1000000 in
/-- What icmp.Sum answers, whatever it is handed. -/
theorem msum_any {w : World} {B : Nat} {v : Value} {q : Mg} (hq : q.Ok) (hv : MgV w B v q) :
    Calls Tryz.prog 88 #[v] w fun r w' => r = .returned (.int .u16 (msum q)) ∧ Below w.heap.size w w' := by
  have hv' := hv
  obtain ⟨bo, cb, rfl, -⟩ := hv'
  have hz := hq.at (c := 0) (by omega) (by omega)
  have hv0 := mgv_box (mgv_at hv 0) (.cells (mgA q.typ q.code 0 q.rest (.slice bo q.body.length cb)) mgT)
  have HBl : Hid (Below w.heap.size w (w.alloc (.cells (mgA q.typ q.code 0 q.rest (.slice bo q.body.length cb)) mgT))) := (Below.refl w.heap.size w).alloc (Nat.le_refl _) _
  have hB := mbytes_any hz hv0
  rw [mgErr_at] at hB
  by_cases e : mgbErr q = 0
  · have f := (mfits_iff q).mp e
    rw [e, show mgOut (q.at 0) = mgb (q.at 0) from if_pos e] at hB
    have hlen : (mgb (q.at 0)).length = mlen q := mgb_len (q.at 0)
    have hby := mgb_bytes hz
    have HU : Hid (msum q = ofv (mgb (q.at 0))) := by
      show _ = _
      unfold msum; rw [if_neg (by omega)]
    have hN1 : 8 ≤ mlen q ∧ mlen q ≤ 65515 := ⟨by unfold mlen; omega, by unfold mlen; omega⟩
    generalize mgb (q.at 0) = l at *
    generalize mlen q = N at *
    rw [hlen] at hB
    have hadd : ∀ W g cap B, OwnB W B g cap l → Calls Tryz.prog 65 #[.slice (some ⟨g, 0, none⟩) N cap] W _ := fun W g cap B hob => by
      have := of_any (hob.row hby (by omega)) cap
      rw [hlen] at this
      exact this
    have HL : Hid (l.length = N ∧ 0 < N) := ⟨hlen, by omega⟩
    have HA : Hid _ := hadd
    generalize msum q = R at *
    generalize ofv l = T at *
    generalize q.body.length = m at *
    have hNi : (N : Int) ≤ 65515 := by omega
    clear hv hq hz hv0 e hlen hby f hadd hN1
    go_enter Tryz.func88, Tryz.ntmps88
    go_wp2_with fail
    refine hB.mono ?_
    rintro e w1 ⟨x, rfl, hown, hbel⟩
    obtain ⟨g, cap, rfl, hg, hcap, hob⟩ := own_shape2 hown HL.out.1 HL.out.2
    have hadd := HA.out _ _ _ _ hob
    have HB1 : Hid (Below w.heap.size w w1) := HBl.out.trans (hbel.mono HBl.out.size)
    clear hB hown hob hbel HA HBl hg hcap
    go_wp2_with fail
    refine hadd.mono ?_
    rintro e w' ⟨rfl, rfl⟩
    go_wp2_with fail
    go_ret
    exact ⟨by rw [HU.out] <;> rfl, HB1.out⟩
  · have HU : Hid (msum q = 0) := by
      show _ = _
      unfold msum; rw [if_pos e]
    generalize mgbErr q = E at *
    have h0' : (E == 0) = false := by simp [e]
    generalize msum q = R at *
    generalize q.body.length = m at *
    clear hv hq hz hv0
    go_enter Tryz.func88, Tryz.ntmps88
    go_wp2_with fail
    refine hB.mono ?_
    rintro e w1 ⟨x, rfl, -, hbel⟩
    have HB1 : Hid _ := HBl.out.trans (hbel.mono HBl.out.size)
    clear hB hbel HBl
    go_wp2_with fail
    go_ret
    exact ⟨by rw [HU.out] <;> rfl, HB1.out⟩

set_option maxHeartbeats 1000000 in
/-- What icmp.Right answers, whatever it is handed. -/
theorem mright_any {w : World} {B : Nat} {v : Value} {q : Mg} (hq : q.Ok) (hv : MgV w B v q) :
    Calls Tryz.prog 81 #[v] w fun r w' => r = .returned (.bool (mright q)) ∧ Below w.heap.size w w' := by
  have hv' := hv
  obtain ⟨bo, cb, rfl, -⟩ := hv'
  have hv0 := mgv_box hv (.cells (mgB q bo q.body.length cb) mgT)
  have HBl : Hid (Below w.heap.size w (w.alloc (.cells (mgB q bo q.body.length cb) mgT))) := (Below.refl w.heap.size w).alloc (Nat.le_refl _) _
  have hB := mbytes_any hq hv0
  by_cases e : mgbErr q = 0
  · have f := (mfits_iff q).mp e
    rw [e, show mgOut q = mgb q from if_pos e] at hB
    have hlen := mgb_len q
    have hby := mgb_bytes hq
    have HU : Hid (mright q = decide (mtot q = 65535)) := by
      show _ = _
      unfold mright; simp [e]
    have HT : Hid (mtot q = foldv (acc (mgb q) 0 (cnt (mlen q)))) := rfl
    have hN1 : 8 ≤ mlen q ∧ mlen q ≤ 65515 := ⟨by unfold mlen; omega, by unfold mlen; omega⟩
    generalize mgb q = l at *
    generalize mlen q = N at *
    rw [hlen] at hB
    have har := acc_range hby 0 (by omega) (by omega) (cnt N)
    have hadd : ∀ W g cap B, OwnB W B g cap l → Calls Tryz.prog 91 #[.int .u32 0, .slice (some ⟨g, 0, none⟩) N cap] W _ := fun W g cap B hob => by
      have := add_any (hob.row hby (by omega)) cap 0 (by omega) (by omega)
      rw [hlen] at this
      exact this
    have HL : Hid (l.length = N ∧ 0 < N) := ⟨hlen, by omega⟩
    have HA : Hid _ := hadd
    generalize mright q = R at *
    generalize mtot q = T at *
    generalize hS : acc l 0 (cnt N) = S at *
    generalize q.body.length = m at *
    obtain ⟨har0, har1⟩ := har
    have hNi : (N : Int) ≤ 65515 := by omega
    clear hv hq hv0 e hlen hby f hadd hN1
    go_enter Tryz.func81, Tryz.ntmps81
    go_wp2_with fail
    refine hB.mono ?_
    rintro e w1 ⟨x, rfl, hown, hbel⟩
    obtain ⟨g, cap, rfl, hg, hcap, hob⟩ := own_shape2 hown HL.out.1 HL.out.2
    have hadd := HA.out _ _ _ _ hob
    have HB1 : Hid (Below w.heap.size w w1) := HBl.out.trans (hbel.mono HBl.out.size)
    clear hB hown hob hbel HA HBl hg hcap
    go_wp2_with fail
    refine hadd.mono ?_
    rintro e w2 ⟨rfl, rfl⟩
    clear hadd
    go_wp2_with fail
    refine (fold_any S _ har0 har1).mono ?_
    rintro e w' ⟨rfl, rfl⟩
    rw [← HT.out]
    go_wp2_with fail
    go_ret
    exact ⟨by rw [HU.out]; rfl, HB1.out⟩
  · have HU : Hid (mright q = false) := by
      show _ = _
      unfold mright; simp [e]
    generalize mgbErr q = E at *
    have h0' : (E == 0) = false := by simp [e]
    generalize mright q = R at *
    generalize q.body.length = m at *
    clear hv hq hv0
    go_enter Tryz.func81, Tryz.ntmps81
    go_wp2_with fail
    refine hB.mono ?_
    rintro e w1 ⟨x, rfl, -, hbel⟩
    have HB1 : Hid _ := HBl.out.trans (hbel.mono HBl.out.size)
    clear hB hbel HBl
    go_wp2_with fail
    go_ret
    exact ⟨by rw [HU.out] <;> rfl, HB1.out⟩

set_option maxHeartbeats 1000000 in
/-- What lychref1.IcmpSum answers, whatever it is handed. -/
theorem rmsum_any {w : World} {B : Nat} {v : Value} {q : Mg} (hq : q.Ok) (hv : MgV w B v q) :
    Calls Tryz.prog 25 #[v] w fun r w' => r = .returned (.int .u16 (msum q)) ∧ Below w.heap.size w w' := by
  have hv' := hv
  obtain ⟨bo, cb, rfl, -⟩ := hv'
  have hz := hq.at (c := 0) (by omega) (by omega)
  have hv0 := mgv_box (mgv_at hv 0) (.cells (mgA q.typ q.code 0 q.rest (.slice bo q.body.length cb)) mgT)
  have HBl : Hid (Below w.heap.size w (w.alloc (.cells (mgA q.typ q.code 0 q.rest (.slice bo q.body.length cb)) mgT))) := (Below.refl w.heap.size w).alloc (Nat.le_refl _) _
  have hB := rmbytes_any hz hv0
  rw [mgErr_at] at hB
  by_cases e : mgbErr q = 0
  · have f := (mfits_iff q).mp e
    rw [e, show mgOut (q.at 0) = mgb (q.at 0) from if_pos e] at hB
    have hlen : (mgb (q.at 0)).length = mlen q := mgb_len (q.at 0)
    have hby := mgb_bytes hz
    have HU : Hid (msum q = ofv (mgb (q.at 0))) := by
      show _ = _
      unfold msum; rw [if_neg (by omega)]
    have hN1 : 8 ≤ mlen q ∧ mlen q ≤ 65515 := ⟨by unfold mlen; omega, by unfold mlen; omega⟩
    generalize mgb (q.at 0) = l at *
    generalize mlen q = N at *
    rw [hlen] at hB
    have hadd : ∀ W g cap B, OwnB W B g cap l → Calls Tryz.prog 54 #[.slice (some ⟨g, 0, none⟩) N cap] W _ := fun W g cap B hob => by
      have := rof_any (hob.row hby (by omega)) (by omega) cap
      rw [hlen] at this
      exact this
    have HL : Hid (l.length = N ∧ 0 < N) := ⟨hlen, by omega⟩
    have HA : Hid _ := hadd
    generalize msum q = R at *
    generalize ofv l = T at *
    generalize q.body.length = m at *
    have hNi : (N : Int) ≤ 65515 := by omega
    clear hv hq hz hv0 e hlen hby f hadd hN1
    go_enter Tryz.func25, Tryz.ntmps25
    go_wp2_with fail
    refine hB.mono ?_
    rintro e w1 ⟨x, rfl, hown, hbel⟩
    obtain ⟨g, cap, rfl, hg, hcap, hob⟩ := own_shape2 hown HL.out.1 HL.out.2
    have hadd := HA.out _ _ _ _ hob
    have HB1 : Hid (Below w.heap.size w w1) := HBl.out.trans (hbel.mono HBl.out.size)
    clear hB hown hob hbel HA HBl hg hcap
    go_wp2_with fail
    refine hadd.mono ?_
    rintro e w2 ⟨rfl, hbel2⟩
    have HB2 : Hid (Below w.heap.size w w2) := HB1.out.trans (hbel2.mono HB1.out.size)
    clear hadd hbel2 HB1
    go_wp2_with fail
    go_ret
    exact ⟨by rw [HU.out] <;> rfl, HB2.out⟩
  · have HU : Hid (msum q = 0) := by
      show _ = _
      unfold msum; rw [if_pos e]
    generalize mgbErr q = E at *
    have h0' : (E == 0) = false := by simp [e]
    generalize msum q = R at *
    generalize q.body.length = m at *
    clear hv hq hz hv0
    go_enter Tryz.func25, Tryz.ntmps25
    go_wp2_with fail
    refine hB.mono ?_
    rintro e w1 ⟨x, rfl, -, hbel⟩
    have HB1 : Hid _ := HBl.out.trans (hbel.mono HBl.out.size)
    clear hB hbel HBl
    go_wp2_with fail
    go_ret
    exact ⟨by rw [HU.out] <;> rfl, HB1.out⟩

set_option maxHeartbeats 1000000 in
/-- What lychref1.IcmpRight answers, whatever it is handed. -/
theorem rmright_any {w : World} {B : Nat} {v : Value} {q : Mg} (hq : q.Ok) (hv : MgV w B v q) :
    Calls Tryz.prog 47 #[v] w fun r w' => r = .returned (.bool (mright q)) ∧ Below w.heap.size w w' := by
  have hv' := hv
  obtain ⟨bo, cb, rfl, -⟩ := hv'
  have hv0 := mgv_box hv (.cells (mgB q bo q.body.length cb) mgT)
  have HBl : Hid (Below w.heap.size w (w.alloc (.cells (mgB q bo q.body.length cb) mgT))) := (Below.refl w.heap.size w).alloc (Nat.le_refl _) _
  have hB := rmbytes_any hq hv0
  by_cases e : mgbErr q = 0
  · have f := (mfits_iff q).mp e
    rw [e, show mgOut q = mgb q from if_pos e] at hB
    have hlen := mgb_len q
    have hby := mgb_bytes hq
    have HU : Hid (mright q = decide (mtot q = 65535)) := by
      show _ = _
      unfold mright; simp [e]
    have HT : Hid (mtot q = foldv (acc (mgb q) 0 (cnt (mlen q)))) := rfl
    have hN1 : 8 ≤ mlen q ∧ mlen q ≤ 65515 := ⟨by unfold mlen; omega, by unfold mlen; omega⟩
    generalize mgb q = l at *
    generalize mlen q = N at *
    rw [hlen] at hB
    have har := acc_range hby 0 (by omega) (by omega) (cnt N)
    have hadd : ∀ W g cap B, OwnB W B g cap l → Calls Tryz.prog 68 #[.int .u32 0, .slice (some ⟨g, 0, none⟩) N cap] W _ := fun W g cap B hob => by
      have := radd_any (hob.row hby (by omega)) (by omega) cap 0 (by omega) (by omega)
      rw [hlen] at this
      exact this
    have HL : Hid (l.length = N ∧ 0 < N) := ⟨hlen, by omega⟩
    have HA : Hid _ := hadd
    generalize mright q = R at *
    generalize mtot q = T at *
    generalize hS : acc l 0 (cnt N) = S at *
    generalize q.body.length = m at *
    obtain ⟨har0, har1⟩ := har
    have hNi : (N : Int) ≤ 65515 := by omega
    clear hv hq hv0 e hlen hby f hadd hN1
    go_enter Tryz.func47, Tryz.ntmps47
    go_wp2_with fail
    refine hB.mono ?_
    rintro e w1 ⟨x, rfl, hown, hbel⟩
    obtain ⟨g, cap, rfl, hg, hcap, hob⟩ := own_shape2 hown HL.out.1 HL.out.2
    have hadd := HA.out _ _ _ _ hob
    have HB1 : Hid (Below w.heap.size w w1) := HBl.out.trans (hbel.mono HBl.out.size)
    clear hB hown hob hbel HA HBl hg hcap
    go_wp2_with fail
    refine hadd.mono ?_
    rintro e w2 ⟨rfl, hbel2⟩
    have HB2 : Hid (Below w.heap.size w w2) := HB1.out.trans (hbel2.mono HB1.out.size)
    clear hadd hbel2 HB1
    go_wp2_with fail
    refine (rfold_any S _ har0 har1).mono ?_
    rintro e w' ⟨rfl, rfl⟩
    rw [← HT.out]
    go_wp2_with fail
    go_ret
    exact ⟨by rw [HU.out]; rfl, HB2.out⟩
  · have HU : Hid (mright q = false) := by
      show _ = _
      unfold mright; simp [e]
    generalize mgbErr q = E at *
    have h0' : (E == 0) = false := by simp [e]
    generalize mright q = R at *
    generalize q.body.length = m at *
    clear hv hq hv0
    go_enter Tryz.func47, Tryz.ntmps47
    go_wp2_with fail
    refine hB.mono ?_
    rintro e w1 ⟨x, rfl, -, hbel⟩
    have HB1 : Hid _ := HBl.out.trans (hbel.mono HBl.out.size)
    clear hB hbel HBl
    go_wp2_with fail
    go_ret
    exact ⟨by rw [HU.out] <;> rfl, HB1.out⟩
end Go.Proofs.YtjalpbkfpjfigaaGreat
