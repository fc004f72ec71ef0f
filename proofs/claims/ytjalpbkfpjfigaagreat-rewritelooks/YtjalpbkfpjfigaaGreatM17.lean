/-
  What icmp.Sum, icmp.Right answer, and the document's own lychref1.IcmpSum, lychref1.IcmpRight.
  What tcp.Parse answers where it reads a segment: no options, a body.
  Package rewrite's words: word, long, putWord, headOf, isEcho, whatever slice they are handed.
-/
import Derived.Test.YtjalpbkfpjfigaaGreatM13
import Derived.Test.YtjalpbkfpjfigaaGreatM06
import Derived.Test.YtjalpbkfpjfigaaGreatM11
import Derived.Test.YtjalpbkfpjfigaaGreatM10
namespace Go.Proofs.YtjalpbkfpjfigaaGreat
open Go.RowKit
open Sm
set_option linter.unusedVariables false

/-- A message in its box. -/
theorem mgv_box {w : World} {B : Nat} {v : Value} {q : Mg} (hv : MgV w B v q) (o : Obj) : MgV (w.alloc o) B v q := hv.below ((Below.refl _ _).alloc (Nat.le_refl _) _) (Nat.le_refl _)
/-- A message's fields, with its body. -/
abbrev mgB (q : Mg) (bo : Option Addr) (lb cb : Nat) : Array Value := mgA q.typ q.code q.sum q.rest (.slice bo lb cb)
theorem mgv_at {w : World} {B : Nat} {bo : Option Addr} {cb : Nat} {q : Mg} (hv : MgV w B (.agg (mgB q bo q.body.length cb)) q) (c : Int) : MgV w B (.agg (mgA q.typ q.code c q.rest (.slice bo q.body.length cb))) (q.at c) := by
  obtain ⟨bo', cb', e, h⟩ := hv
  simp only [mgB, mgA, Value.agg.injEq, Array.mk.injEq, List.cons.injEq, true_and, and_true, Value.slice.injEq] at e
  obtain ⟨rfl, rfl⟩ := e
  exact ⟨bo, cb, rfl, h⟩

set_option maxHeartbeats 1000000 in
/-- What icmp.Sum answers, whatever it is handed. -/
theorem msum_any {w : World} {B : Nat} {v : Value} {q : Mg} (hq : q.Ok) (hv : MgV w B v q) :
    Calls Tryz.prog 88 #[v] w fun r w' => r = .returned (.int .u16 (msum q)) ∧ Below w.heap.size w w' := by
  have hv' := hv
  obtain ⟨bo, cb, rfl, -⟩ := hv'
  have hz := hq.at (c := 0) (by omega) (by omega)
  have hv0 := mgv_box (mgv_at hv 0) (.cells (mgA q.typ q.code 0 q.rest (.slice bo q.body.length cb)) mgT)
  have HBl : Hid (Below w.heap.size w (w.alloc (.cells (mgA q.typ q.code 0 q.rest (.slice bo q.body.length cb)) mgT))) := (Below.refl w.heap.size w).alloc (Nat.le_refl _) _
  have hB := mbytes_any hz hv0
  rw [mgErr_at] at hB
  by_cases e : mgbErr q = 0
  · have f := (mfits_iff q).mp e
    rw [e, show mgOut (q.at 0) = mgb (q.at 0) from if_pos e] at hB
    have hlen : (mgb (q.at 0)).length = mlen q := mgb_len (q.at 0)
    have hby := mgb_bytes hz
    have HU : Hid (msum q = ofv (mgb (q.at 0))) := by
      show _ = _
      unfold msum; rw [if_neg (by omega)]
    have hN1 : 8 ≤ mlen q ∧ mlen q ≤ 65515 := ⟨by unfold mlen; omega, by unfold mlen; omega⟩
    generalize mgb (q.at 0) = l at *
    generalize mlen q = N at *
    rw [hlen] at hB
    have hadd : ∀ W g cap B, OwnB W B g cap l → Calls Tryz.prog 65 #[.slice (some ⟨g, 0, none⟩) N cap] W _ := fun W g cap B hob => by
      have := of_any (hob.row hby (by omega)) cap
      rw [hlen] at this
      exact this
    have HL : Hid (l.length = N ∧ 0 < N) := ⟨hlen, by omega⟩
    have HA : Hid _ := hadd
    generalize msum q = R at *
    generalize ofv l = T at *
    generalize q.body.length = m at *
    have hNi : (N : Int) ≤ 65515 := by omega
    clear hv hq hz hv0 e hlen hby f hadd hN1
    go_enter Tryz.func88, Tryz.ntmps88
    go_wp2_with fail
    refine hB.mono ?_
    rintro e w1 ⟨x, rfl, hown, hbel⟩
    obtain ⟨g, cap, rfl, hg, hcap, hob⟩ := own_shape2 hown HL.out.1 HL.out.2
    have hadd := HA.out _ _ _ _ hob
    have HB1 : Hid (Below w.heap.size w w1) := HBl.out.trans (hbel.mono HBl.out.size)
    clear hB hown hob hbel HA HBl hg hcap
    go_wp2_with fail
    refine hadd.mono ?_
    rintro e w' ⟨rfl, rfl⟩
    go_wp2_with fail
    go_ret
    exact ⟨by rw [HU.out] <;> rfl, HB1.out⟩
  · have HU : Hid (msum q = 0) := by
      show _ = _
      unfold msum; rw [if_pos e]
    generalize mgbErr q = E at *
    have h0' : (E == 0) = false := by simp [e]
    generalize msum q = R at *
    generalize q.body.length = m at *
    clear hv hq hz hv0
    go_enter Tryz.func88, Tryz.ntmps88
    go_wp2_with fail
    refine hB.mono ?_
    rintro e w1 ⟨x, rfl, -, hbel⟩
    have HB1 : Hid _ := HBl.out.trans (hbel.mono HBl.out.size)
    clear hB hbel HBl
    go_wp2_with fail
    go_ret
    exact ⟨by rw [HU.out] <;> rfl, HB1.out⟩

set_option maxHeartbeats 1000000 in
/-- What icmp.Right answers, whatever it is handed. -/
theorem mright_any {w : World} {B : Nat} {v : Value} {q : Mg} (hq : q.Ok) (hv : MgV w B v q) :
    Calls Tryz.prog 81 #[v] w fun r w' => r = .returned (.bool (mright q)) ∧ Below w.heap.size w w' := by
  have hv' := hv
  obtain ⟨bo, cb, rfl, -⟩ := hv'
  have hv0 := mgv_box hv (.cells (mgB q bo q.body.length cb) mgT)
  have HBl : Hid (Below w.heap.size w (w.alloc (.cells (mgB q bo q.body.length cb) mgT))) := (Below.refl w.heap.size w).alloc (Nat.le_refl _) _
  have hB := mbytes_any hq hv0
  by_cases e : mgbErr q = 0
  · have f := (mfits_iff q).mp e
    rw [e, show mgOut q = mgb q from if_pos e] at hB
    have hlen := mgb_len q
    have hby := mgb_bytes hq
    have HU : Hid (mright q = decide (mtot q = 65535)) := by
      show _ = _
      unfold mright; simp [e]
    have HT : Hid (mtot q = foldv (acc (mgb q) 0 (cnt (mlen q)))) := rfl
    have hN1 : 8 ≤ mlen q ∧ mlen q ≤ 65515 := ⟨by unfold mlen; omega, by unfold mlen; omega⟩
    generalize mgb q = l at *
    generalize mlen q = N at *
    rw [hlen] at hB
    have har := acc_range hby 0 (by omega) (by omega) (cnt N)
    have hadd : ∀ W g cap B, OwnB W B g cap l → Calls Tryz.prog 91 #[.int .u32 0, .slice (some ⟨g, 0, none⟩) N cap] W _ := fun W g cap B hob => by
      have := add_any (hob.row hby (by omega)) cap 0 (by omega) (by omega)
      rw [hlen] at this
      exact this
    have HL : Hid (l.length = N ∧ 0 < N) := ⟨hlen, by omega⟩
    have HA : Hid _ := hadd
    generalize mright q = R at *
    generalize mtot q = T at *
    generalize hS : acc l 0 (cnt N) = S at *
    generalize q.body.length = m at *
    obtain ⟨har0, har1⟩ := har
    have hNi : (N : Int) ≤ 65515 := by omega
    clear hv hq hv0 e hlen hby f hadd hN1
    go_enter Tryz.func81, Tryz.ntmps81
    go_wp2_with fail
    refine hB.mono ?_
    rintro e w1 ⟨x, rfl, hown, hbel⟩
    obtain ⟨g, cap, rfl, hg, hcap, hob⟩ := own_shape2 hown HL.out.1 HL.out.2
    have hadd := HA.out _ _ _ _ hob
    have HB1 : Hid (Below w.heap.size w w1) := HBl.out.trans (hbel.mono HBl.out.size)
    clear hB hown hob hbel HA HBl hg hcap
    go_wp2_with fail
    refine hadd.mono ?_
    rintro e w2 ⟨rfl, rfl⟩
    clear hadd
    go_wp2_with fail
    refine (fold_any S _ har0 har1).mono ?_
    rintro e w' ⟨rfl, rfl⟩
    rw [← HT.out]
    go_wp2_with fail
    go_ret
    exact ⟨by rw [HU.out]; rfl, HB1.out⟩
  · have HU : Hid (mright q = false) := by
      show _ = _
      unfold mright; simp [e]
    generalize mgbErr q = E at *
    have h0' : (E == 0) = false := by simp [e]
    generalize mright q = R at *
    generalize q.body.length = m at *
    clear hv hq hv0
    go_enter Tryz.func81, Tryz.ntmps81
    go_wp2_with fail
    refine hB.mono ?_
    rintro e w1 ⟨x, rfl, -, hbel⟩
    have HB1 : Hid _ := HBl.out.trans (hbel.mono HBl.out.size)
    clear hB hbel HBl
    go_wp2_with fail
    go_ret
    exact ⟨by rw [HU.out] <;> rfl, HB1.out⟩

set_option maxHeartbeats 1000000 in
/-- What lychref1.IcmpSum answers, whatever it is handed. -/
theorem rmsum_any {w : World} {B : Nat} {v : Value} {q : Mg} (hq : q.Ok) (hv : MgV w B v q) :
    Calls Tryz.prog 25 #[v] w fun r w' => r = .returned (.int .u16 (msum q)) ∧ Below w.heap.size w w' := by
  have hv' := hv
  obtain ⟨bo, cb, rfl, -⟩ := hv'
  have hz := hq.at (c := 0) (by omega) (by omega)
  have hv0 := mgv_box (mgv_at hv 0) (.cells (mgA q.typ q.code 0 q.rest (.slice bo q.body.length cb)) mgT)
  have HBl : Hid (Below w.heap.size w (w.alloc (.cells (mgA q.typ q.code 0 q.rest (.slice bo q.body.length cb)) mgT))) := (Below.refl w.heap.size w).alloc (Nat.le_refl _) _
  have hB := rmbytes_any hz hv0
  rw [mgErr_at] at hB
  by_cases e : mgbErr q = 0
  · have f := (mfits_iff q).mp e
    rw [e, show mgOut (q.at 0) = mgb (q.at 0) from if_pos e] at hB
    have hlen : (mgb (q.at 0)).length = mlen q := mgb_len (q.at 0)
    have hby := mgb_bytes hz
    have HU : Hid (msum q = ofv (mgb (q.at 0))) := by
      show _ = _
      unfold msum; rw [if_neg (by omega)]
    have hN1 : 8 ≤ mlen q ∧ mlen q ≤ 65515 := ⟨by unfold mlen; omega, by unfold mlen; omega⟩
    generalize mgb (q.at 0) = l at *
    generalize mlen q = N at *
    rw [hlen] at hB
    have hadd : ∀ W g cap B, OwnB W B g cap l → Calls Tryz.prog 54 #[.slice (some ⟨g, 0, none⟩) N cap] W _ := fun W g cap B hob => by
      have := rof_any (hob.row hby (by omega)) (by omega) cap
      rw [hlen] at this
      exact this
    have HL : Hid (l.length = N ∧ 0 < N) := ⟨hlen, by omega⟩
    have HA : Hid _ := hadd
    generalize msum q = R at *
    generalize ofv l = T at *
    generalize q.body.length = m at *
    have hNi : (N : Int) ≤ 65515 := by omega
    clear hv hq hz hv0 e hlen hby f hadd hN1
    go_enter Tryz.func25, Tryz.ntmps25
    go_wp2_with fail
    refine hB.mono ?_
    rintro e w1 ⟨x, rfl, hown, hbel⟩
    obtain ⟨g, cap, rfl, hg, hcap, hob⟩ := own_shape2 hown HL.out.1 HL.out.2
    have hadd := HA.out _ _ _ _ hob
    have HB1 : Hid (Below w.heap.size w w1) := HBl.out.trans (hbel.mono HBl.out.size)
    clear hB hown hob hbel HA HBl hg hcap
    go_wp2_with fail
    refine hadd.mono ?_
    rintro e w2 ⟨rfl, hbel2⟩
    have HB2 : Hid (Below w.heap.size w w2) := HB1.out.trans (hbel2.mono HB1.out.size)
    clear hadd hbel2 HB1
    go_wp2_with fail
    go_ret
    exact ⟨by rw [HU.out] <;> rfl, HB2.out⟩
  · have HU : Hid (msum q = 0) := by
      show _ = _
      unfold msum; rw [if_pos e]
    generalize mgbErr q = E at *
    have h0' : (E == 0) = false := by simp [e]
    generalize msum q = R at *
    generalize q.body.length = m at *
    clear hv hq hz hv0
    go_enter Tryz.func25, Tryz.ntmps25
    go_wp2_with fail
    refine hB.mono ?_
    rintro e w1 ⟨x, rfl, -, hbel⟩
    have HB1 : Hid _ := HBl.out.trans (hbel.mono HBl.out.size)
    clear hB hbel HBl
    go_wp2_with fail
    go_ret
    exact ⟨by rw [HU.out] <;> rfl, HB1.out⟩

set_option maxHeartbeats 1000000 in
/-- What lychref1.IcmpRight answers, whatever it is handed. -/
theorem rmright_any {w : World} {B : Nat} {v : Value} {q : Mg} (hq : q.Ok) (hv : MgV w B v q) :
    Calls Tryz.prog 47 #[v] w fun r w' => r = .returned (.bool (mright q)) ∧ Below w.heap.size w w' := by
  have hv' := hv
  obtain ⟨bo, cb, rfl, -⟩ := hv'
  have hv0 := mgv_box hv (.cells (mgB q bo q.body.length cb) mgT)
  have HBl : Hid (Below w.heap.size w (w.alloc (.cells (mgB q bo q.body.length cb) mgT))) := (Below.refl w.heap.size w).alloc (Nat.le_refl _) _
  have hB := rmbytes_any hq hv0
  by_cases e : mgbErr q = 0
  · have f := (mfits_iff q).mp e
    rw [e, show mgOut q = mgb q from if_pos e] at hB
    have hlen := mgb_len q
    have hby := mgb_bytes hq
    have HU : Hid (mright q = decide (mtot q = 65535)) := by
      show _ = _
      unfold mright; simp [e]
    have HT : Hid (mtot q = foldv (acc (mgb q) 0 (cnt (mlen q)))) := rfl
    have hN1 : 8 ≤ mlen q ∧ mlen q ≤ 65515 := ⟨by unfold mlen; omega, by unfold mlen; omega⟩
    generalize mgb q = l at *
    generalize mlen q = N at *
    rw [hlen] at hB
    have har := acc_range hby 0 (by omega) (by omega) (cnt N)
    have hadd : ∀ W g cap B, OwnB W B g cap l → Calls Tryz.prog 68 #[.int .u32 0, .slice (some ⟨g, 0, none⟩) N cap] W _ := fun W g cap B hob => by
      have := radd_any (hob.row hby (by omega)) (by omega) cap 0 (by omega) (by omega)
      rw [hlen] at this
      exact this
    have HL : Hid (l.length = N ∧ 0 < N) := ⟨hlen, by omega⟩
    have HA : Hid _ := hadd
    generalize mright q = R at *
    generalize mtot q = T at *
    generalize hS : acc l 0 (cnt N) = S at *
    generalize q.body.length = m at *
    obtain ⟨har0, har1⟩ := har
    have hNi : (N : Int) ≤ 65515 := by omega
    clear hv hq hv0 e hlen hby f hadd hN1
    go_enter Tryz.func47, Tryz.ntmps47
    go_wp2_with fail
    refine hB.mono ?_
    rintro e w1 ⟨x, rfl, hown, hbel⟩
    obtain ⟨g, cap, rfl, hg, hcap, hob⟩ := own_shape2 hown HL.out.1 HL.out.2
    have hadd := HA.out _ _ _ _ hob
    have HB1 : Hid (Below w.heap.size w w1) := HBl.out.trans (hbel.mono HBl.out.size)
    clear hB hown hob hbel HA HBl hg hcap
    go_wp2_with fail
    refine hadd.mono ?_
    rintro e w2 ⟨rfl, hbel2⟩
    have HB2 : Hid (Below w.heap.size w w2) := HB1.out.trans (hbel2.mono HB1.out.size)
    clear hadd hbel2 HB1
    go_wp2_with fail
    refine (rfold_any S _ har0 har1).mono ?_
    rintro e w' ⟨rfl, rfl⟩
    rw [← HT.out]
    go_wp2_with fail
    go_ret
    exact ⟨by rw [HU.out]; rfl, HB2.out⟩
  · have HU : Hid (mright q = false) := by
      show _ = _
      unfold mright; simp [e]
    generalize mgbErr q = E at *
    have h0' : (E == 0) = false := by simp [e]
    generalize mright q = R at *
    generalize q.body.length = m at *
    clear hv hq hv0
    go_enter Tryz.func47, Tryz.ntmps47
    go_wp2_with fail
    refine hB.mono ?_
    rintro e w1 ⟨x, rfl, -, hbel⟩
    have HB1 : Hid _ := HBl.out.trans (hbel.mono HBl.out.size)
    clear hB hbel HBl
    go_wp2_with fail
    go_ret
    exact ⟨by rw [HU.out] <;> rfl, HB1.out⟩
end Go.Proofs.YtjalpbkfpjfigaaGreat

namespace Go.Proofs.YtjalpbkfpjfigaaGreat
open Go.RowKit
open Sm
set_option linter.unusedVariables false

set_option maxRecDepth 20000 in
set_option maxHeartbeats 4000000 in
theorem tparse_okB {w : World} {b off n cap : Nat} {m : Nat} {l : List Int} (h : Row w (some ⟨b, off, none⟩) l) (hn : l.length = n) (hc : n ≤ cap) (k : Nat) (hk : l.getD 12 0 / 16 = k) (hK : 20 = 4 * k) (hKn : n = 20 + m) (hm : 0 < m) (q : Sg)
    (e0 : w16 l 0 = q.src) (e2 : w16 l 2 = q.dst) (e4 : w32 l 4 = q.seq) (e8 : w32 l 8 = q.ack) (e13 : l.getD 13 0 = q.flags) (e14 : w16 l 14 = q.win) (e16 : w16 l 16 = q.sum) (e18 : w16 l 18 = q.urg) (eo : (l.drop 20).take 0 = q.opts) (eb : (l.drop 20).take m = q.body) :
    Calls Tryz.prog 77 #[.slice (some ⟨b, off, none⟩) n cap] w fun r w' => ∃ v, r = .returned (.tuple #[v, .int .i64 0]) ∧ TcV w' w.heap.size v q ∧ Below w.heap.size w w' := by
  obtain ⟨X0, X2, X4, X8, X13, X14, X16, X18, op, bd⟩ := q
  simp only at e0 e2 e4 e8 e13 e14 e16 e18 eo eb
  have hln := h.len
  have hb : b < w.heap.size := cell_lt (h.cellAt 0 (by omega))
  have r12 := h.bytes 12
  obtain ⟨x, hx⟩ : ∃ x : Nat, l.getD 12 0 = x := ⟨(l.getD 12 0).toNat, by omega⟩
  have c12 : w.cell? ⟨b, off + 12, none⟩ = some (.int .u8 x) := by rw [← hx]; exact h.cellAt 12 (by omega)
  have c13 : w.cell? ⟨b, off + 13, none⟩ = some (.int .u8 X13) := by rw [← e13]; exact h.cellAt 13 (by omega)
  have hM := (Mem.nil w).push w.heap.size (.cells tc0 tcT) rfl
  have c12' : (w.alloc (.cells tc0 tcT)).cell? ⟨b, off + 12, none⟩ = some (.int .u8 x) := (hM.old hb).trans c12
  have HM0 : Hid (Mem w (w.alloc (.cells tc0 tcT)) [(w.heap.size, .cells tc0 tcT)]) := hM
  rw [hx] at hk r12
  have hdv : (x : Int) / 16 = k := by omega
  have v1 : IntKind.i64.wrap (k : Int) = k := wrap64_small _ (by omega) (by omega)
  have v2 : IntKind.i64.wrap (4 * (k : Int)) = 4 * (k : Int) := wrap64_small _ (by omega) (by omega)
  have HK : Hid (4 * (k : Int) = 20) := by show 4 * (k : Int) = 20; omega
  have g0 : ∀ W L, Mem w W L → Calls Tryz.prog 105 #[.slice (some ⟨b, off, none⟩) 2 2] W fun e w' => e = .returned (.int .u16 X0) ∧ Mem w w' L := fun W L hM => by
    refine (tword_at (hM.row h) 0 (off) rfl (by omega) X0 e0 2).mono ?_; rintro e w' ⟨rfl, q, rfl⟩; exact ⟨rfl, hM.drewN q⟩
  have g2 : ∀ W L, Mem w W L → Calls Tryz.prog 105 #[.slice (some ⟨b, off + 2, none⟩) 2 2] W fun e w' => e = .returned (.int .u16 X2) ∧ Mem w w' L := fun W L hM => by
    refine (tword_at (hM.row h) 2 (off + 2) rfl (by omega) X2 e2 2).mono ?_; rintro e w' ⟨rfl, q, rfl⟩; exact ⟨rfl, hM.drewN q⟩
  have g4 : ∀ W L, Mem w W L → Calls Tryz.prog 106 #[.slice (some ⟨b, off + 4, none⟩) 4 4] W fun e w' => e = .returned (.int .u32 X4) ∧ Mem w w' L := fun W L hM => by
    refine (tlong_at (hM.row h) 4 (off + 4) rfl (by omega) X4 e4).mono ?_; rintro e w' ⟨rfl, q, rfl⟩; exact ⟨rfl, hM.drewN q⟩
  have g8 : ∀ W L, Mem w W L → Calls Tryz.prog 106 #[.slice (some ⟨b, off + 8, none⟩) 4 4] W fun e w' => e = .returned (.int .u32 X8) ∧ Mem w w' L := fun W L hM => by
    refine (tlong_at (hM.row h) 8 (off + 8) rfl (by omega) X8 e8).mono ?_; rintro e w' ⟨rfl, q, rfl⟩; exact ⟨rfl, hM.drewN q⟩
  have g14 : ∀ W L, Mem w W L → Calls Tryz.prog 105 #[.slice (some ⟨b, off + 14, none⟩) 2 2] W fun e w' => e = .returned (.int .u16 X14) ∧ Mem w w' L := fun W L hM => by
    refine (tword_at (hM.row h) 14 (off + 14) rfl (by omega) X14 e14 2).mono ?_; rintro e w' ⟨rfl, q, rfl⟩; exact ⟨rfl, hM.drewN q⟩
  have g16 : ∀ W L, Mem w W L → Calls Tryz.prog 105 #[.slice (some ⟨b, off + 16, none⟩) 2 2] W fun e w' => e = .returned (.int .u16 X16) ∧ Mem w w' L := fun W L hM => by
    refine (tword_at (hM.row h) 16 (off + 16) rfl (by omega) X16 e16 2).mono ?_; rintro e w' ⟨rfl, q, rfl⟩; exact ⟨rfl, hM.drewN q⟩
  have g18 : ∀ W L, Mem w W L → Calls Tryz.prog 105 #[.slice (some ⟨b, off + 18, none⟩) 2 2] W fun e w' => e = .returned (.int .u16 X18) ∧ Mem w w' L := fun W L hM => by
    refine (tword_at (hM.row h) 18 (off + 18) rfl (by omega) X18 e18 2).mono ?_; rintro e w' ⟨rfl, q, rfl⟩; exact ⟨rfl, hM.drewN q⟩
  have lo : op.length = 0 := by rw [← eo]; simp; try omega
  have lb : bd.length = m := by rw [← eb]; simp; try omega
  have t1 : ∀ W L, Mem w W L → Calls Tryz.prog 107 #[.slice (some ⟨b, off, none⟩) 0 0] W fun e w' => e = .returned (.slice (some ⟨W.heap.size, 0, none⟩) 0 0) ∧ Mem w w' (L ++ [(W.heap.size, .cells (bs op) 5)]) := fun W L hM => by
    have hr := hM.row (h.part 0 0 (by omega))
    rw [show (l.drop 0).take 0 = op by rw [← eo]; simp] at hr
    refine (tfresh_any hr 0 0 lo).mono ?_; rintro e w' ⟨rfl, hK⟩; exact ⟨rfl, hM.join hK⟩
  have t2 : ∀ W L, Mem w W L → Calls Tryz.prog 107 #[.slice (some ⟨b, off + 20, none⟩) m m] W fun e w' => e = .returned (.slice (some ⟨W.heap.size, 0, none⟩) m m) ∧ Mem w w' (L ++ [(W.heap.size, .cells (bs bd) 5)]) := fun W L hM => by
    have hr := hM.row (h.part 20 m (by omega))
    rw [eb] at hr
    refine (tfresh_any hr m m lb).mono ?_; rintro e w' ⟨rfl, hK⟩; exact ⟨rfl, hM.join hK⟩
  have HP : Hid (op.length = 0 ∧ bd.length = m ∧ IsBytes op ∧ IsBytes bd ∧ 0 ≤ 40 ∧ m ≤ 140737488351232) := ⟨lo, lb, by rw [← eo]; exact bytes_part h.bytes _ _, by rw [← eb]; exact bytes_part h.bytes _ _, by omega, by omega⟩
  have n2 : (2 : Int) ≤ cap := by omega
  have n4 : (4 : Int) ≤ cap := by omega
  have n8 : (8 : Int) ≤ cap := by omega
  have n12 : (12 : Int) ≤ cap := by omega
  have n16 : (16 : Int) ≤ cap := by omega
  have n18 : (18 : Int) ≤ cap := by omega
  have n20 : (20 : Int) ≤ cap := by omega
  have i12 : (12 : Int) < n := by omega
  have i13 : (13 : Int) < n := by omega
  have i20 : (20 : Int) ≤ n := by omega
  have nn : (n : Int) ≤ cap := by omega
  have hnl : (n : Int) ≤ 140737488351232 := by omega
  have f2 : n - 20 = m := by omega
  have f4 : ¬ n = 20 := by omega
  have f6 : (20 : Int) < n := by omega
  have G0 : Hid _ := g0
  have G2 : Hid _ := g2
  have G4 : Hid _ := g4
  have G8 : Hid _ := g8
  have G14 : Hid _ := g14
  have G16 : Hid _ := g16
  have G18 : Hid _ := g18
  have T1 : Hid _ := t1
  have T2 : Hid _ := t2
  have nb : w.heap.size ≠ b := by omega
  have nb' : b ≠ w.heap.size := by omega
  clear g0 g2 g4 g8 g14 g16 g18 t1 t2 h hn hc hk hK hKn hm e0 e2 e4 e8 e13 e14 e16 e18 eo eb hln hx c12 r12 hM lo lb
  go_enter Tryz.func77, Tryz.ntmps77
  go_upto_region 3 with fail
  go_cut [4] from 5 (fun s4 wx => s4 = .int .i64 20 ∧ wx = w.alloc (.cells tc0 tcT))
  case first =>
    go_wp2_with fail
    go_meet
    case rel => exact ⟨by rw [← HK.out], rfl⟩
  case rest =>
  obtain ⟨rfl, rfl⟩ := hcut
  clear c12' hdv v1 v2 HK
  go_upto_region 8 with fail
  refine wp_letter (fun W => Mem w W [(w.heap.size, .cells tc0 tcT)]) HM0.out ?_
  intro w1 hM1
  have HM1 : Hid _ := hM1.drew
  have d13 : w1.cell? ⟨b, off + 13, none⟩ = some (.int .u8 X13) := (hM1.old hb).trans c13
  clear hM1 HM0
  go_region_held3 (fun w' => w'.cell? ⟨b, off + 13, none⟩ = some (.int .u8 X13))
    (first | go_keep | with_reducible exact (Mem.old (by with_reducible assumption) hb).trans c13)
    (first
      | (go_at_call 105; with_reducible refine (G0.out _ _ HM1.out).mono ?_; rintro e w2 ⟨rfl, hM2⟩)
      | (go_at_call 105; with_reducible refine (G2.out w2 _ hM2).mono ?_; rintro e w3 ⟨rfl, hM3⟩)
      | (go_at_call 106; with_reducible refine (G4.out w3 _ hM3).mono ?_; rintro e w4 ⟨rfl, hM4⟩)
      | (go_at_call 106; with_reducible refine (G8.out w4 _ hM4).mono ?_; rintro e w5 ⟨rfl, hM5⟩)
      | (go_at_call 105; with_reducible refine (G14.out w5 _ hM5).mono ?_; rintro e w6 ⟨rfl, hM6⟩)
      | (go_at_call 105; with_reducible refine (G16.out w6 _ hM6).mono ?_; rintro e w7 ⟨rfl, hM7⟩)
      | (go_at_call 105; with_reducible refine (G18.out w7 _ hM7).mono ?_; rintro e w8 ⟨rfl, hM8⟩)
      | (go_at_call 107; with_reducible refine (T1.out w8 _ hM8).mono ?_; rintro e w9 ⟨rfl, hM9⟩)
      | (go_at_call 107; with_reducible refine (T2.out w9 _ hM9).mono ?_; rintro e w10 ⟨rfl, hM10⟩; have kr : ∀ i, w10.cell? ⟨w.heap.size, i, none⟩ = tc0[i]? := hM10.cell 0 rfl; have kf : ∀ i, w10.frozen? ⟨w.heap.size, i, none⟩ = false := hM10.free 0 rfl))
  have HM10 : Hid (Mem w w10 [(w.heap.size, .cells tc0 tcT), (w8.heap.size, .cells (bs op) 5), (w9.heap.size, .cells (bs bd) 5)]) := hM10
  clear hM2 hM3 hM4 hM5 hM6 hM7 hM8 hM9 hM10 G0 G2 G4 G8 G14 G16 G18 T1 T2
  go_wp2_with fail
  refine bodyPost_ret (v := .tuple #[.agg (tcA X0 X2 X4 X8 X13 X14 X16 X18 (.slice (some ⟨w8.heap.size, 0, none⟩) 0 0) (.slice (some ⟨w9.heap.size, 0, none⟩) m m)), .int .i64 0]) (by simp [results, Tryz.results77, go_sem, kr]) rfl ⟨_, rfl, ?_, ?_⟩
  · obtain ⟨p1, p2, p3, p4, p5, p6⟩ := HP.out
    have z1 := HM10.out.ne 0 1 rfl rfl (by decide)
    have z2 := HM10.out.ne 0 2 rfl rfl (by decide)
    refine ⟨some ⟨w8.heap.size, 0, none⟩, 0, some ⟨w9.heap.size, 0, none⟩, m, ?_, ?_, ?_, fun e => (by cases e), fun e => (by cases e), fun x hx => (by cases hx; exact HM10.out.ge 1 rfl), fun x hx => (by cases hx; exact HM10.out.ge 2 rfl)⟩
    · simp only [p1, p2]
    · iterate 10 (refine Row.setCell ?_ z1 _)
      exact HM10.out.own 1 rfl p3 (by rw [p1]; omega)
    · iterate 10 (refine Row.setCell ?_ z2 _)
      exact HM10.out.own 2 rfl p4 (by rw [p2]; omega)
  · iterate 10 (refine below_set ?_ (Nat.le_refl _))
    exact HM10.out.below
end Go.Proofs.YtjalpbkfpjfigaaGreat

namespace Go.Proofs.YtjalpbkfpjfigaaGreat
open Go.RowKit
open Sm
set_option linter.unusedVariables false
set_option maxRecDepth 20000

set_option maxHeartbeats 400000 in
theorem xword_cells {w : World} {b j m : Nat} (x y : Int) (c0 : w.cell? ⟨b, j, none⟩ = some (.int .u8 x)) (c1 : w.cell? ⟨b, j + 1, none⟩ = some (.int .u8 y)) (r0 : 0 ≤ x) (r1 : x ≤ 255) (r2 : 0 ≤ y) (r3 : y ≤ 255) (hm : 2 ≤ m) (c : Nat) :
    Calls Tryz.prog 93 #[.slice (some ⟨b, j, none⟩) m c] w fun e w' => e = .returned (.int .u16 (x * 256 + y)) ∧ ∃ q, w' = w.drewN q := by
  have hor := sm_word x y r0 r1 r2 r3
  have w0 := wrap16_small x r0 (by omega)
  have w1 := wrap16_small y r2 (by omega)
  have w2 := wrap16_small (x * 256) (by omega) (by omega)
  have i0 : 0 < m := by omega
  have i0' : (0 : Int) < m := by omega
  have i1 : 1 < m := by omega
  have i1' : (1 : Int) < m := by omega
  clear hm
  go_enter Tryz.func93, Tryz.ntmps93
  go_wp2
  go_quiet (fail)
  go_wp2
  go_ret
  exact ⟨rfl, _, rfl⟩
theorem xword_at {w : World} {b off : Nat} {l : List Int} (h : Row w (some ⟨b, off, none⟩) l) (j k : Nat) (hk : k = off + j) (hj : j + 1 < l.length) (X : Int) (hX : w16 l j = X) (m : Nat) (hm : 2 ≤ m) (c : Nat) :
    Calls Tryz.prog 93 #[.slice (some ⟨b, k, none⟩) m c] w fun e w' => e = .returned (.int .u16 X) ∧ ∃ q, w' = w.drewN q := by
  subst hk hX
  have b0 := h.bytes j
  have b1 := h.bytes (j + 1)
  exact xword_cells _ _ (h.cellAt j (by omega)) (by rw [Nat.add_assoc]; exact h.cellAt (j + 1) hj) b0.1 b0.2 b1.1 b1.2 hm c

set_option maxHeartbeats 1000000 in
theorem xlong_at {w : World} {b off : Nat} {l : List Int} (h : Row w (some ⟨b, off, none⟩) l) (j k : Nat) (hk : k = off + j) (hj : j + 3 < l.length) (X : Int) (hX : w32 l j = X) (m : Nat) (hm : 4 ≤ m) (c : Nat) (hc : m ≤ c) :
    Calls Tryz.prog 121 #[.slice (some ⟨b, k, none⟩) m c] w fun e w' => e = .returned (.int .u32 X) ∧ ∃ q, w' = w.drewN q := by
  have ra := w16_range h.bytes j
  have rb := w16_range h.bytes (j + 2)
  have c1 := fun W M C (hW : Row W (some ⟨b, off, none⟩) l) (hM : 2 ≤ M) => xword_at hW j k hk (by omega) _ rfl M hM C
  have c2 := fun W M C (hW : Row W (some ⟨b, off, none⟩) l) (hM : 2 ≤ M) => xword_at hW (j + 2) (k + 2) (by omega) (by omega) _ rfl M hM C
  have hor := sm_long _ _ ra.1 ra.2 rb.1 rb.2
  have w0 := wrap32_small (w16 l j) (by omega) (by omega)
  have w1 := wrap32_small (w16 l (j + 2)) (by omega) (by omega)
  have w2 := wrap32_small (w16 l j * 65536) (by omega) (by omega)
  have HE : Hid (w16 l j * 65536 + w16 l (j + 2) = X) := hX
  have hm2 : (2 : Int) ≤ m := by omega
  have hc2 : (2 : Int) ≤ c := by omega
  have hmc : (m : Int) ≤ c := by omega
  have hnc : ¬ c = 2 := by omega
  have HM : Hid (2 ≤ m ∧ 2 ≤ m - 2) := ⟨by omega, by omega⟩
  generalize w16 l j = X1 at *
  generalize w16 l (j + 2) = X2 at *
  have C1 : Hid _ := c1
  have C2 : Hid _ := c2
  clear c1 c2 hX ra rb hk hj hm hc
  go_enter Tryz.func121, Tryz.ntmps121
  go_wp2_with fail
  go_region_held3 (fun w' => Row w' (some ⟨b, off, none⟩) l) (repeat (first | assumption | refine row_drewN ?_ | refine row_drew ?_))
    (first
      | (go_at_call 93; with_reducible refine (C1.out _ _ _ (by assumption) HM.out.1).mono ?_; rintro e w5 ⟨rfl, q5, rfl⟩)
      | (go_at_call 93; with_reducible refine (C2.out _ _ _ (by assumption) HM.out.2).mono ?_; rintro e w6 ⟨rfl, q6, rfl⟩))
  all_goals
    go_wp2_with fail
    go_ret
    exact ⟨by rw [← HE.out] <;> rfl, _, rfl⟩

set_option maxHeartbeats 1000000 in
theorem xput_ok {W : World} {g j m : Nat} (z0 z1 : Int) (k0 : W.cell? ⟨g, j, none⟩ = some (.int .u8 z0)) (k1 : W.cell? ⟨g, j + 1, none⟩ = some (.int .u8 z1)) (kf : ∀ i, W.frozen? ⟨g, i, none⟩ = false) (hm : 2 ≤ m) (c : Nat) (x : Int) (r0 : 0 ≤ x) (r1 : x ≤ 65535) :
    Calls Tryz.prog 95 #[.slice (some ⟨g, j, none⟩) m c, .int .u16 x] W fun e w' => e = .returned (.tuple #[]) ∧ w' = (W.setCell ⟨g, j, none⟩ (.int .u8 (x / 256))).setCell ⟨g, j + 1, none⟩ (.int .u8 (x % 256)) := by
  have u1 : IntKind.u8.wrap (x / 256) = x / 256 := wrap8_small _ (by omega) (by omega)
  have u2 : IntKind.u8.wrap x = x % 256 := by simp [IntKind.wrap, IntKind.bits, IntKind.signed]
  have i0 : 0 < m := by omega
  have i0' : (0 : Int) < m := by omega
  have i1 : 1 < m := by omega
  have i1' : (1 : Int) < m := by omega
  clear hm
  go_enter Tryz.func95, Tryz.ntmps95
  go_wp2
  go_end0
  exact ⟨rfl, rfl⟩

set_option maxHeartbeats 400000 in
theorem xhead_any {w : World} {b off n c : Nat} {l : List Int} (h : Row w (some ⟨b, off, none⟩) l) (hn : l.length = n) (h1 : 0 < n) :
    Calls Tryz.prog 96 #[.slice (some ⟨b, off, none⟩) n c] w fun e w' => e = .returned (.int .i64 (hdl l : Nat)) ∧ w = w' := by
  have c0 : w.cell? ⟨b, off, none⟩ = some (.int .u8 (l.getD 0 0)) := h.cellAt 0 (by omega)
  have r := h.bytes 0
  have hand := sm_low4 (l.getD 0 0) r.1 r.2
  have HE : Hid (4 * (l.getD 0 0 % 16) = ((hdl l : Nat) : Int)) := by show _ = _; unfold hdl; omega
  have v3 := wrap64_small (l.getD 0 0 % 16) (by omega) (by omega)
  have v4 := wrap64_small (4 * (l.getD 0 0 % 16)) (by omega) (by omega)
  have i0' : (0 : Int) < n := by omega
  generalize ((hdl l : Nat) : Int) = H at *
  generalize l.getD 0 0 = x at *
  clear h hn
  go_enter Tryz.func96, Tryz.ntmps96
  go_wp2
  go_ret
  exact ⟨by rw [← HE.out] <;> rfl, rfl⟩

set_option maxHeartbeats 400000 in
theorem xecho_any {w : World} {b off n c : Nat} {l : List Int} (h : Row w (some ⟨b, off, none⟩) l) (hn : l.length = n) (h1 : 20 ≤ n) :
    Calls Tryz.prog 71 #[.slice (some ⟨b, off, none⟩) n c] w fun e w' => e = .returned (.bool (decide (l.getD 9 0 = 1))) ∧ w = w' := by
  have c0 : w.cell? ⟨b, off + 9, none⟩ = some (.int .u8 (l.getD 9 0)) := h.cellAt 9 (by omega)
  have i0' : (9 : Int) < n := by omega
  have i0 : 9 < n := by omega
  generalize l.getD 9 0 = x at *
  clear h hn h1
  go_enter Tryz.func71, Tryz.ntmps71
  go_wp2
  go_ret
  exact ⟨by simp <;> rfl, rfl⟩
end Go.Proofs.YtjalpbkfpjfigaaGreat

