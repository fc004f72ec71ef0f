/-
  Settings held against one another: lychhelp.Tenants, Config and Changes, where both are the same.
  Settings as bytes: the document's settings: numbers.
-/
import Derived.Test.YtneciccdiledfaaGreatDoorM32
import Derived.Test.YtneciccdiledfaaGreatDoorM29
import Derived.Test.YtneciccdiledfaaGreatDoorM30
namespace Go.Proofs.YtneciccdiledfaaGreatDoor
open Go.RowKit
open Sm
open Cf
set_option linter.unusedVariables false
set_option linter.unusedSimpArgs false
set_option maxRecDepth 20000

/-- A tenant's lists are not too long. -/
def TFew (t : Ten) : Prop := t.pool.length ≤ 1000000 ∧ t.stat.length ≤ 1000000 ∧ t.twi.length ≤ 1000000
theorem htenant_yes {w : World} {va vb : Value} {t z : Ten} (ha : TV w va t) (hb : TV w vb z) (hf : TFew t) (h : TSame t z) :
    Calls Tryz.prog 57 #[va, vb] w fun e w' => e = .returned (.bool true) ∧ Below w.heap.size w w' := by
  have := htenant_any ha hb hf.1 hf.2.1 hf.2.2
  rwa [decide_eq_true h] at this
set_option maxHeartbeats 8000000 in
theorem htenants_yes {w : World} {va vb : Value} {ls ms : List Ten} (ha : TSV w va ls) (hb : TSV w vb ms) (hf : ∀ t ∈ ls, TFew t) (h : TSames ls ms) :
    Calls Tryz.prog 30 #[va, vb] w fun e w' => e = .returned (.bool true) ∧ Below w.heap.size w w' := by
  obtain ⟨sa, sc, rfl, hlc, hcb, hx⟩ := ha.parts
  obtain ⟨ta, tc', rfl, hlc', hcb', hy⟩ := hb.parts
  have hfi : ∀ i, i < ls.length → TFew (ls.getD i ten0) := fun i hi => by
    rw [List.getD_eq_getElem?_getD, List.getElem?_eq_getElem hi, Option.getD_some]
    exact hf _ (List.getElem_mem _)
  obtain ⟨hll, hs⟩ := h
  rw [← hll] at hy hlc' ⊢
  have HX : Hid (∀ i, i < ls.length → ∃ b off x b' off' y, sa = some ⟨b, off, none⟩ ∧ ta = some ⟨b', off', none⟩ ∧ x.length = 33 ∧ y.length = 33 ∧ ∀ V, Below w.heap.size w V → (V.rangeAt b (off + i * 33) x ∧ V.rangeAt b' (off' + i * 33) y) ∧ Calls Tryz.prog 57 #[.agg x.toArray, .agg y.toArray] V fun e V' => e = .returned (.bool true) ∧ Below V.heap.size V V') := by
    intro i hi
    obtain ⟨b, off, x, e1, e2, -, e3⟩ := hx i hi
    obtain ⟨b', off', y, f1, f2, -, f3⟩ := hy i hi
    exact ⟨b, off, x, b', off', y, e1, f1, e2, f2, fun V hV => ⟨⟨(e3 V hV).1, (f3 V hV).1⟩, htenant_yes (e3 V hV).2 (f3 V hV).2 (hfi i hi) (hs i hi)⟩⟩
  have HB : Hid (Below w.heap.size w w) := Below.refl _ _
  clear ha hb hx hy hf hfi hs hll
  generalize ls.length = N at *
  go_enter Tryz.func30, Tryz.ntmps30
  go_wp2_with fail
  go_loopw [5] (fun u5 w' => ∃ i : Nat, i ≤ N ∧ u5 = .int .i64 i ∧ Hid (Below w.heap.size w w')) (fun u5 w' => N - (intOf u5).toNat)
  case atStart => exact ⟨0, Nat.zero_le _, rfl, HB⟩
  case round =>
    obtain ⟨i, hi, rfl, HR⟩ := hrel
    clear HB
    by_cases hlt : i < N
    · have h1 : (i : Int) < N := by omega
      obtain ⟨b, off, x, b', off', y, rfl, rfl, hs1, hs2, hV⟩ := HX.out i hlt
      have i1 : (Tryz.prog.info? 45).map (·.size) = some x.length := by rw [hs1]; kernel_rfl
      have i2 : (Tryz.prog.info? 45).map (·.size) = some y.length := by rw [hs2]; kernel_rfl
      have hd : Below w.heap.size w wr.drew := HR.out.drew
      obtain ⟨rr, CT⟩ := hV _ hd
      have HV' : Hid (∀ V, Below w.heap.size w V → V.rangeAt b (off + i * 33) x ∧ V.rangeAt b' (off' + i * 33) y) := fun V h => (hV V h).1
      have HD : Hid (Below w.heap.size w wr.drew) := hd
      clear hV hd hs1 hs2 HR
      go_upto_region 6 with fail
      refine wp_region_held_drew (S := fun V => V.rangeAt b (off + i * 33) x ∧ V.rangeAt b' (off' + i * 33) y) (by kernel_rfl) rr (fun hHeld => ?_)
      refine wpAnyH_take (i := 0) (v := ?_) rfl (by kernel_rfl) (by kernel_rfl) (by kernel_rfl) (fun _ _ _ h => h) (Or.inl ⟨by rfl, ?qy0⟩) (by assumption) ?qr0
      case qy0 =>
        intro w hSw
        (try dsimp only at hSw)
        go_simp
        all_goals with_reducible rfl
      try simp only [List.getElem_toArray, List.getElem_cons_zero, List.getElem_cons_succ, Act.put, List.setIfInBounds_toArray, List.set_cons_zero, List.set_cons_succ]
      refine wpAnyH_take (i := 1) (v := ?_) rfl (by kernel_rfl) (by kernel_rfl) (by kernel_rfl) (fun _ _ _ h => h) (Or.inl ⟨by rfl, ?qy1⟩) (by assumption) ?qr1
      case qy1 =>
        intro w hSw
        (try dsimp only at hSw)
        go_simp
        all_goals with_reducible rfl
      try simp only [List.getElem_toArray, List.getElem_cons_zero, List.getElem_cons_succ, Act.put, List.setIfInBounds_toArray, List.set_cons_zero, List.set_cons_succ]
      refine wpAnyH_take (i := 2) (v := ?_) rfl (by kernel_rfl) (by kernel_rfl) (by kernel_rfl) (fun _ _ _ h => h) (Or.inl ⟨by rfl, ?qy2⟩) (by assumption) ?qr2
      case qy2 =>
        intro w hSw
        (try dsimp only at hSw)
        go_simp
        all_goals with_reducible rfl
      try simp only [List.getElem_toArray, List.getElem_cons_zero, List.getElem_cons_succ, Act.put, List.setIfInBounds_toArray, List.set_cons_zero, List.set_cons_succ]
      refine wpAnyH_take (i := 3) (v := _) rfl (by kernel_rfl) (by kernel_rfl) (by kernel_rfl) (fun _ _ _ h => h) (yieldsIf_load_mid (by rfl) _ _ rfl _ _ rfl _ _ ?qs3 Tryz.underlying45 rfl i1) (by assumption) ?qr3
      case qs3 =>
        intro w hSw
        (try dsimp only at hSw)
        go_split_ands
        assumption
      try simp only [List.getElem_toArray, List.getElem_cons_zero, List.getElem_cons_succ, Act.put, List.setIfInBounds_toArray, List.set_cons_zero, List.set_cons_succ]
      refine wpAnyH_take (i := 4) (v := ?_) rfl (by kernel_rfl) (by kernel_rfl) (by kernel_rfl) (fun _ _ _ h => h) (Or.inl ⟨by rfl, ?qy4⟩) (by assumption) ?qr4
      case qy4 =>
        intro w hSw
        (try dsimp only at hSw)
        go_simp
        all_goals with_reducible rfl
      try simp only [List.getElem_toArray, List.getElem_cons_zero, List.getElem_cons_succ, Act.put, List.setIfInBounds_toArray, List.set_cons_zero, List.set_cons_succ]
      refine wpAnyH_take (i := 5) (v := ?_) rfl (by kernel_rfl) (by kernel_rfl) (by kernel_rfl) (fun _ _ _ h => h) (Or.inl ⟨by rfl, ?qy5⟩) (by assumption) ?qr5
      case qy5 =>
        intro w hSw
        (try dsimp only at hSw)
        go_simp
        all_goals with_reducible rfl
      try simp only [List.getElem_toArray, List.getElem_cons_zero, List.getElem_cons_succ, Act.put, List.setIfInBounds_toArray, List.set_cons_zero, List.set_cons_succ]
      refine wpAnyH_take (i := 6) (v := ?_) rfl (by kernel_rfl) (by kernel_rfl) (by kernel_rfl) (fun _ _ _ h => h) (Or.inl ⟨by rfl, ?qy6⟩) (by assumption) ?qr6
      case qy6 =>
        intro w hSw
        (try dsimp only at hSw)
        go_simp
        all_goals with_reducible rfl
      try simp only [List.getElem_toArray, List.getElem_cons_zero, List.getElem_cons_succ, Act.put, List.setIfInBounds_toArray, List.set_cons_zero, List.set_cons_succ]
      refine wpAnyH_take (i := 7) (v := _) rfl (by kernel_rfl) (by kernel_rfl) (by kernel_rfl) (fun _ _ _ h => h) (yieldsIf_load_mid (by rfl) _ _ rfl _ _ rfl _ _ ?qs7 Tryz.underlying45 rfl i2) (by assumption) ?qr7
      case qs7 =>
        intro w hSw
        (try dsimp only at hSw)
        go_split_ands
        assumption
      try simp only [List.getElem_toArray, List.getElem_cons_zero, List.getElem_cons_succ, Act.put, List.setIfInBounds_toArray, List.set_cons_zero, List.set_cons_succ]
      refine wpAnyH_ready (rs := [8]) (by kernel_rfl) (by simp) ?_
      refine AllReadyH.cons rfl (fun K hK => ?_) AllReadyH.nil
      go_simp
      with_reducible refine (CT).mono ?_
      rintro e W1 ⟨rfl, hb1⟩
      have hb1b := HD.out.trans (hb1.mono HD.out.size)
      try go_wp2_with fail
      refine hK.out _ _ (HV'.out _ hb1b) (fun hHeld => ?_)
      clear hK K
      try simp only [List.getElem_toArray, List.getElem_cons_zero, List.getElem_cons_succ, Act.put, List.setIfInBounds_toArray, List.set_cons_zero, List.set_cons_succ]
      refine wpAnyH_take (i := 9) (v := ?_) rfl (by kernel_rfl) (by kernel_rfl) (by kernel_rfl) (fun _ _ _ h => h) (Or.inl ⟨by rfl, ?qy9⟩) (by assumption) ?qr9
      case qy9 =>
        intro w hSw
        (try dsimp only at hSw)
        go_simp
        all_goals with_reducible rfl
      try simp only [List.getElem_toArray, List.getElem_cons_zero, List.getElem_cons_succ, Act.put, List.setIfInBounds_toArray, List.set_cons_zero, List.set_cons_succ]
      refine wpAnyH_done (by kernel_rfl) ?_ _
      have HB1 : Hid (Below w.heap.size w W1) := hb1b
      clear hb1 hb1b CT
      go_wp2_with fail
      go_roundw
      case rel => exact ⟨i + 1, by omega, by go_num, HB1⟩
      case measure => simp [intOf]; omega
    · have h1 : ¬ ((i : Int) < N) := by omega
      obtain rfl : i = N := by omega
      go_wp2_with fail
      go_ret
      exact ⟨rfl, HR.out⟩
theorem TSV.slice {w : World} {v : Value} {ts : List Ten} (h : TSV w v ts) : ∃ a n c, v = .slice a n c := by
  obtain ⟨zs, -, ⟨a, c, e, -⟩, -⟩ := h
  exact ⟨a, _, c, e⟩
set_option maxHeartbeats 8000000 in
theorem hconfig_yes {w : World} {va vb : Value} {a b : Cgf} (ha : CV w va a) (hb : CV w vb b) (hf : ∀ t ∈ a.ten, TFew t) (h : CSame a b) :
    Calls Tryz.prog 13 #[va, vb] w fun e w' => e = .returned (.bool true) ∧ Below w.heap.size w w' := by
  obtain ⟨hl, u, rfl, hT⟩ := ha
  obtain ⟨hl', u', rfl, hT'⟩ := hb
  obtain ⟨ip, mac, om, nmac, key, dr, te⟩ := a
  obtain ⟨ip', mac', om', nmac', key', dr', te'⟩ := b
  obtain ⟨rfl, rfl, rfl, rfl, rfl, rfl, hts⟩ := h
  simp only at hT hT' hf hts
  obtain ⟨h1, h2, h3, h4⟩ := hl
  obtain ⟨a, b, c, d, f, g, rfl⟩ := six6 h1
  obtain ⟨a1, b1, c1, d1, f1, g1, rfl⟩ := six6 h2
  obtain ⟨a2, b2, c2, d2, f2, g2, rfl⟩ := six6 h3
  obtain ⟨k1, k2, k3, k4, k5, k6, k7, k8, rfl⟩ := eight8 h4
  obtain ⟨sa, sn, sc, rfl⟩ := hT.slice
  obtain ⟨ta, tn, tc', rfl⟩ := hT'.slice
  have CT : Hid (∀ V, Below w.heap.size w V → Calls Tryz.prog 30 #[.slice sa sn sc, .slice ta tn tc'] V fun e V' => e = .returned (.bool true) ∧ Below V.heap.size V V') := fun V hV => htenants_yes (hT.at_ hV (Nat.le_refl _)) (hT'.at_ hV (Nat.le_refl _)) hf hts
  have e1 : ∀ V, (Op.equalIn 10000 25 (.agg #[.int .u8 a, .int .u8 b, .int .u8 c, .int .u8 d, .int .u8 f, .int .u8 g]) (.agg #[.int .u8 a, .int .u8 b, .int .u8 c, .int .u8 d, .int .u8 f, .int .u8 g])).run Tryz.prog V = .ok true V := fun V => by rw [mac_eq6]; rw [decide_eq_true rfl]
  have e2 : ∀ V, (Op.equalIn 10000 25 (.agg #[.int .u8 a1, .int .u8 b1, .int .u8 c1, .int .u8 d1, .int .u8 f1, .int .u8 g1]) (.agg #[.int .u8 a1, .int .u8 b1, .int .u8 c1, .int .u8 d1, .int .u8 f1, .int .u8 g1])).run Tryz.prog V = .ok true V := fun V => by rw [mac_eq6]; rw [decide_eq_true rfl]
  have e3 : ∀ V, (Op.equalIn 10000 25 (.agg #[.int .u8 a2, .int .u8 b2, .int .u8 c2, .int .u8 d2, .int .u8 f2, .int .u8 g2]) (.agg #[.int .u8 a2, .int .u8 b2, .int .u8 c2, .int .u8 d2, .int .u8 f2, .int .u8 g2])).run Tryz.prog V = .ok true V := fun V => by rw [mac_eq6]; rw [decide_eq_true rfl]
  have e4 : ∀ V, (Op.equalIn 10000 26 (.agg #[.int .u8 k1, .int .u8 k2, .int .u8 k3, .int .u8 k4, .int .u8 k5, .int .u8 k6, .int .u8 k7, .int .u8 k8]) (.agg #[.int .u8 k1, .int .u8 k2, .int .u8 k3, .int .u8 k4, .int .u8 k5, .int .u8 k6, .int .u8 k7, .int .u8 k8])).run Tryz.prog V = .ok true V := fun V => by rw [key_eq]; rw [decide_eq_true rfl]
  have HB : Hid (∀ o1 o2, Below w.heap.size w ((w.alloc o1).alloc o2)) := fun o1 o2 => ((Below.refl _ _).alloc (Nat.le_refl _) _).alloc (by simp) _
  simp only [cc, List.map_cons, List.map_nil, List.cons_append, List.nil_append]
  clear hT hT' hf hts h1 h2 h3 h4 hl'
  go_enter Tryz.func13, Tryz.ntmps13
  go_wp2_with fail
  refine (CT.out _ (HB.out _ _)).mono ?_
  rintro e V ⟨rfl, hb⟩
  have HB2 : Hid (Below w.heap.size w V) := (HB.out _ _).trans (hb.mono (HB.out _ _).size)
  clear hb
  go_wp2_with fail
  go_ret
  exact ⟨rfl, HB2.out⟩
end Go.Proofs.YtneciccdiledfaaGreatDoor

namespace Go.Proofs.YtneciccdiledfaaGreatDoor
open Go.RowKit
open Sm
open Cf
set_option linter.unusedVariables false
set_option linter.unusedSimpArgs false
set_option maxRecDepth 20000

def c1 (σ : Option (List Int)) := nx 4 σ
def c2 (σ : Option (List Int)) := nx 6 (c1 σ)
def c3 (σ : Option (List Int)) := nx 6 (c2 σ)
def c4 (σ : Option (List Int)) := nx 6 (c3 σ)
def c5 (σ : Option (List Int)) := nx 8 (c4 σ)
def c6 (σ : Option (List Int)) := nx 4 (c5 σ)
def c7 (σ : Option (List Int)) := nx 1 (c6 σ)
/-- Settings, and what is left. -/
def rc (σ : Option (List Int)) : Cgf × Option (List Int) :=
  (⟨num (tk 4 σ), tk 6 (c1 σ), tk 6 (c2 σ), tk 6 (c3 σ), tk 8 (c4 σ), num (tk 4 (c5 σ)), (trs (num (tk 1 (c6 σ))).toNat (c7 σ)).1⟩, (trs (num (tk 1 (c6 σ))).toNat (c7 σ)).2)
theorem nx_none (n : Nat) : nx n none = none := rfl
theorem rc_dead {σ : Option (List Int)} (h : c7 σ = none) : (rc σ).2 = none := by simp only [rc, h, trs_none]
theorem cdec_rc (l0 : List Int) : (spC.dec l0 cfg0 = none ∧ (rc (some l0)).2 = none) ∨ ∃ x r, spC.dec l0 cfg0 = some (x, r) ∧ (rc (some l0)).2 = some r ∧ (rc (some l0)).1 = x := by
  have T : spC.dec l0 cfg0 = sq (fun i => (csp.getD i sp0).dec) 0 8 l0 cfg0 := rfl
  rw [T]
  rcases num_step 4 l0 with ⟨h1, h2⟩ | ⟨h1, h2, h3⟩
  · refine Or.inl ⟨sq_none (by show (if l0.length < 4 then none else _) = none; rw [if_pos h1]), rc_dead ?_⟩
    simp only [c7, c6, c5, c4, c3, c2, c1, h2, nx_none]
  obtain ⟨x1, hx1⟩ : ∃ x, { cfg0 with ip := num (l0.take 4) } = x := ⟨_, rfl⟩
  obtain ⟨l1, hl1⟩ : ∃ r, l0.drop 4 = r := ⟨_, rfl⟩
  rw [sq_some (x' := x1) (l' := l1) (by show (if l0.length < 4 then none else _) = _; rw [if_neg h1, ← hx1, ← hl1])]
  have g0 : nx 4 (some l0) = some l1 := by rw [h3, hl1]
  have k0 : tk 4 (some l0) = l0.take 4 := h2
  clear h1 h2 h3
  rcases num_step 6 l1 with ⟨h1, h2⟩ | ⟨h1, h2, h3⟩
  · refine Or.inl ⟨sq_none (by show (if l1.length < 6 then none else _) = none; rw [if_pos h1]), rc_dead ?_⟩
    simp only [c7, c6, c5, c4, c3, c2, c1, g0, h2, nx_none]
  obtain ⟨x2, hx2⟩ : ∃ x, { x1 with mac := l1.take 6 } = x := ⟨_, rfl⟩
  obtain ⟨l2, hl2⟩ : ∃ r, l1.drop 6 = r := ⟨_, rfl⟩
  rw [sq_some (x' := x2) (l' := l2) (by show (if l1.length < 6 then none else _) = _; rw [if_neg h1, ← hx2, ← hl2])]
  have g1 : nx 6 (some l1) = some l2 := by rw [h3, hl2]
  have k1 : tk 6 (some l1) = l1.take 6 := h2
  clear h1 h2 h3
  rcases num_step 6 l2 with ⟨h1, h2⟩ | ⟨h1, h2, h3⟩
  · refine Or.inl ⟨sq_none (by show (if l2.length < 6 then none else _) = none; rw [if_pos h1]), rc_dead ?_⟩
    simp only [c7, c6, c5, c4, c3, c2, c1, g0, g1, h2, nx_none]
  obtain ⟨x3, hx3⟩ : ∃ x, { x2 with omac := l2.take 6 } = x := ⟨_, rfl⟩
  obtain ⟨l3, hl3⟩ : ∃ r, l2.drop 6 = r := ⟨_, rfl⟩
  rw [sq_some (x' := x3) (l' := l3) (by show (if l2.length < 6 then none else _) = _; rw [if_neg h1, ← hx3, ← hl3])]
  have g2 : nx 6 (some l2) = some l3 := by rw [h3, hl3]
  have k2 : tk 6 (some l2) = l2.take 6 := h2
  clear h1 h2 h3
  rcases num_step 6 l3 with ⟨h1, h2⟩ | ⟨h1, h2, h3⟩
  · refine Or.inl ⟨sq_none (by show (if l3.length < 6 then none else _) = none; rw [if_pos h1]), rc_dead ?_⟩
    simp only [c7, c6, c5, c4, c3, c2, c1, g0, g1, g2, h2, nx_none]
  obtain ⟨x4, hx4⟩ : ∃ x, { x3 with nmac := l3.take 6 } = x := ⟨_, rfl⟩
  obtain ⟨l4, hl4⟩ : ∃ r, l3.drop 6 = r := ⟨_, rfl⟩
  rw [sq_some (x' := x4) (l' := l4) (by show (if l3.length < 6 then none else _) = _; rw [if_neg h1, ← hx4, ← hl4])]
  have g3 : nx 6 (some l3) = some l4 := by rw [h3, hl4]
  have k3 : tk 6 (some l3) = l3.take 6 := h2
  clear h1 h2 h3
  rcases num_step 8 l4 with ⟨h1, h2⟩ | ⟨h1, h2, h3⟩
  · refine Or.inl ⟨sq_none (by show (if l4.length < 8 then none else _) = none; rw [if_pos h1]), rc_dead ?_⟩
    simp only [c7, c6, c5, c4, c3, c2, c1, g0, g1, g2, g3, h2, nx_none]
  obtain ⟨x5, hx5⟩ : ∃ x, { x4 with key := l4.take 8 } = x := ⟨_, rfl⟩
  obtain ⟨l5, hl5⟩ : ∃ r, l4.drop 8 = r := ⟨_, rfl⟩
  rw [sq_some (x' := x5) (l' := l5) (by show (if l4.length < 8 then none else _) = _; rw [if_neg h1, ← hx5, ← hl5])]
  have g4 : nx 8 (some l4) = some l5 := by rw [h3, hl5]
  have k4 : tk 8 (some l4) = l4.take 8 := h2
  clear h1 h2 h3
  rcases num_step 4 l5 with ⟨h1, h2⟩ | ⟨h1, h2, h3⟩
  · refine Or.inl ⟨sq_none (by show (if l5.length < 4 then none else _) = none; rw [if_pos h1]), rc_dead ?_⟩
    simp only [c7, c6, c5, c4, c3, c2, c1, g0, g1, g2, g3, g4, h2, nx_none]
  obtain ⟨x6, hx6⟩ : ∃ x, { x5 with drain := num (l5.take 4) } = x := ⟨_, rfl⟩
  obtain ⟨l6, hl6⟩ : ∃ r, l5.drop 4 = r := ⟨_, rfl⟩
  rw [sq_some (x' := x6) (l' := l6) (by show (if l5.length < 4 then none else _) = _; rw [if_neg h1, ← hx6, ← hl6])]
  have g5 : nx 4 (some l5) = some l6 := by rw [h3, hl6]
  have k5 : tk 4 (some l5) = l5.take 4 := h2
  clear h1 h2 h3
  rcases cnt_step l6 with ⟨h1, h2⟩ | ⟨b, r, h1, h2, h3⟩
  · refine Or.inl ⟨sq_none (by rw [h1]; rfl), rc_dead ?_⟩
    simp only [c7, c6, c5, c4, c3, c2, c1, g0, g1, g2, g3, g4, g5, h2]
  obtain ⟨x7, hx7⟩ : ∃ x, set_ten x6 b.toNat = x := ⟨_, rfl⟩
  rw [sq_some (x' := x7) (l' := r) (by rw [h1, ← hx7]; rfl)]
  have t6 : x6.ten = [] := by rw [← hx6, ← hx5, ← hx4, ← hx3, ← hx2, ← hx1]; rfl
  rw [set_ten_eq x6 _ t6] at hx7
  have ht : x7.ten = List.replicate b.toNat ten0 := by rw [← hx7]
  have e7 : c7 (some l0) = some r := by simp only [c7, c6, c5, c4, c3, c2, c1, g0, g1, g2, g3, g4, g5, h3]
  have e6 : c6 (some l0) = some l6 := by simp only [c6, c5, c4, c3, c2, c1, g0, g1, g2, g3, g4, g5]
  have TT : (csp.getD 7 sp0).dec r x7 = (sq (itd ten0 spT) 0 x7.ten.length r x7.ten).map (fun q => ({ x7 with ten := q.1 }, q.2)) := rfl
  rw [ht, List.length_replicate] at TT
  rcases trs_dec b.toNat 0 r (List.replicate b.toNat ten0) (by rw [List.length_replicate]; omega) (fun j _ => by
    rw [List.getD_eq_getElem?_getD, List.getElem?_replicate]; split <;> rfl) with ⟨d1, d2⟩ | ⟨r', d1, d2⟩
  · refine Or.inl ⟨sq_none (by rw [TT, d1]; rfl), ?_⟩
    simp only [rc, e7, e6, h2]
    exact d2
  · rw [d1] at TT
    rw [sq_some (x' := { x7 with ten := (trs b.toNat (some r)).1 }) (l' := r') TT]
    refine Or.inr ⟨_, r', rfl, ?_, ?_⟩
    · simp only [rc, e7, e6, h2]; exact d2
    · simp only [rc, e7, e6, h2, c5, c4, c3, c2, c1, g0, g1, g2, g3, g4, k0, k1, k2, k3, k4, k5, ← hx7, ← hx6, ← hx5, ← hx4, ← hx3, ← hx2, ← hx1]
end Go.Proofs.YtneciccdiledfaaGreatDoor

