/-
  Which settings may be: the document's own error of a tenant.
  Which settings may be: settings in a box; the gateway's rules.
  Settings as text: the program's reader: the first line.
-/
import Derived.Test.YtnddbklbgddblaaDoorPb37
import Derived.Test.YtnddbklbgddblaaDoorPb38
import Derived.Test.YtnddbklbgddblaaDoorPb05
namespace Go.Proofs.YtnddbklbgddblaaDoor
open Go.RowKit
open Va
open Ad (nam)
set_option linter.unusedVariables false
set_option linter.unusedSimpArgs false
set_option maxRecDepth 20000

theorem st_no {t : Ten} {k : Nat} {e : Int} {B : Bool} {R : Int} (hd : (Va.trs t).drop k = ul e B :: (Va.trs t).drop (k + 1)) (he : e ≠ 0) (h : fnz ((Va.trs t).drop k) = R) (hB : B = false) : R = e := by
  rw [hd, hB, fnz_no (by rw [ul]; simpa using he)] at h
  rw [← h]; rfl
theorem st_yes {t : Ten} {k : Nat} {e : Int} {B : Bool} {R : Int} (hd : (Va.trs t).drop k = ul e B :: (Va.trs t).drop (k + 1)) (h : fnz ((Va.trs t).drop k) = R) (hB : B = true) : fnz ((Va.trs t).drop (k + 1)) = R := by
  rw [hd, hB, fnz_yes (show ul e true = 0 from rfl)] at h
  exact h
theorem quiet_sm {P : Program} {f : FuncId} {args : Array Value} {w : World} {n : Nat} {v : Value} (h : Calls P f args (w.drewN n) fun e w' => e = .returned v ∧ w.drewN n = w') : Calls P f args (w.drewN n) fun e w'' => e = .returned v ∧ ∃ m, w'' = w.drewN m :=
  h.mono fun e w'' hh => ⟨hh.1, n, hh.2.symm⟩
/-- What a world that holds the tenant's box tells. -/
structure TC (X : World) (g : Nat) (t : Ten) (pa sa qa : Option Addr) (pc sc qc : Nat) : Prop where
  name : X.cell? ⟨g, 0, none⟩ = some (.string t.name)
  vni : X.cell? ⟨g, 1, none⟩ = some (.int .u32 t.vni)
  vtep : X.cell? ⟨g, 10, none⟩ = some (.int .u32 t.vtep)
  pool : X.cell? ⟨g, 23, none⟩ = some (.slice pa t.pool.length pc)
  lo : X.cell? ⟨g, 24, none⟩ = some (.int .u16 t.lo)
  hi : X.cell? ⟨g, 25, none⟩ = some (.int .u16 t.hi)
  filter : X.cell? ⟨g, 26, none⟩ = some (.int .i64 t.filter)
  stat : X.cell? ⟨g, 27, none⟩ = some (.slice sa t.stat.length sc)
  twi : X.cell? ⟨g, 28, none⟩ = some (.slice qa t.twi.length qc)
  sess : X.cell? ⟨g, 29, none⟩ = some (.int .i64 t.sess)
  queue : X.cell? ⟨g, 30, none⟩ = some (.int .i64 t.queue)
  rate : X.cell? ⟨g, 31, none⟩ = some (.int .u32 t.rate)
  burst : X.cell? ⟨g, 32, none⟩ = some (.int .u32 t.burst)
theorem TBx.tc {X : World} {g : Nat} {t : Ten} {tl : List Value} {pa sa qa : Option Addr} {pc sc qc : Nat} (h : TBx X tl t pa sa qa pc sc qc) (hg : X.heap[g]? = some (.cells tl.toArray 39 (0, 0))) : TC X g t pa sa qa pc sc qc :=
  ⟨cell_tl hg h.name, cell_tl hg h.vni, cell_tl hg h.vtep, cell_tl hg h.pool, cell_tl hg h.lo, cell_tl hg h.hi, cell_tl hg h.filter, cell_tl hg h.stat, cell_tl hg h.twi, cell_tl hg h.sess, cell_tl hg h.queue, cell_tl hg h.rate, cell_tl hg h.burst⟩
set_option maxHeartbeats 32000000 in
theorem rtenant14_any {W : World} {v : Value} {t : Ten} (hv : Vs W) (h : TV W v t) (hm : TSm t) (h0 : 0 ≤ t.vni) : Calls Tryd.prog 14 #[v] W fun e V => e = .returned (.int .i64 (tchk t)) ∧ Below W.heap.size W V := by
  obtain ⟨tl, pa, sa, qa, pc, sc, qc, rfl, hx⟩ := h.tb
  obtain ⟨g, hg⟩ : ∃ g, W.heap.size = g := ⟨_, rfl⟩
  obtain ⟨R, hR⟩ : ∃ R, tchk t = R := ⟨_, rfl⟩
  rw [hR]
  have F0 : Hid (fnz ((Va.trs t).drop 0) = R) := hR
  have HM0 : Hid (Mem W (W.alloc (.cells tl.toArray 39)) [(g, .cells tl.toArray 39 (0, 0))]) := (Mem.nil W).push1 hg.symm
  obtain ⟨A, hA⟩ : ∃ A, tl.toArray = A := ⟨_, rfl⟩
  have HT : Hid (∀ X, Mem W X [(g, .cells A 39 (0, 0))] → TBx X tl t pa sa qa pc sc qc ∧ TC X g t pa sa qa pc sc qc ∧ X.rangeAt g 0 tl) := by
    intro X hX
    have hb := hx.later hX.below
    have hk := hX.get 0 rfl
    rw [← hA] at hk
    exact ⟨hb, hb.tc hk, fun j u hj => by rw [Nat.zero_add]; exact cell_tl hk hj⟩
  have HS : Hid (Vs W ∧ TSm t) := ⟨hv, hm⟩
  have HL : Hid (tl.length = 33 ∧ .agg tl.toArray = Value.agg A) := ⟨hx.len, by rw [hA]⟩
  have hn1 : t.pool.length ≤ 1000000 := hm.2.1
  have hn2 : t.stat.length ≤ 1000000 := hm.2.2.1
  have hn3 : t.twi.length ≤ 1000000 := hm.2.2.2
  rw [hA] at HM0 ⊢
  clear hR hA hv h hm hx
  -- the letters
  obtain ⟨nm, hnm⟩ : ∃ n, t.name = n := ⟨_, rfl⟩
  obtain ⟨B0, hB0⟩ : ∃ B, nam t.name.data.toList = B := ⟨_, rfl⟩
  go_enter Tryd.func14, Tryd.ntmps14
  go_upto_region 1 with fail
  refine wp_letter (fun X => Mem W X [(g, .cells A 39 (0, 0))]) (by exact HM0.out) ?_
  intro V hM
  try simp only [hg]
  clear HM0 hg
  have c0 := (HT.out V hM).2.1.name
  have C := rname_any (HS.out.1.below hM.below) t.name (by have := HS.out.2.1; omega)
  rw [hB0] at C
  rw [hnm] at C c0
  have HM : Hid (Mem W V [(g, .cells A 39 (0, 0))]) := hM
  clear hM hnm
  go_wp2_with fail
  refine C.mono ?_
  rintro _ V1 ⟨rfl, hb⟩
  have HM1 : Hid (Mem W V1 [(g, .cells A 39 (0, 0))]) := HM.out.after hb
  clear hb C HM c0
  cases B0 with
  | false =>
    obtain rfl := st_no rfl (by decide) F0.out hB0
    clear HT HS HL F0
    go_wp2_with fail
    go_ret
    exact ⟨rfl, HM1.out.below⟩
  | true =>
  have F1 : Hid (fnz ((Va.trs t).drop 1) = R) := st_yes rfl F0.out hB0
  clear F0 hB0
  have c1 := (HT.out V1 HM1.out).2.1.vni
  have c23 := (HT.out V1 HM1.out).2.1.pool
  obtain ⟨x, hx⟩ : ∃ x, t.vni = x := ⟨_, rfl⟩
  have HW : Hid (wi t.vni 1 16777215 = (decide (1 ≤ x) && decide (x ≤ 16777215))) := by rw [← hx]; rfl
  rw [hx] at c1 h0
  clear hx
  by_cases q1 : x = 0
  · obtain rfl := st_no rfl (by decide) F1.out (by rw [HW.out, q1]; rfl)
    subst q1
    clear HT HS HL F1 HW
    go_wp2_with fail
    go_ret
    exact ⟨rfl, HM1.out.below⟩
  have e1 : (x == 0) = false := by simp [q1]
  by_cases q2 : 16777215 < x
  · obtain rfl := st_no rfl (by decide) F1.out (by rw [HW.out, decide_eq_false (show ¬ x ≤ 16777215 by omega), Bool.and_false])
    have e2 : decide (16777215 < x) = true := decide_eq_true q2
    clear HT HS HL F1 HW q1
    go_wp2_with fail
    go_ret
    exact ⟨rfl, HM1.out.below⟩
  have e2 : decide (16777215 < x) = false := decide_eq_false q2
  have F2 : Hid (fnz ((Va.trs t).drop 2) = R) := st_yes rfl F1.out (by rw [HW.out, decide_eq_true (show 1 ≤ x by omega), decide_eq_true (show x ≤ 16777215 by omega)]; rfl)
  clear F1 HW q1 q2 h0
  obtain ⟨n1, hk1⟩ : ∃ n, t.pool.length = n := ⟨_, rfl⟩
  rw [hk1] at c23 hn1
  have HK1 : Hid (t.pool.length = n1) := hk1
  clear hk1
  by_cases q1 : (8 : Int) < n1
  · obtain rfl := st_no rfl (by decide) F2.out (by rw [HK1.out]; exact decide_eq_false (by omega))
    have e3 : decide ((8 : Int) < n1) = true := decide_eq_true q1
    clear HT HS HL F2
    go_wp2_with fail
    go_ret
    exact ⟨rfl, HM1.out.below⟩
  have e3 : decide ((8 : Int) < n1) = false := decide_eq_false q1
  have F3 : Hid (fnz ((Va.trs t).drop 3) = R) := st_yes rfl F2.out (by rw [HK1.out]; exact decide_eq_true (by omega))
  clear F2 q1
  have HY : Hid (∀ i, i < n1 → bad t.pool i → R = 92) := fun i hi hbd => st_no rfl (by decide) F3.out (decide_eq_false (fun h => h i (by rw [HK1.out]; exact hi) hbd))
  have HE : Hid ((∀ j, j < n1 → ¬ bad t.pool j) → fnz ((Va.trs t).drop 4) = R) := fun h => st_yes rfl F3.out (decide_eq_true (fun i hi => h i (by rw [← HK1.out]; exact hi)))
  have HI : Hid ((∀ j, j < 0 → ¬ bad t.pool j) ∧ Mem W V1 [(g, .cells A 39 (0, 0))]) := ⟨fun j hj => absurd hj (by omega), HM1.out⟩
  clear F3 HM1
  go_wp2_with fail
  go_loopw [3] (fun u3 w' => ∃ i : Nat, i ≤ n1 ∧ u3 = .int .i64 i ∧ Hid ((∀ j, j < i → ¬ bad t.pool j) ∧ Mem W w' [(g, .cells A 39 (0, 0))])) (fun u3 w' => n1 - (intOf u3).toNat)
  case atStart => exact ⟨0, Nat.zero_le _, rfl, HI⟩
  case round =>
  obtain ⟨i, hi, rfl, HR⟩ := hrel
  clear c1 c23
  have c23 := (HT.out wr HR.out.2).2.1.pool
  rw [HK1.out] at c23
  by_cases hlt : i < n1
  · have h1 : (i : Int) < n1 := by omega
    have hrp := (HT.out wr HR.out.2).1.rp
    obtain ⟨a', c', e, hle, -, hcell⟩ := rw_u hrp
    simp only [Value.slice.injEq] at e
    obtain ⟨rfl, -, rfl⟩ := e
    obtain ⟨b, off, rfl, hd⟩ := hcell i (by rw [HK1.out]; exact hlt)
    have d0 := hd wr (Below.refl _ _)
    have hle2 : (i : Int) ≤ pc := by rw [HK1.out] at hle; omega
    have HC : Hid (∀ q, Calls Tryd.prog 29 #[.slice (some ⟨b, off, none⟩) i pc, .int .u32 (t.pool.getD i 0)] (wr.drewN q) fun e w' => e = .returned (.bool (hs (t.pool.take i) (t.pool.getD i 0))) ∧ wr.drewN q = w') := by
      intro q
      have hb := Go.below_drewN (Below.refl wr.heap.size wr) q
      have h2 := (hrp.below ux_ne hb (Nat.le_refl _)).head i (by simp [ux, HK1.out]; omega)
      rw [ux_take] at h2
      exact rin_any h2 (by simp; omega) _
    have HY1 : Hid ((t.pool.getD i 0 = 0 ∨ hs (t.pool.take i) (t.pool.getD i 0) = true) → R = 92) := HY.out i hlt
    have HN1 : Hid (¬ (t.pool.getD i 0 = 0 ∨ hs (t.pool.take i) (t.pool.getD i 0) = true) → ∀ j, j < i + 1 → ¬ bad t.pool j) := by
      intro hn j hj
      rcases Nat.lt_or_ge j i with h | h
      · exact HR.out.1 j h
      · obtain rfl : j = i := by omega
        exact hn
    have HM1 : Hid (Mem W wr [(g, .cells A 39 (0, 0))]) := HR.out.2
    clear hrp hcell hd hle HT HS HL HE HI HR HY
    generalize t.pool.getD i 0 = y at *
    generalize hs (t.pool.take i) y = B at *
    by_cases hy : y = 0
    · obtain rfl := HY1.out (Or.inl hy)
      subst hy
      clear HY1 HN1 HC
      go_upto_region 10 with fail
      go_quiet (fail)
      go_wp2_with fail
      go_ret
      exact ⟨rfl, Go.below_drewN HM1.out.below _⟩
    · have e4 : (y == 0) = false := by simp [hy]
      cases B with
      | true =>
        obtain rfl := HY1.out (Or.inr rfl)
        clear HY1 HN1
        go_upto_region 10 with fail
        go_quiet (first | (go_at_call 29; exact quiet_sm (HC.out _)))
        go_wp2_with fail
        go_ret
        exact ⟨rfl, Go.below_drewN HM1.out.below _⟩
      | false =>
        have HF : Hid (∀ j, j < i + 1 → ¬ bad t.pool j) := HN1.out (by simp [hy])
        clear HY1 HN1
        go_upto_region 10 with fail
        go_quiet (first | (go_at_call 29; exact quiet_sm (HC.out _)))
        go_wp2_with fail
        go_roundw
        case rel => exact ⟨i + 1, by omega, by go_num, HF.out, HM1.out.after (Go.below_drewN (Below.refl _ _) _)⟩
        case measure => simp [intOf]; omega
  have h1 : ¬ ((i : Int) < n1) := by omega
  obtain rfl : i = n1 := by omega
  have F4 : Hid (fnz ((Va.trs t).drop 4) = R) := HE.out HR.out.1
  have HM2 : Hid (Mem W wr [(g, .cells A 39 (0, 0))]) := HR.out.2
  clear HI HR HY HE
  have c24 := (HT.out wr HM2.out).2.1.lo
  have c25 := (HT.out wr HM2.out).2.1.hi
  have c26 := (HT.out wr HM2.out).2.1.filter
  have c27 := (HT.out wr HM2.out).2.1.stat
  have c28 := (HT.out wr HM2.out).2.1.twi
  obtain ⟨lo, hlo⟩ : ∃ x, t.lo = x := ⟨_, rfl⟩
  obtain ⟨hi', hhi⟩ : ∃ x, t.hi = x := ⟨_, rfl⟩
  have HW : Hid (wi t.lo 1 t.hi = (decide (1 ≤ lo) && decide (lo ≤ hi'))) := by rw [← hlo, ← hhi]; rfl
  rw [hlo] at c24
  rw [hhi] at c25
  clear hlo hhi
  by_cases q1 : lo < 1
  · obtain rfl := st_no rfl (by decide) F4.out (by rw [HW.out, decide_eq_false (show ¬ 1 ≤ lo by omega), Bool.false_and])
    have e4 : decide (lo < 1) = true := decide_eq_true q1
    clear HT HS HL F4 HW
    go_wp2_with fail
    go_ret
    exact ⟨rfl, HM2.out.below⟩
  have e4 : decide (lo < 1) = false := decide_eq_false q1
  by_cases q2 : hi' < lo
  · obtain rfl := st_no rfl (by decide) F4.out (by rw [HW.out, decide_eq_false (show ¬ lo ≤ hi' by omega), Bool.and_false])
    have e5 : decide (hi' < lo) = true := decide_eq_true q2
    clear HT HS HL F4 HW
    go_wp2_with fail
    go_ret
    exact ⟨rfl, HM2.out.below⟩
  have e5 : decide (hi' < lo) = false := decide_eq_false q2
  have F5 : Hid (fnz ((Va.trs t).drop 5) = R) := st_yes rfl F4.out (by rw [HW.out, decide_eq_true (show 1 ≤ lo by omega), decide_eq_true (show lo ≤ hi' by omega)]; rfl)
  clear F4 HW q1 q2
  obtain ⟨fi, hfi⟩ : ∃ x, t.filter = x := ⟨_, rfl⟩
  have HW : Hid (wi t.filter 0 2 = (decide (0 ≤ fi) && decide (fi ≤ 2))) := by rw [← hfi]; rfl
  rw [hfi] at c26
  clear hfi
  obtain ⟨n2, hk2⟩ : ∃ n, t.stat.length = n := ⟨_, rfl⟩
  obtain ⟨n3, hk3⟩ : ∃ n, t.twi.length = n := ⟨_, rfl⟩
  have C1 := rtwice_any (HT.out wr HM2.out).1.rs hn2
  rw [hk2] at c27 hn2 C1
  rw [hk3] at c28 hn3
  have HC2 : Hid (∀ X, Below wr.heap.size wr X → X.cell? ⟨g, 28, none⟩ = some (.slice qa n3 qc) ∧ Calls Tryd.prog 30 #[.slice qa n3 qc] X fun e w' => e = .returned (.bool (!(unl (fst' t.twi) && unl (snd' t.twi)))) ∧ Below X.heap.size X w') := by
    intro X hX
    refine ⟨cell_later hX c28, ?_⟩
    have := rtwice_any (HT.out X (HM2.out.after hX)).1.rq (by rw [hk3]; exact hn3)
    rwa [hk3] at this
  have HK2 : Hid (t.stat.length = n2) := hk2
  have HK3 : Hid (t.twi.length = n3) := hk3
  clear hk2 hk3
  by_cases q1 : fi < 0
  · obtain rfl := st_no rfl (by decide) F5.out (by rw [HW.out, decide_eq_false (show ¬ 0 ≤ fi by omega), Bool.false_and])
    have e6 : decide (fi < 0) = true := decide_eq_true q1
    clear HT HS HL F5 HW HC2 C1
    go_wp2_with fail
    go_ret
    exact ⟨rfl, HM2.out.below⟩
  have e6 : decide (fi < 0) = false := decide_eq_false q1
  by_cases q2 : 2 < fi
  · obtain rfl := st_no rfl (by decide) F5.out (by rw [HW.out, decide_eq_false (show ¬ fi ≤ 2 by omega), Bool.and_false])
    have e7 : decide (2 < fi) = true := decide_eq_true q2
    clear HT HS HL F5 HW HC2 C1
    go_wp2_with fail
    go_ret
    exact ⟨rfl, HM2.out.below⟩
  have e7 : decide (2 < fi) = false := decide_eq_false q2
  have F6 : Hid (fnz ((Va.trs t).drop 6) = R) := st_yes rfl F5.out (by rw [HW.out, decide_eq_true (show 0 ≤ fi by omega), decide_eq_true (show fi ≤ 2 by omega)]; rfl)
  clear F5 HW q1 q2
  by_cases q1 : (16 : Int) < n2
  · obtain rfl := st_no rfl (by decide) F6.out (by rw [HK2.out]; exact decide_eq_false (by omega))
    have e8 : decide ((16 : Int) < n2) = true := decide_eq_true q1
    clear HT HS HL F6 HC2 C1
    go_wp2_with fail
    go_ret
    exact ⟨rfl, HM2.out.below⟩
  have e8 : decide ((16 : Int) < n2) = false := decide_eq_false q1
  have F7 : Hid (fnz ((Va.trs t).drop 7) = R) := st_yes rfl F6.out (by rw [HK2.out]; exact decide_eq_true (by omega))
  by_cases q2 : (16 : Int) < n3
  · obtain rfl := st_no rfl (by decide) F7.out (by rw [HK3.out]; exact decide_eq_false (by omega))
    have e9 : decide ((16 : Int) < n3) = true := decide_eq_true q2
    clear HT HS HL F6 F7 HC2 C1
    go_wp2_with fail
    go_ret
    exact ⟨rfl, HM2.out.below⟩
  have e9 : decide ((16 : Int) < n3) = false := decide_eq_false q2
  have F8 : Hid (fnz ((Va.trs t).drop 8) = R) := st_yes rfl F7.out (by rw [HK3.out]; exact decide_eq_true (by omega))
  clear F6 F7 q1 q2
  obtain ⟨B1, hB1⟩ : ∃ B, (unl (fst' t.stat) && unl (snd' t.stat)) = B := ⟨_, rfl⟩
  obtain ⟨B2, hB2⟩ : ∃ B, (unl (fst' t.twi) && unl (snd' t.twi)) = B := ⟨_, rfl⟩
  rw [hB1] at C1
  have HC3 : Hid (∀ X, Below wr.heap.size wr X → X.cell? ⟨g, 28, none⟩ = some (.slice qa n3 qc) ∧ Calls Tryd.prog 30 #[.slice qa n3 qc] X fun e w' => e = .returned (.bool (!B2)) ∧ Below X.heap.size X w') := by rw [← hB2]; exact HC2.out
  clear HC2
  have G1 : Hid (B1 = false → R = 94) := fun h => st_no rfl (by decide) F8.out (by rw [hB1]; exact h)
  have G2 : Hid (B1 = true → fnz ((Va.trs t).drop 9) = R) := fun h => st_yes rfl F8.out (by rw [hB1]; exact h)
  clear F8 hB1
  cases B1 with
  | false =>
    obtain rfl := G1.out rfl
    go_wp2_with fail
    refine C1.mono ?_
    rintro _ X ⟨rfl, hb⟩
    have HM3 : Hid (Mem W X [(g, .cells A 39 (0, 0))]) := HM2.out.after hb
    clear HT HS HL HC3 C1 hb HM2 c24 c25 c26 c27 c28 c23 G1 G2
    go_wp2_with fail
    go_ret
    exact ⟨rfl, HM3.out.below⟩
  | true =>
  have F9 : Hid (fnz ((Va.trs t).drop 9) = R) := G2.out rfl
  clear G1 G2
  have G1 : Hid (B2 = false → R = 94) := fun h => st_no rfl (by decide) F9.out (by rw [hB2]; exact h)
  have G2 : Hid (B2 = true → fnz ((Va.trs t).drop 10) = R) := fun h => st_yes rfl F9.out (by rw [hB2]; exact h)
  clear F9 hB2
  go_wp2_with fail
  refine C1.mono ?_
  rintro _ X1 ⟨rfl, hb⟩
  obtain ⟨c28', C2⟩ := HC3.out X1 hb
  have HM3 : Hid (Mem W X1 [(g, .cells A 39 (0, 0))]) := HM2.out.after hb
  clear HC3 C1 hb HM2 c24 c25 c26 c27 c28 c23
  go_wp2_with fail
  refine C2.mono ?_
  rintro _ X2 ⟨rfl, hb⟩
  have HM4 : Hid (Mem W X2 [(g, .cells A 39 (0, 0))]) := HM3.out.after hb
  clear C2 hb HM3 c28'
  cases B2 with
  | false =>
    obtain rfl := G1.out rfl
    clear HT HS HL G1 G2
    go_wp2_with fail
    go_ret
    exact ⟨rfl, HM4.out.below⟩
  | true =>
  have F10 : Hid (fnz ((Va.trs t).drop 10) = R) := G2.out rfl
  clear G1 G2
  have c27 := (HT.out X2 HM4.out).2.1.stat
  rw [HK2.out] at c27
  have HY : Hid (∀ i, i < n2 → hs t.pool (t.stat.getD i (0, 0)).2 = true → R = 94) := fun i hi hbd => st_no rfl (by decide) F10.out (by
    rw [Bool.not_eq_false']
    rw [List.any_eq_true]
    have hi' : i < t.stat.length := by rw [HK2.out]; exact hi
    exact ⟨_, List.mem_map_of_mem (List.getElem_mem hi'), by simpa [List.getD, List.getElem?_eq_getElem hi'] using hbd⟩)
  have HE : Hid ((∀ j, j < n2 → hs t.pool (t.stat.getD j (0, 0)).2 = false) → fnz ((Va.trs t).drop 11) = R) := fun h => st_yes rfl F10.out (by
    rw [Bool.not_eq_true', Bool.eq_false_iff]
    intro e
    rw [List.any_eq_true] at e
    obtain ⟨x, hx, hh⟩ := e
    obtain ⟨p, hp, rfl⟩ := List.mem_map.mp hx
    obtain ⟨j, hj, rfl⟩ := List.mem_iff_getElem.mp hp
    have := h j (by rw [← HK2.out]; exact hj)
    rw [show t.stat.getD j (0, 0) = t.stat[j] by simp [List.getD, List.getElem?_eq_getElem hj], hh] at this
    cases this)
  have HI : Hid ((∀ j, j < 0 → hs t.pool (t.stat.getD j (0, 0)).2 = false) ∧ Mem W X2 [(g, .cells A 39 (0, 0))]) := ⟨fun j hj => absurd hj (by omega), HM4.out⟩
  clear F10 HM4
  go_wp2_with fail
  go_loopw [4] (fun u4 w' => ∃ i : Nat, i ≤ n2 ∧ u4 = .int .i64 i ∧ Hid ((∀ j, j < i → hs t.pool (t.stat.getD j (0, 0)).2 = false) ∧ Mem W w' [(g, .cells A 39 (0, 0))])) (fun u4 w' => n2 - (intOf u4).toNat)
  case atStart => exact ⟨0, Nat.zero_le _, rfl, HI⟩
  case round =>
  obtain ⟨i2, hi2, rfl, HR⟩ := hrel
  clear c27
  have c27 := (HT.out wr HR.out.2).2.1.stat
  rw [HK2.out] at c27
  by_cases hlt : i2 < n2
  · have h2 : (i2 : Int) < n2 := by omega
    have c23 := (HT.out wr HR.out.2).2.1.pool
    have hrp := (HT.out wr HR.out.2).1.rp
    obtain ⟨a', c', e, -, -, hcell⟩ := rw_p (HT.out wr HR.out.2).1.rs
    simp only [Value.slice.injEq] at e
    obtain ⟨rfl, -, rfl⟩ := e
    obtain ⟨b, off, rfl, hd⟩ := hcell i2 (by rw [HK2.out]; exact hlt)
    have d0 := (hd wr (Below.refl _ _)).2
    have HC : Hid (∀ q, Calls Tryd.prog 29 #[.slice pa t.pool.length pc, .int .u32 (t.stat.getD i2 (0, 0)).2] (wr.drewN q) fun e w' => e = .returned (.bool (hs t.pool (t.stat.getD i2 (0, 0)).2)) ∧ wr.drewN q = w') := by
      intro q
      exact rin_any (hrp.below ux_ne (Go.below_drewN (Below.refl wr.heap.size wr) q) (Nat.le_refl _)) (by rw [HK1.out]; exact hn1) _
    have HY1 : Hid (hs t.pool (t.stat.getD i2 (0, 0)).2 = true → R = 94) := HY.out i2 hlt
    have HN1 : Hid (hs t.pool (t.stat.getD i2 (0, 0)).2 = false → ∀ j, j < i2 + 1 → hs t.pool (t.stat.getD j (0, 0)).2 = false) := by
      intro hn j hj
      rcases Nat.lt_or_ge j i2 with h | h
      · exact HR.out.1 j h
      · obtain rfl : j = i2 := by omega
        exact hn
    have HM1 : Hid (Mem W wr [(g, .cells A 39 (0, 0))]) := HR.out.2
    rw [HK1.out] at c23 HC
    clear hrp hcell hd HT HS HL HE HI HR HY
    generalize (t.stat.getD i2 (0, 0)).2 = y at *
    generalize hs t.pool y = B at *
    cases B with
    | true =>
      obtain rfl := HY1.out rfl
      clear HY1 HN1
      go_upto_region 19 with fail
      go_quiet (first | (go_at_call 29; exact quiet_sm (HC.out _)))
      go_wp2_with fail
      go_ret
      exact ⟨rfl, Go.below_drewN HM1.out.below _⟩
    | false =>
      have HF : Hid (∀ j, j < i2 + 1 → hs t.pool (t.stat.getD j (0, 0)).2 = false) := HN1.out rfl
      clear HY1 HN1
      go_upto_region 19 with fail
      go_quiet (first | (go_at_call 29; exact quiet_sm (HC.out _)))
      go_wp2_with fail
      go_roundw
      case rel => exact ⟨i2 + 1, by omega, by go_num, HF.out, HM1.out.after (Go.below_drewN (Below.refl _ _) _)⟩
      case measure => simp [intOf]; omega
  have h2 : ¬ ((i2 : Int) < n2) := by omega
  obtain rfl : i2 = n2 := by omega
  have F11 : Hid (fnz ((Va.trs t).drop 11) = R) := HE.out HR.out.1
  have HM5 : Hid (Mem W wr [(g, .cells A 39 (0, 0))]) := HR.out.2
  clear HI HR HY HE
  have c28 := (HT.out wr HM5.out).2.1.twi
  rw [HK3.out] at c28
  have HY : Hid (∀ i, i < n3 → owns t (t.twi.getD i (0, 0)).1 = true → R = 94) := fun i hi hbd => st_no rfl (by decide) F11.out (by
    rw [Bool.not_eq_false']
    rw [List.any_eq_true]
    have hi' : i < t.twi.length := by rw [HK3.out]; exact hi
    exact ⟨_, List.mem_map_of_mem (List.getElem_mem hi'), by simpa [List.getD, List.getElem?_eq_getElem hi'] using hbd⟩)
  have HE : Hid ((∀ j, j < n3 → owns t (t.twi.getD j (0, 0)).1 = false) → fnz ((Va.trs t).drop 12) = R) := fun h => st_yes rfl F11.out (by
    rw [Bool.not_eq_true', Bool.eq_false_iff]
    intro e
    rw [List.any_eq_true] at e
    obtain ⟨x, hx, hh⟩ := e
    obtain ⟨p, hp, rfl⟩ := List.mem_map.mp hx
    obtain ⟨j, hj, rfl⟩ := List.mem_iff_getElem.mp hp
    have := h j (by rw [← HK3.out]; exact hj)
    rw [show t.twi.getD j (0, 0) = t.twi[j] by simp [List.getD, List.getElem?_eq_getElem hj], hh] at this
    cases this)
  have HI : Hid ((∀ j, j < 0 → owns t (t.twi.getD j (0, 0)).1 = false) ∧ Mem W wr [(g, .cells A 39 (0, 0))]) := ⟨fun j hj => absurd hj (by omega), HM5.out⟩
  clear F11 HM5
  go_wp2_with fail
  go_loopw [5] (fun u5 w' => ∃ i : Nat, i ≤ n3 ∧ u5 = .int .i64 i ∧ Hid ((∀ j, j < i → owns t (t.twi.getD j (0, 0)).1 = false) ∧ Mem W w' [(g, .cells A 39 (0, 0))])) (fun u5 w' => n3 - (intOf u5).toNat)
  case atStart => exact ⟨0, Nat.zero_le _, rfl, HI⟩
  case round =>
  obtain ⟨i3, hi3, rfl, HR⟩ := hrel
  clear c28
  have c28 := (HT.out wr HR.out.2).2.1.twi
  rw [HK3.out] at c28
  by_cases hlt : i3 < n3
  · have h3 : (i3 : Int) < n3 := by omega
    obtain ⟨a', c', e, -, -, hcell⟩ := rw_p (HT.out wr HR.out.2).1.rq
    simp only [Value.slice.injEq] at e
    obtain ⟨rfl, -, rfl⟩ := e
    obtain ⟨b, off, rfl, hd⟩ := hcell i3 (by rw [HK3.out]; exact hlt)
    have d0 := (hd wr (Below.refl _ _)).1
    have hsz := HL.out.1
    have i33 : (Tryd.prog.info? 39).map (·.size) = some tl.length := by rw [hsz]; kernel_rfl
    have HX : Hid (∀ X, Below wr.heap.size wr X → X.rangeAt g 0 tl ∧ X.cell? ⟨g, 28, none⟩ = some (.slice (some ⟨b, off, none⟩) n3 qc) ∧ X.cell? ⟨b, off + i3 * 2, none⟩ = some (.int .u32 (t.twi.getD i3 (0, 0)).1)) := fun X hX => ⟨(HT.out X (HR.out.2.after hX)).2.2, cell_later hX c28, (hd X hX).1⟩
    have HC : Hid (∀ X, Below wr.heap.size wr X → Calls Tryd.prog 19 #[.agg tl.toArray, .int .u32 (t.twi.getD i3 (0, 0)).1] X fun e w' => e = .returned (.bool (owns t (t.twi.getD i3 (0, 0)).1)) ∧ Below wr.heap.size wr w') := by
      intro X hX
      have hb := (HT.out X (HR.out.2.after hX)).1.tv
      exact (rowns_any hb HS.out.2 _).mono (fun e w' hh => ⟨hh.1, hX.trans (hh.2.mono hX.size)⟩)
    have HY1 : Hid (owns t (t.twi.getD i3 (0, 0)).1 = true → R = 94) := HY.out i3 hlt
    have HN1 : Hid (owns t (t.twi.getD i3 (0, 0)).1 = false → ∀ j, j < i3 + 1 → owns t (t.twi.getD j (0, 0)).1 = false) := by
      intro hn j hj
      rcases Nat.lt_or_ge j i3 with h | h
      · exact HR.out.1 j h
      · obtain rfl : j = i3 := by omega
        exact hn
    have HM1 : Hid (Mem W wr [(g, .cells A 39 (0, 0))]) := HR.out.2
    clear hcell hd HT HS HL HE HI HR HY hsz
    generalize (t.twi.getD i3 (0, 0)).1 = y at *
    generalize owns t y = B at *
    cases B with
    | true =>
      obtain rfl := HY1.out rfl
      clear HY1 HN1
      go_upto_region 24 with fail
      refine wp_region_held_drew (S := fun X => X.rangeAt g 0 tl ∧ X.cell? ⟨g, 28, none⟩ = some (.slice (some ⟨b, off, none⟩) n3 qc) ∧ X.cell? ⟨b, off + i3 * 2, none⟩ = some (.int .u32 y)) (by kernel_rfl) (HX.out _ (Below.refl _ _).drew) (fun hHeld => ?_)
      refine wpAnyH_take (i := 0) (v := _) rfl (by kernel_rfl) (by kernel_rfl) (by kernel_rfl) (fun _ _ _ h => h) (yieldsIf_load_mid (by rfl) _ _ rfl _ _ rfl _ _ ?qs0 Tryd.underlying39 rfl i33) (by assumption) ?qr0
      case qs0 =>
        intro w hSw
        (try dsimp only at hSw)
        go_split_ands
        assumption
      try simp only [List.getElem_toArray, List.getElem_cons_zero, List.getElem_cons_succ, Act.put, List.setIfInBounds_toArray, List.set_cons_zero, List.set_cons_succ]
      refine wpAnyH_take (i := 1) (v := ?_) rfl (by kernel_rfl) (by kernel_rfl) (by kernel_rfl) (fun _ _ _ h => h) (Or.inl ⟨by rfl, ?qy1⟩) (by assumption) ?qr1
      case qy1 =>
        intro w hSw
        (try dsimp only at hSw)
        go_simp
        all_goals with_reducible rfl
      try simp only [List.getElem_toArray, List.getElem_cons_zero, List.getElem_cons_succ, Act.put, List.setIfInBounds_toArray, List.set_cons_zero, List.set_cons_succ]
      refine wpAnyH_take (i := 2) (v := ?_) rfl (by kernel_rfl) (by kernel_rfl) (by kernel_rfl) (fun _ _ _ h => h) (Or.inl ⟨by rfl, ?qy2⟩) (by assumption) ?qr2
      case qy2 =>
        intro w hSw
        (try dsimp only at hSw)
        go_simp
        all_goals with_reducible rfl
      try simp only [List.getElem_toArray, List.getElem_cons_zero, List.getElem_cons_succ, Act.put, List.setIfInBounds_toArray, List.set_cons_zero, List.set_cons_succ]
      refine wpAnyH_take (i := 3) (v := ?_) rfl (by kernel_rfl) (by kernel_rfl) (by kernel_rfl) (fun _ _ _ h => h) (Or.inl ⟨by rfl, ?qy3⟩) (by assumption) ?qr3
      case qy3 =>
        intro w hSw
        (try dsimp only at hSw)
        go_simp
        all_goals with_reducible rfl
      try simp only [List.getElem_toArray, List.getElem_cons_zero, List.getElem_cons_succ, Act.put, List.setIfInBounds_toArray, List.set_cons_zero, List.set_cons_succ]
      refine wpAnyH_take (i := 4) (v := ?_) rfl (by kernel_rfl) (by kernel_rfl) (by kernel_rfl) (fun _ _ _ h => h) (Or.inl ⟨by rfl, ?qy4⟩) (by assumption) ?qr4
      case qy4 =>
        intro w hSw
        (try dsimp only at hSw)
        go_simp
        all_goals with_reducible rfl
      try simp only [List.getElem_toArray, List.getElem_cons_zero, List.getElem_cons_succ, Act.put, List.setIfInBounds_toArray, List.set_cons_zero, List.set_cons_succ]
      refine wpAnyH_take (i := 5) (v := ?_) rfl (by kernel_rfl) (by kernel_rfl) (by kernel_rfl) (fun _ _ _ h => h) (Or.inl ⟨by rfl, ?qy5⟩) (by assumption) ?qr5
      case qy5 =>
        intro w hSw
        (try dsimp only at hSw)
        go_simp
        all_goals with_reducible rfl
      try simp only [List.getElem_toArray, List.getElem_cons_zero, List.getElem_cons_succ, Act.put, List.setIfInBounds_toArray, List.set_cons_zero, List.set_cons_succ]
      refine wpAnyH_take (i := 6) (v := ?_) rfl (by kernel_rfl) (by kernel_rfl) (by kernel_rfl) (fun _ _ _ h => h) (Or.inl ⟨by rfl, ?qy6⟩) (by assumption) ?qr6
      case qy6 =>
        intro w hSw
        (try dsimp only at hSw)
        go_simp
        all_goals with_reducible rfl
      try simp only [List.getElem_toArray, List.getElem_cons_zero, List.getElem_cons_succ, Act.put, List.setIfInBounds_toArray, List.set_cons_zero, List.set_cons_succ]
      refine wpAnyH_ready (rs := [7]) (by kernel_rfl) (by simp) ?_
      refine AllReadyH.cons rfl (fun K hK => ?_) AllReadyH.nil
      go_simp
      with_reducible refine (HC.out _ (by first | exact Below.refl _ _ | exact (Below.refl _ _).drew)).mono ?_
      rintro _ X2 ⟨rfl, hb2⟩
      try go_wp2_with fail
      refine hK.out _ _ (HX.out X2 hb2) (fun hHeld => ?_)
      clear hK K
      try simp only [List.getElem_toArray, List.getElem_cons_zero, List.getElem_cons_succ, Act.put, List.setIfInBounds_toArray, List.set_cons_zero, List.set_cons_succ]
      refine wpAnyH_done (by kernel_rfl) ?_ _
      go_wp2_with fail
      go_ret
      exact ⟨rfl, HM1.out.below.trans (hb2.mono HM1.out.below.size)⟩
    | false =>
      have HF : Hid (∀ j, j < i3 + 1 → owns t (t.twi.getD j (0, 0)).1 = false) := HN1.out rfl
      clear HY1 HN1
      go_upto_region 24 with fail
      refine wp_region_held_drew (S := fun X => X.rangeAt g 0 tl ∧ X.cell? ⟨g, 28, none⟩ = some (.slice (some ⟨b, off, none⟩) n3 qc) ∧ X.cell? ⟨b, off + i3 * 2, none⟩ = some (.int .u32 y)) (by kernel_rfl) (HX.out _ (Below.refl _ _).drew) (fun hHeld => ?_)
      refine wpAnyH_take (i := 0) (v := _) rfl (by kernel_rfl) (by kernel_rfl) (by kernel_rfl) (fun _ _ _ h => h) (yieldsIf_load_mid (by rfl) _ _ rfl _ _ rfl _ _ ?zs0 Tryd.underlying39 rfl i33) (by assumption) ?zr0
      case zs0 =>
        intro w hSw
        (try dsimp only at hSw)
        go_split_ands
        assumption
      try simp only [List.getElem_toArray, List.getElem_cons_zero, List.getElem_cons_succ, Act.put, List.setIfInBounds_toArray, List.set_cons_zero, List.set_cons_succ]
      refine wpAnyH_take (i := 1) (v := ?_) rfl (by kernel_rfl) (by kernel_rfl) (by kernel_rfl) (fun _ _ _ h => h) (Or.inl ⟨by rfl, ?zy1⟩) (by assumption) ?zr1
      case zy1 =>
        intro w hSw
        (try dsimp only at hSw)
        go_simp
        all_goals with_reducible rfl
      try simp only [List.getElem_toArray, List.getElem_cons_zero, List.getElem_cons_succ, Act.put, List.setIfInBounds_toArray, List.set_cons_zero, List.set_cons_succ]
      refine wpAnyH_take (i := 2) (v := ?_) rfl (by kernel_rfl) (by kernel_rfl) (by kernel_rfl) (fun _ _ _ h => h) (Or.inl ⟨by rfl, ?zy2⟩) (by assumption) ?zr2
      case zy2 =>
        intro w hSw
        (try dsimp only at hSw)
        go_simp
        all_goals with_reducible rfl
      try simp only [List.getElem_toArray, List.getElem_cons_zero, List.getElem_cons_succ, Act.put, List.setIfInBounds_toArray, List.set_cons_zero, List.set_cons_succ]
      refine wpAnyH_take (i := 3) (v := ?_) rfl (by kernel_rfl) (by kernel_rfl) (by kernel_rfl) (fun _ _ _ h => h) (Or.inl ⟨by rfl, ?zy3⟩) (by assumption) ?zr3
      case zy3 =>
        intro w hSw
        (try dsimp only at hSw)
        go_simp
        all_goals with_reducible rfl
      try simp only [List.getElem_toArray, List.getElem_cons_zero, List.getElem_cons_succ, Act.put, List.setIfInBounds_toArray, List.set_cons_zero, List.set_cons_succ]
      refine wpAnyH_take (i := 4) (v := ?_) rfl (by kernel_rfl) (by kernel_rfl) (by kernel_rfl) (fun _ _ _ h => h) (Or.inl ⟨by rfl, ?zy4⟩) (by assumption) ?zr4
      case zy4 =>
        intro w hSw
        (try dsimp only at hSw)
        go_simp
        all_goals with_reducible rfl
      try simp only [List.getElem_toArray, List.getElem_cons_zero, List.getElem_cons_succ, Act.put, List.setIfInBounds_toArray, List.set_cons_zero, List.set_cons_succ]
      refine wpAnyH_take (i := 5) (v := ?_) rfl (by kernel_rfl) (by kernel_rfl) (by kernel_rfl) (fun _ _ _ h => h) (Or.inl ⟨by rfl, ?zy5⟩) (by assumption) ?zr5
      case zy5 =>
        intro w hSw
        (try dsimp only at hSw)
        go_simp
        all_goals with_reducible rfl
      try simp only [List.getElem_toArray, List.getElem_cons_zero, List.getElem_cons_succ, Act.put, List.setIfInBounds_toArray, List.set_cons_zero, List.set_cons_succ]
      refine wpAnyH_take (i := 6) (v := ?_) rfl (by kernel_rfl) (by kernel_rfl) (by kernel_rfl) (fun _ _ _ h => h) (Or.inl ⟨by rfl, ?zy6⟩) (by assumption) ?zr6
      case zy6 =>
        intro w hSw
        (try dsimp only at hSw)
        go_simp
        all_goals with_reducible rfl
      try simp only [List.getElem_toArray, List.getElem_cons_zero, List.getElem_cons_succ, Act.put, List.setIfInBounds_toArray, List.set_cons_zero, List.set_cons_succ]
      refine wpAnyH_ready (rs := [7]) (by kernel_rfl) (by simp) ?_
      refine AllReadyH.cons rfl (fun K hK => ?_) AllReadyH.nil
      go_simp
      with_reducible refine (HC.out _ (by first | exact Below.refl _ _ | exact (Below.refl _ _).drew)).mono ?_
      rintro _ X2 ⟨rfl, hb2⟩
      try go_wp2_with fail
      refine hK.out _ _ (HX.out X2 hb2) (fun hHeld => ?_)
      clear hK K
      try simp only [List.getElem_toArray, List.getElem_cons_zero, List.getElem_cons_succ, Act.put, List.setIfInBounds_toArray, List.set_cons_zero, List.set_cons_succ]
      refine wpAnyH_done (by kernel_rfl) ?_ _
      have HF2 : Hid (Mem W X2 [(g, .cells A 39 (0, 0))]) := HM1.out.after hb2
      clear HM1 hb2 HX HC c28 d0
      go_wp2_with fail
      go_roundw
      case rel => exact ⟨i3 + 1, by omega, by go_num, HF.out, HF2.out⟩
      case measure => simp [intOf]; omega
  have h3 : ¬ ((i3 : Int) < n3) := by omega
  obtain rfl : i3 = n3 := by omega
  have F12 : Hid (fnz ((Va.trs t).drop 12) = R) := HE.out HR.out.1
  have HM6 : Hid (Mem W wr [(g, .cells A 39 (0, 0))]) := HR.out.2
  clear HI HR HY HE
  have c29 := (HT.out wr HM6.out).2.1.sess
  have c30 := (HT.out wr HM6.out).2.1.queue
  have c31 := (HT.out wr HM6.out).2.1.rate
  have c32 := (HT.out wr HM6.out).2.1.burst
  have c10 := (HT.out wr HM6.out).2.1.vtep
  clear HT HS HL
  obtain ⟨sess1, hsess⟩ : ∃ x, t.sess = x := ⟨_, rfl⟩
  have HW : Hid (wi t.sess 1 256 = (decide (1 ≤ sess1) && decide (sess1 ≤ 256))) := by rw [← hsess]; rfl
  rw [hsess] at c29
  clear hsess
  by_cases q1 : sess1 < 1
  · obtain rfl := st_no rfl (by decide) F12.out (by rw [HW.out, decide_eq_false (show ¬ 1 ≤ sess1 by omega), Bool.false_and])
    have ea12 : decide (sess1 < 1) = true := decide_eq_true q1
    clear F12 HW
    go_wp2_with fail
    go_ret
    exact ⟨rfl, HM6.out.below⟩
  have ea12 : decide (sess1 < 1) = false := decide_eq_false q1
  by_cases q2 : 256 < sess1
  · obtain rfl := st_no rfl (by decide) F12.out (by rw [HW.out, decide_eq_false (show ¬ sess1 ≤ 256 by omega), Bool.and_false])
    have eb12 : decide (256 < sess1) = true := decide_eq_true q2
    clear F12 HW
    go_wp2_with fail
    go_ret
    exact ⟨rfl, HM6.out.below⟩
  have eb12 : decide (256 < sess1) = false := decide_eq_false q2
  have F13 : Hid (fnz ((Va.trs t).drop 13) = R) := st_yes rfl F12.out (by rw [HW.out, decide_eq_true (show 1 ≤ sess1 by omega), decide_eq_true (show sess1 ≤ 256 by omega)]; rfl)
  clear F12 HW q1 q2
  obtain ⟨queue1, hqueue⟩ : ∃ x, t.queue = x := ⟨_, rfl⟩
  have HW : Hid (wi t.queue 1 64 = (decide (1 ≤ queue1) && decide (queue1 ≤ 64))) := by rw [← hqueue]; rfl
  rw [hqueue] at c30
  clear hqueue
  by_cases q1 : queue1 < 1
  · obtain rfl := st_no rfl (by decide) F13.out (by rw [HW.out, decide_eq_false (show ¬ 1 ≤ queue1 by omega), Bool.false_and])
    have ea13 : decide (queue1 < 1) = true := decide_eq_true q1
    clear F13 HW
    go_wp2_with fail
    go_ret
    exact ⟨rfl, HM6.out.below⟩
  have ea13 : decide (queue1 < 1) = false := decide_eq_false q1
  by_cases q2 : 64 < queue1
  · obtain rfl := st_no rfl (by decide) F13.out (by rw [HW.out, decide_eq_false (show ¬ queue1 ≤ 64 by omega), Bool.and_false])
    have eb13 : decide (64 < queue1) = true := decide_eq_true q2
    clear F13 HW
    go_wp2_with fail
    go_ret
    exact ⟨rfl, HM6.out.below⟩
  have eb13 : decide (64 < queue1) = false := decide_eq_false q2
  have F14 : Hid (fnz ((Va.trs t).drop 14) = R) := st_yes rfl F13.out (by rw [HW.out, decide_eq_true (show 1 ≤ queue1 by omega), decide_eq_true (show queue1 ≤ 64 by omega)]; rfl)
  clear F13 HW q1 q2
  obtain ⟨rate1, hrate⟩ : ∃ x, t.rate = x := ⟨_, rfl⟩
  have HW : Hid (decide (t.rate ≤ 1000000) = decide (rate1 ≤ 1000000)) := by rw [← hrate]; rfl
  rw [hrate] at c31
  clear hrate
  by_cases q2 : 1000000 < rate1
  · obtain rfl := st_no rfl (by decide) F14.out (by rw [HW.out, decide_eq_false (show ¬ rate1 ≤ 1000000 by omega)])
    have eb14 : decide (1000000 < rate1) = true := decide_eq_true q2
    clear F14 HW
    go_wp2_with fail
    go_ret
    exact ⟨rfl, HM6.out.below⟩
  have eb14 : decide (1000000 < rate1) = false := decide_eq_false q2
  have F15 : Hid (fnz ((Va.trs t).drop 15) = R) := st_yes rfl F14.out (by rw [HW.out, decide_eq_true (show rate1 ≤ 1000000 by omega)])
  clear F14 HW q2
  obtain ⟨burst1, hburst⟩ : ∃ x, t.burst = x := ⟨_, rfl⟩
  have HW : Hid (wi t.burst 1 1000000 = (decide (1 ≤ burst1) && decide (burst1 ≤ 1000000))) := by rw [← hburst]; rfl
  rw [hburst] at c32
  clear hburst
  by_cases q1 : burst1 < 1
  · obtain rfl := st_no rfl (by decide) F15.out (by rw [HW.out, decide_eq_false (show ¬ 1 ≤ burst1 by omega), Bool.false_and])
    have ea15 : decide (burst1 < 1) = true := decide_eq_true q1
    clear F15 HW
    go_wp2_with fail
    go_ret
    exact ⟨rfl, HM6.out.below⟩
  have ea15 : decide (burst1 < 1) = false := decide_eq_false q1
  by_cases q2 : 1000000 < burst1
  · obtain rfl := st_no rfl (by decide) F15.out (by rw [HW.out, decide_eq_false (show ¬ burst1 ≤ 1000000 by omega), Bool.and_false])
    have eb15 : decide (1000000 < burst1) = true := decide_eq_true q2
    clear F15 HW
    go_wp2_with fail
    go_ret
    exact ⟨rfl, HM6.out.below⟩
  have eb15 : decide (1000000 < burst1) = false := decide_eq_false q2
  have F16 : Hid (fnz ((Va.trs t).drop 16) = R) := st_yes rfl F15.out (by rw [HW.out, decide_eq_true (show 1 ≤ burst1 by omega), decide_eq_true (show burst1 ≤ 1000000 by omega)]; rfl)
  clear F15 HW q1 q2
  obtain ⟨vt, hvt⟩ : ∃ x, t.vtep = x := ⟨_, rfl⟩
  have HW : Hid ((t.vtep != 0) = (vt != 0)) := by rw [hvt]; rfl
  rw [hvt] at c10
  clear hvt
  by_cases q1 : vt = 0
  · obtain rfl := st_no rfl (by decide) F16.out (by rw [HW.out, q1]; rfl)
    subst q1
    clear F16 HW
    go_wp2_with fail
    go_ret
    exact ⟨rfl, HM6.out.below⟩
  have e20 : (vt == 0) = false := by simp [q1]
  obtain rfl : R = 0 := (st_yes rfl F16.out (by rw [HW.out]; simp [q1])).symm
  clear F16 HW q1
  go_wp2_with fail
  go_ret
  exact ⟨rfl, HM6.out.below⟩
end Go.Proofs.YtnddbklbgddblaaDoor

namespace Go.Proofs.YtnddbklbgddblaaDoor
open Go.RowKit
open Va
set_option linter.unusedVariables false
set_option linter.unusedSimpArgs false
set_option maxRecDepth 20000

/-- Settings' cells, told one by one. -/
structure CBx (w : World) (cl : List Value) (c : Cgf) (ta : Option Addr) (tp : Nat) : Prop where
  len : cl.length = 29
  one : cl.toArray.all (·.oneCell') = true
  ip : cl[0]? = some (.int .u32 c.ip)
  drain : cl[27]? = some (.int .u32 c.drain)
  ten : cl[28]? = some (.slice ta c.ten.length tp)
  cv : CV w (.agg cl.toArray) c
  ts : TSV w (.slice ta c.ten.length tp) c.ten
theorem CV.tb {w : World} {v : Value} {c : Cgf} (h : CV w v c) : ∃ cl ta tp, v = .agg cl.toArray ∧ CBx w cl c ta tp := by
  have h0 := h
  obtain ⟨hl, u, rfl, hu⟩ := h
  have hu0 := hu
  obtain ⟨ta, tp, rfl, -⟩ := hu.parts
  refine ⟨_, ta, tp, rfl, cc_len hl _, cc_one c rfl, ?_, ?_, ?_, h0, hu0⟩
  all_goals
    obtain ⟨ip, m1, m2, m3, ky, dr, ts⟩ := c
    obtain ⟨h1, h2, h3, h4⟩ := hl
    obtain ⟨a, b, c, d, f, g, x, y, rfl⟩ := eight8 h4
    obtain ⟨a1, b1, c1, d1, f1, g1, rfl⟩ := six6 h1
    obtain ⟨a2, b2, c2, d2, f2, g2, rfl⟩ := six6 h2
    obtain ⟨a3, b3, c3, d3, f3, g3, rfl⟩ := six6 h3
    rfl
theorem CBx.later {w V : World} {cl : List Value} {c : Cgf} {ta : Option Addr} {tp : Nat} (h : CBx w cl c ta tp) (hb : Below w.heap.size w V) : CBx V cl c ta tp :=
  { h with cv := h.cv.at_ hb (Nat.le_refl _), ts := h.ts.at_ hb (Nat.le_refl _) }
/-- Settings in the box g. -/
def CBo (W : World) (g : Nat) (c : Cgf) : Prop := ∃ cl ta tp, W.heap[g]? = some (.cells cl.toArray 28 (0, 0)) ∧ CBx W cl c ta tp
theorem CBo.later {W V : World} {g : Nat} {c : Cgf} (h : CBo W g c) (hb : Below W.heap.size W V) : CBo V g c := by
  obtain ⟨cl, ta, tp, h1, h2⟩ := h
  exact ⟨cl, ta, tp, by rw [hb.block g (Array.getElem?_eq_some_iff.mp h1).1]; exact h1, h2.later hb⟩
theorem i29_of {cl : List Value} (h : cl.length = 29) : (Tryd.prog.info? 28).map (·.size) = some cl.toArray.size := by rw [List.size_toArray, h]; kernel_rfl
theorem cell_later {W V : World} (hb : Below W.heap.size W V) {g j : Nat} {v : Value} (h : W.cell? ⟨g, j, none⟩ = some v) : V.cell? ⟨g, j, none⟩ = some v := by rw [hb.cell (p := ⟨g, j, none⟩) (cell_lt h)]; exact h
theorem TSV.head {w : World} {a : Option Addr} {n c : Nat} {ts : List Ten} (h : TSV w (.slice a n c) ts) (i : Nat) (hi : i ≤ ts.length) : TSV w (.slice a i c) (ts.take i) := by
  obtain ⟨zs, h1, h2, h3⟩ := h
  have hl : (zs.map zc).length = ts.length := by rw [← h1]; simp
  refine ⟨zs.take i, by rw [List.map_take, h1], ?_, fun z hz => h3 z (List.mem_of_mem_take hz)⟩
  rw [List.map_take]
  exact h2.head i (by omega)
theorem gq1 {W : World} {g : Nat} {c : Cgf} (h : CBo W g c) : Ask W 35 #[.pointer (some ⟨g, 0, none⟩)] (c.ip != 0) := by
  refine ⟨enters_of Tryd.func35 (by kernel_rfl) rfl, fun V hV => ?_⟩
  obtain ⟨cl, ta, tp, hg, hx⟩ := h.later hV
  have c0 := cell_tl hg hx.ip
  clear h hg hx
  simp only [List.append_toArray, List.cons_append, List.nil_append, Array.empty_append]
  generalize c.ip = x at *
  go_enter Tryd.func35, Tryd.ntmps35
  go_wp2_with fail
  go_ret
  exact ⟨rfl, Below.refl _ _⟩
theorem gq2 {W : World} {g : Nat} {c : Cgf} (h : CBo W g c) : Ask W 36 #[.pointer (some ⟨g, 0, none⟩)] (decide (c.drain ≤ 1000)) := by
  refine ⟨enters_of Tryd.func36 (by kernel_rfl) rfl, fun V hV => ?_⟩
  obtain ⟨cl, ta, tp, hg, hx⟩ := h.later hV
  have c0 := cell_tl hg hx.drain
  clear h hg hx
  simp only [List.append_toArray, List.cons_append, List.nil_append, Array.empty_append]
  generalize c.drain = x at *
  go_enter Tryd.func36, Tryd.ntmps36
  go_wp2_with fail
  go_ret
  exact ⟨rfl, Below.refl _ _⟩
theorem gq3 {W : World} {g : Nat} {c : Cgf} (h : CBo W g c) : Ask W 37 #[.pointer (some ⟨g, 0, none⟩)] (decide ((c.ten.length : Int) ≤ 16)) := by
  refine ⟨enters_of Tryd.func37 (by kernel_rfl) rfl, fun V hV => ?_⟩
  obtain ⟨cl, ta, tp, hg, hx⟩ := h.later hV
  have c0 := cell_tl hg hx.ten
  clear h hg hx
  simp only [List.append_toArray, List.cons_append, List.nil_append, Array.empty_append]
  generalize c.ten.length = x at *
  go_enter Tryd.func37, Tryd.ntmps37
  go_wp2_with fail
  go_ret
  exact ⟨rfl, Below.refl _ _⟩
set_option maxHeartbeats 4000000 in
theorem grules_any {W : World} {v : Value} {c : Cgf} (h : CV W v c) : Calls Tryd.prog 25 #[v] W (Rls W (grs c)) := by
  obtain ⟨cl, ta, tp, rfl, hx⟩ := h.tb
  have hmf := mkf
  obtain ⟨g, hg⟩ : ∃ g, W.heap.size = g := ⟨_, rfl⟩
  have hM0 : Mem W (W.alloc (.cells cl.toArray 28)) [(g, .cells cl.toArray 28 (0, 0))] := (Mem.nil W).push1 hg.symm
  have HM0 : Hid (Mem W (W.alloc (.cells cl.toArray 28)) [(g, .cells cl.toArray 28 (0, 0))]) := hM0
  have HX : Hid (∀ X, Mem W X [(g, .cells cl.toArray 28 (0, 0))] → CBo X g c) := fun X hX => ⟨cl, ta, tp, hX.get 0 rfl, hx.later hX.below⟩
  have HE : Hid (grs c = [ul 96 (c.ip != 0), ul 96 (decide (c.drain ≤ 1000)), ul 96 (decide ((c.ten.length : Int) ≤ 16))]) := rfl
  clear hM0 h hx
  generalize grs c = ES at *
  generalize cl.toArray = A at *
  go_enter Tryd.func25, Tryd.ntmps25
  go_upto_region 1 with fail
  refine wp_letter (fun X => Mem W X [(g, .cells A 28 (0, 0))]) (by exact HM0.out) ?_
  intro V0 hM1
  try simp only [hg]
  clear HM0 hg
  have H0 : Hid (CBo V0 g c ∧ Below W.heap.size W V0) := ⟨HX.out V0 hM1, hM1.below⟩
  clear HX hM1
  go_wp2_with fail
  refine (unless_any (gq1 H0.out.1) 96).mono ?_
  rintro _ X0 ⟨k0, cs0, rfl, hr, hb⟩
  have H1 : Hid (CBo X0 g c ∧ Below W.heap.size W X0 ∧ RlsL X0 _ _) := ⟨H0.out.1.later hb, H0.out.2.trans (hb.mono H0.out.2.size), .cons hr .nil⟩
  clear H0 hr hb
  go_wp2_with fail
  refine (unless_any (gq2 H1.out.1) 96).mono ?_
  rintro _ X1 ⟨k1, cs1, rfl, hr, hb⟩
  have H2 : Hid (CBo X1 g c ∧ Below W.heap.size W X1 ∧ RlsL X1 _ _) := ⟨H1.out.1.later hb, H1.out.2.1.trans (hb.mono H1.out.2.1.size), (H1.out.2.2.later hb).snoc hr⟩
  clear H1 hr hb
  go_wp2_with fail
  refine (unless_any (gq3 H2.out.1) 96).mono ?_
  rintro _ X2 ⟨k2, cs2, rfl, hr, hb⟩
  have H3 : Hid (Below W.heap.size W X2 ∧ RlsL X2 _ _) := ⟨H2.out.2.1.trans (hb.mono H2.out.2.1.size), (H2.out.2.2.later hb).snoc hr⟩
  clear H2 hr hb
  obtain ⟨gl, hgl⟩ : ∃ gl, X2.heap.size = gl := ⟨_, rfl⟩
  have hF := rls_of (cs := #[.func (.func k0) #[] cs0, .func (.func k1) #[] cs1, .func (.func k2) #[] cs2]) H3.out.2 H3.out.1 hgl rfl
  have HF : Hid ((∀ i, i < ES.length → ∃ k c, (X2.alloc (.cells #[.func (.func k0) #[] cs0, .func (.func k1) #[] cs1, .func (.func k2) #[] cs2] 71)).cell? ⟨gl, i, none⟩ = some (.func (.func k) #[] c) ∧ Rul (X2.alloc (.cells #[.func (.func k0) #[] cs0, .func (.func k1) #[] cs1, .func (.func k2) #[] cs2] 71)) k c (ES.getD i 0)) ∧ Below W.heap.size W (X2.alloc (.cells #[.func (.func k0) #[] cs0, .func (.func k1) #[] cs1, .func (.func k2) #[] cs2] 71)) ∧ ES.length = 3) := by
    rw [HE.out]; exact ⟨hF.1, hF.2, rfl⟩
  clear H3 HE hF
  go_wp2_with fail
  go_ret
  refine ⟨gl, ?_, HF.out.1, HF.out.2.1⟩
  rw [HF.out.2.2, ← hgl]
  rfl
end Go.Proofs.YtnddbklbgddblaaDoor

namespace Go.Proofs.YtnddbklbgddblaaDoor
open Go.RowKit
open La
open Ad
set_option linter.unusedVariables false
set_option linter.unusedSimpArgs false
set_option maxRecDepth 20000
end Go.Proofs.YtnddbklbgddblaaDoor

