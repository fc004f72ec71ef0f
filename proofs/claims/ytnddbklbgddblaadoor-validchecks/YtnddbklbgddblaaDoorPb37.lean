/-
  Which settings may be: a tenant's rules, its error.
  Which settings may be: the document's own lists.
  Settings as text: the program's reader: by what a word's value is told: addr's functions, numbers up to a bound, names, filters.
  Settings as text: the program's reader: the value of a word, of six or eight bytes.
-/
import Derived.Test.YtnddbklbgddblaaDoorPb36
import Derived.BigQuiet
namespace Go.Proofs.YtnddbklbgddblaaDoor
open Go.RowKit
open Va
open Ad (nam)
set_option linter.unusedVariables false
set_option linter.unusedSimpArgs false
set_option maxRecDepth 20000

/-- Rules that stand, in order. -/
inductive RlsL (V : World) : List (Nat × Array Value) → List Int → Prop
  | nil : RlsL V [] []
  | cons {k : Nat} {c : Array Value} {e : Int} {ks : List (Nat × Array Value)} {es : List Int} (h : Rul V k c e) (r : RlsL V ks es) : RlsL V ((k, c) :: ks) (e :: es)
theorem RlsL.later {V X : World} (hb : Below V.heap.size V X) {ks : List (Nat × Array Value)} {es : List Int} (h : RlsL V ks es) : RlsL X ks es := by
  induction h with
  | nil => exact .nil
  | cons h _ ih => exact .cons (h.later hb) ih
theorem RlsL.snoc {V : World} {ks : List (Nat × Array Value)} {es : List Int} (h : RlsL V ks es) {k : Nat} {c : Array Value} {e : Int} (hr : Rul V k c e) : RlsL V (ks ++ [(k, c)]) (es ++ [e]) := by
  induction h with
  | nil => exact .cons hr .nil
  | cons h _ ih => exact .cons h ih
def fv (p : Nat × Array Value) : Value := .func (.func p.1) #[] p.2
theorem RlsL.at_ {V : World} {ks : List (Nat × Array Value)} {es : List Int} (h : RlsL V ks es) : ks.length = es.length ∧ ∀ i, i < es.length → ∃ k c, (ks.map fv)[i]? = some (.func (.func k) #[] c) ∧ Rul V k c (es.getD i 0) := by
  induction h with
  | nil => exact ⟨rfl, fun i hi => by simp at hi⟩
  | cons h _ ih =>
    refine ⟨by simp [ih.1], fun i hi => ?_⟩
    cases i with
    | zero => exact ⟨_, _, rfl, h⟩
    | succ i =>
      obtain ⟨k, c, h1, h2⟩ := ih.2 i (by simpa using hi)
      exact ⟨k, c, by simpa using h1, by simpa [List.getD] using h2⟩
/-- What a maker of rules answers. -/
def Rls (W : World) (es : List Int) (e : Ending) (V : World) : Prop := ∃ g, e = .returned (.slice (some ⟨g, 0, none⟩) es.length es.length) ∧ (∀ i, i < es.length → ∃ k c, V.cell? ⟨g, i, none⟩ = some (.func (.func k) #[] c) ∧ Rul V k c (es.getD i 0)) ∧ Below W.heap.size W V
theorem rls_of {W V : World} {g : Nat} {ks : List (Nat × Array Value)} {es : List Int} {cs : Array Value} (h : RlsL V ks es) (hb : Below W.heap.size W V) (hg : V.heap.size = g) (hc : cs.toList = ks.map fv) :
    (∀ i, i < es.length → ∃ k c, (V.alloc (.cells cs 71)).cell? ⟨g, i, none⟩ = some (.func (.func k) #[] c) ∧ Rul (V.alloc (.cells cs 71)) k c (es.getD i 0)) ∧ Below W.heap.size W (V.alloc (.cells cs 71)) := by
  have hb1 : Below V.heap.size V (V.alloc (.cells cs 71)) := (Below.refl _ _).alloc (Nat.le_refl _) _
  refine ⟨fun i hi => ?_, hb.trans (hb1.mono hb.size)⟩
  obtain ⟨k, c, h1, h2⟩ := h.at_.2 i hi
  refine ⟨k, c, ?_, h2.later hb1⟩
  rw [← hg, World.cell?_alloc_new, ← h1, ← hc]
  simp
/-- Where the making of a tenant's rules stands. -/
structure TR (W V : World) (g g1 g2 : Nat) (t : Ten) (ks : List (Nat × Array Value)) (es : List Int) : Prop where
  vs : Vs V
  bo : TBo V g t
  c1 : V.cell? ⟨g1, 0, none⟩ = some (.func (.func 47) #[] #[.pointer (some ⟨g, 0, none⟩)])
  c2 : V.cell? ⟨g2, 0, none⟩ = some (.func (.func 49) #[] #[.pointer (some ⟨g, 0, none⟩)])
  rl : RlsL V ks es
  below : Below W.heap.size W V
theorem TR.step {W V X : World} {g g1 g2 : Nat} {t : Ten} {ks : List (Nat × Array Value)} {es : List Int} (h : TR W V g g1 g2 t ks es) {k : Nat} {c : Array Value} {e : Int} (hr : Rul X k c e) (hb : Below V.heap.size V X) : TR W X g g1 g2 t (ks ++ [(k, c)]) (es ++ [e]) :=
  ⟨h.vs.below hb, h.bo.later hb, by rw [hb.cell (p := ⟨g1, 0, none⟩) (cell_lt h.c1)]; exact h.c1, by rw [hb.cell (p := ⟨g2, 0, none⟩) (cell_lt h.c2)]; exact h.c2, (h.rl.later hb).snoc hr, h.below.trans (hb.mono h.below.size)⟩
set_option maxHeartbeats 16000000 in
theorem trules_any {W : World} {v : Value} {t : Ten} (hv : Vs W) (h : TV W v t) (hm : TSm t) : Calls Tryd.prog 27 #[v] W (Rls W (Va.trs t)) := by
  obtain ⟨tl, pa, sa, qa, pc, sc, qc, rfl, hx⟩ := h.tb
  have hmf := mkf
  obtain ⟨g, hg⟩ : ∃ g, W.heap.size = g := ⟨_, rfl⟩
  have hM0 : Mem W (W.alloc (.cells tl.toArray 39)) [(g, .cells tl.toArray 39 (0, 0))] := (Mem.nil W).push1 hg.symm
  have HM0 : Hid (Mem W (W.alloc (.cells tl.toArray 39)) [(g, .cells tl.toArray 39 (0, 0))]) := hM0
  have HX : Hid (Vs W ∧ TBx W tl t pa sa qa pc sc qc ∧ TSm t) := ⟨hv, hx, hm⟩
  have HE : Hid (Va.trs t = [] ++ [ul 90 (nam t.name.data.toList), ul 91 (wi t.vni 1 16777215), ul 92 (decide ((t.pool.length : Int) ≤ 8)), ul 92 (unl t.pool), ul 93 (wi t.lo 1 t.hi), ul 94 (wi t.filter 0 2), ul 94 (decide ((t.stat.length : Int) ≤ 16)), ul 94 (decide ((t.twi.length : Int) ≤ 16)), ul 94 (unl (fst' t.stat) && unl (snd' t.stat)), ul 94 (unl (fst' t.twi) && unl (snd' t.twi)), wn 94 ((snd' t.stat).any (hs t.pool)), wn 94 ((fst' t.twi).any (owns t)), ul 95 (wi t.sess 1 256), ul 95 (wi t.queue 1 64), ul 95 (decide (t.rate ≤ 1000000)), ul 95 (wi t.burst 1 1000000), ul 96 (t.vtep != 0)]) := rfl
  clear hM0 hv h hx hm
  generalize Va.trs t = ES at *
  obtain ⟨A, hA⟩ : ∃ A, tl.toArray = A := ⟨_, rfl⟩
  rw [hA] at HM0 ⊢
  have HA : Hid (tl.toArray = A) := hA
  clear hA
  go_enter Tryd.func27, Tryd.ntmps27
  go_upto_region 1 with fail
  refine wp_letter (fun X => Mem W X [(g, .cells A 39 (0, 0))]) (by exact HM0.out) ?_
  intro V0 hM1
  try simp only [hg]
  clear HM0 hg
  obtain ⟨g1, hg1⟩ : ∃ g1, V0.heap.size = g1 := ⟨_, rfl⟩
  have HM1 : Hid (Mem W (V0.alloc (.cells #[.func (.func 47) #[] #[.pointer (some ⟨g, 0, none⟩)]] 67)) [(g1, .cells #[.func (.func 47) #[] #[.pointer (some ⟨g, 0, none⟩)]] 67 (0, 0)), (g, .cells A 39 (0, 0))]) := hM1.front _ hg1.symm
  clear hM1
  go_upto_region 2 with fail
  refine wp_letter (fun X => Mem W X [(g1, .cells #[.func (.func 47) #[] #[.pointer (some ⟨g, 0, none⟩)]] 67 (0, 0)), (g, .cells A 39 (0, 0))]) (by exact HM1.out) ?_
  intro V1 hM2
  try simp only [hg1]
  clear HM1 hg1
  obtain ⟨g2, hg2⟩ : ∃ g2, V1.heap.size = g2 := ⟨_, rfl⟩
  have HM2 : Hid (Mem W (V1.alloc (.cells #[.func (.func 49) #[] #[.pointer (some ⟨g, 0, none⟩)]] 67)) [(g2, .cells #[.func (.func 49) #[] #[.pointer (some ⟨g, 0, none⟩)]] 67 (0, 0)), (g1, .cells #[.func (.func 47) #[] #[.pointer (some ⟨g, 0, none⟩)]] 67 (0, 0)), (g, .cells A 39 (0, 0))]) := hM2.front _ hg2.symm
  clear hM2
  go_upto_region 3 with fail
  refine wp_letter (fun X => Mem W X [(g2, .cells #[.func (.func 49) #[] #[.pointer (some ⟨g, 0, none⟩)]] 67 (0, 0)), (g1, .cells #[.func (.func 47) #[] #[.pointer (some ⟨g, 0, none⟩)]] 67 (0, 0)), (g, .cells A 39 (0, 0))]) (by exact HM2.out) ?_
  intro V2 hM3
  try simp only [hg2]
  clear HM2 hg2
  have Ha : Hid (TR W V2 g g1 g2 t [] []) := ⟨HX.out.1.below hM3.below, ⟨tl, pa, sa, qa, pc, sc, qc, by rw [HA.out]; exact hM3.get 2 rfl, HX.out.2.1.later hM3.below⟩, hM3.cell 1 rfl 0, hM3.cell 0 rfl 0, .nil, hM3.below⟩
  have HS : Hid (TSm t) := HX.out.2.2
  clear HX hM3 HA
  go_wp2_with fail
  refine (unless_any (tq3 Ha.out.vs Ha.out.bo HS.out) 90).mono ?_
  rintro _ X0 ⟨k0, cs0, rfl, hr, hb⟩
  have H0 : Hid (TR W X0 g g1 g2 t _ _) := Ha.out.step hr hb
  clear hr hb Ha
  go_wp2_with fail
  refine (unless_any (tq4 H0.out.bo HS.out) 91).mono ?_
  rintro _ X1 ⟨k1, cs1, rfl, hr, hb⟩
  have H1 : Hid (TR W X1 g g1 g2 t _ _) := H0.out.step hr hb
  clear hr hb H0
  go_wp2_with fail
  refine (unless_any (tq5 H1.out.bo HS.out) 92).mono ?_
  rintro _ X2 ⟨k2, cs2, rfl, hr, hb⟩
  have H2 : Hid (TR W X2 g g1 g2 t _ _) := H1.out.step hr hb
  clear hr hb H1
  go_wp2_with fail
  refine (unless_any (tq6 H2.out.bo HS.out) 92).mono ?_
  rintro _ X3 ⟨k3, cs3, rfl, hr, hb⟩
  have H3 : Hid (TR W X3 g g1 g2 t _ _) := H2.out.step hr hb
  clear hr hb H2
  go_wp2_with fail
  refine (unless_any (tq7 H3.out.bo HS.out) 93).mono ?_
  rintro _ X4 ⟨k4, cs4, rfl, hr, hb⟩
  have H4 : Hid (TR W X4 g g1 g2 t _ _) := H3.out.step hr hb
  clear hr hb H3
  go_wp2_with fail
  refine (unless_any (tq8 H4.out.bo HS.out) 94).mono ?_
  rintro _ X5 ⟨k5, cs5, rfl, hr, hb⟩
  have H5 : Hid (TR W X5 g g1 g2 t _ _) := H4.out.step hr hb
  clear hr hb H4
  go_wp2_with fail
  refine (unless_any (tq9 H5.out.bo HS.out) 94).mono ?_
  rintro _ X6 ⟨k6, cs6, rfl, hr, hb⟩
  have H6 : Hid (TR W X6 g g1 g2 t _ _) := H5.out.step hr hb
  clear hr hb H5
  go_wp2_with fail
  refine (unless_any (tq10 H6.out.bo HS.out) 94).mono ?_
  rintro _ X7 ⟨k7, cs7, rfl, hr, hb⟩
  have H7 : Hid (TR W X7 g g1 g2 t _ _) := H6.out.step hr hb
  clear hr hb H6
  go_wp2_with fail
  refine (unless_any (tq11 H7.out.bo HS.out) 94).mono ?_
  rintro _ X8 ⟨k8, cs8, rfl, hr, hb⟩
  have H8 : Hid (TR W X8 g g1 g2 t _ _) := H7.out.step hr hb
  clear hr hb H7
  go_wp2_with fail
  refine (unless_any (tq12 H8.out.bo HS.out) 94).mono ?_
  rintro _ X9 ⟨k9, cs9, rfl, hr, hb⟩
  have H9 : Hid (TR W X9 g g1 g2 t _ _) := H8.out.step hr hb
  clear hr hb H8
  go_wp2_with fail
  refine (when_any (tq13 H9.out.bo HS.out H9.out.c1) 94).mono ?_
  rintro _ X10 ⟨k10, cs10, rfl, hr, hb⟩
  have H10 : Hid (TR W X10 g g1 g2 t _ _) := H9.out.step hr hb
  clear hr hb H9
  go_wp2_with fail
  refine (when_any (tq14 H10.out.bo HS.out H10.out.c2) 94).mono ?_
  rintro _ X11 ⟨k11, cs11, rfl, hr, hb⟩
  have H11 : Hid (TR W X11 g g1 g2 t _ _) := H10.out.step hr hb
  clear hr hb H10
  go_wp2_with fail
  refine (unless_any (tq15 H11.out.bo HS.out) 95).mono ?_
  rintro _ X12 ⟨k12, cs12, rfl, hr, hb⟩
  have H12 : Hid (TR W X12 g g1 g2 t _ _) := H11.out.step hr hb
  clear hr hb H11
  go_wp2_with fail
  refine (unless_any (tq16 H12.out.bo HS.out) 95).mono ?_
  rintro _ X13 ⟨k13, cs13, rfl, hr, hb⟩
  have H13 : Hid (TR W X13 g g1 g2 t _ _) := H12.out.step hr hb
  clear hr hb H12
  go_wp2_with fail
  refine (unless_any (tq17 H13.out.bo HS.out) 95).mono ?_
  rintro _ X14 ⟨k14, cs14, rfl, hr, hb⟩
  have H14 : Hid (TR W X14 g g1 g2 t _ _) := H13.out.step hr hb
  clear hr hb H13
  go_wp2_with fail
  refine (unless_any (tq18 H14.out.bo HS.out) 95).mono ?_
  rintro _ X15 ⟨k15, cs15, rfl, hr, hb⟩
  have H15 : Hid (TR W X15 g g1 g2 t _ _) := H14.out.step hr hb
  clear hr hb H14
  go_wp2_with fail
  refine (unless_any (tq19 H15.out.bo HS.out) 96).mono ?_
  rintro _ X16 ⟨k16, cs16, rfl, hr, hb⟩
  have H16 : Hid (TR W X16 g g1 g2 t _ _) := H15.out.step hr hb
  clear hr hb H15
  obtain ⟨gl, hgl⟩ : ∃ gl, X16.heap.size = gl := ⟨_, rfl⟩
  have hF := rls_of (cs := #[.func (.func k0) #[] cs0, .func (.func k1) #[] cs1, .func (.func k2) #[] cs2, .func (.func k3) #[] cs3, .func (.func k4) #[] cs4, .func (.func k5) #[] cs5, .func (.func k6) #[] cs6, .func (.func k7) #[] cs7, .func (.func k8) #[] cs8, .func (.func k9) #[] cs9, .func (.func k10) #[] cs10, .func (.func k11) #[] cs11, .func (.func k12) #[] cs12, .func (.func k13) #[] cs13, .func (.func k14) #[] cs14, .func (.func k15) #[] cs15, .func (.func k16) #[] cs16]) H16.out.rl H16.out.below hgl rfl
  have HF : Hid ((∀ i, i < ES.length → ∃ k c, (X16.alloc (.cells #[.func (.func k0) #[] cs0, .func (.func k1) #[] cs1, .func (.func k2) #[] cs2, .func (.func k3) #[] cs3, .func (.func k4) #[] cs4, .func (.func k5) #[] cs5, .func (.func k6) #[] cs6, .func (.func k7) #[] cs7, .func (.func k8) #[] cs8, .func (.func k9) #[] cs9, .func (.func k10) #[] cs10, .func (.func k11) #[] cs11, .func (.func k12) #[] cs12, .func (.func k13) #[] cs13, .func (.func k14) #[] cs14, .func (.func k15) #[] cs15, .func (.func k16) #[] cs16] 71)).cell? ⟨gl, i, none⟩ = some (.func (.func k) #[] c) ∧ Rul (X16.alloc (.cells #[.func (.func k0) #[] cs0, .func (.func k1) #[] cs1, .func (.func k2) #[] cs2, .func (.func k3) #[] cs3, .func (.func k4) #[] cs4, .func (.func k5) #[] cs5, .func (.func k6) #[] cs6, .func (.func k7) #[] cs7, .func (.func k8) #[] cs8, .func (.func k9) #[] cs9, .func (.func k10) #[] cs10, .func (.func k11) #[] cs11, .func (.func k12) #[] cs12, .func (.func k13) #[] cs13, .func (.func k14) #[] cs14, .func (.func k15) #[] cs15, .func (.func k16) #[] cs16] 71)) k c (ES.getD i 0)) ∧ Below W.heap.size W (X16.alloc (.cells #[.func (.func k0) #[] cs0, .func (.func k1) #[] cs1, .func (.func k2) #[] cs2, .func (.func k3) #[] cs3, .func (.func k4) #[] cs4, .func (.func k5) #[] cs5, .func (.func k6) #[] cs6, .func (.func k7) #[] cs7, .func (.func k8) #[] cs8, .func (.func k9) #[] cs9, .func (.func k10) #[] cs10, .func (.func k11) #[] cs11, .func (.func k12) #[] cs12, .func (.func k13) #[] cs13, .func (.func k14) #[] cs14, .func (.func k15) #[] cs15, .func (.func k16) #[] cs16] 71)) ∧ ES.length = 17) := by
    rw [HE.out]; exact ⟨hF.1, hF.2, rfl⟩
  clear H16 HS HE hF
  go_wp2_with fail
  go_ret
  refine ⟨gl, ?_, HF.out.1, HF.out.2.1⟩
  rw [HF.out.2.2, ← hgl]
  rfl
end Go.Proofs.YtnddbklbgddblaaDoor

namespace Go.Proofs.YtnddbklbgddblaaDoor
open Go.RowKit
open Va
set_option linter.unusedVariables false
set_option linter.unusedSimpArgs false
set_option maxRecDepth 20000

theorem owns_ref (t : Ten) (x : Int) : owns t x = (t.stat.any (fun p => p.2 == x) || hs t.pool x) := by
  have e : hs t.pool x = t.pool.any (fun y => y == x) := by
    unfold hs
    congr 1
    funext y
    exact Bool.beq_comm
  unfold owns ow1
  rw [e, Bool.or_comm]
set_option maxHeartbeats 4000000 in
theorem rin_any {w : World} {v : Value} {l : List Int} (h : Rw w 1 v (ux l)) (hb : l.length ≤ 1000000) (x : Int) :
    Calls Tryd.prog 29 #[v, .int .u32 x] w fun e w' => e = .returned (.bool (hs l x)) ∧ w = w' := by
  obtain ⟨a, c, rfl, hlc, hcb, hx⟩ := rw_u h
  have HX : Hid (∀ i, i < l.length → ∃ b off, a = some ⟨b, off, none⟩ ∧ w.cell? ⟨b, off + i, none⟩ = some (.int .u32 (l.getD i 0))) := by
    intro i hi
    obtain ⟨b, off, h1, h2⟩ := hx i hi
    exact ⟨b, off, h1, h2 _ (Below.refl _ _)⟩
  have HY : Hid (∀ i, i < l.length → (l.getD i 0 == x) = true → hs l x = true) := fun i hi he => any_yes (d := 0) hi (by rw [Bool.beq_comm]; exact he)
  have HN : Hid (∀ i, i < l.length → hs (l.take i) x = false → (l.getD i 0 == x) = false → hs (l.take (i + 1)) x = false) := fun i hi h0 he => any_no (d := 0) h0 hi (by rw [Bool.beq_comm]; exact he)
  have HE : Hid (hs (l.take l.length) x = false → hs l x = false) := any_end
  have H0 : Hid (hs (l.take 0) x = false) := rfl
  clear h hx
  generalize l.length = n at *
  go_enter Tryd.func29, Tryd.ntmps29
  go_wp2_with fail
  go_loopw [5] (fun u5 w' => ∃ i : Nat, i ≤ n ∧ u5 = .int .i64 i ∧ Hid (hs (l.take i) x = false ∧ w = w')) (fun u5 w' => n - (intOf u5).toNat)
  case atStart => exact ⟨0, Nat.zero_le _, rfl, H0.out, rfl⟩
  case round =>
    obtain ⟨i, hi, rfl, HR⟩ := hrel
    obtain ⟨h0, rfl⟩ := HR.out
    by_cases hlt : i < n
    · have h1 : (i : Int) < n := by omega
      obtain ⟨b, off, rfl, d0⟩ := HX.out i hlt
      have HY1 := HY.out i hlt
      have HN1 := HN.out i hlt h0
      generalize l.getD i 0 = y at *
      cases hxy : (y == x) with
      | true =>
        have HF : Hid (hs l x = true) := HY1 hxy
        clear HY1 HN1 HX HY HN HE H0 HR h0
        go_wp2_with fail
        go_ret
        exact ⟨by rw [HF.out]; rfl, rfl⟩
      | false =>
        have HF : Hid (hs (l.take (i + 1)) x = false ∧ True) := ⟨HN1 hxy, trivial⟩
        clear HY1 HN1 HX HY HN HE H0 HR h0
        go_wp2_with fail
        go_roundw
        case rel => exact ⟨i + 1, by omega, by go_num, HF⟩
        case measure => simp [intOf]; omega
    · have h1 : ¬ ((i : Int) < n) := by omega
      obtain rfl : i = n := by omega
      have HF : Hid (hs l x = false) := HE.out h0
      clear HX HY HN HE H0 HR h0
      go_wp2_with fail
      go_ret
      exact ⟨by rw [HF.out]; rfl, rfl⟩
set_option maxHeartbeats 4000000 in
theorem rowns_any {w : World} {v : Value} {t : Ten} (h : TV w v t) (hm : TSm t) (x : Int) :
    Calls Tryd.prog 19 #[v, .int .u32 x] w fun e w' => e = .returned (.bool (owns t x)) ∧ Below w.heap.size w w' := by
  rw [owns_ref]
  obtain ⟨tl, pa, sa, qa, pc, sc, qc, rfl, hx⟩ := h.tb
  obtain ⟨g, hg⟩ : ∃ g, w.heap.size = g := ⟨_, rfl⟩
  have HM0 : Hid (Mem w (w.alloc (.cells tl.toArray 39)) [(g, .cells tl.toArray 39 (0, 0))]) := (Mem.nil w).push1 hg.symm
  obtain ⟨sa', sc', e, -, -, hs2⟩ := rw_p hx.rs
  simp only [Value.slice.injEq] at e
  obtain ⟨rfl, -, rfl⟩ := e
  have HC : Hid (∀ X, Mem w X [(g, .cells tl.toArray 39 (0, 0))] → X.cell? ⟨g, 27, none⟩ = some (.slice sa t.stat.length sc) ∧ X.cell? ⟨g, 23, none⟩ = some (.slice pa t.pool.length pc) ∧ (∀ i, i < t.stat.length → ∃ b off, sa = some ⟨b, off, none⟩ ∧ X.cell? ⟨b, off + i * 2 + 1, none⟩ = some (.int .u32 (t.stat.getD i (0, 0)).2)) ∧ Calls Tryd.prog 29 #[.slice pa t.pool.length pc, .int .u32 x] X fun e w' => e = .returned (.bool (hs t.pool x)) ∧ X = w') := by
    intro X hX
    refine ⟨cell_tl (hX.get 0 rfl) hx.stat, cell_tl (hX.get 0 rfl) hx.pool, fun i hi => ?_, rin_any (hx.later hX.below).rp hm.2.1 x⟩
    obtain ⟨b, off, h1, h2⟩ := hs2 i hi
    exact ⟨b, off, h1, (h2 X hX.below).2⟩
  have HY : Hid (∀ i, i < t.stat.length → ((t.stat.getD i (0, 0)).2 == x) = true → t.stat.any (fun p => p.2 == x) = true) := fun i hi he => any_yes (d := (0, 0)) hi he
  have HN : Hid (∀ i, i < t.stat.length → (t.stat.take i).any (fun p => p.2 == x) = false → ((t.stat.getD i (0, 0)).2 == x) = false → (t.stat.take (i + 1)).any (fun p => p.2 == x) = false) := fun i hi h0 he => any_no (d := (0, 0)) h0 hi he
  have HE : Hid ((t.stat.take t.stat.length).any (fun p => p.2 == x) = false → t.stat.any (fun p => p.2 == x) = false) := any_end
  have H0 : Hid ((t.stat.take 0).any (fun p => p.2 == x) = false) := rfl
  have hN : t.stat.length ≤ 1000000 := hm.2.2.1
  clear h hm hx hs2
  obtain ⟨A, hA⟩ : ∃ A, tl.toArray = A := ⟨_, rfl⟩
  rw [hA] at HM0 HC ⊢
  clear hA
  generalize hs t.pool x = B2 at *
  generalize t.pool.length = n1 at *
  generalize t.stat.length = n at *
  generalize t.stat.any (fun p => p.2 == x) = B1 at *
  go_enter Tryd.func19, Tryd.ntmps19
  go_upto_region 1 with fail
  refine wp_letter (fun X => Mem w X [(g, .cells A 39 (0, 0))]) (by exact HM0.out) ?_
  intro V hM
  try simp only [hg]
  clear HM0 hg
  have HM : Hid (Mem w V [(g, .cells A 39 (0, 0))]) := hM
  clear hM
  go_wp2_with fail
  go_loopw [5] (fun u5 w' => ∃ i : Nat, i ≤ n ∧ u5 = .int .i64 i ∧ Hid ((t.stat.take i).any (fun p => p.2 == x) = false ∧ Mem w w' [(g, .cells A 39 (0, 0))])) (fun u5 w' => n - (intOf u5).toNat)
  case atStart => exact ⟨0, Nat.zero_le _, rfl, H0.out, HM.out⟩
  case round =>
    obtain ⟨i, hi, rfl, HR⟩ := hrel
    obtain ⟨c27, c23, hcell, C⟩ := HC.out _ HR.out.2
    by_cases hlt : i < n
    · have h1 : (i : Int) < n := by omega
      obtain ⟨b, off, rfl, d0⟩ := hcell i hlt
      have HY1 := HY.out i hlt
      have HN1 := HN.out i hlt HR.out.1
      have HB : Hid (Mem w wr [(g, .cells A 39 (0, 0))]) := HR.out.2
      clear hcell C HC HY HN HE H0 HM HR c23
      generalize (t.stat.getD i (0, 0)).2 = y at *
      cases hxy : (y == x) with
      | true =>
        obtain rfl := HY1 hxy
        clear HY1 HN1
        go_wp2_with fail
        go_ret
        exact ⟨rfl, HB.out.below⟩
      | false =>
        have HF : Hid ((t.stat.take (i + 1)).any (fun p => p.2 == x) = false ∧ Mem w wr [(g, .cells A 39 (0, 0))]) := ⟨HN1 hxy, HB.out⟩
        clear HY1 HN1 HB
        go_wp2_with fail
        go_roundw
        case rel => exact ⟨i + 1, by omega, by go_num, HF⟩
        case measure => simp [intOf]; omega
    · have h1 : ¬ ((i : Int) < n) := by omega
      obtain rfl : i = n := by omega
      obtain rfl := HE.out HR.out.1
      have HB : Hid (Mem w wr [(g, .cells A 39 (0, 0))]) := HR.out.2
      clear hcell HC HY HN HE H0 HM HR
      go_wp2_with fail
      refine C.mono ?_
      rintro _ _ ⟨rfl, rfl⟩
      go_wp2_with fail
      go_ret
      exact ⟨by simp, HB.out.below⟩
namespace Va
/-- A pair that may stand at its place. -/
def pok (l : List (Int × Int)) (i : Nat) : Prop := (l.getD i (0, 0)).1 ≠ 0 ∧ (l.getD i (0, 0)).2 ≠ 0 ∧ ∀ k, k < i → (l.getD k (0, 0)).1 ≠ (l.getD i (0, 0)).1 ∧ (l.getD k (0, 0)).2 ≠ (l.getD i (0, 0)).2
theorem bad_iff {α : Type} {f : α → Int} {d : α} {l : List α} {i : Nat} (hi : i < l.length) : bad (l.map f) i ↔ (f (l.getD i d) = 0 ∨ ∃ k, k < i ∧ f (l.getD k d) = f (l.getD i d)) := by
  have e : ∀ j, j < l.length → (l.map f).getD j 0 = f (l.getD j d) := fun j hj => by simp [List.getD, List.getElem?_eq_getElem hj]
  unfold bad
  rw [e i hi, hs_iff]
  constructor
  · rintro (h | h)
    · exact Or.inl h
    · right
      obtain ⟨k, hk, h2⟩ := List.mem_iff_getElem.mp h
      have hk' : k < i := by simp at hk; omega
      refine ⟨k, hk', ?_⟩
      rw [← h2, ← e k (by omega)]
      simp [List.getD]
      rw [List.getElem?_eq_getElem (by omega)]
      rfl
  · rintro (h | ⟨k, hk, h⟩)
    · exact Or.inl h
    · right
      rw [← h, ← e k (by omega)]
      rw [show (l.map f).getD k 0 = ((l.map f).take i)[k]'(by simp; omega) by simp [List.getD]; rw [List.getElem?_eq_getElem (by omega)]; rfl]
      exact List.getElem_mem _
theorem unl_pok (l : List (Int × Int)) : (unl (fst' l) && unl (snd' l)) = true ↔ ∀ i, i < l.length → pok l i := by
  unfold unl fst' snd'
  rw [Bool.and_eq_true, decide_eq_true_eq, decide_eq_true_eq]
  simp only [List.length_map]
  constructor
  · rintro ⟨h1, h2⟩ i hi
    have k1 := h1 i hi
    have k2 := h2 i hi
    rw [bad_iff (d := (0, 0)) hi] at k1 k2
    exact ⟨fun e => k1 (Or.inl e), fun e => k2 (Or.inl e), fun k hk => ⟨fun e => k1 (Or.inr ⟨k, hk, e⟩), fun e => k2 (Or.inr ⟨k, hk, e⟩)⟩⟩
  · intro h
    refine ⟨fun i hi => ?_, fun i hi => ?_⟩
    · rw [bad_iff (d := (0, 0)) hi]
      rintro (e | ⟨k, hk, e⟩)
      · exact (h i hi).1 e
      · exact ((h i hi).2.2 k hk).1 e
    · rw [bad_iff (d := (0, 0)) hi]
      rintro (e | ⟨k, hk, e⟩)
      · exact (h i hi).2.1 e
      · exact ((h i hi).2.2 k hk).2 e
end Va
set_option maxHeartbeats 8000000 in
theorem rtwice_any {w : World} {v : Value} {l : List (Int × Int)} (h : Rw w 2 v (px l)) (hb : l.length ≤ 1000000) :
    Calls Tryd.prog 30 #[v] w fun e w' => e = .returned (.bool (!(unl (fst' l) && unl (snd' l)))) ∧ Below w.heap.size w w' := by
  obtain ⟨a, c, rfl, hlc, hcb, hx⟩ := rw_p h
  have HX : Hid (∀ i, i < l.length → ∃ b off, a = some ⟨b, off, none⟩ ∧ ∀ V, Below w.heap.size w V → V.cell? ⟨b, off + i * 2, none⟩ = some (.int .u32 (l.getD i (0, 0)).1) ∧ V.cell? ⟨b, off + i * 2 + 1, none⟩ = some (.int .u32 (l.getD i (0, 0)).2)) := hx
  obtain ⟨R, hR⟩ : ∃ R, (!(unl (fst' l) && unl (snd' l))) = R := ⟨_, rfl⟩
  rw [hR]
  have HY : Hid (∀ i, i < l.length → ¬ pok l i → R = true) := by
    intro i hi hn
    rw [← hR, Bool.not_eq_true', Bool.eq_false_iff]
    exact fun e => hn ((unl_pok l).mp e i hi)
  have HE : Hid ((∀ j, j < l.length → pok l j) → R = false) := by
    intro h
    rw [← hR, (unl_pok l).mpr h]; rfl
  have H0 : Hid ((∀ j, j < 0 → pok l j) ∧ Below w.heap.size w w) := ⟨fun j hj => absurd hj (by omega), Below.refl _ _⟩
  clear h hx hR
  generalize l.length = n at *
  go_enter Tryd.func30, Tryd.ntmps30
  go_wp2_with fail
  go_loopw [3] (fun u3 w' => ∃ i : Nat, i ≤ n ∧ u3 = .int .i64 i ∧ Hid ((∀ j, j < i → pok l j) ∧ Below w.heap.size w w')) (fun u3 w' => n - (intOf u3).toNat)
  case atStart => exact ⟨0, Nat.zero_le _, rfl, H0⟩
  case round =>
    obtain ⟨i, hi, rfl, HR⟩ := hrel
    by_cases hlt : i < n
    · have h1 : (i : Int) < n := by omega
      obtain ⟨b, off, rfl, hd⟩ := HX.out i hlt
      have HD : Hid (∀ V, Below w.heap.size w V → V.cell? ⟨b, off + i * 2, none⟩ = some (.int .u32 (l.getD i (0, 0)).1) ∧ V.cell? ⟨b, off + i * 2 + 1, none⟩ = some (.int .u32 (l.getD i (0, 0)).2)) := hd
      obtain ⟨d0, d1⟩ := hd _ HR.out.2
      obtain ⟨x, hx⟩ : ∃ x, (l.getD i (0, 0)).1 = x := ⟨_, rfl⟩
      obtain ⟨y, hy⟩ : ∃ y, (l.getD i (0, 0)).2 = y := ⟨_, rfl⟩
      have HK : Hid (pok l i ↔ x ≠ 0 ∧ y ≠ 0 ∧ ∀ k, k < i → (l.getD k (0, 0)).1 ≠ x ∧ (l.getD k (0, 0)).2 ≠ y) := by rw [← hx, ← hy]; exact Iff.rfl
      rw [hx] at d0 HD
      rw [hy] at d1 HD
      have HY1 : Hid (¬ pok l i → R = true) := HY.out i hlt
      clear hd hx hy HE H0 HY
      by_cases hx0 : x = 0
      · obtain rfl := HY1.out (fun h => (HK.out.mp h).1 hx0)
        have HB : Hid (Below w.heap.size w wr) := HR.out.2
        subst hx0
        clear HX HD HK HY1 HR
        go_wp2_with fail
        go_ret
        exact ⟨rfl, HB.out⟩
      have hx1 : (x == 0) = false := by simp [hx0]
      by_cases hy0 : y = 0
      · obtain rfl := HY1.out (fun h => (HK.out.mp h).2.1 hy0)
        have HB : Hid (Below w.heap.size w wr) := HR.out.2
        subst hy0
        clear HX HD HK HY1 HR hx0
        go_wp2_with fail
        go_ret
        exact ⟨rfl, HB.out⟩
      have hy1 : (y == 0) = false := by simp [hy0]
      have HZ : Hid (x ≠ 0 ∧ y ≠ 0) := ⟨hx0, hy0⟩
      clear hx0 hy0
      have HI : Hid ((∀ k, k < 0 → (l.getD k (0, 0)).1 ≠ x ∧ (l.getD k (0, 0)).2 ≠ y) ∧ Below w.heap.size w wr) := ⟨fun k hk => absurd hk (by omega), HR.out.2⟩
      have HA : Hid (∀ j, j < i → pok l j) := HR.out.1
      clear HR
      go_wp2_with fail
      go_loopw [4] (fun u4 w' => ∃ k : Nat, k ≤ i ∧ u4 = .int .i64 k ∧ Hid ((∀ j, j < k → (l.getD j (0, 0)).1 ≠ x ∧ (l.getD j (0, 0)).2 ≠ y) ∧ Below w.heap.size w w')) (fun u4 w' => i - (intOf u4).toNat)
      case atStart => exact ⟨0, Nat.zero_le _, rfl, HI⟩
      case round =>
        obtain ⟨k, hk, rfl, HS⟩ := hrel
        clear d0 d1
        obtain ⟨d0, d1⟩ := HD.out _ HS.out.2
        by_cases hkl : k < i
        · have h2 : (k : Int) < i := by omega
          have h3 : (k : Int) < n := by omega
          obtain ⟨b', off', e, hd'⟩ := HX.out k (by omega)
          simp only [Option.some.injEq, Addr.mk.injEq] at e
          obtain ⟨rfl, rfl, -⟩ := e
          obtain ⟨d2, d3⟩ := hd' _ HS.out.2
          obtain ⟨u, hu⟩ : ∃ u, (l.getD k (0, 0)).1 = u := ⟨_, rfl⟩
          obtain ⟨z, hz⟩ : ∃ z, (l.getD k (0, 0)).2 = z := ⟨_, rfl⟩
          have HU : Hid (u = x ∨ z = y → R = true) := by
            intro h
            apply HY1.out
            intro hp
            have := (HK.out.mp hp).2.2 k hkl
            rw [hu, hz] at this
            rcases h with h | h
            · exact this.1 h
            · exact this.2 h
          have HW : Hid (u ≠ x → z ≠ y → ∀ j, j < k + 1 → (l.getD j (0, 0)).1 ≠ x ∧ (l.getD j (0, 0)).2 ≠ y) := by
            intro h4 h5 j hj
            rcases Nat.lt_or_ge j k with h | h
            · exact HS.out.1 j h
            · obtain rfl : j = k := by omega
              rw [hu, hz]; exact ⟨h4, h5⟩
          rw [hu] at d2
          rw [hz] at d3
          have HB : Hid (Below w.heap.size w wr) := HS.out.2
          clear hd' hu hz HX HD HK HY1 HI HA HS HZ
          by_cases hux : u = x
          · obtain rfl := HU.out (Or.inl hux)
            have e1 : (u == x) = true := by simp [hux]
            clear HU HW hux
            go_upto_region 9 with fail
            go_quiet (fail)
            go_wp2_with fail
            go_ret
            exact ⟨rfl, Go.below_drewN HB.out _⟩
          · have e1 : (u == x) = false := by simp [hux]
            by_cases hzy : z = y
            · obtain rfl := HU.out (Or.inr hzy)
              have e2 : (z == y) = true := by simp [hzy]
              clear HU HW hzy hux
              go_upto_region 9 with fail
              go_quiet (fail)
              go_wp2_with fail
              go_ret
              exact ⟨rfl, Go.below_drewN HB.out _⟩
            · have e2 : (z == y) = false := by simp [hzy]
              have HF := HW.out hux hzy
              have HF2 : Hid (∀ j, j < k + 1 → (l.getD j (0, 0)).1 ≠ x ∧ (l.getD j (0, 0)).2 ≠ y) := HF
              clear HU HW hzy hux HF
              go_upto_region 9 with fail
              go_quiet (fail)
              go_wp2_with fail
              go_roundw
              case rel => exact ⟨k + 1, by omega, by go_num, HF2.out, Go.below_drewN HB.out _⟩
              case measure => simp [intOf]; omega
        · have h2 : ¬ ((k : Int) < i) := by omega
          obtain rfl : k = i := by omega
          have HF : Hid ((∀ j, j < k + 1 → pok l j) ∧ Below w.heap.size w wr) := by
            refine ⟨fun j hj => ?_, HS.out.2⟩
            rcases Nat.lt_or_ge j k with h | h
            · exact HA.out j h
            · obtain rfl : j = k := by omega
              exact HK.out.mpr ⟨HZ.out.1, HZ.out.2, HS.out.1⟩
          clear HX HD HK HY1 HI HA HS HZ d0 d1
          go_wp2_with fail
          go_roundw
          case rel => exact ⟨k + 1, by omega, by go_num, HF⟩
          case measure => simp [intOf]; omega
    · have h1 : ¬ ((i : Int) < n) := by omega
      obtain rfl : i = n := by omega
      obtain rfl := HE.out HR.out.1
      have HB : Hid (Below w.heap.size w wr) := HR.out.2
      clear HX HY HE H0 HR
      go_wp2_with fail
      go_ret
      exact ⟨rfl, HB.out⟩
end Go.Proofs.YtnddbklbgddblaaDoor

namespace Go.Proofs.YtnddbklbgddblaaDoor
open Go.RowKit
open La
open Ad
set_option linter.unusedVariables false
set_option linter.unusedSimpArgs false
set_option maxRecDepth 20000

end Go.Proofs.YtnddbklbgddblaaDoor

namespace Go.Proofs.YtnddbklbgddblaaDoor
open Go.RowKit
open Cf
open La
open Ad
set_option linter.unusedVariables false
set_option linter.unusedSimpArgs false
set_option maxRecDepth 20000
end Go.Proofs.YtnddbklbgddblaaDoor

