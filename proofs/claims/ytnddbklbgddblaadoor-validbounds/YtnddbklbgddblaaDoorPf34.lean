/-
  Which settings may be: rules out of questions; lists of addresses.
  Settings as bytes: the document's OpenConfig: stores into its box.
-/
import Derived.Test.YtnddbklbgddblaaDoorPf33
import Derived.Test.YtnddbklbgddblaaDoorPf04
import Derived.Test.YtnddbklbgddblaaDoorPf29
namespace Go.Proofs.YtnddbklbgddblaaDoor
open Go.RowKit
open Va
open Ad (nam)
set_option linter.unusedVariables false
set_option linter.unusedSimpArgs false
set_option maxRecDepth 20000

set_option maxHeartbeats 2000000 in
theorem unless1_any {W : World} {g h k : Nat} {caps : Array Value} {b : Bool} {e : Int} (hf : Ask W k caps b) (c1 : W.cell? ⟨h, 0, none⟩ = some (.func (.func k) #[] caps)) (c2 : W.cell? ⟨g, 0, none⟩ = some (.int .i64 e)) :
    Rul W 78 #[.pointer (some ⟨h, 0, none⟩), .pointer (some ⟨g, 0, none⟩)] (ul e b) := by
  refine ⟨enters_of Tryd.func78 (by kernel_rfl) rfl, fun V hV => ?_⟩
  have d1 : V.cell? ⟨h, 0, none⟩ = some (.func (.func k) #[] caps) := by rw [hV.cell (p := ⟨h, 0, none⟩) (cell_lt c1)]; exact c1
  have HD : Hid (∀ X, Below V.heap.size V X → X.cell? ⟨g, 0, none⟩ = some (.int .i64 e)) := by
    intro X hX
    have hb := hV.trans (hX.mono hV.size)
    rw [hb.cell (p := ⟨g, 0, none⟩) (cell_lt c2)]; exact c2
  have C := hf.2 V hV
  have eg : ∀ args V, (callFunc k args).run Tryd.prog V = .ok (.enter k args) V := hf.1
  clear hf c1 c2 hV
  simp only [List.append_toArray, List.cons_append, List.nil_append, Array.empty_append]
  simp only [List.append_toArray, List.cons_append, List.nil_append, Array.empty_append] at C
  cases b with
  | true =>
    go_enter Tryd.func78, Tryd.ntmps78
    go_wp2_with fail
    refine C.mono ?_
    rintro _ X ⟨rfl, hb⟩
    clear HD
    go_wp2_with fail
    go_ret
    exact ⟨rfl, hb⟩
  | false =>
    go_enter Tryd.func78, Tryd.ntmps78
    go_wp2_with fail
    refine C.mono ?_
    rintro _ X ⟨rfl, hb⟩
    have d2 := HD.out X hb
    clear HD
    go_wp2_with fail
    go_ret
    exact ⟨rfl, hb⟩
/-- What unless and when answer: a rule of the call's own. -/
def Mkd (W : World) (r : Int) (e : Ending) (V : World) : Prop := ∃ k caps, e = .returned (.func (.func k) #[] caps) ∧ Rul V k caps r ∧ Below W.heap.size W V
set_option maxHeartbeats 2000000 in
theorem unless_any {W : World} {k : Nat} {caps : Array Value} {b : Bool} (hf : Ask W k caps b) (e : Int) : Calls Tryd.prog 34 #[.int .i64 e, .func (.func k) #[] caps] W (Mkd W (ul e b)) := by
  have hmf := mkf
  obtain ⟨g, hg⟩ : ∃ g, W.heap.size = g := ⟨_, rfl⟩
  have hM := two_blocks' W (.cells #[.int .i64 e] 31) (.cells #[.func (.func k) #[] caps] 29)
  have hr : Rul ((W.alloc (.cells #[.int .i64 e] 31)).alloc (.cells #[.func (.func k) #[] caps] 29)) 78 #[.pointer (some ⟨W.heap.size + 1, 0, none⟩), .pointer (some ⟨W.heap.size, 0, none⟩)] (ul e b) := unless1_any (hf.later hM.below) (hM.cell 0 rfl 0) (hM.cell 1 rfl 0)
  have HR : Hid (Rul ((W.alloc (.cells #[.int .i64 e] 31)).alloc (.cells #[.func (.func k) #[] caps] 29)) 78 #[.pointer (some ⟨W.heap.size + 1, 0, none⟩), .pointer (some ⟨W.heap.size, 0, none⟩)] (ul e b) ∧ Below W.heap.size W ((W.alloc (.cells #[.int .i64 e] 31)).alloc (.cells #[.func (.func k) #[] caps] 29))) := ⟨hr, hM.below⟩
  clear hf hM hr hg
  generalize ul e b = R at *
  go_enter Tryd.func34, Tryd.ntmps34
  go_wp2_with fail
  go_ret
  exact ⟨_, _, rfl, HR.out.1, HR.out.2⟩
set_option maxHeartbeats 2000000 in
theorem when1_any {W : World} {h k : Nat} {caps : Array Value} {b : Bool} (hf : Ask W k caps b) (c1 : W.cell? ⟨h, 0, none⟩ = some (.func (.func k) #[] caps)) :
    Ask W 80 #[.pointer (some ⟨h, 0, none⟩)] (!b) := by
  refine ⟨enters_of Tryd.func80 (by kernel_rfl) rfl, fun V hV => ?_⟩
  have d1 : V.cell? ⟨h, 0, none⟩ = some (.func (.func k) #[] caps) := by rw [hV.cell (p := ⟨h, 0, none⟩) (cell_lt c1)]; exact c1
  have C := hf.2 V hV
  have eg : ∀ args V, (callFunc k args).run Tryd.prog V = .ok (.enter k args) V := hf.1
  clear hf c1 hV
  simp only [List.append_toArray, List.cons_append, List.nil_append, Array.empty_append]
  simp only [List.append_toArray, List.cons_append, List.nil_append, Array.empty_append] at C
  go_enter Tryd.func80, Tryd.ntmps80
  go_wp2_with fail
  refine C.mono ?_
  rintro _ X ⟨rfl, hb⟩
  go_wp2_with fail
  go_ret
  exact ⟨rfl, hb⟩
set_option maxHeartbeats 2000000 in
theorem when_any {W : World} {k : Nat} {caps : Array Value} {b : Bool} (hf : Ask W k caps b) (e : Int) : Calls Tryd.prog 44 #[.int .i64 e, .func (.func k) #[] caps] W (Mkd W (wn e b)) := by
  have hmf := mkf
  have hM : Mem W (W.alloc (.cells #[.func (.func k) #[] caps] 29)) [(W.heap.size, .cells #[.func (.func k) #[] caps] 29 (0, 0))] := (Mem.nil W).push1 rfl
  have C := unless_any (when1_any (hf.later hM.below) (hM.cell 0 rfl 0)) e
  have HB : Hid (Below W.heap.size W (W.alloc (.cells #[.func (.func k) #[] caps] 29))) := hM.below
  unfold wn
  clear hf hM
  generalize ul e (!b) = R at *
  go_enter Tryd.func44, Tryd.ntmps44
  go_wp2_with fail
  refine C.mono ?_
  rintro _ X ⟨k2, cs2, rfl, hr, hb⟩
  have HR : Hid (Rul X k2 cs2 R ∧ Below W.heap.size W X) := ⟨hr, HB.out.trans (hb.mono HB.out.size)⟩
  clear hr hb HB C
  go_wp2_with fail
  go_ret
  exact ⟨_, _, rfl, HR.out.1, HR.out.2⟩
theorem fnz_drop {es : List Int} {i : Nat} (hi : i < es.length) (h0 : es.getD i 0 = 0) : fnz (es.drop i) = fnz (es.drop (i + 1)) := by
  rw [List.drop_eq_getElem_cons hi, fnz_yes]
  simpa [List.getD, List.getElem?_eq_getElem hi] using h0
theorem fnz_at {es : List Int} {i : Nat} (hi : i < es.length) (h0 : es.getD i 0 ≠ 0) : fnz (es.drop i) = es.getD i 0 := by
  rw [List.drop_eq_getElem_cons hi, fnz_no]
  · simp [List.getD, List.getElem?_eq_getElem hi]
  · simpa [List.getD, List.getElem?_eq_getElem hi] using h0
set_option maxHeartbeats 4000000 in
theorem first_any {W : World} {g n : Nat} {es : List Int} (hn : es.length = n) (hn2 : n ≤ 1000) (h : ∀ i, i < n → ∃ k caps, W.cell? ⟨g, i, none⟩ = some (.func (.func k) #[] caps) ∧ Rul W k caps (es.getD i 0)) :
    Calls Tryd.prog 24 #[.slice (some ⟨g, 0, none⟩) n n] W fun e V => e = .returned (.int .i64 (fnz es)) ∧ Below W.heap.size W V := by
  have HX : Hid (∀ i, i < n → ∃ k caps, W.cell? ⟨g, i, none⟩ = some (.func (.func k) #[] caps) ∧ Rul W k caps (es.getD i 0)) := h
  have HN : Hid (∀ i, i < n → es.getD i 0 = 0 → fnz (es.drop i) = fnz es → fnz (es.drop (i + 1)) = fnz es) := fun i hi h0 h1 => by rw [← fnz_drop (by omega) h0]; exact h1
  have HY : Hid (∀ i, i < n → es.getD i 0 ≠ 0 → fnz (es.drop i) = fnz es → fnz es = es.getD i 0) := fun i hi h0 h1 => by rw [← h1]; exact fnz_at (by omega) h0
  have HE : Hid (fnz (es.drop n) = fnz es → fnz es = 0) := fun h1 => by rw [← h1, List.drop_eq_nil_of_le (by omega)]; rfl
  have H0 : Hid (fnz (es.drop 0) = fnz es ∧ Below W.heap.size W W) := ⟨rfl, Below.refl _ _⟩
  clear h hn
  generalize fnz es = R at *
  go_enter Tryd.func24, Tryd.ntmps24
  go_wp2_with fail
  go_loopw [8] (fun u8 w' => ∃ i : Nat, i ≤ n ∧ u8 = .int .i64 i ∧ Hid (fnz (es.drop i) = R ∧ Below W.heap.size W w')) (fun u8 w' => n - (intOf u8).toNat)
  case atStart => exact ⟨0, Nat.zero_le _, rfl, H0⟩
  case round =>
    obtain ⟨i, hi, rfl, HR⟩ := hrel
    by_cases hlt : i < n
    · have h1 : (i : Int) < n := by omega
      obtain ⟨k, caps, c0, hr⟩ := HX.out i hlt
      have hbw := HR.out.2
      have d0 : wr.cell? ⟨g, i, none⟩ = some (.func (.func k) #[] caps) := by rw [hbw.cell (p := ⟨g, i, none⟩) (cell_lt c0)]; exact c0
      have C := hr.2 wr hbw
      have eg : ∀ args V, (callFunc k args).run Tryd.prog V = .ok (.enter k args) V := hr.1
      simp only [List.append_toArray, List.cons_append, List.nil_append, Array.empty_append] at C
      have HN1 : Hid (es.getD i 0 = 0 → fnz (es.drop (i + 1)) = R) := fun h0 => HN.out i hlt h0 HR.out.1
      have HY1 : Hid (es.getD i 0 ≠ 0 → R = es.getD i 0) := fun h0 => HY.out i hlt h0 HR.out.1
      have HB : Hid (Below W.heap.size W wr) := hbw
      clear HX HN HY HE H0 HR hr hbw c0
      generalize es.getD i 0 = x at *
      by_cases hx : x = 0
      · have hq := HN1.out hx
        subst hx
        go_wp2_with fail
        refine C.mono ?_
        rintro _ X ⟨rfl, hb⟩
        have HF : Hid (fnz (es.drop (i + 1)) = R ∧ Below W.heap.size W X) := ⟨hq, HB.out.trans (hb.mono HB.out.size)⟩
        clear hq hb C HB HN1 HY1 d0
        go_wp2_with fail
        go_roundw
        case rel => exact ⟨i + 1, by omega, by go_num, HF⟩
        case measure => simp [intOf]; omega
      · obtain rfl := HY1.out hx
        have hx2 : (R != 0) = true := by simp [hx]
        go_wp2_with fail
        refine C.mono ?_
        rintro _ X ⟨rfl, hb⟩
        have HF : Hid (Below W.heap.size W X) := HB.out.trans (hb.mono HB.out.size)
        clear hb C HB HN1 HY1 d0
        go_wp2_with fail
        go_ret
        exact ⟨rfl, HF.out⟩
    · have h1 : ¬ ((i : Int) < n) := by omega
      obtain rfl : i = n := by omega
      obtain rfl := HE.out HR.out.1
      have HB : Hid (Below W.heap.size W wr) := HR.out.2
      clear HX HN HY HE H0 HR
      go_wp2_with fail
      go_ret
      exact ⟨rfl, HB.out⟩
end Go.Proofs.YtnddbklbgddblaaDoor

namespace Go.Proofs.YtnddbklbgddblaaDoor
open Go.RowKit
open Sm
open Cf
set_option linter.unusedVariables false
set_option linter.unusedSimpArgs false
set_option maxRecDepth 20000

theorem cc_put {t t' : Cgf} {p p' : Value} {o : Nat} {v : Value} (h : CLen t) (e : ∀ ip a b c d f g a1 b1 c1 d1 f1 g1 a2 b2 c2 d2 f2 g2 k1 k2 k3 k4 k5 k6 k7 k8 dr te,
    t = ⟨ip, [a, b, c, d, f, g], [a1, b1, c1, d1, f1, g1], [a2, b2, c2, d2, f2, g2], [k1, k2, k3, k4, k5, k6, k7, k8], dr, te⟩ → (cc t p).set o v = cc t' p') : (cc t p).toArray.setIfInBounds o v = (cc t' p').toArray := by
  rw [List.setIfInBounds_toArray, cset h e]
theorem cc_drain (t : Cgf) (u : Value) (y : Int) (h : CLen t) : (cc t u).toArray.setIfInBounds 27 (.int .u32 y) = (cc { t with drain := y } u).toArray :=
  cc_put h (by rintro ip a b c d f g a1 b1 c1 d1 f1 g1 a2 b2 c2 d2 f2 g2 k1 k2 k3 k4 k5 k6 k7 k8 dr te rfl; rfl)
theorem cc_ten (t : Cgf) (u u' : Value) (h : CLen t) : (cc t u).toArray.setIfInBounds 28 u' = (cc t u').toArray :=
  cc_put h (by rintro ip a b c d f g a1 b1 c1 d1 f1 g1 a2 b2 c2 d2 f2 g2 k1 k2 k3 k4 k5 k6 k7 k8 dr te rfl; rfl)
theorem cc_at28 {t : Cgf} (h : CLen t) (u : Value) : (cc t u).toArray[28]? = some u := by
  obtain ⟨ip, m1, m2, m3, k, dr, te⟩ := t
  obtain ⟨h1, h2, h3, h4⟩ := h
  obtain ⟨a, b, c, d, f, g, rfl⟩ := six6 h1
  obtain ⟨a1, b1, c1, d1, f1, g1, rfl⟩ := six6 h2
  obtain ⟨a2, b2, c2, d2, f2, g2, rfl⟩ := six6 h3
  obtain ⟨k1, k2, k3, k4, k5, k6, k7, k8, rfl⟩ := eight8 h4
  rfl
theorem bsliceT (z : Tv) (hl : TLen z.1) (V : World) : (Instr.buildSlice 26 1 #[(0, .agg (zc z).toArray)]).run Tryd.prog V = .ok (.slice (some ⟨V.heap.size, 0, none⟩) 1 1) (V.alloc (.cells (zc z).toArray 39)) := by
  obtain ⟨⟨n, vn, key, vt, vm, ho, po, lo, hi, fi, st, tw, se, qu, ra, bu⟩, p, s, q⟩ := z
  obtain ⟨h1, h2, h3⟩ := hl
  obtain ⟨a, b, c, d, f, g, x, y, rfl⟩ := eight8 h1
  obtain ⟨a1, b1, c1, d1, f1, g1, rfl⟩ := six6 h2
  obtain ⟨a2, b2, c2, d2, f2, g2, rfl⟩ := six6 h3
  obtain ⟨os, tape, heap⟩ := V
  kernel_rfl
theorem wpList_bsl {ops : Array Oper} {rest : List Oper} {o : Oper} {a : Act} {w w' : World} {Q : Exit → Act → World → Prop} (hw : Region.wanted o (yielded ops a.tmps) = true) (ty : TypeId) (n : Nat) (parts : Array (Nat × Operand)) (ho : o.op = .buildSlice ty n parts) {vs : Array (Nat × Value)} {v : Value}
    (hr : (Instr.buildSlice ty n vs).run Tryd.prog w = .ok v w') (hv : (parts.map fun (i, x) => (i, a.eval x)) = vs) (h : wpList Tryd.prog ops Q rest (a.put o.dst v) w') : wpList Tryd.prog ops Q (o :: rest) a w :=
  wpList_wanted hw fun _ hK => by
    subst hv
    unfold Oper.wp execOp
    simp only [ho, Sem.run_bind, hr, Result.andThen_ok, Sem.run_pure]
    exact hK _ _ h
end Go.Proofs.YtnddbklbgddblaaDoor

