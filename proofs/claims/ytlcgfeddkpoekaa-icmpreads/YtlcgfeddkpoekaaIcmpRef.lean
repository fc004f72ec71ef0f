/-
  What the document's own lychref1.Icmp answers, and lychhelp.Icmp over two messages that are the same.
-/
import Derived.Test.YtlcgfeddkpoekaaIcmpParse
import Derived.Test.YtlcgfeddkpoekaaLong
namespace Go.Proofs.Ytlcgfeddkpoekaa
open Go.RowKit
open Sm
set_option linter.unusedVariables false

set_option maxHeartbeats 400000 in
theorem rmsg_short (a : Option Addr) (n cap : Nat) (w : World) (h : n < 8) :
    Calls Try.prog 10 #[.slice a n cap] w fun e w' => e = .returned (.tuple #[.agg mg0, .int .i64 20]) ∧ Below w.heap.size w w' := by
  have h' : (n : Int) < 8 := by omega
  go_enter Try.func10, Try.ntmps10
  go_wp2
  refine bodyPost_ret (v := .tuple #[.agg mg0, .int .i64 20]) (by simp [results, Try.results10, go_sem]) rfl ⟨rfl, ?_⟩
  exact (Below.refl _ _).alloc (Nat.le_refl _) _

set_option maxRecDepth 20000 in
set_option maxHeartbeats 4000000 in
theorem rmsg_ok {w : World} {b off n cap : Nat} {l : List Int} {m : Nat} (h : Row w (some ⟨b, off, none⟩) l) (hn : l.length = n) (hc : n ≤ cap) (h7 : n ≤ 70000) (hKn : n = 8 + m) (q : Mg)
    (e0 : l.getD 0 0 = q.typ) (e1 : l.getD 1 0 = q.code) (e2 : w16 l 2 = q.sum) (e4 : w32 l 4 = q.rest) (eb : (l.drop 8).take m = q.body) :
    Calls Try.prog 10 #[.slice (some ⟨b, off, none⟩) n cap] w fun r w' => ∃ v, r = .returned (.tuple #[v, .int .i64 0]) ∧ MgV w' w.heap.size v q ∧ Below w.heap.size w w' := by
  obtain ⟨X0, X1, X2, X4, bd⟩ := q
  simp only at e0 e1 e2 e4 eb
  have hln := h.len
  have hb : b < w.heap.size := cell_lt (h.cellAt 0 (by omega))
  have c0 : w.cell? ⟨b, off, none⟩ = some (.int .u8 X0) := by rw [← e0]; exact h.cellAt 0 (by omega)
  have c1 : w.cell? ⟨b, off + 1, none⟩ = some (.int .u8 X1) := by rw [← e1]; exact h.cellAt 1 (by omega)
  have hM := (Mem.nil w).push w.heap.size (.cells mg0 mgT) rfl
  have HM0 : Hid (Mem w (w.alloc (.cells mg0 mgT)) [(w.heap.size, .cells mg0 mgT)]) := hM
  have G2 : Hid (∀ W L, Mem w W L → Calls Try.prog 26 #[.slice (some ⟨b, off, none⟩) n cap, .int .i64 2] W fun e w' => e = .returned (.int .u16 X2) ∧ Mem w w' L) := fun W L hM => by
    rw [← e2]; exact get16_mem hM h 2 n cap hn (by omega)
  have G4 : Hid (∀ W L, Mem w W L → Calls Try.prog 27 #[.slice (some ⟨b, off, none⟩) n cap, .int .i64 4] W fun e w' => e = .returned (.int .u32 X4) ∧ Mem w w' L) := fun W L hM => by
    rw [← e4]; exact get32_mem hM h 4 n cap hn (by omega)
  have lb : bd.length = m := by rw [← eb]; simp; omega
  have T1 : Hid (∀ W L, Mem w W L → Calls Try.prog 28 #[.slice (some ⟨b, off, none⟩) n cap, .int .i64 8, .int .i64 (n : Int)] W fun e w' => ∃ ao co, e = .returned (.slice ao m co) ∧ Row w' ao bd ∧ (ao = none → co = 0) ∧ (∀ x, ao = some x → W.heap.size ≤ x.block) ∧ Below W.heap.size W w' ∧ Mem w w' L) := fun W L hM => by
    have := cut_mem hM h n cap 8 m hn hc (by omega) (by omega)
    rw [eb, ← hKn] at this
    exact this
  have HP : Hid (bd.length = m) := lb
  have i0 : (0 : Int) < n := by omega
  have i0' : 0 < n := by omega
  have i1 : (1 : Int) < n := by omega
  have i8 : (8 : Int) ≤ n := by omega
  have hnl : (n : Int) ≤ 70000 := by omega
  have nb : w.heap.size ≠ b := by omega
  have nb' : b ≠ w.heap.size := by omega
  clear h hn hc h7 hKn e0 e1 e2 e4 eb hln hM lb
  go_enter Try.func10, Try.ntmps10
  go_upto_region 3 with fail
  refine wp_letter (fun W => Mem w W [(w.heap.size, .cells mg0 mgT)]) HM0.out ?_
  intro w1 hM1
  have HM1 : Hid _ := hM1.drew
  have d0 : w1.cell? ⟨b, off, none⟩ = some (.int .u8 X0) := (hM1.old hb).trans c0
  have d1 : w1.cell? ⟨b, off + 1, none⟩ = some (.int .u8 X1) := (hM1.old hb).trans c1
  clear hM1 HM0
  go_region_held3 (fun w' => w'.cell? ⟨b, off, none⟩ = some (.int .u8 X0) ∧ w'.cell? ⟨b, off + 1, none⟩ = some (.int .u8 X1))
    (first | go_keep | with_reducible exact ⟨(Mem.old (by with_reducible assumption) hb).trans c0, (Mem.old (by with_reducible assumption) hb).trans c1⟩)
    (first
      | (go_at_call 26; with_reducible refine (G2.out _ _ HM1.out).mono ?_; rintro e w2 ⟨rfl, hM2⟩)
      | (go_at_call 27; with_reducible refine (G4.out w2 _ hM2).mono ?_; rintro e w3 ⟨rfl, hM3⟩)
      | (go_at_call 28; with_reducible refine (T1.out w3 _ hM3).mono ?_; rintro e w4 ⟨bo, cb, rfl, rb4, nil4, far4, bel4, hM4⟩; have kr : ∀ i, w4.cell? ⟨w.heap.size, i, none⟩ = mg0[i]? := hM4.cell 0 rfl; have kf : ∀ i, w4.frozen? ⟨w.heap.size, i, none⟩ = false := hM4.free 0 rfl))
  have HO : Hid (Row w4 bo bd ∧ (bo = none → cb = 0) ∧ (∀ x, bo = some x → w.heap.size + 1 ≤ x.block)) := by
    have hl : w.heap.size < w3.heap.size := hM3.lt (p := (w.heap.size, _)) (List.mem_cons_self ..)
    exact ⟨rb4, nil4, fun x hx => by have := far4 x hx; omega⟩
  have HM4 : Hid (Mem w w4 [(w.heap.size, .cells mg0 mgT)]) := hM4
  clear hM2 hM3 hM4 G2 G4 T1 rb4 nil4 far4 bel4
  go_wp2_with fail
  refine bodyPost_ret (v := .tuple #[.agg (mgA X0 X1 X2 X4 (.slice bo m cb)), .int .i64 0]) (by simp [results, Try.results10, go_sem, kr]) rfl ⟨_, rfl, ?_, ?_⟩
  · have p1 := HP.out
    obtain ⟨b1, b2, b3⟩ := HO.out
    have z2 : ∀ x, bo = some x → w.heap.size ≠ x.block := fun x hx => by have := b3 x hx; omega
    refine ⟨bo, cb, ?_, ?_, b2, fun x hx => by have := b3 x hx; omega⟩
    · simp only [p1]
    · iterate 5 (refine Row.far ?_ z2)
      exact b1
  · iterate 5 (refine below_set ?_ (Nat.le_refl _))
    exact HM4.out.below

/-- What lychref1.Icmp answers, whatever it is handed (up to 70000 bytes). -/
theorem rmsg_any {w : World} {a : Option Addr} {n c : Nat} {l : List Int} (hr : Row w a l) (hn : l.length = n) (hc : n ≤ c) (h7 : n ≤ 70000) :
    Calls Try.prog 10 #[.slice a n c] w fun r w' => ∃ v, r = .returned (.tuple #[v, .int .i64 (mgErr l)]) ∧ MgV w' w.heap.size v (mgRes l) ∧ Below w.heap.size w w' := by
  subst hn
  by_cases h1 : l.length < 8
  · rw [(mg_e20 h1).1, (mg_e20 h1).2]
    refine (rmsg_short a _ c w h1).mono ?_
    rintro r w' ⟨rfl, hb⟩
    exact ⟨_, rfl, mgv_zero _ _, hb⟩
  rcases hr.cells with e0 | ⟨b, off, rfl, -⟩
  · rw [e0] at h1; simp at h1
  rw [(mg_e0 h1).1, (mg_e0 h1).2]
  exact rmsg_ok (m := l.length - 8) hr rfl hc h7 (by omega) (mgMg l) rfl rfl rfl rfl rfl

set_option maxHeartbeats 2000000 in
theorem hmsg_yes {w : World} {B C : Nat} {v u : Value} {q : Mg} (hv : MgV w B v q) (hu : MgV w C u q) :
    Calls Try.prog 11 #[v, u] w fun e w' => e = .returned (.bool true) ∧ Below w.heap.size w w' := by
  obtain ⟨bo, cb, rfl, h2, -⟩ := hv
  obtain ⟨bo', cb', rfl, h2', -⟩ := hu
  obtain ⟨t, k, c, r, body⟩ := q
  simp only at h2 h2' ⊢
  have hM : ∀ x y, Mem w ((w.alloc (.cells x mgT)).alloc (.cells y mgT)) [(w.heap.size, .cells x mgT), (w.heap.size + 1, .cells y mgT)] := fun x y => ((Mem.nil w).push w.heap.size _ rfl).push (w.heap.size + 1) _ (by simp)
  have HB : Hid (∀ x y, Below w.heap.size w ((w.alloc (.cells x mgT)).alloc (.cells y mgT))) := fun x y => (hM x y).below
  have k2 := fun x y => hbytes_yes ((hM x y).row h2) ((hM x y).row h2') body.length body.length rfl rfl cb cb'
  generalize body.length = nb at *
  clear h2 h2' hM
  go_enter Try.func11, Try.ntmps11
  go_wp2_with fail
  refine (k2 _ _).mono ?_
  rintro e w' ⟨rfl, rfl⟩
  go_wp2
  go_ret
  exact ⟨rfl, HB.out _ _⟩
end Go.Proofs.Ytlcgfeddkpoekaa
