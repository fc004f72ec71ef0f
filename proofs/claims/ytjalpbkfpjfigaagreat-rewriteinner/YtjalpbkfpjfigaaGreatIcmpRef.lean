/-
  What the document's own lychref1.Icmp answers, and lychhelp.Icmp over two messages that are the same.
-/
import Derived.Test.YtjalpbkfpjfigaaGreatIcmpParse
import Derived.Test.YtjalpbkfpjfigaaGreatLong
namespace Go.Proofs.YtjalpbkfpjfigaaGreat
open Go.RowKit
open Sm
set_option linter.unusedVariables false

set_option maxHeartbeats 400000 in
theorem rmsg_short (a : Option Addr) (n cap : Nat) (w : World) (h : n < 8) :
    Calls Tryz.prog 37 #[.slice a n cap] w fun e w' => e = .returned (.tuple #[.agg mg0, .int .i64 20]) ∧ Below w.heap.size w w' := by
  have h' : (n : Int) < 8 := by omega
  go_enter Tryz.func37, Tryz.ntmps37
  go_wp2
  refine bodyPost_ret (v := .tuple #[.agg mg0, .int .i64 20]) (by simp [results, Tryz.results37, go_sem]) rfl ⟨rfl, ?_⟩
  exact (Below.refl _ _).alloc (Nat.le_refl _) _

set_option maxRecDepth 20000 in
set_option maxHeartbeats 4000000 in
theorem rmsg_ok {w : World} {b off n cap : Nat} {l : List Int} {m : Nat} (h : Row w (some ⟨b, off, none⟩) l) (hn : l.length = n) (hc : n ≤ cap) (h7 : n ≤ 70000) (hKn : n = 8 + m) (q : Mg)
    (e0 : l.getD 0 0 = q.typ) (e1 : l.getD 1 0 = q.code) (e2 : w16 l 2 = q.sum) (e4 : w32 l 4 = q.rest) (eb : (l.drop 8).take m = q.body) :
    Calls Tryz.prog 37 #[.slice (some ⟨b, off, none⟩) n cap] w fun r w' => ∃ v, r = .returned (.tuple #[v, .int .i64 0]) ∧ MgO w' w.heap.size v q ∧ Below w.heap.size w w' := by
  obtain ⟨X0, X1, X2, X4, bd⟩ := q
  simp only at e0 e1 e2 e4 eb
  have hln := h.len
  have hb : b < w.heap.size := cell_lt (h.cellAt 0 (by omega))
  have c0 : w.cell? ⟨b, off, none⟩ = some (.int .u8 X0) := by rw [← e0]; exact h.cellAt 0 (by omega)
  have c1 : w.cell? ⟨b, off + 1, none⟩ = some (.int .u8 X1) := by rw [← e1]; exact h.cellAt 1 (by omega)
  have hM := (Mem.nil w).push w.heap.size (.cells mg0 mgT) rfl
  have HM0 : Hid (Mem w (w.alloc (.cells mg0 mgT)) [(w.heap.size, .cells mg0 mgT)]) := hM
  have G2 : Hid (∀ W L, Mem w W L → Calls Tryz.prog 41 #[.slice (some ⟨b, off, none⟩) n cap, .int .i64 2] W fun e w' => e = .returned (.int .u16 X2) ∧ Mem w w' L) := fun W L hM => by
    rw [← e2]; exact get16_mem hM h 2 n cap hn (by omega)
  have G4 : Hid (∀ W L, Mem w W L → Calls Tryz.prog 70 #[.slice (some ⟨b, off, none⟩) n cap, .int .i64 4] W fun e w' => e = .returned (.int .u32 X4) ∧ Mem w w' L) := fun W L hM => by
    rw [← e4]; exact get32_mem hM h 4 n cap hn (by omega)
  have lb : bd.length = m := by rw [← eb]; simp; omega
  have T1 : Hid (∀ W L, Mem w W L → Calls Tryz.prog 66 #[.slice (some ⟨b, off, none⟩) n cap, .int .i64 8, .int .i64 (n : Int)] W fun e w' => ∃ ao co, e = .returned (.slice ao m co) ∧ w'.ownsRow W.heap.size 5 1 (.slice ao m co) m (bd.map (Value.int .u8)) ∧ Below W.heap.size W w' ∧ Mem w w' L) := fun W L hM => by
    have := cut_own hM h n cap 8 m hn hc (by omega) (by omega)
    rw [eb, ← hKn] at this
    exact this
  have HBd : Hid (IsBytes bd ∧ m ≤ 70000) := ⟨by rw [← eb]; exact bytes_part h.bytes _ _, by omega⟩
  have HP : Hid (bd.length = m) := lb
  have i0 : (0 : Int) < n := by omega
  have i0' : 0 < n := by omega
  have i1 : (1 : Int) < n := by omega
  have i8 : (8 : Int) ≤ n := by omega
  have hnl : (n : Int) ≤ 70000 := by omega
  have nb : w.heap.size ≠ b := by omega
  have nb' : b ≠ w.heap.size := by omega
  clear h hn hc h7 hKn e0 e1 e2 e4 eb hln hM lb
  go_enter Tryz.func37, Tryz.ntmps37
  go_upto_region 3 with fail
  refine wp_letter (fun W => Mem w W [(w.heap.size, .cells mg0 mgT)]) HM0.out ?_
  intro w1 hM1
  have HM1 : Hid _ := hM1.drew
  have d0 : w1.cell? ⟨b, off, none⟩ = some (.int .u8 X0) := (hM1.old hb).trans c0
  have d1 : w1.cell? ⟨b, off + 1, none⟩ = some (.int .u8 X1) := (hM1.old hb).trans c1
  clear hM1 HM0
  go_region_held3 (fun w' => w'.cell? ⟨b, off, none⟩ = some (.int .u8 X0) ∧ w'.cell? ⟨b, off + 1, none⟩ = some (.int .u8 X1))
    (first | go_keep | with_reducible exact ⟨(Mem.old (by with_reducible assumption) hb).trans c0, (Mem.old (by with_reducible assumption) hb).trans c1⟩)
    (first
      | (go_at_call 41; with_reducible refine (G2.out _ _ HM1.out).mono ?_; rintro e w2 ⟨rfl, hM2⟩)
      | (go_at_call 70; with_reducible refine (G4.out w2 _ hM2).mono ?_; rintro e w3 ⟨rfl, hM3⟩)
      | (go_at_call 66; with_reducible refine (T1.out w3 _ hM3).mono ?_; rintro e w4 ⟨bo, cb, rfl, own4, bel4, hM4⟩; have kr : ∀ i, w4.cell? ⟨w.heap.size, i, none⟩ = mg0[i]? := hM4.cell 0 rfl; have kf : ∀ i, w4.frozen? ⟨w.heap.size, i, none⟩ = false := hM4.free 0 rfl))
  have HO : Hid (w4.ownsRow (w.heap.size + 1) 5 1 (.slice bo m cb) m (bd.map (Value.int .u8))) := by
    have hl : w.heap.size < w3.heap.size := hM3.lt (p := (w.heap.size, _)) (List.mem_cons_self ..)
    exact own_base own4 hl
  have HM4 : Hid (Mem w w4 [(w.heap.size, .cells mg0 mgT)]) := hM4
  clear hM2 hM3 hM4 G2 G4 T1 own4 bel4
  go_wp2_with fail
  refine bodyPost_ret (v := .tuple #[.agg (mgA X0 X1 X2 X4 (.slice bo m cb)), .int .i64 0]) (by simp [results, Tryz.results37, go_sem, kr]) rfl ⟨_, rfl, ?_, ?_⟩
  · have p1 := HP.out
    refine ⟨bo, cb, by simp only [p1], ?_, HBd.out.1, by simp only [p1]; have := HBd.out.2; omega⟩
    simp only [p1]
    refine own_base (B := w.heap.size + 1) ?_ (Nat.le_succ _)
    iterate 5 (refine own_far ?_ (Nat.lt_succ_self _))
    exact HO.out
  · iterate 5 (refine below_set ?_ (Nat.le_refl _))
    exact HM4.out.below

/-- What lychref1.Icmp answers, whatever it is handed (up to 70000 bytes). -/
theorem rmsg_own {w : World} {a : Option Addr} {n c : Nat} {l : List Int} (hr : Row w a l) (hn : l.length = n) (hc : n ≤ c) (h7 : n ≤ 70000) :
    Calls Tryz.prog 37 #[.slice a n c] w fun r w' => ∃ v, r = .returned (.tuple #[v, .int .i64 (mgErr l)]) ∧ MgO w' w.heap.size v (mgRes l) ∧ Below w.heap.size w w' := by
  subst hn
  by_cases h1 : l.length < 8
  · rw [(mg_e20 h1).1, (mg_e20 h1).2]
    refine (rmsg_short a _ c w h1).mono ?_
    rintro r w' ⟨rfl, hb⟩
    exact ⟨_, rfl, mgo_zero _ _, hb⟩
  rcases hr.cells with e0 | ⟨b, off, rfl, -⟩
  · rw [e0] at h1; simp at h1
  rw [(mg_e0 h1).1, (mg_e0 h1).2]
  exact rmsg_ok (m := l.length - 8) hr rfl hc h7 (by omega) (mgMg l) rfl rfl rfl rfl rfl
theorem rmsg_any {w : World} {a : Option Addr} {n c : Nat} {l : List Int} (hr : Row w a l) (hn : l.length = n) (hc : n ≤ c) (h7 : n ≤ 70000) :
    Calls Tryz.prog 37 #[.slice a n c] w fun r w' => ∃ v, r = .returned (.tuple #[v, .int .i64 (mgErr l)]) ∧ MgV w' w.heap.size v (mgRes l) ∧ Below w.heap.size w w' := by
  refine (rmsg_own hr hn hc h7).mono ?_
  rintro r w' ⟨v, rfl, hv, hb⟩
  exact ⟨v, rfl, hv.v, hb⟩

end Go.Proofs.YtjalpbkfpjfigaaGreat
