/-
  What package log's next answers.
-/
import Derived.Test.YtbmpjlgfbiakoaaDoorLgWrite
namespace Go.Proofs.YtbmpjlgfbiakoaaDoor
open Go.RowKit
open Sm
set_option linter.unusedVariables false

/-- The entry of a record, behind the newest one. -/
def nxt (t c : Int) (q : En) (r : List Int) : En := ⟨1 - q.s, IntKind.u64.wrap (q.t + 1), IntKind.i64.wrap ((if ltr q.t t then q.c else c) + 1), r⟩
theorem wrap64_eq (n : Int) : IntKind.i64.wrap n = wrap64 n := by unfold wrap64; exact IntKind.wrap_i64 n

set_option maxRecDepth 20000 in
set_option maxHeartbeats 2000000 in
theorem next_any {W : World} {pl : Nat} {P : Value} {t c : Int} {v : Value} (hl : W.heap[pl]? = some (.cells #[P, .int .u64 t, .int .i64 c, v] lgT (0, 0))) (q : En) (hq : q.s ≤ 1) (aq : Option Addr) (kq cq : Nat) (a : Option Addr) (k cap : Nat) (r : List Int) (hr : r.length = k) :
    Calls Tryd.prog 33 #[.pointer (some ⟨pl, 0, none⟩), .agg (enA q.s q.t q.c (.slice aq kq cq)), .slice a k cap] W fun e W' => e = .returned (.agg (enA (nxt t c q r).s (nxt t c q r).t (nxt t c q r).c (.slice a k cap))) ∧ ∃ K, Mem W W' K := by
  have hplt : pl < W.heap.size := (Array.getElem?_eq_some_iff.mp hl).1
  obtain ⟨qs, qt, qc, qr⟩ := q
  simp only at hq
  have hA : Mem W ((W.alloc (.cells (enA qs qt qc (.slice aq kq cq)) enT)).alloc (.cells en0 enT)) [(W.heap.size, .cells (enA qs qt qc (.slice aq kq cq)) enT (0, 0)), (W.heap.size + 1, .cells en0 enT (0, 0))] := ((Mem.nil W).push W.heap.size (.cells (enA qs qt qc (.slice aq kq cq)) enT) rfl).push (W.heap.size + 1) (.cells en0 enT) (by simp)
  have hpl : ∀ j, ((W.alloc (.cells (enA qs qt qc (.slice aq kq cq)) enT)).alloc (.cells en0 enT)).cell? ⟨pl, j, none⟩ = (#[P, .int .u64 t, .int .i64 c, v] : Array Value)[j]? := fun j => (hA.old hplt).trans (cell_of hl j)
  have p1 := hpl 1
  have p2 := hpl 2
  have kb0 := hA.cell 0 rfl 0
  have kb1 := hA.cell 0 rfl 1
  have kb2 := hA.cell 0 rfl 2
  have kr := hA.cell 1 rfl
  have kf := hA.free 1 rfl
  have HA : Hid (Mem W ((W.alloc (.cells (enA qs qt qc (.slice aq kq cq)) enT)).alloc (.cells en0 enT)) [(W.heap.size, .cells (enA qs qt qc (.slice aq kq cq)) enT (0, 0)), (W.heap.size + 1, .cells en0 enT (0, 0))]) := hA
  generalize hw1 : (W.alloc (.cells (enA qs qt qc (.slice aq kq cq)) enT)).alloc (.cells en0 enT) = w1 at *
  simp at p1 p2 kb0 kb1 kb2
  have HLT : Hid (∀ k, Calls Tryd.prog 39 #[.int .u64 qt, .int .u64 t] (w1.drewN k) fun e W' => e = .returned (.bool (ltr qt t)) ∧ w1.drewN k = W') := fun k => llater_any _ _ _
  have HV : Hid (∀ V, Calls Tryd.prog 40 #[.int .i64 qs] V fun e W' => e = .returned (.int .i64 ((1 - qs : Nat) : Int)) ∧ V = W') := fun V => lother_any V qs hq
  clear hA hpl hl
  cases hlt : ltr qt t with
  | false =>
    rw [hlt] at HLT
    have HX : Hid (nxt t c ⟨qs, qt, qc, qr⟩ r = ⟨1 - qs, IntKind.u64.wrap (qt + 1), IntKind.i64.wrap (c + 1), r⟩) := by show _ = _; simp [nxt, hlt]
    rw [HX.out]
    clear hlt
    go_enter Tryd.func33, Tryd.ntmps33
    go_upto_region 2 with fail
    go_quiet (first | (go_at_call 39; exact quiet_eq (HLT.out _)))
    go_upto_region 4 with fail
    refine wp_letter (fun V => Mem W V [(W.heap.size, .cells (enA qs qt qc (.slice aq kq cq)) enT (0, 0)), (W.heap.size + 1, .cells en0 enT (0, 0))]) (HA.out.drewN _) ?_
    intro w2 h2
    have b0 := h2.cell 0 rfl 0
    have b1 := h2.cell 0 rfl 1
    have br := h2.cell 1 rfl
    have bf := h2.free 1 rfl
    simp at b0 b1
    have HM : Hid (Mem W w2 [(W.heap.size, .cells (enA qs qt qc (.slice aq kq cq)) enT (0, 0)), (W.heap.size + 1, .cells en0 enT (0, 0))]) := h2
    have hne : W.heap.size + 1 ≠ W.heap.size := by omega
    clear h2 kr kf HA p1 p2 kb0 kb1 kb2 HLT
    go_region_held3 (fun w' => w'.cell? ⟨W.heap.size, 0, none⟩ = some (.int .i64 qs) ∧ w'.cell? ⟨W.heap.size, 1, none⟩ = some (.int .u64 qt)) (first | go_keep | assumption)
      (first | (go_at_call 40; with_reducible refine (HV.out _).mono ?_; rintro e w5 ⟨rfl, rfl⟩))
    all_goals go_wp2
    exact bodyPost_ret (v := .agg (enA ((1 - qs : Nat) : Int) (IntKind.u64.wrap (qt + 1)) (IntKind.i64.wrap (c + 1)) (.slice a k cap))) (by simp [results, Tryd.results33, go_sem, br]) rfl ⟨rfl, _, ((((HM.out.set 1 rfl 0 _).set 1 rfl 1 _).set 1 rfl 2 _).set 1 rfl 3 _).drew⟩
  | true =>
    rw [hlt] at HLT
    have HX : Hid (nxt t c ⟨qs, qt, qc, qr⟩ r = ⟨1 - qs, IntKind.u64.wrap (qt + 1), IntKind.i64.wrap (qc + 1), r⟩) := by show _ = _; simp [nxt, hlt]
    rw [HX.out]
    clear hlt
    go_enter Tryd.func33, Tryd.ntmps33
    go_upto_region 2 with fail
    go_quiet (first | (go_at_call 39; exact quiet_eq (HLT.out _)))
    go_upto_region 4 with fail
    refine wp_letter (fun V => Mem W V [(W.heap.size, .cells (enA qs qt qc (.slice aq kq cq)) enT (0, 0)), (W.heap.size + 1, .cells en0 enT (0, 0))]) (HA.out.drewN _) ?_
    intro w2 h2
    have b0 := h2.cell 0 rfl 0
    have b1 := h2.cell 0 rfl 1
    have br := h2.cell 1 rfl
    have bf := h2.free 1 rfl
    simp at b0 b1
    have HM : Hid (Mem W w2 [(W.heap.size, .cells (enA qs qt qc (.slice aq kq cq)) enT (0, 0)), (W.heap.size + 1, .cells en0 enT (0, 0))]) := h2
    have hne : W.heap.size + 1 ≠ W.heap.size := by omega
    clear h2 kr kf HA p1 p2 kb0 kb1 kb2 HLT
    go_region_held3 (fun w' => w'.cell? ⟨W.heap.size, 0, none⟩ = some (.int .i64 qs) ∧ w'.cell? ⟨W.heap.size, 1, none⟩ = some (.int .u64 qt)) (first | go_keep | assumption)
      (first | (go_at_call 40; with_reducible refine (HV.out _).mono ?_; rintro e w5 ⟨rfl, rfl⟩))
    all_goals go_wp2
    exact bodyPost_ret (v := .agg (enA ((1 - qs : Nat) : Int) (IntKind.u64.wrap (qt + 1)) (IntKind.i64.wrap (qc + 1)) (.slice a k cap))) (by simp [results, Tryd.results33, go_sem, br]) rfl ⟨rfl, _, ((((HM.out.set 1 rfl 0 _).set 1 rfl 1 _).set 1 rfl 2 _).set 1 rfl 3 _).drew⟩
end Go.Proofs.YtbmpjlgfbiakoaaDoor
