/-
  What tcp.word, tcp.long, tcp.fresh answer; a value that is a segment.
-/
import Derived.Test.YtjalpbkfpjfigaaGreatTcpMath
namespace Go.Proofs.YtjalpbkfpjfigaaGreat
open Go.RowKit
open Sm
set_option linter.unusedVariables false

abbrev tcT : TypeId := 79
abbrev tcA (s d sq ak fl wi c ur : Int) (o b : Value) : Array Value := #[.int .u16 s, .int .u16 d, .int .u32 sq, .int .u32 ak, .int .u8 fl, .int .u16 wi, .int .u16 c, .int .u16 ur, o, b]
abbrev tc0 : Array Value := tcA 0 0 0 0 0 0 0 0 (.slice none 0 0) (.slice none 0 0)

/-- A value that is the segment q, its lists behind base B. -/
def TcV (w : World) (B : Nat) (v : Value) (q : Sg) : Prop :=
  ∃ ao co bo cb, v = .agg (tcA q.src q.dst q.seq q.ack q.flags q.win q.sum q.urg (.slice ao q.opts.length co) (.slice bo q.body.length cb)) ∧ Row w ao q.opts ∧ Row w bo q.body ∧ (ao = none → co = 0) ∧ (bo = none → cb = 0) ∧ (∀ x, ao = some x → B ≤ x.block) ∧ (∀ x, bo = some x → B ≤ x.block)
theorem TcV.below {w w' : World} {C : Nat} {v : Value} {q : Sg} (h : TcV w C v q) {B : Nat} (hb : Below B w w') (hB : w.heap.size ≤ B) : TcV w' C v q := by
  obtain ⟨ao, co, bo, cb, e, h1, h2, h3⟩ := h
  exact ⟨ao, co, bo, cb, e, h1.below hb hB, h2.below hb hB, h3⟩
theorem TcV.mono {w : World} {C D : Nat} {v : Value} {q : Sg} (h : TcV w C v q) (hD : D ≤ C) : TcV w D v q := by
  obtain ⟨ao, co, bo, cb, e, h1, h2, h3, h4, h5, h6⟩ := h
  exact ⟨ao, co, bo, cb, e, h1, h2, h3, h4, fun x hx => Nat.le_trans hD (h5 x hx), fun x hx => Nat.le_trans hD (h6 x hx)⟩
theorem tcv_zero (w : World) (B : Nat) : TcV w B (.agg tc0) Sg.zero := ⟨none, 0, none, 0, rfl, row_nil w, row_nil w, fun _ => rfl, fun _ => rfl, fun x hx => (by cases hx), fun x hx => (by cases hx)⟩

set_option maxHeartbeats 400000 in
theorem tword_cells {w : World} {b j : Nat} (x y : Int) (c0 : w.cell? ⟨b, j, none⟩ = some (.int .u8 x)) (c1 : w.cell? ⟨b, j + 1, none⟩ = some (.int .u8 y)) (r0 : 0 ≤ x) (r1 : x ≤ 255) (r2 : 0 ≤ y) (r3 : y ≤ 255) (c : Nat) :
    Calls Tryz.prog 105 #[.slice (some ⟨b, j, none⟩) 2 c] w fun e w' => e = .returned (.int .u16 (x * 256 + y)) ∧ ∃ q, w' = w.drewN q := by
  have hor := sm_word x y r0 r1 r2 r3
  have w0 := wrap16_small x r0 (by omega)
  have w1 := wrap16_small y r2 (by omega)
  have w2 := wrap16_small (x * 256) (by omega) (by omega)
  go_enter Tryz.func105, Tryz.ntmps105
  go_wp2
  go_quiet (fail)
  go_wp2
  go_ret
  exact ⟨rfl, _, rfl⟩

theorem tword_at {w : World} {b off : Nat} {l : List Int} (h : Row w (some ⟨b, off, none⟩) l) (j k : Nat) (hk : k = off + j) (hj : j + 1 < l.length) (X : Int) (hX : w16 l j = X) (c : Nat) :
    Calls Tryz.prog 105 #[.slice (some ⟨b, k, none⟩) 2 c] w fun e w' => e = .returned (.int .u16 X) ∧ ∃ q, w' = w.drewN q := by
  subst hk hX
  have b0 := h.bytes j
  have b1 := h.bytes (j + 1)
  exact tword_cells _ _ (h.cellAt j (by omega)) (by rw [Nat.add_assoc]; exact h.cellAt (j + 1) hj) b0.1 b0.2 b1.1 b1.2 c

set_option maxHeartbeats 1000000 in
theorem tlong_at {w : World} {b off : Nat} {l : List Int} (h : Row w (some ⟨b, off, none⟩) l) (j k : Nat) (hk : k = off + j) (hj : j + 3 < l.length) (X : Int) (hX : w32 l j = X) :
    Calls Tryz.prog 106 #[.slice (some ⟨b, k, none⟩) 4 4] w fun e w' => e = .returned (.int .u32 X) ∧ ∃ q, w' = w.drewN q := by
  have ra := w16_range h.bytes j
  have rb := w16_range h.bytes (j + 2)
  have c1 := fun W (hW : Row W (some ⟨b, off, none⟩) l) => tword_at hW j k hk (by omega) _ rfl 2
  have c2 := fun W (hW : Row W (some ⟨b, off, none⟩) l) => tword_at hW (j + 2) (k + 2) (by omega) (by omega) _ rfl 2
  have hor := sm_long _ _ ra.1 ra.2 rb.1 rb.2
  have w0 := wrap32_small (w16 l j) (by omega) (by omega)
  have w1 := wrap32_small (w16 l (j + 2)) (by omega) (by omega)
  have w2 := wrap32_small (w16 l j * 65536) (by omega) (by omega)
  have HE : Hid (w16 l j * 65536 + w16 l (j + 2) = X) := hX
  generalize w16 l j = X1 at *
  generalize w16 l (j + 2) = X2 at *
  have C1 : Hid _ := c1
  have C2 : Hid _ := c2
  clear c1 c2 hX ra rb hk hj
  go_enter Tryz.func106, Tryz.ntmps106
  go_wp2_with fail
  go_region_held3 (fun w' => Row w' (some ⟨b, off, none⟩) l) (repeat (first | assumption | refine row_drewN ?_ | refine row_drew ?_))
    (first
      | (go_at_call 105; with_reducible refine (C1.out _ (by assumption)).mono ?_; rintro e w5 ⟨rfl, q5, rfl⟩)
      | (go_at_call 105; with_reducible refine (C2.out _ (by assumption)).mono ?_; rintro e w6 ⟨rfl, q6, rfl⟩))
  all_goals
    go_wp2_with fail
    go_ret
    exact ⟨by rw [← HE.out] <;> rfl, _, rfl⟩

set_option maxHeartbeats 1000000 in
theorem tfresh_any {w : World} {a : Option Addr} {l : List Int} (hr : Row w a l) (m c : Nat) (hm : l.length = m) :
    Calls Tryz.prog 107 #[.slice a m c] w fun e w' => e = .returned (.slice (some ⟨w.heap.size, 0, none⟩) m m) ∧ Mem w w' [(w.heap.size, .cells (bs l) 5)] := by
  have hmk := make_bytes m (by have := hr.len; omega)
  have hmi : (m : Int) ≤ 140737488351232 := by have := hr.len; omega
  have HM : Hid (Mem w (w.alloc (.cells (madeCells #[.int .u8 0] m) 5)) [(w.heap.size, .cells (madeCells #[.int .u8 0] m) 5)]) := (Mem.nil w).push w.heap.size _ rfl
  obtain ⟨w5, hr5, hw5⟩ := copy_bytes (w.alloc (.cells (madeCells #[.int .u8 0] m) 5)) 3 (some ⟨w.heap.size, 0, none⟩) a m m m c w.heap.size 0 _ _ 5 (HM.out.get 0 rfl) l (by rw [hm]; exact (Nat.min_self m).symm)
    (fun hp => by
      have hrm := HM.out.row hr
      rcases hrm.cells with e | ⟨b, off, rfl, hc⟩
      · subst e; simp at hp
      · exact ⟨rfl, _, rfl, hrm.news⟩)
    (by rw [hm, size_madeCells]; omega) (made_new m l hm)
  have HK : Hid (Mem w w5 [(w.heap.size, .cells (bs l) 5)]) := HM.out.wrote 0 rfl hw5
  clear hr hm hw5 HM
  go_enter Tryz.func107, Tryz.ntmps107
  go_wp2_with fail
  go_ret
  exact ⟨rfl, HK.out⟩
end Go.Proofs.YtjalpbkfpjfigaaGreat
