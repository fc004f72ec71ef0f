/-
  What tcp.Bytes answers, whatever it is handed.
-/
import Derived.Test.YtjalpbkfpjfigaaGreatTcpBytesOk
namespace Go.Proofs.YtjalpbkfpjfigaaGreat
open Go.RowKit
open Sm
set_option linter.unusedVariables false

set_option maxHeartbeats 1000000 in
theorem tbytes_form (w : World) (o co : Nat) (ao : Option Addr) (v : Value) (h : o % 4 ≠ 0 ∨ 40 < o) (hl : o ≤ 9223372036854775807) (s d sq ak fl wi c ur : Int) :
    Calls Tryz.prog 61 #[.agg (tcA s d sq ak fl wi c ur (.slice ao o co) v)] w fun e w' => e = .returned (.tuple #[.slice none 0 0, .int .i64 21]) ∧ Below w.heap.size w w' := by
  by_cases h4 : o % 4 = 0
  · have o4 : (o : Int) % 4 = 0 := by omega
    have o40 : (40 : Int) < o := by omega
    clear h
    go_enter Tryz.func61, Tryz.ntmps61
    go_wp2
    go_ret2
    exact ⟨rfl, (Below.refl _ _).alloc (Nat.le_refl _) _⟩
  · have o4 : ¬ (o : Int) % 4 = 0 := by omega
    have o4' : ((o : Int) % 4 == 0) = false := by simp; omega
    clear h
    go_enter Tryz.func61, Tryz.ntmps61
    go_wp2
    go_ret2
    exact ⟨rfl, (Below.refl _ _).alloc (Nat.le_refl _) _⟩

set_option maxHeartbeats 1000000 in
theorem tbytes_big (w : World) (o co m cb : Nat) (ao bo : Option Addr) (h4 : o % 4 = 0) (h40 : o ≤ 40) (h : 65515 < 20 + o + m) (s d sq ak fl wi c ur : Int) :
    Calls Tryz.prog 61 #[.agg (tcA s d sq ak fl wi c ur (.slice ao o co) (.slice bo m cb))] w fun e w' => e = .returned (.tuple #[.slice none 0 0, .int .i64 23]) ∧ Below w.heap.size w w' := by
  have o4 : (o : Int) % 4 = 0 := by omega
  have o40 : (o : Int) ≤ 40 := by omega
  obtain ⟨hd, hh⟩ : ∃ hd : Nat, hd = 20 + o := ⟨_, rfl⟩
  have eh : 20 + (o : Int) = hd := by omega
  have mb : 65515 - (hd : Int) < m := by omega
  have hdb : (hd : Int) ≤ 60 := by omega
  clear h4 h40 h hh
  go_enter Tryz.func61, Tryz.ntmps61
  go_wp2
  go_ret2
  exact ⟨rfl, (Below.refl _ _).alloc (Nat.le_refl _) _⟩

/-- What tcp.Bytes answers, whatever it is handed. -/
theorem tbytes_any {w : World} {B : Nat} {v : Value} {q : Sg} (hq : q.Ok) (hv : TcV w B v q) :
    Calls Tryz.prog 61 #[v] w fun r w' => ∃ x, r = .returned (.tuple #[x, .int .i64 (tcbErr q)]) ∧ w'.ownsRow w.heap.size 5 1 x (tcOut q).length ((tcOut q).map (Value.int .u8)) ∧ Below w.heap.size w w' := by
  obtain ⟨ao, co, bo, cb, rfl, hro, hrb, -, -, -, -⟩ := hv
  have l1 := hro.len
  by_cases h1 : q.opts.length % 4 ≠ 0 ∨ 40 < q.opts.length
  · have e : tcbErr q = 21 := by unfold tcbErr; rw [if_pos h1]
    have e2 : tcOut q = [] := by unfold tcOut; rw [e]; rfl
    rw [e, e2]
    refine (tbytes_form w _ co ao _ h1 (by omega) _ _ _ _ _ _ _ _).mono ?_
    rintro r w' ⟨rfl, hb⟩
    exact ⟨_, rfl, World.ownsRow_nil _ _ _ _, hb⟩
  by_cases h2 : 65515 < 20 + q.opts.length + q.body.length
  · have e : tcbErr q = 23 := by unfold tcbErr; rw [if_neg h1, if_pos h2]
    have e2 : tcOut q = [] := by unfold tcOut; rw [e]; rfl
    rw [e, e2]
    refine (tbytes_big w _ co _ cb ao bo (by omega) (by omega) h2 _ _ _ _ _ _ _ _).mono ?_
    rintro r w' ⟨rfl, hb⟩
    exact ⟨_, rfl, World.ownsRow_nil _ _ _ _, hb⟩
  · have e : tcbErr q = 0 := by unfold tcbErr; rw [if_neg h1, if_neg h2]
    have e2 : tcOut q = tcb q := if_pos e
    rw [e, e2, tcb_len]
    refine (tbytes_ok hro hrb _ co _ cb (tlen q) (20 + q.opts.length) rfl rfl (by omega) (by omega) rfl rfl (by unfold tlen; omega) q.src q.dst q.seq q.ack q.flags q.win q.sum q.urg hq.src hq.dst hq.seq hq.ack hq.flags hq.win hq.sum hq.urg).mono ?_
    rintro r w' ⟨rfl, ho, hb⟩
    exact ⟨_, rfl, ho, hb⟩
end Go.Proofs.YtjalpbkfpjfigaaGreat
