/-
  What the document's own lychref1.IcmpBytes answers, whatever it is handed.
-/
import Derived.Test.YtjalpbkfpjfigaaGreatIcmpWords
import Derived.Test.YtjalpbkfpjfigaaGreatLong
namespace Go.Proofs.YtjalpbkfpjfigaaGreat
open Go.RowKit
open Sm
set_option linter.unusedVariables false

/-- Two bytes that were just laid, as the row that grows. -/
theorem inv_two {T : TypeId} {w W : World} {pA : Array Value} {v : Value} {n : Nat} {L : List Int} (h : Inv T w W pA v n L) (x y : Int) {g : Nat} (hg : g = W.heap.size) :
    Inv T w (W.alloc (.cells #[.int .u8 x, .int .u8 y] 5)) pA (.slice (some ⟨g, 0, none⟩) 2 2) 2 [x, y] := by
  subst hg
  refine h.next ?_ ((Below.refl _ _).alloc h.size _)
  have hM := (Mem.nil W).push W.heap.size (.cells (bs [x, y]) 5) rfl
  exact own_base (mem_owns hM 0 rfl 2 rfl (by omega)) h.size

set_option maxRecDepth 20000 in
set_option maxHeartbeats 4000000 in
theorem rmbytes_ok {w : World} {a : Option Addr} {body : List Int} (hr : Row w a body) (m cb n : Nat) (hm : body.length = m) (h1 : m ≤ 65507) (hn : n = 8 + m) (hnil : a = none → cb = 0) (t k c r : Int) (ht : 0 ≤ t ∧ t ≤ 255) (hk : 0 ≤ k ∧ k ≤ 255) (hc : 0 ≤ c ∧ c ≤ 65535) (hrr : 0 ≤ r ∧ r ≤ 4294967295) :
    Calls Tryz.prog 26 #[.agg (mgA t k c r (.slice a m cb))] w fun e w' => ∃ u, e = .returned (.tuple #[u, .int .i64 0]) ∧
      w'.ownsRow w.heap.size 5 1 u n ((mg8 t k c r ++ body).map (Value.int .u8)) ∧ Below w.heap.size w w' := by
  have HR : Hid (Row w a body ∧ body.length = m ∧ n = 8 + m ∧ m ≤ 65507 ∧ (a = none → cb = 0)) := ⟨hr, hm, hn, h1, hnil⟩
  have H : Hid ((0 ≤ c ∧ c ≤ 65535) ∧ 0 ≤ r ∧ r ≤ 4294967295) := ⟨hc, hrr⟩
  have hmi : (m : Int) ≤ 65507 := by omega
  clear hr hm hn h1 hnil ht hk hc hrr
  go_enter Tryz.func26, Tryz.ntmps26
  go_upto_region 3 with fail
  refine wp_letter (fun W => Inv mgT w W (mgA t k c r (.slice a m cb)) (.slice none 0 0) 0 []) (inv_nil ((Mem.nil w).push w.heap.size _ rfl)) ?_
  intro w1 hI1
  have HI1 : Hid _ := hI1
  have D0 : w1.cell? ⟨w.heap.size, 0, none⟩ = some (.int .u8 t) := hI1.cell 0
  have D1 : w1.cell? ⟨w.heap.size, 1, none⟩ = some (.int .u8 k) := hI1.cell 1
  have D2 : w1.cell? ⟨w.heap.size, 2, none⟩ = some (.int .u16 c) := hI1.cell 2
  have D3 : w1.cell? ⟨w.heap.size, 3, none⟩ = some (.int .u32 r) := hI1.cell 3
  have D4 : w1.cell? ⟨w.heap.size, 4, none⟩ = some (.slice a m cb) := hI1.cell 4
  clear hI1
  go_region_held3 (fun w' => w'.cell? ⟨w.heap.size, 0, none⟩ = some (.int .u8 t) ∧ w'.cell? ⟨w.heap.size, 1, none⟩ = some (.int .u8 k) ∧ w'.cell? ⟨w.heap.size, 2, none⟩ = some (.int .u16 c) ∧ w'.cell? ⟨w.heap.size, 3, none⟩ = some (.int .u32 r) ∧ w'.cell? ⟨w.heap.size, 4, none⟩ = some (.slice a m cb))
    (first | go_keep | exact ⟨hI5.cell 0, hI5.cell 1, hI5.cell 2, hI5.cell 3, hI5.cell 4⟩ | exact ⟨hI6.cell 0, hI6.cell 1, hI6.cell 2, hI6.cell 3, hI6.cell 4⟩ | exact ⟨hI7.cell 0, hI7.cell 1, hI7.cell 2, hI7.cell 3, hI7.cell 4⟩ | exact ⟨(HI1.out.grows _).cell 0, (HI1.out.grows _).cell 1, (HI1.out.grows _).cell 2, (HI1.out.grows _).cell 3, (HI1.out.grows _).cell 4⟩)
    (first
      | (go_at_call 52; with_reducible refine (put16_inv (inv_two HI1.out t k (g := w1.heap.size) rfl).drew (by omega) c H.out.1.1 H.out.1.2).mono ?_; rintro e w5 ⟨v5, rfl, hI5⟩)
      | (go_at_call 53; with_reducible refine (put32_inv hI5 (by omega) r H.out.2.1 H.out.2.2).mono ?_; rintro e w6 ⟨v6, rfl, hI6⟩)
      | (refine step_append_bytes rfl (.tmp 18) (.tmp 20) rfl (w.heap.size + 1) v6 8 _ (by simp [Act.eval]) hI6.own a cb m body (by simp [Act.eval]) HR.out.2.1 HR.out.2.2.2.2 (hI6.mem.row HR.out.1) (by have := HR.out; omega) hI6.size ?_; intro v7 w7 hown7 hbel7; have hI7 : Inv mgT w w7 (mgA t k c r (.slice a m cb)) v7 (8 + m) (mg8 t k c r ++ body) := hI6.next (by rw [List.map_append]; exact hown7) hbel7))
  all_goals
    have HI7 : Hid _ := hI7
    clear hI5 hI6 hI7 hown7 hbel7
    go_wp2_with fail
    go_ret2
    exact ⟨_, rfl, by rw [HR.out.2.2.1]; exact own_base HI7.out.own (Nat.le_succ _), HI7.out.mem.below⟩

set_option maxHeartbeats 400000 in
theorem rmbytes_big (w : World) (a : Option Addr) (m cb : Nat) (h1 : 65507 < m) (t k c r : Int) :
    Calls Tryz.prog 26 #[.agg (mgA t k c r (.slice a m cb))] w fun e w' => e = .returned (.tuple #[.slice none 0 0, .int .i64 23]) ∧ Below w.heap.size w w' := by
  have h' : (65507 : Int) < m := by omega
  go_enter Tryz.func26, Tryz.ntmps26
  go_wp2
  go_ret2
  exact ⟨rfl, (Below.refl _ _).alloc (Nat.le_refl _) _⟩

/-- What lychref1.IcmpBytes answers, whatever it is handed. -/
theorem rmbytes_any {w : World} {B : Nat} {v : Value} {q : Mg} (hq : q.Ok) (hv : MgV w B v q) :
    Calls Tryz.prog 26 #[v] w fun r w' => ∃ x, r = .returned (.tuple #[x, .int .i64 (mgbErr q)]) ∧ w'.ownsRow w.heap.size 5 1 x (mgOut q).length ((mgOut q).map (Value.int .u8)) ∧ Below w.heap.size w w' := by
  obtain ⟨bo, cb, rfl, hr, hnil, -⟩ := hv
  by_cases h : 65507 < q.body.length
  · have e : mgbErr q = 23 := by unfold mgbErr; rw [if_pos h]
    have e2 : mgOut q = [] := by unfold mgOut; rw [e]; rfl
    rw [e, e2]
    refine (rmbytes_big w bo _ cb h _ _ _ _).mono ?_
    rintro r w' ⟨rfl, hb⟩
    exact ⟨_, rfl, World.ownsRow_nil _ _ _ _, hb⟩
  · have e : mgbErr q = 0 := by unfold mgbErr; rw [if_neg h]
    have e2 : mgOut q = mgb q := if_pos e
    rw [e, e2, mgb_len]
    exact rmbytes_ok hr _ cb (mlen q) rfl (by omega) rfl hnil q.typ q.code q.sum q.rest hq.typ hq.code hq.sum hq.rest
end Go.Proofs.YtjalpbkfpjfigaaGreat
