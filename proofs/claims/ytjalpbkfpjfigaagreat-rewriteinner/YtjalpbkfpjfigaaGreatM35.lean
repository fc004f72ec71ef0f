/-
  What rewrite.Inner answers, whatever bytes and points it is handed.
  The statements' known packet: lychseat.Packet at one value, and lychlaw8.known answers true.
  What Hop and Change hand back are bytes, no more than 65535.
-/
import Derived.Test.YtjalpbkfpjfigaaGreatM34
import Derived.Test.YtjalpbkfpjfigaaGreatM17
import Derived.LoopN
import Derived.Test.YtjalpbkfpjfigaaGreatM25
import Derived.Test.YtjalpbkfpjfigaaGreatM30
import Derived.Test.YtjalpbkfpjfigaaGreatM29
namespace Go.Proofs.YtjalpbkfpjfigaaGreat
open Go.RowKit
open Sm
set_option linter.unusedVariables false
set_option maxRecDepth 20000

/-! ### What turns one block alone. -/
structure Only (g : Nat) (w w' : World) : Prop where
  there : ∀ k, k ≠ g → w'.heap[k]? = w.heap[k]?
  size : w'.heap.size = w.heap.size
  below : ∀ B w0, B ≤ g → Below B w0 w → Below B w0 w'
theorem Only.refl (g : Nat) (w : World) : Only g w w := ⟨fun _ _ => rfl, rfl, fun _ _ _ h => h⟩
theorem Only.set {g : Nat} {w w' : World} (h : Only g w w') (j : Nat) (v : Value) : Only g w (w'.setCell ⟨g, j, none⟩ v) :=
  ⟨fun k hk => by rw [Below.heap_setCell _ _ _ _ (by simp only; omega)]; exact h.there k hk, by rw [← h.size]; simp [World.setCell] <;> split <;> simp, fun B w0 hB hb => below_set (h.below B w0 hB hb) hB⟩
theorem Only.drewN {g : Nat} {w w' : World} (h : Only g w w') (q : Nat) : Only g w (w'.drewN q) := ⟨h.there, h.size, fun B w0 hB hb => below_drewN (h.below B w0 hB hb) q⟩
theorem Only.trans {g : Nat} {w w1 w2 : World} (h : Only g w w1) (k : Only g w1 w2) : Only g w w2 :=
  ⟨fun j hj => (k.there j hj).trans (h.there j hj), k.size.trans h.size, fun B w0 hB hb => k.below B w0 hB (h.below B w0 hB hb)⟩
theorem Only.mem {g : Nat} {w W W' : World} {L : List (Nat × Obj)} (h : Only g W W') (hM : Mem w W L) (hg : w.heap.size ≤ g) (hn : ∀ p ∈ L, p.1 ≠ g) : Mem w W' L :=
  ⟨h.below _ _ hg hM.below, hM.low, fun p hp => by rw [h.there _ (hn p hp)]; exact hM.at_ p hp, hM.apart⟩
theorem OwnB.drewN {w : World} {B g cap : Nat} {l : List Int} (h : OwnB w B g cap l) (q : Nat) : OwnB (w.drewN q) B g cap l := h

theorem put_own {W : World} {B g cap : Nat} {l : List Int} (h : OwnB W B g cap l) (j : Nat) (hj : j + 1 < l.length) (m c : Nat) (hm : 2 ≤ m) (x : Int) (r0 : 0 ≤ x) (r1 : x ≤ 65535) :
    Calls Tryz.prog 95 #[.slice (some ⟨g, j, none⟩) m c, .int .u16 x] W fun e w' => e = .returned (.tuple #[]) ∧ OwnB w' B g cap (putw l j x) ∧ Only g W w' := by
  refine (xput_ok _ _ (h.cell j (by omega)) (h.cell (j + 1) hj) (fun i => h.free i) hm c x r0 r1).mono ?_
  rintro e w' ⟨rfl, rfl⟩
  exact ⟨rfl, (h.store j _).store (j + 1) _, ((Only.refl g W).set j _).set (j + 1) _⟩
theorem word_own {W : World} {B g cap : Nat} {l : List Int} (h : OwnB W B g cap l) (hb : IsBytes l) (hl : l.length ≤ 70000) (j : Nat) (hj : j + 1 < l.length) (X : Int) (hX : w16 l j = X) (m : Nat) (hm : 2 ≤ m) (c : Nat) :
    Calls Tryz.prog 93 #[.slice (some ⟨g, j, none⟩) m c] W fun e w' => e = .returned (.int .u16 X) ∧ OwnB w' B g cap l ∧ Only g W w' := by
  refine (xword_at (h.row hb (by omega)) j j (by omega) hj X hX m hm c).mono ?_
  rintro e w' ⟨rfl, q, rfl⟩
  exact ⟨rfl, h.drewN q, (Only.refl g W).drewN q⟩

namespace Sm
theorem w16_putw {l : List Int} {i j : Nat} {x : Int} (hi : i + 1 < l.length) (hd : j + 1 < i ∨ i + 1 < j) : w16 (putw l i x) j = w16 l j := by
  unfold w16
  rw [putw_getD _ _ _ _ hi, putw_getD _ _ _ _ hi, if_neg (by omega), if_neg (by omega), if_neg (by omega), if_neg (by omega)]
end Sm

set_option maxHeartbeats 4000000 in
theorem putA_any {W : World} {B g cap n c : Nat} {l : List Int} (h : OwnB W B g cap l) (hb : IsBytes l) (hn : l.length = n) (h20 : 20 ≤ n) (hl : n ≤ 70000) (hc : n ≤ c) (s d : Int) (s0 : 0 ≤ s) (s1 : s ≤ 4294967295) (d0 : 0 ≤ d) (d1 : d ≤ 4294967295) :
    Calls Tryz.prog 72 #[.slice (some ⟨g, 0, none⟩) n c, .int .u32 s, .int .u32 d] W fun e w' => e = .returned (.tuple #[]) ∧ OwnB w' B g cap (putA l s d) ∧ Only g W w' := by
  have v1 : IntKind.u16.wrap (s / 65536) = s / 65536 := wrap16_small _ (by omega) (by omega)
  have v2 : IntKind.u16.wrap s = s % 65536 := by simp [IntKind.wrap, IntKind.bits, IntKind.signed]
  have v3 : IntKind.u16.wrap (d / 65536) = d / 65536 := wrap16_small _ (by omega) (by omega)
  have v4 : IntKind.u16.wrap d = d % 65536 := by simp [IntKind.wrap, IntKind.bits, IntKind.signed]
  have b1 : (18 : Int) ≤ n := by omega
  have b2 : (n : Int) ≤ c := by omega
  have b3 : (20 : Int) ≤ n := by omega
  have b4 : (20 : Int) ≤ c := by omega
  have c1 : ¬ c = 10 := by omega
  have c2 : ¬ c = 12 := by omega
  have c3 : ¬ c = 14 := by omega
  have c4 : ¬ c = 16 := by omega
  have c5 : ¬ c = 18 := by omega
  obtain ⟨l1, e1⟩ : ∃ l1, putw l 12 (s / 65536) = l1 := ⟨_, rfl⟩
  obtain ⟨l2, e2⟩ : ∃ l2, putw l1 14 (s % 65536) = l2 := ⟨_, rfl⟩
  obtain ⟨l3, e3⟩ : ∃ l3, putw l2 16 (d / 65536) = l3 := ⟨_, rfl⟩
  obtain ⟨l4, e4⟩ : ∃ l4, putw l3 18 (d % 65536) = l4 := ⟨_, rfl⟩
  have n1 : l1.length = n := by rw [← e1, putw_len]; exact hn
  have n2 : l2.length = n := by rw [← e2, putw_len]; exact n1
  have n3 : l3.length = n := by rw [← e3, putw_len]; exact n2
  have n4 : l4.length = n := by rw [← e4, putw_len]; exact n3
  have y1 : IsBytes l1 := by rw [← e1]; exact putw_bytes hb 12 _ (by omega) (by omega) (by omega)
  have y2 : IsBytes l2 := by rw [← e2]; exact putw_bytes y1 14 _ (by omega) (by omega) (by omega)
  have y3 : IsBytes l3 := by rw [← e3]; exact putw_bytes y2 16 _ (by omega) (by omega) (by omega)
  have y4 : IsBytes l4 := by rw [← e4]; exact putw_bytes y3 18 _ (by omega) (by omega) (by omega)
  have x2 : w16 l1 14 = w16 l 14 := by rw [← e1]; exact w16_putw (by omega) (by omega)
  have x3 : w16 l2 16 = w16 l 16 := by rw [← e2, w16_putw (by omega) (by omega), ← e1, w16_putw (by omega) (by omega)]
  have x4 : w16 l3 18 = w16 l 18 := by rw [← e3, w16_putw (by omega) (by omega), ← e2, w16_putw (by omega) (by omega), ← e1, w16_putw (by omega) (by omega)]
  have HL : Hid ((putw l 12 (s / 65536) = l1 ∧ putw l1 14 (s % 65536) = l2 ∧ putw l2 16 (d / 65536) = l3 ∧ putw l3 18 (d % 65536) = l4) ∧ (l.length = n ∧ l1.length = n ∧ l2.length = n ∧ l3.length = n ∧ l4.length = n) ∧ (IsBytes l ∧ IsBytes l1 ∧ IsBytes l2 ∧ IsBytes l3 ∧ IsBytes l4) ∧ 20 ≤ n ∧ n ≤ 70000) := ⟨⟨e1, e2, e3, e4⟩, ⟨hn, n1, n2, n3, n4⟩, ⟨hb, y1, y2, y3, y4⟩, h20, hl⟩
  have HF : Hid (putA l s d = putw l4 10 (inSum l s d)) := by show putA l s d = _; unfold putA; rw [e1, e2, e3, e4]
  have HO : Hid (OwnB W B g cap l) := h
  have hw := word_own h hb (by omega) 10 (by omega) _ rfl (n - 10) (by omega) (c - 10)
  have r0 := w16_range hb 10
  have r1 := w16_range hb 12
  have r2 := w16_range hb 14
  have r3 := w16_range hb 16
  have r4 := w16_range hb 18
  have HS : Hid (inSum l s d = updv (updv (updv (updv (w16 l 10) (w16 l 12) (s / 65536)) (w16 l 14) (s % 65536)) (w16 l 16) (d / 65536)) (w16 l 18) (d % 65536)) := rfl
  have HX : Hid (w16 l1 14 = w16 l 14 ∧ w16 l2 16 = w16 l 16 ∧ w16 l3 18 = w16 l 18) := ⟨x2, x3, x4⟩
  have u1 := updv_range (w16 l 10) (w16 l 12) (s / 65536)
  obtain ⟨C1, k1⟩ : ∃ C, updv (w16 l 10) (w16 l 12) (s / 65536) = C := ⟨_, rfl⟩
  rw [k1] at HS u1
  have u2 := updv_range C1 (w16 l 14) (s % 65536)
  obtain ⟨C2, k2⟩ : ∃ C, updv C1 (w16 l 14) (s % 65536) = C := ⟨_, rfl⟩
  rw [k2] at HS u2
  have u3 := updv_range C2 (w16 l 16) (d / 65536)
  obtain ⟨C3, k3⟩ : ∃ C, updv C2 (w16 l 16) (d / 65536) = C := ⟨_, rfl⟩
  rw [k3] at HS u3
  have u4 := updv_range C3 (w16 l 18) (d % 65536)
  obtain ⟨C4, k4⟩ : ∃ C, updv C3 (w16 l 18) (d % 65536) = C := ⟨_, rfl⟩
  rw [k4] at HS u4
  have HU1 : Hid (∀ W, Calls Tryz.prog 94 #[.int .u16 (w16 l 10), .int .u16 (w16 l 12), .int .u16 (s / 65536)] W fun e w' => e = .returned (.int .u16 C1) ∧ W = w') := fun W => by rw [← k1]; exact update_any _ _ _ W r0.1 r0.2 r1.1 r1.2 (by omega) (by omega)
  have HU2 : Hid (∀ W, Calls Tryz.prog 94 #[.int .u16 C1, .int .u16 (w16 l 14), .int .u16 (s % 65536)] W fun e w' => e = .returned (.int .u16 C2) ∧ W = w') := fun W => by rw [← k2]; exact update_any _ _ _ W u1.1 u1.2 r2.1 r2.2 (by omega) (by omega)
  have HU3 : Hid (∀ W, Calls Tryz.prog 94 #[.int .u16 C2, .int .u16 (w16 l 16), .int .u16 (d / 65536)] W fun e w' => e = .returned (.int .u16 C3) ∧ W = w') := fun W => by rw [← k3]; exact update_any _ _ _ W u2.1 u2.2 r3.1 r3.2 (by omega) (by omega)
  have HU4 : Hid (∀ W, Calls Tryz.prog 94 #[.int .u16 C3, .int .u16 (w16 l 18), .int .u16 (d % 65536)] W fun e w' => e = .returned (.int .u16 C4) ∧ W = w') := fun W => by rw [← k4]; exact update_any _ _ _ W u3.1 u3.2 r4.1 r4.2 (by omega) (by omega)
  have HR : Hid ((0 ≤ s / 65536 ∧ s / 65536 ≤ 65535) ∧ (0 ≤ s % 65536 ∧ s % 65536 ≤ 65535) ∧ (0 ≤ d / 65536 ∧ d / 65536 ≤ 65535) ∧ (0 ≤ d % 65536 ∧ d % 65536 ≤ 65535) ∧ (0 ≤ C4 ∧ C4 ≤ 65535)) := ⟨by omega, by omega, by omega, by omega, u4⟩
  clear k1 k2 k3 k4 u1 u2 u3 u4 r0 r1 r2 r3 r4 h hb hn e1 e2 e3 e4 n1 n2 n3 n4 y1 y2 y3 y4 x2 x3 x4 s0 s1 d0 d1
  generalize w16 l 10 = X0 at *
  have z0 : ∀ w, (Instr.index 139 (.agg #[.int .u16 (s / 65536), .int .u16 (s % 65536), .int .u16 (d / 65536), .int .u16 (d % 65536)]) (.int .i64 0)).run Tryz.prog w = .ok (.int .u16 (s / 65536)) w := fun _ => by kernel_rfl
  have z1 : ∀ w, (Instr.index 139 (.agg #[.int .u16 (s / 65536), .int .u16 (s % 65536), .int .u16 (d / 65536), .int .u16 (d % 65536)]) (.int .i64 1)).run Tryz.prog w = .ok (.int .u16 (s % 65536)) w := fun _ => by kernel_rfl
  have z2 : ∀ w, (Instr.index 139 (.agg #[.int .u16 (s / 65536), .int .u16 (s % 65536), .int .u16 (d / 65536), .int .u16 (d % 65536)]) (.int .i64 2)).run Tryz.prog w = .ok (.int .u16 (d / 65536)) w := fun _ => by kernel_rfl
  have z3 : ∀ w, (Instr.index 139 (.agg #[.int .u16 (s / 65536), .int .u16 (s % 65536), .int .u16 (d / 65536), .int .u16 (d % 65536)]) (.int .i64 3)).run Tryz.prog w = .ok (.int .u16 (d % 65536)) w := fun _ => by kernel_rfl
  go_enter Tryz.func72, Tryz.ntmps72
  go_wp2_with fail
  refine hw.mono ?_
  rintro e w1 ⟨rfl, ho1, hn1⟩
  have HP0 : Hid (OwnB w1 B g cap l ∧ Only g W w1) := ⟨ho1, hn1⟩
  clear hw ho1 hn1
  go_wp2_with fail
  refine wp_loop_rounds 5 ?_
  rw [rounds_succ]
  go_wp2_with fail
  refine (word_own HP0.out.1 HL.out.2.2.1.1 (by have := HL.out; omega) 12 (by have := HL.out; omega) _ rfl (n - 12) (by have := HL.out; omega) (c - 12)).mono ?_
  rintro e wa1 ⟨rfl, hoa1, hna1⟩
  have HA1 : Hid (OwnB wa1 B g cap l ∧ Only g W wa1) := ⟨hoa1, HP0.out.2.trans hna1⟩
  clear hoa1 hna1
  go_wp2_with fail
  refine (HU1.out _).mono ?_
  rintro e wb1 ⟨rfl, rfl⟩
  go_wp2_with fail
  refine (put_own HA1.out.1 12 (by have := HL.out; omega) (n - 12) (c - 12) (by have := HL.out; omega) _ HR.out.1.1 HR.out.1.2).mono ?_
  rintro e wp1 ⟨rfl, hop1, hon1⟩
  rw [HL.out.1.1] at hop1
  have HP1 : Hid (OwnB wp1 B g cap l1 ∧ Only g W wp1) := ⟨hop1, HA1.out.2.trans hon1⟩
  clear hop1 hon1
  go_wp2_with fail
  rw [rounds_succ]
  go_wp2_with fail
  refine (word_own HP1.out.1 HL.out.2.2.1.2.1 (by have := HL.out; omega) 14 (by have := HL.out; omega) _ HX.out.1 (n - 14) (by have := HL.out; omega) (c - 14)).mono ?_
  rintro e wa2 ⟨rfl, hoa2, hna2⟩
  have HA2 : Hid (OwnB wa2 B g cap l1 ∧ Only g W wa2) := ⟨hoa2, HP1.out.2.trans hna2⟩
  clear hoa2 hna2
  go_wp2_with fail
  refine (HU2.out _).mono ?_
  rintro e wb2 ⟨rfl, rfl⟩
  go_wp2_with fail
  refine (put_own HA2.out.1 14 (by have := HL.out; omega) (n - 14) (c - 14) (by have := HL.out; omega) _ HR.out.2.1.1 HR.out.2.1.2).mono ?_
  rintro e wp2 ⟨rfl, hop2, hon2⟩
  rw [HL.out.1.2.1] at hop2
  have HP2 : Hid (OwnB wp2 B g cap l2 ∧ Only g W wp2) := ⟨hop2, HA2.out.2.trans hon2⟩
  clear hop2 hon2
  go_wp2_with fail
  rw [rounds_succ]
  go_wp2_with fail
  refine (word_own HP2.out.1 HL.out.2.2.1.2.2.1 (by have := HL.out; omega) 16 (by have := HL.out; omega) _ HX.out.2.1 (n - 16) (by have := HL.out; omega) (c - 16)).mono ?_
  rintro e wa3 ⟨rfl, hoa3, hna3⟩
  have HA3 : Hid (OwnB wa3 B g cap l2 ∧ Only g W wa3) := ⟨hoa3, HP2.out.2.trans hna3⟩
  clear hoa3 hna3
  go_wp2_with fail
  refine (HU3.out _).mono ?_
  rintro e wb3 ⟨rfl, rfl⟩
  go_wp2_with fail
  refine (put_own HA3.out.1 16 (by have := HL.out; omega) (n - 16) (c - 16) (by have := HL.out; omega) _ HR.out.2.2.1.1 HR.out.2.2.1.2).mono ?_
  rintro e wp3 ⟨rfl, hop3, hon3⟩
  rw [HL.out.1.2.2.1] at hop3
  have HP3 : Hid (OwnB wp3 B g cap l3 ∧ Only g W wp3) := ⟨hop3, HA3.out.2.trans hon3⟩
  clear hop3 hon3
  go_wp2_with fail
  rw [rounds_succ]
  go_wp2_with fail
  refine (word_own HP3.out.1 HL.out.2.2.1.2.2.2.1 (by have := HL.out; omega) 18 (by have := HL.out; omega) _ HX.out.2.2 (n - 18) (by have := HL.out; omega) (c - 18)).mono ?_
  rintro e wa4 ⟨rfl, hoa4, hna4⟩
  have HA4 : Hid (OwnB wa4 B g cap l3 ∧ Only g W wa4) := ⟨hoa4, HP3.out.2.trans hna4⟩
  clear hoa4 hna4
  go_wp2_with fail
  refine (HU4.out _).mono ?_
  rintro e wb4 ⟨rfl, rfl⟩
  go_wp2_with fail
  refine (put_own HA4.out.1 18 (by have := HL.out; omega) (n - 18) (c - 18) (by have := HL.out; omega) _ HR.out.2.2.2.1.1 HR.out.2.2.2.1.2).mono ?_
  rintro e wp4 ⟨rfl, hop4, hon4⟩
  rw [HL.out.1.2.2.2] at hop4
  have HP4 : Hid (OwnB wp4 B g cap l4 ∧ Only g W wp4) := ⟨hop4, HA4.out.2.trans hon4⟩
  clear hop4 hon4
  go_wp2_with fail
  rw [rounds_succ]
  go_wp2_with fail
  refine (put_own HP4.out.1 10 (by have := HL.out; omega) (n - 10) (c - 10) (by have := HL.out; omega) _ HR.out.2.2.2.2.1 HR.out.2.2.2.2.2).mono ?_
  rintro e w9 ⟨rfl, hop, hon⟩
  rw [← HS.out, ← HF.out] at hop
  have HZ : Hid (OwnB w9 B g cap (putA l s d) ∧ Only g W w9) := ⟨hop, HP4.out.2.trans hon⟩
  clear hop hon
  go_wp2_with fail
  go_end0
  exact ⟨rfl, HZ.out⟩
end Go.Proofs.YtjalpbkfpjfigaaGreat

namespace Go.Proofs.YtjalpbkfpjfigaaGreat
open Go.RowKit
open Sm
set_option linter.unusedVariables false
set_option maxRecDepth 20000

abbrev paT : TypeId := 24
abbrev paA (pr s d fr tp fl ttl er n sp : Int) : Array Value := #[.int .u8 pr, .int .u8 s, .int .u8 d, .int .u8 fr, .int .u8 tp, .int .u8 fl, .int .u8 ttl, .int .u8 er, .int .u8 n, .int .u8 sp]
abbrev kpA : Array Value := paA 2 0 0 0 0 0 9 0 0 0
theorem kpk_ok : kpk.Ok := ⟨by decide, by decide, by decide, by decide, by decide, by decide, by decide, by decide, bytes_nil, (mgOut_facts (q := bdMg 1000 0 0) ⟨by decide, by decide, by decide +kernel, by decide, dat_bytes 0⟩).1⟩

set_option maxHeartbeats 4000000 in
theorem kpacket (w : World) : Calls Tryz.prog 8 #[.agg kpA, .int .i64 0, .int .i64 0] w fun e w' => ∃ u, e = .returned u ∧ w'.ownsRow w.heap.size 5 1 u 28 (kl.map (Value.int .u8)) ∧ Below w.heap.size w w' := by
  have HM0 : Hid (Mem w (w.alloc (.cells kpA paT)) [(w.heap.size, .cells kpA paT)]) := (Mem.nil w).push1 rfl
  have i1 : insd 0 = 167772161 := by decide
  have i2 : outsd 0 0 = 134744072 := by decide
  have i3 : prt 2 = 1 := by decide
  have i4 : ports 0 = 1000 := by decide
  have hIn := fun W => inside_any W 0 (by decide) (by decide)
  have hOut := fun W => outside_any W 0 0 (by decide) (by decide) (by decide) (by decide)
  have hPr := fun W => proto_any W 2 (by decide) (by decide)
  have hPo := fun W => port_any W 0 (by decide) (by decide)
  rw [i1] at hIn
  rw [i2] at hOut
  rw [i3] at hPr
  rw [i4] at hPo
  have HI : Hid _ := hIn
  have HOu : Hid _ := hOut
  have HPr : Hid _ := hPr
  have HPo : Hid _ := hPo
  have z8 : IntKind.u8.wrap 0 = 0 := rfl
  have z16 : IntKind.u16.wrap 0 = 0 := rfl
  clear i1 i2 i3 i4 hIn hOut hPr hPo
  go_enter Tryz.func8, Tryz.ntmps8
  go_upto_region 1 with fail
  refine wp_letter (fun W => Mem w W [(w.heap.size, .cells kpA paT)]) HM0.out ?_
  intro w1 hM1
  have HM1 : Hid _ := hM1.drew
  have b1 : w1.cell? ⟨w.heap.size, 1, none⟩ = some (.int .u8 0) := hM1.cell 0 rfl 1
  have b2 : w1.cell? ⟨w.heap.size, 2, none⟩ = some (.int .u8 0) := hM1.cell 0 rfl 2
  clear hM1 HM0
  go_region_held3 (fun w' => w'.cell? ⟨w.heap.size, 1, none⟩ = some (.int .u8 0) ∧ w'.cell? ⟨w.heap.size, 2, none⟩ = some (.int .u8 0)) (first | go_keep | assumption)
    (first
      | (go_at_call 19; with_reducible refine (HI.out _).mono ?_; rintro e w2 ⟨rfl, rfl⟩)
      | (go_at_call 20; with_reducible refine (HOu.out _).mono ?_; rintro e w3 ⟨rfl, rfl⟩))
  all_goals
    go_upto_region 2 with fail
    refine wp_letter (fun W => Mem w W [(w.heap.size, .cells kpA paT)]) HM1.out ?_
    intro w4 hM4
    have HM4 : Hid _ := hM4
    have b0 : w4.cell? ⟨w.heap.size, 0, none⟩ = some (.int .u8 2) := hM4.cell 0 rfl 0
    clear hM4 HM1 b1 b2
    go_wp2_with fail
    refine (HPr.out _).mono ?_
    rintro e w5 ⟨rfl, hb5⟩
    have hM5 := HM4.out.after hb5
    have HM5 : Hid _ := hM5.drew
    have b3 : w5.cell? ⟨w.heap.size, 3, none⟩ = some (.int .u8 0) := hM5.cell 0 rfl 3
    have b4 : w5.cell? ⟨w.heap.size, 4, none⟩ = some (.int .u8 0) := hM5.cell 0 rfl 4
    clear b0 hM5 hb5 HM4
    go_upto_region 5 with fail
    go_region_held3 (fun w' => w'.cell? ⟨w.heap.size, 3, none⟩ = some (.int .u8 0) ∧ w'.cell? ⟨w.heap.size, 4, none⟩ = some (.int .u8 0)) (first | go_keep | assumption)
      (first
        | (go_at_call 22; with_reducible refine (HPo.out _).mono ?_; rintro e w6 ⟨rfl, rfl⟩))
    all_goals
      go_upto_region 6 with fail
      refine wp_letter (fun W => Mem w W [(w.heap.size, .cells kpA paT)]) HM5.out ?_
      intro w7 hM7
      have HM7 : Hid _ := hM7
      have b5 : w7.cell? ⟨w.heap.size, 5, none⟩ = some (.int .u8 0) := hM7.cell 0 rfl 5
      have b8 : w7.cell? ⟨w.heap.size, 8, none⟩ = some (.int .u8 0) := hM7.cell 0 rfl 8
      have hBo := body_icmp w7 167772161 134744072 1000 1000 0 0 (by decide) (by decide)
      obtain ⟨N, hN⟩ : ∃ N, (mgOut (bdMg 1000 0 0)).length = N := ⟨_, rfl⟩
      have HN : Hid ((mgOut (bdMg 1000 0 0)).length = N ∧ N = 8) := ⟨hN, by rw [← hN]; decide +kernel⟩
      rw [hN] at hBo
      clear hM7 HM5 b3 b4 hN
      go_wp2_with fail
      refine hBo.mono ?_
      rintro e w8 ⟨x, rfl, hown, hb8⟩
      have hM8 := HM7.out.after hb8
      have HM8 : Hid _ := hM8
      obtain ⟨xa, xc, hx, hrow, hnil, hfar, -⟩ := own_read hown HN.out.1 (mgOut_facts (q := bdMg 1000 0 0) ⟨by decide, by decide, by decide +kernel, by decide, dat_bytes 0⟩).1 (by rw [HN.out.1, HN.out.2]; decide)
      subst hx
      have HV8 : Hid (IpV w8 0 (.agg (ipA 0 64 1 0 2 0 167772161 134744072 (.slice none 0 0) (.slice xa N xc))) kpk) := ⟨none, 0, xa, xc, by simp only [kpk, HN.out.1]; rfl, row_nil w8, hrow, fun _ => rfl, hnil, fun x hx => (by cases hx), fun x hx => Nat.zero_le _⟩
      have c8 : w8.cell? ⟨w.heap.size, 8, none⟩ = some (.int .u8 0) := hM8.cell 0 rfl 8
      clear hM8 hown hrow hnil hfar hb8 hBo b5 b8 HM7
      go_upto_region 8 with fail
      refine wp_letter (fun W => Mem w W [(w.heap.size, .cells kpA paT), (w8.heap.size, .cells (ipA 0 64 1 0 2 0 167772161 134744072 (.slice none 0 0) (.slice xa N xc)) ipT (0, 0))] ∧ IpV W 0 (.agg (ipA 0 64 1 0 2 0 167772161 134744072 (.slice none 0 0) (.slice xa N xc))) kpk) ⟨HM8.out.push2 rfl, HV8.out.below ((Below.refl _ _).alloc (Nat.le_refl _) _) (Nat.le_refl _)⟩ ?_
      intro w9 ⟨hM9, hv9⟩
      have HM9 : Hid _ := hM9
      have d6 : w9.cell? ⟨w.heap.size, 6, none⟩ = some (.int .u8 9) := hM9.cell 0 rfl 6
      have d7 : w9.cell? ⟨w.heap.size, 7, none⟩ = some (.int .u8 0) := hM9.cell 0 rfl 7
      have kc : ∀ i, w9.cell? ⟨w8.heap.size, i, none⟩ = (ipA 0 64 1 0 2 0 167772161 134744072 (.slice none 0 0) (.slice xa N xc))[i]? := hM9.cell 1 rfl
      have hB := rbytes_any kpk_ok hv9
      rw [kl_out, kl_len] at hB
      clear hM9 hv9 HM8 HV8 c8
      generalize w8.heap.size = G at *
      go_wp2_with fail
      refine hB.mono ?_
      rintro e w10 ⟨u, rfl, hown, hb10⟩
      have hM10 := HM9.out.after hb10
      have HU : Hid _ := own_base hown HM9.out.below.size
      have HB10 : Hid _ := hM10.below
      have d9 : w10.cell? ⟨w.heap.size, 9, none⟩ = some (.int .u8 0) := hM10.cell 0 rfl 9
      clear hB hown hb10 hM10 kc d6 d7 HM9
      go_wp2_with fail
      go_ret
      exact ⟨_, rfl, HU.out, HB10.out⟩
end Go.Proofs.YtjalpbkfpjfigaaGreat

namespace Go.Proofs.YtjalpbkfpjfigaaGreat
open Go.RowKit
open Sm
set_option linter.unusedVariables false
namespace Sm
theorem ipOut_bytes {p : Pk} (h : p.Ok) : IsBytes (ipOut p) ∧ (ipOut p).length ≤ 65535 := by
  unfold ipOut
  by_cases e : ipbErr p = 0
  · rw [if_pos e]
    have f := (fits_iff p).mp e
    exact ⟨ipb_bytes h f, by rw [ipb_len]; exact f.n⟩
  · rw [if_neg e]; exact ⟨bytes_nil, by simp⟩
theorem ipPk_ok {l : List Int} (h : IsBytes l) (h0 : ipErr l = 0) : (ipPk l).Ok := by
  have := ipRes_ok h
  rwa [show ipRes l = ipPk l from if_pos h0] at this
theorem hop_ok {p : Pk} (h : p.Ok) (ht : p.ttl ≠ 0) : p.hop.Ok := by
  have := h.ttl
  exact ⟨h.tos, ⟨by simp only [Pk.hop]; omega, by simp only [Pk.hop]; omega⟩, h.proto, h.id, h.flags, h.off, h.src, h.dst, h.opts, h.body⟩
theorem hopOut_bytes {l : List Int} (h : IsBytes l) : IsBytes (hopOut l) ∧ (hopOut l).length ≤ 65535 := by
  unfold hopOut
  by_cases e : ipErr l = 0
  · rw [if_neg (by omega)]
    by_cases t : (ipPk l).ttl = 0
    · rw [if_pos t]; exact ⟨bytes_nil, by simp⟩
    · rw [if_neg t]; exact ipOut_bytes (hop_ok (ipPk_ok h e) t)
  · rw [if_pos e]; exact ⟨bytes_nil, by simp⟩
theorem chOut_bytes {l : List Int} (h : IsBytes l) {s d : Pt} (hs : s.Ok) (hd : d.Ok) : IsBytes (chOut l s d) ∧ (chOut l s d).length ≤ 65535 := by
  unfold chOut
  by_cases e : lkErr l = 0
  · rw [if_neg (by omega)]
    split
    · exact ⟨bytes_nil, by simp⟩
    · exact ipOut_bytes (chPk_ok (ipPk_ok h (lk_parts e).1) _ hs hd)
  · rw [if_pos e]; exact ⟨bytes_nil, by simp⟩
end Sm
end Go.Proofs.YtjalpbkfpjfigaaGreat

