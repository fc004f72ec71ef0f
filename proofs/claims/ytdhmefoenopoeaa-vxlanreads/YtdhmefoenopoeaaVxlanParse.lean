/-
  What vxlan.Parse answers: the document's network and a body of the call's own, or the error.
-/
import Derived.Test.YtdhmefoenopoeaaVxlanMath
import Derived.OwnWalk
namespace Go.Proofs.Ytdhmefoenopoeaa
open Go.RowKit
open Sm
set_option linter.unusedVariables false

set_option maxHeartbeats 400000 in
theorem vnet_cells {w : World} {b j : Nat} (x y z : Int) (c0 : w.cell? ⟨b, j, none⟩ = some (.int .u8 x)) (c1 : w.cell? ⟨b, j + 1, none⟩ = some (.int .u8 y)) (c2 : w.cell? ⟨b, j + 2, none⟩ = some (.int .u8 z)) (r0 : 0 ≤ x ∧ x ≤ 255) (r1 : 0 ≤ y ∧ y ≤ 255) (r2 : 0 ≤ z ∧ z ≤ 255) (c : Nat) :
    Calls Try.prog 13 #[.slice (some ⟨b, j, none⟩) 3 c] w fun e w' => e = .returned (.int .u32 (x * 65536 + y * 256 + z)) ∧ ∃ q, w' = w.drewN q := by
  have h1 := join16 x y r0.1 r0.2 r1.1 r1.2
  have h2 := join8 (x * 256 + y) z (by omega) (by omega) r2.1 r2.2 (x * 65536 + y * 256) (by omega)
  have w0 := wrap32_small x r0.1 (by omega)
  have w1 := wrap32_small y r1.1 (by omega)
  have w2 := wrap32_small z r2.1 (by omega)
  have w3 := wrap32_small (x * 65536) (by omega) (by omega)
  have w4 := wrap32_small (y * 256) (by omega) (by omega)
  go_enter Try.func13, Try.ntmps13
  go_wp2
  go_quiet (fail)
  go_wp2
  go_ret
  exact ⟨rfl, _, rfl⟩

theorem vnet_at {w : World} {b off : Nat} {l : List Int} (h : Row w (some ⟨b, off, none⟩) l) (j k : Nat) (hk : k = off + j) (hj : j + 2 < l.length) (X : Int) (hX : w24 l j = X) (c : Nat) :
    Calls Try.prog 13 #[.slice (some ⟨b, k, none⟩) 3 c] w fun e w' => e = .returned (.int .u32 X) ∧ ∃ q, w' = w.drewN q := by
  subst hk hX
  exact vnet_cells _ _ _ (h.cellAt j (by omega)) (by rw [Nat.add_assoc]; exact h.cellAt (j + 1) (by omega)) (by rw [Nat.add_assoc]; exact h.cellAt (j + 2) hj) (h.bytes j) (h.bytes (j + 1)) (h.bytes (j + 2)) c

set_option maxHeartbeats 400000 in
theorem vparse_short (a : Option Addr) (n cap : Nat) (w : World) (h : n < 8) :
    Calls Try.prog 8 #[.slice a n cap] w fun e w' => e = .returned (.tuple #[.int .u32 0, .slice none 0 0, .int .i64 20]) ∧ w = w' := by
  have h' : (n : Int) < 8 := by omega
  go_enter Try.func8, Try.ntmps8
  go_wp2
  go_ret3
  exact ⟨rfl, rfl⟩

set_option maxHeartbeats 400000 in
theorem vparse_form {w : World} {b off n cap : Nat} (h : 8 ≤ n) (X : Int) (c0 : w.cell? ⟨b, off, none⟩ = some (.int .u8 X)) (h0 : bits .and .u8 X 8 = 0) :
    Calls Try.prog 8 #[.slice (some ⟨b, off, none⟩) n cap] w fun e w' => e = .returned (.tuple #[.int .u32 0, .slice none 0 0, .int .i64 21]) ∧ w = w' := by
  have h' : (8 : Int) ≤ n := by omega
  have i0 : (0 : Int) < n := by omega
  have i0' : 0 < n := by omega
  go_enter Try.func8, Try.ntmps8
  go_wp2
  go_ret3
  exact ⟨rfl, rfl⟩

set_option maxRecDepth 20000 in
set_option maxHeartbeats 2000000 in
theorem vparse_ok {w : World} {b off n cap : Nat} {l : List Int} (h : Row w (some ⟨b, off, none⟩) l) (hn : l.length = n) (hc : n ≤ cap) (m : Nat) (h8 : n = m + 8) (X0 X4 : Int) (e0 : l.getD 0 0 = X0) (hX0 : bits .and .u8 X0 8 = 8) (e4 : w24 l 4 = X4) (body : List Int) (hbd : (l.drop 8).take m = body) :
    Calls Try.prog 8 #[.slice (some ⟨b, off, none⟩) n cap] w fun e w' => ∃ g, e = .returned (.tuple #[.int .u32 X4, .slice (some ⟨g, 0, none⟩) m m, .int .i64 0]) ∧ Row w' (some ⟨g, 0, none⟩) body ∧ w.heap.size ≤ g ∧ Below w.heap.size w w' := by
  have h8' : (8 : Int) ≤ n := by omega
  have i0 : (0 : Int) < n := by omega
  have i0' : 0 < n := by omega
  have hc7 : (7 : Int) ≤ cap := by omega
  have hcn : (n : Int) ≤ cap := by omega
  have hnm : n - 8 = m := by omega
  have hln := h.len
  have hnl : (n : Int) ≤ 140737488351232 := by omega
  have c0 : w.cell? ⟨b, off, none⟩ = some (.int .u8 X0) := by rw [← e0]; exact h.cellAt 0 (by omega)
  have hnet := vnet_at h 4 (off + 4) rfl (by omega) X4 e4 3
  have hbl : body.length = m := by rw [← hbd]; simp; omega
  have hmk := make_bytes m (by omega)
  have HR : Hid (Row w (some ⟨b, off, none⟩) l ∧ 8 + m ≤ l.length) := ⟨h, by omega⟩
  have HE : Hid ((l.drop 8).take m = body ∧ body.length = m ∧ n = m + 8 ∧ m ≤ 140737488351232) := ⟨hbd, hbl, h8, by omega⟩
  clear h hn hc hln e0 e4 hbd hbl h8
  go_enter Try.func8, Try.ntmps8
  go_wp2_with fail
  refine hnet.mono ?_
  rintro e w1 ⟨rfl, q1, rfl⟩
  go_upto_region 6 with fail
  refine wp_letter (fun W => Mem w W []) ((Mem.nil w).drewN q1) ?_
  intro w1 hM1
  clear hnet c0
  by_cases hm0 : m = 0
  · subst hm0
    obtain rfl : n = 8 := HE.out.2.2.1
    have hbn : body = [] := List.eq_nil_of_length_eq_zero HE.out.2.1
    have hmk0 : ∀ w : World, (Instr.makeSlice 22 (.int .i64 0) (.int .i64 0)).run Try.prog w = .ok (.slice (some ⟨w.heap.size, 0, none⟩) 0 0) (w.alloc (.cells (madeCells #[.int .u8 0] 0) 5)) := make_bytes 0 (by omega)
    clear hmk
    go_upto_region 8 with fail
    refine wp_letter (fun W => Mem w W [(w1.heap.size, .cells (madeCells #[.int .u8 0] 0) 5)]) (hM1.push1 rfl) ?_
    intro w2 hM2
    clear hM1
    generalize w1.heap.size = g at *
    have HM2 : Hid _ := hM2
    obtain ⟨w5, hr5, hw5⟩ := copy_bytes w2 3 (some ⟨g, 0, none⟩) (some ⟨b, off, none⟩) 0 0 0 0 g 0 _ (bs body) 5 (hM2.get 0 rfl) body (by rw [hbn]; rfl) (fun hp => by rw [hbn] at hp; simp at hp) (by rw [hbn, size_madeCells]; simp) (made_new 0 body HE.out.2.1)
    have HM5 : Hid _ := hM2.wrote 0 rfl hw5
    rw [HE.out.2.1] at hr5
    clear hM2 hw5 hbn
    go_wp2_with fail
    go_ret3
    refine ⟨_, rfl, HM5.out.own 0 rfl ?_ ?_, HM5.out.ge 0 rfl, HM5.out.below⟩
    · rw [← HE.out.1]; exact bytes_part HR.out.1.bytes _ _
    · rw [HE.out.2.1]; exact HE.out.2.2.2
  · have h8l : (8 : Int) < n := by have := HE.out; omega
    have h8n : ¬ n = 8 := by omega
    go_upto_region 8 with fail
    refine wp_letter (fun W => Mem w W [(w1.heap.size, .cells (madeCells #[.int .u8 0] m) 5)]) (hM1.push1 rfl) ?_
    intro w2 hM2
    clear hM1
    generalize w1.heap.size = g at *
    have HS : Hid (0 < body.length → some (⟨g, 0, none⟩ : Addr) = some ⟨g, 0, none⟩ ∧ ∃ ad, some (⟨b, off + 8, none⟩ : Addr) = some ad ∧ ∀ j v, (body.map (Value.int .u8))[j]? = some v → w2.cell? (ad.add j) = some v) := by
      intro hp
      refine ⟨rfl, _, rfl, ?_⟩
      have hr := hM2.row (HR.out.1.part 8 m HR.out.2)
      rw [HE.out.1] at hr
      exact hr.news
    obtain ⟨w5, hr5, hw5⟩ := copy_bytes w2 3 (some ⟨g, 0, none⟩) (some ⟨b, off + 8, none⟩) m m m m g 0 _ (bs body) 5 (hM2.get 0 rfl) body (by rw [HE.out.2.1]; exact (Nat.min_self m).symm) HS.out (by rw [HE.out.2.1, size_madeCells]; omega) (made_new m body HE.out.2.1)
    have HM5 : Hid _ := hM2.wrote 0 rfl hw5
    rw [HE.out.2.1] at hr5
    clear hM2 hw5 HS
    go_wp2_with fail
    go_ret3
    refine ⟨_, rfl, HM5.out.own 0 rfl ?_ ?_, HM5.out.ge 0 rfl, HM5.out.below⟩
    · rw [← HE.out.1]; exact bytes_part HR.out.1.bytes _ _
    · rw [HE.out.2.1]; exact HE.out.2.2.2

/-- What vxlan.Parse answers, whatever it is handed. -/
theorem vparse_any {w : World} {a : Option Addr} {n c : Nat} {l : List Int} (hr : Row w a l) (hn : l.length = n) (hc : n ≤ c) {E V : Int} {bd : List Int} (hE : vxErr l = E) (hV : vxNet l = V) (hB : vxBody l = bd) {m : Nat} (hm : bd.length = m) :
    Calls Try.prog 8 #[.slice a n c] w fun r w' => ∃ bo cb, r = .returned (.tuple #[.int .u32 V, .slice bo m cb, .int .i64 E]) ∧ Row w' bo bd ∧ (bo = none → cb = 0) ∧ (∀ x, bo = some x → w.heap.size ≤ x.block) ∧ m ≤ cb ∧ Below w.heap.size w w' := by
  subst hn hE hV hB hm
  by_cases h1 : l.length < 8
  · obtain ⟨q1, q2, q3⟩ := vx_e20 h1
    rw [q1, q2, q3]
    refine (vparse_short a _ c w h1).mono ?_
    rintro r w' ⟨rfl, rfl⟩
    exact ⟨none, 0, rfl, row_nil _, fun _ => rfl, fun x hx => (by cases hx), Nat.le_refl _, Below.refl _ _⟩
  rcases hr.cells with e0 | ⟨b, off, rfl, -⟩
  · rw [e0] at h1; simp at h1
  have hb0 := hr.bytes 0
  by_cases h2 : l.getD 0 0 / 8 % 2 = 0
  · obtain ⟨q1, q2, q3⟩ := vx_e21 h1 h2
    rw [q1, q2, q3]
    refine (vparse_form (by omega) _ (hr.cellAt 0 (by omega)) (and8_no _ hb0.1 hb0.2 h2)).mono ?_
    rintro r w' ⟨rfl, rfl⟩
    exact ⟨none, 0, rfl, row_nil _, fun _ => rfl, fun x hx => (by cases hx), Nat.le_refl _, Below.refl _ _⟩
  obtain ⟨q1, q2, q3⟩ := vx_e0 h1 h2
  rw [q1, q2, q3]
  have hl : ((l.drop 8).take (l.length - 8)).length = l.length - 8 := by simp
  rw [hl]
  refine (vparse_ok hr rfl hc (l.length - 8) (by omega) _ _ rfl (and8_yes _ hb0.1 hb0.2 h2) rfl _ rfl).mono ?_
  rintro r w' ⟨g, rfl, hrow, hg, hb⟩
  exact ⟨_, _, rfl, hrow, fun e => (by cases e), fun x hx => (by cases hx; exact hg), Nat.le_refl _, hb⟩
end Go.Proofs.Ytdhmefoenopoeaa
