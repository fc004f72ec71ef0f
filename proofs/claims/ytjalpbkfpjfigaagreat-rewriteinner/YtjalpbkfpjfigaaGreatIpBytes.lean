/-
  What ip.Bytes answers: putWord, putLong, and the packet's bytes.
-/
import Derived.Test.YtjalpbkfpjfigaaGreatIpRead
namespace Go.Proofs.YtjalpbkfpjfigaaGreat
open Go.RowKit
open Sm
set_option linter.unusedVariables false
set_option maxRecDepth 20000

set_option maxHeartbeats 1000000 in
theorem putWord_ok {W : World} {g j : Nat} (z0 z1 : Int) (k0 : W.cell? ⟨g, j, none⟩ = some (.int .u8 z0)) (k1 : W.cell? ⟨g, j + 1, none⟩ = some (.int .u8 z1)) (kf : ∀ i, W.frozen? ⟨g, i, none⟩ = false) (n c : Nat) (hn : 2 ≤ n) (x : Int) (r0 : 0 ≤ x) (r1 : x ≤ 65535) :
    Calls Tryz.prog 63 #[.slice (some ⟨g, j, none⟩) n c, .int .u16 x] W fun e w' => e = .returned (.tuple #[]) ∧ w' = (W.setCell ⟨g, j, none⟩ (.int .u8 (x / 256))).setCell ⟨g, j + 1, none⟩ (.int .u8 (x % 256)) := by
  have u1 : IntKind.u8.wrap (x / 256) = x / 256 := wrap8_small _ (by omega) (by omega)
  have u2 : IntKind.u8.wrap x = x % 256 := by simp [IntKind.wrap, IntKind.bits, IntKind.signed]
  have n0 : 0 < n := by omega
  have n1 : (1 : Int) < n := by omega
  clear hn
  go_enter Tryz.func63, Tryz.ntmps63
  go_wp2
  go_end0
  exact ⟨rfl, rfl⟩

theorem putWord_at {w W : World} {L : List (Nat × Obj)} (hM : Mem w W L) (i : Nat) {g N : Nat} {xs : List (Nat × Int)} (hi : L[i]? = some (g, .cells (bs (blz N xs)) 5 (0, 0))) (j : Nat) (hj : j + 1 < N) (n c : Nat) (hn : 2 ≤ n) (x : Int) (r0 : 0 ≤ x) (r1 : x ≤ 65535) :
    Calls Tryz.prog 63 #[.slice (some ⟨g, j, none⟩) n c, .int .u16 x] W fun e w' => e = .returned (.tuple #[]) ∧ Mem w w' (L.set i (g, .cells (bs (blz N (xs ++ [(j, x / 256), (j + 1, x % 256)]))) 5 (0, 0))) := by
  obtain ⟨z0, k0⟩ := hM.spot i hi j (by omega)
  obtain ⟨z1, k1⟩ := hM.spot i hi (j + 1) (by omega)
  refine (putWord_ok z0 z1 k0 k1 (hM.free i hi) n c hn x r0 r1).mono ?_
  rintro e w' ⟨rfl, rfl⟩
  refine ⟨rfl, ?_⟩
  have h1 := hM.put i hi j (x / 256)
  have hil := (List.getElem?_eq_some_iff.mp hi).1
  have h2 := h1.put i (by rw [List.getElem?_set_self hil]) (j + 1) (x % 256)
  rw [List.set_set, List.append_assoc] at h2
  exact h2

theorem putLong_at {w W : World} {L : List (Nat × Obj)} (hM : Mem w W L) (i : Nat) {g N : Nat} {xs : List (Nat × Int)} (hi : L[i]? = some (g, .cells (bs (blz N xs)) 5 (0, 0))) (j : Nat) (hj : j + 3 < N) (n c : Nat) (hn : 4 ≤ n) (hc : n ≤ c) (x : Int) (r0 : 0 ≤ x) (r1 : x ≤ 4294967295) :
    Calls Tryz.prog 64 #[.slice (some ⟨g, j, none⟩) n c, .int .u32 x] W fun e w' => e = .returned (.tuple #[]) ∧ Mem w w' (L.set i (g, .cells (bs (blz N (xs ++ [(j, x / 16777216), (j + 1, x / 65536 % 256), (j + 2, x / 256 % 256), (j + 3, x % 256)]))) 5 (0, 0))) := by
  have u1 : IntKind.u16.wrap (x / 65536) = x / 65536 := wrap16_small _ (by omega) (by omega)
  have u2 : IntKind.u16.wrap x = x % 65536 := by simp [IntKind.wrap, IntKind.bits, IntKind.signed]
  have hil := (List.getElem?_eq_some_iff.mp hi).1
  have p1 := putWord_at hM i hi j (by omega) n c (by omega) (x / 65536) (by omega) (by omega)
  have n1 : (2 : Int) ≤ n := by omega
  have n2 : (2 : Int) ≤ c := by omega
  have n3 : ¬ c = 2 := by omega
  have n4 : ¬ 2 = c := by omega
  have n5 : (2 : Int) < c := by omega
  have HN : Hid (j + 3 < N ∧ 4 ≤ n) := ⟨hj, hn⟩
  have HI : Hid (i < L.length) := hil
  clear hj hn hc hil hM hi
  go_enter Tryz.func64, Tryz.ntmps64
  go_wp2_with fail
  refine p1.mono ?_
  rintro e w1 ⟨rfl, hM1⟩
  have p2 := putWord_at hM1 i (List.getElem?_set_self HI.out) (j + 2) (by have := HN.out; omega) (n - 2) (c - 2) (by have := HN.out; omega) (x % 65536) (by omega) (by omega)
  rw [List.set_set, List.append_assoc] at p2
  clear hM1 p1
  go_wp2_with fail
  refine p2.mono ?_
  rintro e w2 ⟨rfl, hM2⟩
  go_wp2
  go_end0
  refine ⟨rfl, ?_⟩
  rw [show x / 65536 / 256 = x / 16777216 by omega, show x % 65536 / 256 = x / 256 % 256 by omega, show x % 65536 % 256 = x % 256 by omega] at hM2
  exact hM2
end Go.Proofs.YtjalpbkfpjfigaaGreat
