/-
  Of no one layer: what the document's own lychref1.Get16, Get32, cut, Put32 answer, over blocks of the call's own.
-/
import Derived.Test.YtjalpbkfpjfigabKit
namespace Go.Proofs.Ytjalpbkfpjfigab
open Go.RowKit
open Sm
set_option linter.unusedVariables false

theorem bytes_four {x y z u : Int} (hx : 0 ≤ x ∧ x ≤ 255) (hy : 0 ≤ y ∧ y ≤ 255) (hz : 0 ≤ z ∧ z ≤ 255) (hu : 0 ≤ u ∧ u ≤ 255) : IsBytes [x, y, z, u] :=
  bytes_cons hx (bytes_cons hy (bytes_cons hz (bytes_cons hu (fun i => by simp))))

set_option maxHeartbeats 1000000 in
theorem put32_any {w : World} {B n : Nat} {v : Value} {xs : List Value} (h : w.ownsRow B 5 1 v n xs) (hB : B ≤ w.heap.size) (hn : n ≤ 1000000) (x : Int) (r0 : 0 ≤ x) (r1 : x ≤ 4294967295) :
    Calls Try.prog 25 #[v, .int .u32 x] w fun e w' => ∃ v', e = .returned v' ∧ w'.ownsRow B 5 1 v' (n + 4) (xs ++ [.int .u8 (x / 16777216), .int .u8 (x / 65536 % 256), .int .u8 (x / 256 % 256), .int .u8 (x % 256)]) ∧ Below B w w' := by
  have u1 : IntKind.u8.wrap (x / 16777216) = x / 16777216 := wrap8_small _ (by omega) (by omega)
  have u2 : IntKind.u8.wrap (x / 65536) = x / 65536 % 256 := by simp [IntKind.wrap, IntKind.bits, IntKind.signed]
  have u3 : IntKind.u8.wrap (x / 256) = x / 256 % 256 := by simp [IntKind.wrap, IntKind.bits, IntKind.signed]
  have u4 : IntKind.u8.wrap x = x % 256 := by simp [IntKind.wrap, IntKind.bits, IntKind.signed]
  have HO : Hid (w.ownsRow B 5 1 v n xs) := h
  clear h
  have hb2 : IsBytes [x / 16777216, x / 65536 % 256, x / 256 % 256, x % 256] := bytes_four (by omega) (by omega) (by omega) (by omega)
  have HB : Hid (IsBytes [x / 16777216, x / 65536 % 256, x / 256 % 256, x % 256]) := hb2
  clear hb2
  go_enter Try.func25, Try.ntmps25
  go_wp2_with (at_builtin; refine wpList_append_more _ rfl (.tmp 5) (.tmp 17) rfl B v n xs rfl (own_after HO.out ((Below.refl _ _).alloc (Nat.le_refl _) _) (Nat.le_refl _)) (some ⟨w.heap.size, 0, none⟩) 4 4 [x / 16777216, x / 65536 % 256, x / 256 % 256, x % 256] rfl rfl (fun e => by cases e) (row_lit w _ HB.out (by simp) 5) (by omega) (by simp; omega) ?_; intro v1 w1 hown hbel)
  go_ret
  exact ⟨_, rfl, hown, ((Below.refl _ _).alloc hB _).trans hbel⟩

theorem put32_inv {T : TypeId} {w W : World} {pA : Array Value} {v : Value} {n : Nat} {L : List Int} (h : Inv T w W pA v n L) (hn : n ≤ 1000000) (x : Int) (r0 : 0 ≤ x) (r1 : x ≤ 4294967295) :
    Calls Try.prog 25 #[v, .int .u32 x] W fun e W' => ∃ v', e = .returned v' ∧ Inv T w W' pA v' (n + 4) (L ++ [x / 16777216, x / 65536 % 256, x / 256 % 256, x % 256]) := by
  refine (put32_any h.own h.size hn x r0 r1).mono ?_
  rintro e W' ⟨v', rfl, ho, hb⟩
  exact ⟨v', rfl, h.next (by rw [List.map_append]; exact ho) hb⟩
end Go.Proofs.Ytjalpbkfpjfigab
