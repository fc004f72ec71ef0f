/-
  The walk of lychlaw3.IpGreat: it answers true.
-/
import Derived.Test.YtnjejakhikonpaaIpKnown
namespace Go.Proofs.Ytnjejakhikonpaa
open Go.RowKit
open Sm
set_option linter.unusedVariables false

theorem own_len {W : World} {B : Nat} {v : Value} {n : Nat} {xs : List Value} (h : W.ownsRow B 5 1 v n xs) : ∃ a cap, v = .slice a n cap := by
  obtain ⟨h1, h2⟩ := h
  rcases h2 with ⟨rfl, h3⟩ | ⟨g, cap, cur, rfl, hg, r⟩
  · subst h3; exact ⟨none, 0, rfl⟩
  · exact ⟨_, cap, rfl⟩

def pkz (o n : Nat) : Pk := ⟨0, 0, 0, 0, 0, 0, 0, 0, List.replicate o 0, List.replicate n 0⟩
theorem pkz_ok (o n : Nat) : (pkz o n).Ok :=
  ⟨by simp [pkz], by simp [pkz], by simp [pkz], by simp [pkz], by simp [pkz], by simp [pkz], by simp [pkz], by simp [pkz], bytes_noughts o, bytes_noughts n⟩
theorem pkz_err (o n : Nat) (h4 : o % 4 = 0) (h40 : o ≤ 40) : ipbErr (pkz o n) = if 65535 < 20 + o + n then 23 else 0 := by
  unfold ipbErr
  rw [if_neg (by simp [pkz]; omega)]
  simp [pkz]
theorem pkz_len (o n : Nat) (h4 : o % 4 = 0) (h40 : o ≤ 40) : (ipOut (pkz o n)).length = if 65535 < 20 + o + n then 0 else 20 + o + n := by
  unfold ipOut
  rw [pkz_err o n h4 h40]
  by_cases h : 65535 < 20 + o + n
  · rw [if_pos h, if_pos h]; rfl
  · rw [if_neg h, if_neg h, if_pos rfl, ipb_len]; simp [pkz]

theorem pkz_first (W : World) (o n : Nat) (ho : o ≤ 100) (hn : n ≤ 70000) : IpV (((W.alloc (.cells (madeCells #[.int .u8 0] o) 5)).alloc (.cells (madeCells #[.int .u8 0] n) 5)).drew) 0 (.agg (ipA 0 0 0 0 0 0 0 0 (.slice (some ⟨W.heap.size, 0, none⟩) o o) (.slice (some ⟨W.heap.size + 1, 0, none⟩) n n))) (pkz o n) := by
  refine ⟨some ⟨W.heap.size, 0, none⟩, o, some ⟨W.heap.size + 1, 0, none⟩, n, by simp [pkz], ?_, ?_, (fun e => by cases e), (fun e => by cases e), fun _ _ => Nat.zero_le _, fun _ _ => Nat.zero_le _⟩
  · exact ((noughts_at W o (by omega) _ rfl).below ((Below.refl _ _).alloc (Nat.le_refl _) _) (Nat.le_refl _)).below ((Below.refl _ _).drew) (Nat.le_refl _)
  · exact (noughts_at _ n (by omega) _ (by simp)).below ((Below.refl _ _).drew) (Nat.le_refl _)
theorem pkz_second (W : World) (o n : Nat) (ho : o ≤ 100) (hn : n ≤ 70000) : IpV (((W.alloc (.cells (madeCells #[.int .u8 0] n) 5)).alloc (.cells (madeCells #[.int .u8 0] o) 5)).drew) 0 (.agg (ipA 0 0 0 0 0 0 0 0 (.slice (some ⟨W.heap.size + 1, 0, none⟩) o o) (.slice (some ⟨W.heap.size, 0, none⟩) n n))) (pkz o n) := by
  refine ⟨some ⟨W.heap.size + 1, 0, none⟩, o, some ⟨W.heap.size, 0, none⟩, n, by simp [pkz], ?_, ?_, (fun e => by cases e), (fun e => by cases e), fun _ _ => Nat.zero_le _, fun _ _ => Nat.zero_le _⟩
  · exact (noughts_at _ o (by omega) _ (by simp)).below ((Below.refl _ _).drew) (Nat.le_refl _)
  · exact ((noughts_at W n (by omega) _ rfl).below ((Below.refl _ _).alloc (Nat.le_refl _) _) (Nat.le_refl _)).below ((Below.refl _ _).drew) (Nat.le_refl _)

theorem below_two {w w1 w5 : World} (hb : Below w.heap.size w w1) (x y : Obj) (h : Below (((w1.alloc x).alloc y).drew).heap.size (((w1.alloc x).alloc y).drew) w5) : Below w.heap.size w w5 := by
  have h1 : Below w.heap.size w (((w1.alloc x).alloc y).drew) := ((hb.alloc hb.size x).alloc ((hb.alloc hb.size x).size) y).drew
  exact h1.trans (h.mono h1.size)

set_option maxRecDepth 20000 in
set_option maxHeartbeats 4000000 in
theorem great_core (w : World) (a0 a1 : Int) (g0 : -9223372036854775808 ≤ a0) (g1 : a0 ≤ 9223372036854775807) (b0 : 0 ≤ a1) (b1 : a1 ≤ 255) :
    Calls Try.prog 6 #[.int .i64 a0, .int .u8 a1] w fun e w' => e = .returned (.bool true) ∧ Below w.heap.size w w' := by
  have hk := known_any w
  obtain ⟨r, hr⟩ : ∃ r : Nat, a1 % 11 = r := ⟨(a1 % 11).toNat, by omega⟩
  have hrt : a1.tmod 11 = r := by rw [Int.tmod_eq_emod_of_nonneg b0]; exact hr
  have u0 : IntKind.u8.wrap (r : Int) = r := wrap8_small _ (by omega) (by omega)
  have u1 : IntKind.i64.wrap (r : Int) = r := wrap64_small _ (by omega) (by omega)
  have u2 : IntKind.i64.wrap ((r : Int) * 4) = (r : Int) * 4 := wrap64_small _ (by omega) (by omega)
  obtain ⟨o, ho⟩ : ∃ o : Nat, (r : Int) * 4 = o := ⟨r * 4, by omega⟩
  have HEo : Hid ((r : Int) * 4 = o) := ho
  have hpr := plc_range a0 5 (by omega)
  have hplace : ∀ W, Calls Try.prog 18 #[.int .i64 a0, .int .i64 5] W _ := fun W => place_any a0 5 W g0 g1 (by omega) (by omega)
  obtain ⟨P, hP⟩ : ∃ P : Nat, plc a0 5 = P := ⟨(plc a0 5).toNat, by omega⟩
  rw [hP] at hplace
  obtain ⟨n, hn⟩ : ∃ n : Nat, (65515 : Int) - o - 2 + P = n := ⟨65515 - o - 2 + P, by omega⟩
  have HEn : Hid ((65515 : Int) - o - 2 + P = n) := hn
  have u3 : IntKind.i64.wrap ((65515 : Int) - o) = (65515 : Int) - o := wrap64_small _ (by omega) (by omega)
  have u4 : IntKind.i64.wrap ((65515 : Int) - o - 2) = (65515 : Int) - o - 2 := wrap64_small _ (by omega) (by omega)
  have u5 : IntKind.i64.wrap ((65515 : Int) - o - 2 + P) = (65515 : Int) - o - 2 + P := wrap64_small _ (by omega) (by omega)
  have t6 : IntKind.i64.wrap ((n : Int) + 20) = (n : Int) + 20 := wrap64_small _ (by omega) (by omega)
  have t7 : IntKind.i64.wrap ((n : Int) + 20 + o) = (n : Int) + 20 + o := wrap64_small _ (by omega) (by omega)
  have hmo := make_bytes o (by omega)
  have hmn := make_bytes n (by omega)
  have HO : Hid (o % 4 = 0 ∧ o ≤ 40 ∧ n ≤ 70000) := ⟨by omega, by omega, by omega⟩
  clear hr hpr hP hn ho
  go_enter Try.func6, Try.ntmps6
  go_wp2_with fail
  refine hk.mono ?_
  rintro e w1 ⟨rfl, hb1⟩
  have HB1 : Hid _ := hb1
  clear hk hb1
  go_upto_region 4 with fail
  rw [HEo.out]
  go_wp2_with fail
  refine (hplace _).mono ?_
  rintro e w' ⟨rfl, rfl⟩
  go_upto_region 5 with fail
  rw [HEn.out]
  go_cut [6, 7] from 8 (fun s6 s7 wx => ∃ v, s6 = v ∧ s7 = .int .i64 (ipbErr (pkz o n)) ∧ (∃ a cap, v = .slice a (ipOut (pkz o n)).length cap) ∧ Below w.heap.size w wx)
  case first =>
    go_region_held3 (fun w' => True) (first | go_keep | trivial)
      (first
        | (go_at_call 15; with_reducible refine (bytes_any (pkz_ok o n) (pkz_first w1 o n (by have := HO.out; omega) (by have := HO.out; omega))).mono ?_; rintro e w5 ⟨v5, rfl, hown5, hbel5⟩)
        | (go_at_call 15; with_reducible refine (bytes_any (pkz_ok o n) (pkz_second w1 o n (by have := HO.out; omega) (by have := HO.out; omega))).mono ?_; rintro e w5 ⟨v5, rfl, hown5, hbel5⟩))
    all_goals
      go_wp2_with fail
      go_meet
      case rel => exact ⟨_, rfl, rfl, own_len hown5, below_two HB1.out _ _ hbel5⟩
  case rest =>
  obtain ⟨v, rfl, rfl, ⟨a, cap, rfl⟩, hbz⟩ := hcut
  rw [pkz_err o n HO.out.1 HO.out.2.1, pkz_len o n HO.out.1 HO.out.2.1]
  by_cases h : 65535 < 20 + o + n
  · rw [if_pos h, if_pos h]
    have h' : (65515 : Int) - o < n := by omega
    go_wp2_with fail
    go_ret
    exact ⟨rfl, hbz⟩
  · rw [if_neg h, if_neg h]
    have h' : (n : Int) ≤ (65515 : Int) - o := by omega
    obtain ⟨K, hK⟩ : ∃ K, K = 20 + o + n := ⟨_, rfl⟩
    have hK' : (K : Int) = (n : Int) + 20 + o := by omega
    rw [← hK]
    clear hK
    go_wp2_with fail
    go_ret
    exact ⟨by simp, hbz⟩
end Go.Proofs.Ytnjejakhikonpaa
