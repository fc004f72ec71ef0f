/-
  What package ip's split answers: a packet's header and body as pieces of its bytes, or a failure.
-/
import Derived.Test.YtjalpbkfpjfigaaGreatIpReader
import Derived.Test.YtjalpbkfpjfigaaGreatSum
namespace Go.Proofs.YtjalpbkfpjfigaaGreat
open Go.RowKit
open Sm
set_option linter.unusedVariables false
set_option maxRecDepth 20000

theorem wraps_i64 (n : Int) (h0 : 0 ≤ n) (h1 : n < 2 ^ 63) : IntKind.i64.wrap n = n := by rw [IntKind.wrap_i64]; omega
theorem sm_low4 (x : Int) (h0 : 0 ≤ x) (h1 : x ≤ 255) : bits .and .u8 x 15 = x % 16 := bits_mask .u8 8 (by decide) wraps_u8 4 (by decide) x h0 (by omega)
theorem sm_word64 (x y : Int) (h0 : 0 ≤ x) (h1 : x ≤ 255) (h2 : 0 ≤ y) (h3 : y ≤ 255) : bits .or .i64 (x * 256) y = x * 256 + y :=
  bits_join .i64 63 (by decide) wraps_i64 8 (x * 256) y (by omega) (by omega) (by omega) h2 (by omega) (by omega)
theorem rd_mem (w : World) (v : Value) : Mem w (w.alloc (.cells #[v] rdT)) [(w.heap.size, .cells #[v] rdT (0, 0))] := (Mem.nil w).push w.heap.size (.cells #[v] rdT) rfl

set_option maxHeartbeats 1000000 in
theorem split_few {w : World} (a : Option Addr) (n c : Nat) (h : n < 20) :
    Calls Tryz.prog 97 #[.slice a n c] w fun r w' => r = .panicked (failing 20) ∧ Below w.heap.size w w' := by
  go_enter Tryz.func97, Tryz.ntmps97
  go_upto_region 2 with fail
  refine wp_letter (fun W => Mem w W [(w.heap.size, .cells #[.slice a n c] rdT (0, 0))]) (rd_mem ..) ?_
  intro w1 hM1
  have hn := need_no (hM1.cell 0 rfl 0) 20 h
  have HM1 : Hid _ := hM1
  clear hM1
  go_wp2_with fail
  refine hn.mono ?_
  rintro e w' ⟨rfl, rfl⟩
  exact ⟨rfl, rfl, HM1.out.below⟩

/-- What the walks of split know of the first bytes. -/
structure Front (w : World) (b off n : Nat) (x0 x2 x3 : Int) (k wl : Nat) : Prop where
  c0 : w.cell? ⟨b, off, none⟩ = some (.int .u8 x0)
  c2 : w.cell? ⟨b, off + 2, none⟩ = some (.int .u8 x2)
  c3 : w.cell? ⟨b, off + 3, none⟩ = some (.int .u8 x3)
  r0 : 0 ≤ x0 ∧ x0 ≤ 255
  r2 : 0 ≤ x2 ∧ x2 ≤ 255
  r3 : 0 ≤ x3 ∧ x3 ≤ 255
  hk : x0 % 16 = k
  hw : x2 * 256 + x3 = wl
  n0 : 20 ≤ n
  n1 : n ≤ 140737488351232

set_option maxHeartbeats 2000000 in
theorem split_form {w : World} {b off n : Nat} {x0 x2 x3 : Int} {k wl : Nat} (F : Front w b off n x0 x2 x3 k wl) (c : Nat) (h : ¬ (x0 / 16 = 4 ∧ 20 ≤ 4 * k ∧ 4 * k ≤ wl)) :
    Calls Tryz.prog 97 #[.slice (some ⟨b, off, none⟩) n c] w fun r w' => r = .panicked (failing 21) ∧ Below w.heap.size w w' := by
  obtain ⟨c0, c2, c3, ⟨r00, r01⟩, ⟨r20, r21⟩, ⟨r30, r31⟩, hk, hw, n0, n1⟩ := F
  have hand := sm_low4 x0 r00 r01
  rw [hk] at hand
  have hor := sm_word64 x2 x3 r20 r21 r30 r31
  rw [hw] at hor
  have k1 : (k : Int) ≤ 15 := by omega
  have wl1 : (wl : Int) ≤ 65535 := by omega
  have hb := cell_lt c0
  simp only at hb
  have v0 := wrap64_small x2 r20 (by omega)
  have v1 := wrap64_small x3 r30 (by omega)
  have v2 := wrap64_small (x2 * 256) (by omega) (by omega)
  have v3 := wrap64_small (k : Int) (by omega) (by omega)
  have v4 := wrap64_small (4 * (k : Int)) (by omega) (by omega)
  have i0 : (0 : Int) < n := by omega
  have i2 : (2 : Int) < n := by omega
  have i3 : (3 : Int) < n := by omega
  have HN0 : Hid (20 ≤ n) := n0
  have cases3 : x0 / 16 ≠ 4 ∨ (x0 / 16 = 4 ∧ ¬ (20 : Int) ≤ 4 * (k : Int)) ∨ (x0 / 16 = 4 ∧ (20 : Int) ≤ 4 * (k : Int) ∧ ¬ 4 * (k : Int) ≤ wl) := by omega
  clear hk hw h n0 n1
  rcases cases3 with hv | ⟨hv, h20⟩ | ⟨hv, h20, hle⟩
  all_goals
    go_enter Tryz.func97, Tryz.ntmps97
    go_upto_region 2 with fail
    refine wp_letter (fun W => Mem w W [(w.heap.size, .cells (rdr b off n c) rdT (0, 0))]) (rd_mem ..) ?_
    intro w1 hM1
    have hn := need_yes (hM1.cell 0 rfl 0) 20 HN0.out
    have d0 := (hM1.old (i := off) hb).trans c0
    have d2 := (hM1.old (i := off + 2) hb).trans c2
    have d3 := (hM1.old (i := off + 3) hb).trans c3
    have HM1 : Hid _ := hM1
    clear hM1
    go_wp2_with fail
    refine hn.mono ?_
    rintro e w' ⟨rfl, rfl⟩
    go_wp2_with fail
    go_quiet (fail)
    go_wp2_with fail
    first
      | refine (must_no 21 _).mono ?_
      | (rw [decide_eq_false (Int.not_le.mpr hle)]; refine (must_no 21 _).mono ?_)
    rintro e w' ⟨rfl, rfl⟩
    exact ⟨rfl, rfl, (HM1.out.drewN _).below⟩

set_option maxHeartbeats 2000000 in
theorem split_rest {w : World} {b off n : Nat} {x0 x2 x3 : Int} {k wl : Nat} (F : Front w b off n x0 x2 x3 k wl) (c : Nat) (hc : n ≤ c) (hv : x0 / 16 = 4) (h20 : 20 ≤ 4 * k) (hle : 4 * k ≤ wl) :
    Calls Tryz.prog 97 #[.slice (some ⟨b, off, none⟩) n c] w fun r w' => Below w.heap.size w w' ∧
      ((r = .panicked (failing 20) ∧ (n < 4 * k ∨ n < wl)) ∨
       (∃ o2, r = .returned (.tuple #[.slice (some ⟨b, off, none⟩) (4 * k) c, .slice (some ⟨b, o2, none⟩) (wl - 4 * k) (c - 4 * k)]) ∧ 4 * k ≤ n ∧ wl ≤ n ∧ (4 * k < n → o2 = off + 4 * k))) := by
  obtain ⟨c0, c2, c3, ⟨r00, r01⟩, ⟨r20, r21⟩, ⟨r30, r31⟩, hk, hw, n0, n1⟩ := F
  have hand := sm_low4 x0 r00 r01
  rw [hk] at hand
  have hor := sm_word64 x2 x3 r20 r21 r30 r31
  rw [hw] at hor
  have k1 : (k : Int) ≤ 15 := by omega
  have wl1 : (wl : Int) ≤ 65535 := by omega
  have hb := cell_lt c0
  simp only at hb
  have v0 := wrap64_small x2 r20 (by omega)
  have v1 := wrap64_small x3 r30 (by omega)
  have v2 := wrap64_small (x2 * 256) (by omega) (by omega)
  have v3 := wrap64_small (k : Int) (by omega) (by omega)
  have v4 := wrap64_small (4 * (k : Int)) (by omega) (by omega)
  have v5 := wrap64_small ((wl : Int) - 4 * (k : Int)) (by omega) (by omega)
  have i0 : (0 : Int) < n := by omega
  have i2 : (2 : Int) < n := by omega
  have i3 : (3 : Int) < n := by omega
  have HN0 : Hid (20 ≤ n ∧ n ≤ 140737488351232 ∧ n ≤ c ∧ 4 * k ≤ wl) := ⟨n0, n1, hc, hle⟩
  have h20' : (20 : Int) ≤ 4 * (k : Int) := by omega
  have hle' : 4 * (k : Int) ≤ wl := by omega
  have e1 : 4 * (k : Int) = ((4 * k : Nat) : Int) := by omega
  have e2 : (wl : Int) - 4 * (k : Int) = ((wl - 4 * k : Nat) : Int) := by omega
  have HE1 : Hid (4 * (k : Int) = ((4 * k : Nat) : Int)) := e1
  have HE2 : Hid ((wl : Int) - 4 * (k : Int) = ((wl - 4 * k : Nat) : Int)) := e2
  clear hk hw n0 n1 hc h20 hle e1 e2
  go_enter Tryz.func97, Tryz.ntmps97
  go_upto_region 2 with fail
  refine wp_letter (fun W => Mem w W [(w.heap.size, .cells (rdr b off n c) rdT (0, 0))]) (rd_mem ..) ?_
  intro w1 hM1
  have hn := need_yes (hM1.cell 0 rfl 0) 20 HN0.out.1
  have d0 := (hM1.old (i := off) hb).trans c0
  have d2 := (hM1.old (i := off + 2) hb).trans c2
  have d3 := (hM1.old (i := off + 3) hb).trans c3
  have HM1 : Hid _ := hM1
  clear hM1
  go_wp2_with fail
  refine hn.mono ?_
  rintro e w' ⟨rfl, rfl⟩
  go_wp2_with fail
  go_quiet (fail)
  go_wp2_with fail
  refine (must_yes 21 _).mono ?_
  rintro e w' ⟨rfl, rfl⟩
  have HM2 : Hid _ := HM1.out.drewN nq
  generalize w1.drewN nq = w2 at HM2 ⊢
  clear HM1 hn d0 d2 d3
  go_wp2_with fail
  rw [HE1.out]
  by_cases h1 : 4 * k ≤ n
  · refine (take_wrote (HM2.out.get 0 rfl) (4 * k) h1 HN0.out.2.2.1 HN0.out.2.1).mono ?_
    rintro e w3 ⟨rfl, o2, ho2, hw3⟩
    have HM3 : Hid _ := HM2.out.wrote 0 rfl hw3
    have HO2 : Hid _ := ho2
    clear HM2 hw3 ho2
    go_wp2_with fail
    rw [HE2.out]
    by_cases h2 : wl ≤ n
    · refine (take_wrote (HM3.out.get 0 rfl) (wl - 4 * k) (by omega) (by have := HN0.out; omega) (by have := HN0.out; omega)).mono ?_
      rintro e w4 ⟨rfl, o3, ho3, hw4⟩
      have HM4 : Hid _ := HM3.out.wrote 0 rfl hw4
      clear HM3 hw4 ho3
      go_wp2_with fail
      go_ret2
      exact ⟨HM4.out.below, Or.inr ⟨o2, rfl, h1, h2, HO2.out⟩⟩
    · refine (take_no (HM3.out.cell 0 rfl 0) (wl - 4 * k) (by have := HN0.out; omega)).mono ?_
      rintro e w4 ⟨rfl, rfl⟩
      exact ⟨rfl, HM3.out.below, Or.inl ⟨rfl, Or.inr (by omega)⟩⟩
  · refine (take_no (HM2.out.cell 0 rfl 0) (4 * k) (by omega)).mono ?_
    rintro e w4 ⟨rfl, rfl⟩
    exact ⟨rfl, HM2.out.below, Or.inl ⟨rfl, Or.inl (by omega)⟩⟩
end Go.Proofs.YtjalpbkfpjfigaaGreat
