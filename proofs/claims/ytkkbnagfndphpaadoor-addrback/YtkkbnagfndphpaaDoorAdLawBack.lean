/-
  The walk of AddrBack.
-/
import Derived.Test.YtkkbnagfndphpaaDoorAdKnown
import Derived.Test.YtkkbnagfndphpaaDoorAdTextRef
namespace Go.Proofs.YtkkbnagfndphpaaDoor
open Go.RowKit
open Ad
open Sm (IsBytes)
set_option linter.unusedVariables false

abbrev BkS (g0 g1 : Nat) (m0 m1 m2 m3 m4 m5 k0 k1 k2 k3 k4 k5 k6 k7 : Int) (W : World) : Prop :=
  W.cell? ⟨g0, 0, none⟩ = some (.int .u8 m0) ∧ W.cell? ⟨g0, 1, none⟩ = some (.int .u8 m1) ∧ W.cell? ⟨g0, 2, none⟩ = some (.int .u8 m2) ∧ W.cell? ⟨g0, 3, none⟩ = some (.int .u8 m3) ∧ W.cell? ⟨g0, 4, none⟩ = some (.int .u8 m4) ∧ W.cell? ⟨g0, 5, none⟩ = some (.int .u8 m5) ∧ W.cell? ⟨g1, 0, none⟩ = some (.int .u8 k0) ∧ W.cell? ⟨g1, 1, none⟩ = some (.int .u8 k1) ∧ W.cell? ⟨g1, 2, none⟩ = some (.int .u8 k2) ∧ W.cell? ⟨g1, 3, none⟩ = some (.int .u8 k3) ∧ W.cell? ⟨g1, 4, none⟩ = some (.int .u8 k4) ∧ W.cell? ⟨g1, 5, none⟩ = some (.int .u8 k5) ∧ W.cell? ⟨g1, 6, none⟩ = some (.int .u8 k6) ∧ W.cell? ⟨g1, 7, none⟩ = some (.int .u8 k7)
theorem bkS_of {w W : World} {g0 g1 : Nat} {m0 m1 m2 m3 m4 m5 k0 k1 k2 k3 k4 k5 k6 k7 : Int} (h : Mem w W [(g1, .cells #[.int .u8 k0, .int .u8 k1, .int .u8 k2, .int .u8 k3, .int .u8 k4, .int .u8 k5, .int .u8 k6, .int .u8 k7] 35 (0, 0)), (g0, .cells #[.int .u8 m0, .int .u8 m1, .int .u8 m2, .int .u8 m3, .int .u8 m4, .int .u8 m5] 30 (0, 0))]) : BkS g0 g1 m0 m1 m2 m3 m4 m5 k0 k1 k2 k3 k4 k5 k6 k7 W :=
  ⟨h.cell 1 rfl 0, h.cell 1 rfl 1, h.cell 1 rfl 2, h.cell 1 rfl 3, h.cell 1 rfl 4, h.cell 1 rfl 5, h.cell 0 rfl 0, h.cell 0 rfl 1, h.cell 0 rfl 2, h.cell 0 rfl 3, h.cell 0 rfl 4, h.cell 0 rfl 5, h.cell 0 rfl 6, h.cell 0 rfl 7⟩
set_option maxHeartbeats 2000000 in
set_option maxRecDepth 20000 in
theorem back_any {w : World} (hV : Vs w) (a : Nat) (ha : a ≤ 4294967295) (m0 m1 m2 m3 m4 m5 k0 k1 k2 k3 k4 k5 k6 k7 : Int) (hm : IsBytes [m0, m1, m2, m3, m4, m5]) (hk : IsBytes [k0, k1, k2, k3, k4, k5, k6, k7]) :
    Calls Tryd.prog 4 #[.int .u32 (a : Int), .agg #[.int .u8 m0, .int .u8 m1, .int .u8 m2, .int .u8 m3, .int .u8 m4, .int .u8 m5], .agg #[.int .u8 k0, .int .u8 k1, .int .u8 k2, .int .u8 k3, .int .u8 k4, .int .u8 k5, .int .u8 k6, .int .u8 k7]] w fun e w' => e = .returned (.bool true) ∧ Below w.heap.size w w' := by
  have hM0 := two_blocks w (.cells #[.int .u8 m0, .int .u8 m1, .int .u8 m2, .int .u8 m3, .int .u8 m4, .int .u8 m5] 30 (0, 0)) (.cells #[.int .u8 k0, .int .u8 k1, .int .u8 k2, .int .u8 k3, .int .u8 k4, .int .u8 k5, .int .u8 k6, .int .u8 k7] 35 (0, 0))
  have hV0 := hV.below hM0.below
  have c0 := known_any hV0
  have hmm : ∀ x ∈ [k0, k1, k2, k3, k4, k5, k6, k7], 0 ≤ x ∧ x ≤ 255 := fun x hx => by
    obtain ⟨i, hi, rfl⟩ := List.getElem_of_mem hx
    have := hk i
    rwa [getD_eq hi] at this
  have hip := ip_ipt (show a < 4294967296 by omega)
  have hmac := mac_mact (hm 0) (hm 1) (hm 2) (hm 3) (hm 4) (hm 5)
  have hkey := key_keyt (l := [k0, k1, k2, k3, k4, k5, k6, k7]) rfl hmm
  simp only [List.getD_cons_zero, List.getD_cons_succ] at hmac
  have il := join_le 46 [Lib.decDigits (a / 16777216), Lib.decDigits (a / 65536 % 256), Lib.decDigits (a / 256 % 256), Lib.decDigits (a % 256)] (by
    intro p hp
    simp only [List.mem_cons, List.not_mem_nil, or_false] at hp
    rcases hp with rfl | rfl | rfl | rfl
    · have := dec_len (a / 16777216) (by omega); omega
    · have := dec_len (a / 65536 % 256) (by omega); omega
    · have := dec_len (a / 256 % 256) (by omega); omega
    · have := dec_len (a % 256) (by omega); omega)
  have il2 : (ipt a).length ≤ 404 := il
  have ml := mact_len [m0, m1, m2, m3, m4, m5] (by simp)
  have t1 : ∀ W, Vs W → Calls Tryd.prog 19 #[.int .u32 (a : Int)] W fun e w' => e = .returned (.string ⟨(ipt a).toArray⟩) ∧ Below W.heap.size W w' := fun W h => iptext_any h a ha
  have t2 : ∀ W, Calls Tryd.prog 20 #[.agg #[.int .u8 m0, .int .u8 m1, .int .u8 m2, .int .u8 m3, .int .u8 m4, .int .u8 m5]] W fun e w' => e = .returned (.string ⟨(mact [m0, m1, m2, m3, m4, m5]).toArray⟩) ∧ Below W.heap.size W w' := fun W => mact_any W [m0, m1, m2, m3, m4, m5] rfl hm
  have t3 : ∀ W, Calls Tryd.prog 21 #[.agg #[.int .u8 k0, .int .u8 k1, .int .u8 k2, .int .u8 k3, .int .u8 k4, .int .u8 k5, .int .u8 k6, .int .u8 k7]] W fun e w' => e = .returned (.string ⟨(keyt [k0, k1, k2, k3, k4, k5, k6, k7]).toArray⟩) ∧ Below W.heap.size W w' := fun W => keyt_any W [k0, k1, k2, k3, k4, k5, k6, k7] rfl hk
  have u1 : ∀ W, Calls Tryd.prog 22 #[.int .u32 (a : Int)] W fun e w' => e = .returned (.string ⟨(ipt a).toArray⟩) ∧ W = w' := fun W => rip_text a ha W
  have u2 : ∀ W, Calls Tryd.prog 23 #[.agg #[.int .u8 m0, .int .u8 m1, .int .u8 m2, .int .u8 m3, .int .u8 m4, .int .u8 m5]] W fun e w' => e = .returned (.string ⟨(mact [m0, m1, m2, m3, m4, m5]).toArray⟩) ∧ Below W.heap.size W w' := fun W => rmact_any W [m0, m1, m2, m3, m4, m5] rfl hm
  have u3 : ∀ W, Calls Tryd.prog 24 #[.agg #[.int .u8 k0, .int .u8 k1, .int .u8 k2, .int .u8 k3, .int .u8 k4, .int .u8 k5, .int .u8 k6, .int .u8 k7]] W fun e w' => e = .returned (.string ⟨(keyt [k0, k1, k2, k3, k4, k5, k6, k7]).toArray⟩) ∧ Below W.heap.size W w' := fun W => rkeyt_any W [k0, k1, k2, k3, k4, k5, k6, k7] rfl hk
  have r1 : ∀ W, Vs W → Calls Tryd.prog 9 #[.string ⟨(ipt a).toArray⟩] W fun e w' => e = .returned (.tuple #[.int .u32 (a : Int), .int .i64 0]) ∧ Below W.heap.size W w' := fun W h => by
    have h := ip_any h ⟨(ipt a).toArray⟩ (by rw [str_size]; omega)
    rw [show ip (⟨(ipt a).toArray⟩ : ByteArray).data.toList = some a by simpa using hip] at h
    exact h
  have r2 : ∀ W, Vs W → Calls Tryd.prog 11 #[.string ⟨(mact [m0, m1, m2, m3, m4, m5]).toArray⟩] W fun e w' => e = .returned (.tuple #[.agg #[.int .u8 m0, .int .u8 m1, .int .u8 m2, .int .u8 m3, .int .u8 m4, .int .u8 m5], .int .i64 0]) ∧ Below W.heap.size W w' := fun W h => by
    have h := mac_any h ⟨(mact [m0, m1, m2, m3, m4, m5]).toArray⟩ (by rw [str_size]; omega)
    rw [show mac (⟨(mact [m0, m1, m2, m3, m4, m5]).toArray⟩ : ByteArray).data.toList = some [m0, m1, m2, m3, m4, m5] by simpa using hmac] at h
    exact h
  have r3 : ∀ W, Calls Tryd.prog 13 #[.string ⟨(keyt [k0, k1, k2, k3, k4, k5, k6, k7]).toArray⟩] W fun e w' => e = .returned (.tuple #[.agg #[.int .u8 k0, .int .u8 k1, .int .u8 k2, .int .u8 k3, .int .u8 k4, .int .u8 k5, .int .u8 k6, .int .u8 k7], .int .i64 0]) ∧ Below W.heap.size W w' := fun W => by
    have h := key_any ⟨(keyt [k0, k1, k2, k3, k4, k5, k6, k7]).toArray⟩ W
    rw [show key (⟨(keyt [k0, k1, k2, k3, k4, k5, k6, k7]).toArray⟩ : ByteArray).data.toList = some [k0, k1, k2, k3, k4, k5, k6, k7] by simpa using hkey] at h
    exact h
  generalize (⟨(ipt a).toArray⟩ : ByteArray) = S1 at t1 u1 r1
  generalize (⟨(mact [m0, m1, m2, m3, m4, m5]).toArray⟩ : ByteArray) = S2 at t2 u2 r2
  generalize (⟨(keyt [k0, k1, k2, k3, k4, k5, k6, k7]).toArray⟩ : ByteArray) = S3 at t3 u3 r3
  have q0 := mac_same m0 m1 m2 m3 m4 m5
  have q1 := key_same k0 k1 k2 k3 k4 k5 k6 k7
  have s1 : (S1.toList == S1.toList) = true := by simp
  have s2 : (S2.toList == S2.toList) = true := by simp
  have s3 : (S3.toList == S3.toList) = true := by simp
  clear hip hmac hkey il il2 ml hmm hm hk hV0
  go_enter Tryd.func4, Tryd.ntmps4
  go_wp2_with fail
  refine c0.mono ?_
  rintro e w1 ⟨rfl, hb1⟩
  have hM1 := hM0.after hb1
  clear c0 hM0 hb1
  go_upto_region 3 with fail
  have HM : Hid (Mem w w1 [(w.heap.size + 1, .cells #[.int .u8 k0, .int .u8 k1, .int .u8 k2, .int .u8 k3, .int .u8 k4, .int .u8 k5, .int .u8 k6, .int .u8 k7] 35 (0, 0)), (w.heap.size, .cells #[.int .u8 m0, .int .u8 m1, .int .u8 m2, .int .u8 m3, .int .u8 m4, .int .u8 m5] 30 (0, 0))]) := hM1
  have HT1 : Hid (∀ W, Mem w W [(w.heap.size + 1, .cells #[.int .u8 k0, .int .u8 k1, .int .u8 k2, .int .u8 k3, .int .u8 k4, .int .u8 k5, .int .u8 k6, .int .u8 k7] 35 (0, 0)), (w.heap.size, .cells #[.int .u8 m0, .int .u8 m1, .int .u8 m2, .int .u8 m3, .int .u8 m4, .int .u8 m5] 30 (0, 0))] → Calls Tryd.prog 19 #[.int .u32 (a : Int)] W fun e w' => e = .returned (.string S1) ∧ Mem w w' [(w.heap.size + 1, .cells #[.int .u8 k0, .int .u8 k1, .int .u8 k2, .int .u8 k3, .int .u8 k4, .int .u8 k5, .int .u8 k6, .int .u8 k7] 35 (0, 0)), (w.heap.size, .cells #[.int .u8 m0, .int .u8 m1, .int .u8 m2, .int .u8 m3, .int .u8 m4, .int .u8 m5] 30 (0, 0))]) := fun W h => (t1 W (hV.below h.below)).mono fun e w' h2 => ⟨h2.1, h.after h2.2⟩
  have HT2 : Hid (∀ W, Mem w W [(w.heap.size + 1, .cells #[.int .u8 k0, .int .u8 k1, .int .u8 k2, .int .u8 k3, .int .u8 k4, .int .u8 k5, .int .u8 k6, .int .u8 k7] 35 (0, 0)), (w.heap.size, .cells #[.int .u8 m0, .int .u8 m1, .int .u8 m2, .int .u8 m3, .int .u8 m4, .int .u8 m5] 30 (0, 0))] → Calls Tryd.prog 20 #[.agg #[.int .u8 m0, .int .u8 m1, .int .u8 m2, .int .u8 m3, .int .u8 m4, .int .u8 m5]] W fun e w' => e = .returned (.string S2) ∧ Mem w w' [(w.heap.size + 1, .cells #[.int .u8 k0, .int .u8 k1, .int .u8 k2, .int .u8 k3, .int .u8 k4, .int .u8 k5, .int .u8 k6, .int .u8 k7] 35 (0, 0)), (w.heap.size, .cells #[.int .u8 m0, .int .u8 m1, .int .u8 m2, .int .u8 m3, .int .u8 m4, .int .u8 m5] 30 (0, 0))]) := fun W h => (t2 W).mono fun e w' h2 => ⟨h2.1, h.after h2.2⟩
  have HT3 : Hid (∀ W, Mem w W [(w.heap.size + 1, .cells #[.int .u8 k0, .int .u8 k1, .int .u8 k2, .int .u8 k3, .int .u8 k4, .int .u8 k5, .int .u8 k6, .int .u8 k7] 35 (0, 0)), (w.heap.size, .cells #[.int .u8 m0, .int .u8 m1, .int .u8 m2, .int .u8 m3, .int .u8 m4, .int .u8 m5] 30 (0, 0))] → Calls Tryd.prog 21 #[.agg #[.int .u8 k0, .int .u8 k1, .int .u8 k2, .int .u8 k3, .int .u8 k4, .int .u8 k5, .int .u8 k6, .int .u8 k7]] W fun e w' => e = .returned (.string S3) ∧ Mem w w' [(w.heap.size + 1, .cells #[.int .u8 k0, .int .u8 k1, .int .u8 k2, .int .u8 k3, .int .u8 k4, .int .u8 k5, .int .u8 k6, .int .u8 k7] 35 (0, 0)), (w.heap.size, .cells #[.int .u8 m0, .int .u8 m1, .int .u8 m2, .int .u8 m3, .int .u8 m4, .int .u8 m5] 30 (0, 0))]) := fun W h => (t3 W).mono fun e w' h2 => ⟨h2.1, h.after h2.2⟩
  have d0 : w1.cell? ⟨w.heap.size, 0, none⟩ = some (.int .u8 m0) := hM1.cell 1 rfl 0
  have d1 : w1.cell? ⟨w.heap.size, 1, none⟩ = some (.int .u8 m1) := hM1.cell 1 rfl 1
  have d2 : w1.cell? ⟨w.heap.size, 2, none⟩ = some (.int .u8 m2) := hM1.cell 1 rfl 2
  have d3 : w1.cell? ⟨w.heap.size, 3, none⟩ = some (.int .u8 m3) := hM1.cell 1 rfl 3
  have d4 : w1.cell? ⟨w.heap.size, 4, none⟩ = some (.int .u8 m4) := hM1.cell 1 rfl 4
  have d5 : w1.cell? ⟨w.heap.size, 5, none⟩ = some (.int .u8 m5) := hM1.cell 1 rfl 5
  have f0 : w1.cell? ⟨w.heap.size + 1, 0, none⟩ = some (.int .u8 k0) := hM1.cell 0 rfl 0
  have f1 : w1.cell? ⟨w.heap.size + 1, 1, none⟩ = some (.int .u8 k1) := hM1.cell 0 rfl 1
  have f2 : w1.cell? ⟨w.heap.size + 1, 2, none⟩ = some (.int .u8 k2) := hM1.cell 0 rfl 2
  have f3 : w1.cell? ⟨w.heap.size + 1, 3, none⟩ = some (.int .u8 k3) := hM1.cell 0 rfl 3
  have f4 : w1.cell? ⟨w.heap.size + 1, 4, none⟩ = some (.int .u8 k4) := hM1.cell 0 rfl 4
  have f5 : w1.cell? ⟨w.heap.size + 1, 5, none⟩ = some (.int .u8 k5) := hM1.cell 0 rfl 5
  have f6 : w1.cell? ⟨w.heap.size + 1, 6, none⟩ = some (.int .u8 k6) := hM1.cell 0 rfl 6
  have f7 : w1.cell? ⟨w.heap.size + 1, 7, none⟩ = some (.int .u8 k7) := hM1.cell 0 rfl 7
  clear hM1 t1 t2 t3
  go_region_held3 (fun W => W.cell? ⟨w.heap.size, 0, none⟩ = some (.int .u8 m0) ∧ W.cell? ⟨w.heap.size, 1, none⟩ = some (.int .u8 m1) ∧ W.cell? ⟨w.heap.size, 2, none⟩ = some (.int .u8 m2) ∧ W.cell? ⟨w.heap.size, 3, none⟩ = some (.int .u8 m3) ∧ W.cell? ⟨w.heap.size, 4, none⟩ = some (.int .u8 m4) ∧ W.cell? ⟨w.heap.size, 5, none⟩ = some (.int .u8 m5) ∧ W.cell? ⟨w.heap.size + 1, 0, none⟩ = some (.int .u8 k0) ∧ W.cell? ⟨w.heap.size + 1, 1, none⟩ = some (.int .u8 k1) ∧ W.cell? ⟨w.heap.size + 1, 2, none⟩ = some (.int .u8 k2) ∧ W.cell? ⟨w.heap.size + 1, 3, none⟩ = some (.int .u8 k3) ∧ W.cell? ⟨w.heap.size + 1, 4, none⟩ = some (.int .u8 k4) ∧ W.cell? ⟨w.heap.size + 1, 5, none⟩ = some (.int .u8 k5) ∧ W.cell? ⟨w.heap.size + 1, 6, none⟩ = some (.int .u8 k6) ∧ W.cell? ⟨w.heap.size + 1, 7, none⟩ = some (.int .u8 k7))
    (first
      | go_keep
      | exact bkS_of HM.out.drew
      | exact bkS_of HM.out
      | exact bkS_of hM2
      | exact bkS_of hM3
      | exact bkS_of hM4)
    (first
      | (go_at_call 19; refine (HT1.out _ HM.out.drew).mono ?_; rintro e w2 ⟨rfl, hM2⟩)
      | (go_at_call 20; refine (HT2.out _ hM2).mono ?_; rintro e w3 ⟨rfl, hM3⟩)
      | (go_at_call 21; refine (HT3.out _ hM3).mono ?_; rintro e w4 ⟨rfl, hM4⟩))
  all_goals
    clear HM HT1 HT2 HT3 hM2 hM3 d0 d1 d2 d3 d4 d5 f0 f1 f2 f3 f4 f5 f6 f7
    go_wp2_with fail
    refine (r1 _ (hV.below hM4.below)).mono ?_
    rintro e w5 ⟨rfl, hb5⟩
    have hM5 := hM4.after hb5
    clear hM4 hb5 r1
    go_wp2_with fail
    refine (r2 _ (hV.below hM5.below)).mono ?_
    rintro e w6 ⟨rfl, hb6⟩
    have hM6 := hM5.after hb6
    clear hM5 hb6 r2
    obtain ⟨g2, hg2⟩ : ∃ g2, w6.heap.size = g2 := ⟨_, rfl⟩
    have hM7 := hM6.push g2 (.cells #[.int .u8 m0, .int .u8 m1, .int .u8 m2, .int .u8 m3, .int .u8 m4, .int .u8 m5] 30) hg2.symm
    clear hM6
    go_wp2_with fail
    refine (r3 _).mono ?_
    rintro e w8 ⟨rfl, hb8⟩
    have hM8 := hM7.after hb8
    clear hM7 hb8 r3
    obtain ⟨g3, hg3⟩ : ∃ g3, w8.heap.size = g3 := ⟨_, rfl⟩
    have hM9 := hM8.push g3 (.cells #[.int .u8 k0, .int .u8 k1, .int .u8 k2, .int .u8 k3, .int .u8 k4, .int .u8 k5, .int .u8 k6, .int .u8 k7] 35) hg3.symm
    clear hM8
    go_upto_region 7 with fail
    refine wp_letter (fun W => Mem w W [(w.heap.size + 1, .cells #[.int .u8 k0, .int .u8 k1, .int .u8 k2, .int .u8 k3, .int .u8 k4, .int .u8 k5, .int .u8 k6, .int .u8 k7] 35 (0, 0)), (w.heap.size, .cells #[.int .u8 m0, .int .u8 m1, .int .u8 m2, .int .u8 m3, .int .u8 m4, .int .u8 m5] 30 (0, 0)), (g2, .cells #[.int .u8 m0, .int .u8 m1, .int .u8 m2, .int .u8 m3, .int .u8 m4, .int .u8 m5] 30 (0, 0)), (g3, .cells #[.int .u8 k0, .int .u8 k1, .int .u8 k2, .int .u8 k3, .int .u8 k4, .int .u8 k5, .int .u8 k6, .int .u8 k7] 35 (0, 0))]) hM9 ?_
    intro w10 hMa
    clear hM9 hg2 hg3
    have x0 : w10.cell? ⟨w.heap.size, 0, none⟩ = some (.int .u8 m0) := hMa.cell 1 rfl 0
    have x1 : w10.cell? ⟨w.heap.size, 1, none⟩ = some (.int .u8 m1) := hMa.cell 1 rfl 1
    have x2 : w10.cell? ⟨w.heap.size, 2, none⟩ = some (.int .u8 m2) := hMa.cell 1 rfl 2
    have x3 : w10.cell? ⟨w.heap.size, 3, none⟩ = some (.int .u8 m3) := hMa.cell 1 rfl 3
    have x4 : w10.cell? ⟨w.heap.size, 4, none⟩ = some (.int .u8 m4) := hMa.cell 1 rfl 4
    have x5 : w10.cell? ⟨w.heap.size, 5, none⟩ = some (.int .u8 m5) := hMa.cell 1 rfl 5
    go_wp2_with fail
    refine (u1 _).mono ?_
    rintro e w11 ⟨rfl, rfl⟩
    go_wp2_with fail
    refine (u2 _).mono ?_
    rintro e w12 ⟨rfl, hb12⟩
    have hMb := hMa.after hb12
    clear hMa hb12 x0 x1 x2 x3 x4 x5
    have y0 : w12.cell? ⟨w.heap.size + 1, 0, none⟩ = some (.int .u8 k0) := hMb.cell 0 rfl 0
    have y1 : w12.cell? ⟨w.heap.size + 1, 1, none⟩ = some (.int .u8 k1) := hMb.cell 0 rfl 1
    have y2 : w12.cell? ⟨w.heap.size + 1, 2, none⟩ = some (.int .u8 k2) := hMb.cell 0 rfl 2
    have y3 : w12.cell? ⟨w.heap.size + 1, 3, none⟩ = some (.int .u8 k3) := hMb.cell 0 rfl 3
    have y4 : w12.cell? ⟨w.heap.size + 1, 4, none⟩ = some (.int .u8 k4) := hMb.cell 0 rfl 4
    have y5 : w12.cell? ⟨w.heap.size + 1, 5, none⟩ = some (.int .u8 k5) := hMb.cell 0 rfl 5
    have y6 : w12.cell? ⟨w.heap.size + 1, 6, none⟩ = some (.int .u8 k6) := hMb.cell 0 rfl 6
    have y7 : w12.cell? ⟨w.heap.size + 1, 7, none⟩ = some (.int .u8 k7) := hMb.cell 0 rfl 7
    go_wp2_with fail
    refine (u3 _).mono ?_
    rintro e w13 ⟨rfl, hb13⟩
    have hMc := hMb.after hb13
    clear hMb hb13 y0 y1 y2 y3 y4 y5 y6 y7
    have p0 : w13.cell? ⟨w.heap.size, 0, none⟩ = some (.int .u8 m0) := hMc.cell 1 rfl 0
    have p1 : w13.cell? ⟨w.heap.size, 1, none⟩ = some (.int .u8 m1) := hMc.cell 1 rfl 1
    have p2 : w13.cell? ⟨w.heap.size, 2, none⟩ = some (.int .u8 m2) := hMc.cell 1 rfl 2
    have p3 : w13.cell? ⟨w.heap.size, 3, none⟩ = some (.int .u8 m3) := hMc.cell 1 rfl 3
    have p4 : w13.cell? ⟨w.heap.size, 4, none⟩ = some (.int .u8 m4) := hMc.cell 1 rfl 4
    have p5 : w13.cell? ⟨w.heap.size, 5, none⟩ = some (.int .u8 m5) := hMc.cell 1 rfl 5
    have qq0 : w13.cell? ⟨w.heap.size + 1, 0, none⟩ = some (.int .u8 k0) := hMc.cell 0 rfl 0
    have qq1 : w13.cell? ⟨w.heap.size + 1, 1, none⟩ = some (.int .u8 k1) := hMc.cell 0 rfl 1
    have q2 : w13.cell? ⟨w.heap.size + 1, 2, none⟩ = some (.int .u8 k2) := hMc.cell 0 rfl 2
    have q3 : w13.cell? ⟨w.heap.size + 1, 3, none⟩ = some (.int .u8 k3) := hMc.cell 0 rfl 3
    have q4 : w13.cell? ⟨w.heap.size + 1, 4, none⟩ = some (.int .u8 k4) := hMc.cell 0 rfl 4
    have q5 : w13.cell? ⟨w.heap.size + 1, 5, none⟩ = some (.int .u8 k5) := hMc.cell 0 rfl 5
    have q6 : w13.cell? ⟨w.heap.size + 1, 6, none⟩ = some (.int .u8 k6) := hMc.cell 0 rfl 6
    have q7 : w13.cell? ⟨w.heap.size + 1, 7, none⟩ = some (.int .u8 k7) := hMc.cell 0 rfl 7
    have r0 : w13.cell? ⟨g2, 0, none⟩ = some (.int .u8 m0) := hMc.cell 2 rfl 0
    have r1 : w13.cell? ⟨g2, 1, none⟩ = some (.int .u8 m1) := hMc.cell 2 rfl 1
    have r2 : w13.cell? ⟨g2, 2, none⟩ = some (.int .u8 m2) := hMc.cell 2 rfl 2
    have r3 : w13.cell? ⟨g2, 3, none⟩ = some (.int .u8 m3) := hMc.cell 2 rfl 3
    have r4 : w13.cell? ⟨g2, 4, none⟩ = some (.int .u8 m4) := hMc.cell 2 rfl 4
    have r5 : w13.cell? ⟨g2, 5, none⟩ = some (.int .u8 m5) := hMc.cell 2 rfl 5
    have t0 : w13.cell? ⟨g3, 0, none⟩ = some (.int .u8 k0) := hMc.cell 3 rfl 0
    have t1 : w13.cell? ⟨g3, 1, none⟩ = some (.int .u8 k1) := hMc.cell 3 rfl 1
    have t2 : w13.cell? ⟨g3, 2, none⟩ = some (.int .u8 k2) := hMc.cell 3 rfl 2
    have t3 : w13.cell? ⟨g3, 3, none⟩ = some (.int .u8 k3) := hMc.cell 3 rfl 3
    have t4 : w13.cell? ⟨g3, 4, none⟩ = some (.int .u8 k4) := hMc.cell 3 rfl 4
    have t5 : w13.cell? ⟨g3, 5, none⟩ = some (.int .u8 k5) := hMc.cell 3 rfl 5
    have t6 : w13.cell? ⟨g3, 6, none⟩ = some (.int .u8 k6) := hMc.cell 3 rfl 6
    have t7 : w13.cell? ⟨g3, 7, none⟩ = some (.int .u8 k7) := hMc.cell 3 rfl 7
    go_wp2_with fail
    go_ret
    exact ⟨by simp, hMc.below⟩
end Go.Proofs.YtkkbnagfndphpaaDoor
