/-
  The walk of AddrOnce.
-/
import Derived.Test.YtkkbnagfndphpaaDoorAdKnown
import Derived.Test.YtkkbnagfndphpaaDoorAdMacText
namespace Go.Proofs.YtkkbnagfndphpaaDoor
open Go.RowKit
open Ad
open Sm (IsBytes)
set_option linter.unusedVariables false

theorem once_long {w : World} (hV : Vs w) (s : ByteArray) (hs : 300 < s.size) :
    Calls Tryd.prog 5 #[.string s] w fun e w' => e = .returned (.bool true) ∧ Below w.heap.size w w' := by
  have c0 := known_any hV
  have hz : (300 : Int) < s.size := by omega
  go_enter Tryd.func5, Tryd.ntmps5
  go_wp2_with fail
  refine c0.mono ?_
  rintro e w1 ⟨rfl, hb1⟩
  go_wp2_with fail
  go_ret
  exact ⟨rfl, hb1⟩

set_option maxHeartbeats 4000000 in
set_option maxRecDepth 20000 in
theorem once_000 {w : World} (hV : Vs w) (s : ByteArray) (hs : s.size ≤ 300)  (hI : ip s.data.toList = none) (hMc : mac s.data.toList = none) (hK : key s.data.toList = none) :
    Calls Tryd.prog 5 #[.string s] w fun e w' => e = .returned (.bool true) ∧ Below w.heap.size w w' := by
  have c0 := known_any hV
  have hz : ¬ (300 : Int) < s.size := by omega
  have cI : ∀ W, Vs W → Calls Tryd.prog 9 #[.string s] W fun e w' => e = .returned (.tuple #[.int .u32 0, .int .i64 60]) ∧ Below W.heap.size W w' := fun W h => by
    have h := ip_any h s (by omega)
    rw [hI] at h
    exact h
  have cM : ∀ W, Vs W → Calls Tryd.prog 11 #[.string s] W fun e w' => e = .returned (.tuple #[.agg #[.int .u8 0, .int .u8 0, .int .u8 0, .int .u8 0, .int .u8 0, .int .u8 0], .int .i64 60]) ∧ Below W.heap.size W w' := fun W h => by
    have h := mac_any h s (by omega)
    rw [hMc] at h
    exact h
  have cK : ∀ W, Calls Tryd.prog 13 #[.string s] W fun e w' => e = .returned (.tuple #[.agg #[.int .u8 0, .int .u8 0, .int .u8 0, .int .u8 0, .int .u8 0, .int .u8 0, .int .u8 0, .int .u8 0], .int .i64 60]) ∧ Below W.heap.size W w' := fun W => by
    have h := key_any s W
    rw [hK] at h
    exact h
  clear hI hMc hK
  go_enter Tryd.func5, Tryd.ntmps5
  go_wp2_with fail
  refine c0.mono ?_
  rintro e w1 ⟨rfl, hb1⟩
  have hV1 := hV.below hb1
  clear c0
  go_wp2_with fail
  refine (cI _ hV1).mono ?_
  rintro e w2 ⟨rfl, hb2⟩
  have hV2 := hV1.below hb2
  have B2 := hb1.trans (hb2.mono hb1.size)
  clear cI hb1 hb2 hV1
  go_wp2_with fail
  refine (cM _ hV2).mono ?_
  rintro e w3 ⟨rfl, hb3⟩
  have hV3 := hV2.below hb3
  have B3 := B2.trans (hb3.mono B2.size)
  clear cM hb3 hV2 B2
  obtain ⟨g1, hg1⟩ : ∃ g1, w3.heap.size = g1 := ⟨_, rfl⟩
  have hMa := (Mem.nil w3).push g1 (.cells #[.int .u8 0, .int .u8 0, .int .u8 0, .int .u8 0, .int .u8 0, .int .u8 0] 30) hg1.symm
  go_wp2_with fail
  refine (cK _).mono ?_
  rintro e w4 ⟨rfl, hb4⟩
  have hMb := hMa.after hb4
  clear cK hMa hb4
  obtain ⟨g2, hg2⟩ : ∃ g2, w4.heap.size = g2 := ⟨_, rfl⟩
  have hMc := hMb.push g2 (.cells #[.int .u8 0, .int .u8 0, .int .u8 0, .int .u8 0, .int .u8 0, .int .u8 0, .int .u8 0, .int .u8 0] 35) hg2.symm
  clear hMb
  go_upto_region 8 with fail
  refine wp_letter (fun W => Mem w3 W [(g1, .cells #[.int .u8 0, .int .u8 0, .int .u8 0, .int .u8 0, .int .u8 0, .int .u8 0] 30 (0, 0)), (g2, .cells #[.int .u8 0, .int .u8 0, .int .u8 0, .int .u8 0, .int .u8 0, .int .u8 0, .int .u8 0, .int .u8 0] 35 (0, 0))]) hMc ?_
  intro w5 hMd
  clear hMc
  go_wp2_with fail
  go_ret
  exact ⟨rfl, B3.trans (hMd.below.mono B3.size)⟩

set_option maxHeartbeats 4000000 in
set_option maxRecDepth 20000 in
theorem once_001 {w : World} (hV : Vs w) (s : ByteArray) (hs : s.size ≤ 300) {k0 k1 k2 k3 k4 k5 k6 k7 : Int}  (hI : ip s.data.toList = none) (hMc : mac s.data.toList = none) (hK : key s.data.toList = some [k0, k1, k2, k3, k4, k5, k6, k7]) :
    Calls Tryd.prog 5 #[.string s] w fun e w' => e = .returned (.bool true) ∧ Below w.heap.size w w' := by
  have c0 := known_any hV
  have hz : ¬ (300 : Int) < s.size := by omega
  have cI : ∀ W, Vs W → Calls Tryd.prog 9 #[.string s] W fun e w' => e = .returned (.tuple #[.int .u32 0, .int .i64 60]) ∧ Below W.heap.size W w' := fun W h => by
    have h := ip_any h s (by omega)
    rw [hI] at h
    exact h
  have cM : ∀ W, Vs W → Calls Tryd.prog 11 #[.string s] W fun e w' => e = .returned (.tuple #[.agg #[.int .u8 0, .int .u8 0, .int .u8 0, .int .u8 0, .int .u8 0, .int .u8 0], .int .i64 60]) ∧ Below W.heap.size W w' := fun W h => by
    have h := mac_any h s (by omega)
    rw [hMc] at h
    exact h
  have cK : ∀ W, Calls Tryd.prog 13 #[.string s] W fun e w' => e = .returned (.tuple #[.agg #[.int .u8 k0, .int .u8 k1, .int .u8 k2, .int .u8 k3, .int .u8 k4, .int .u8 k5, .int .u8 k6, .int .u8 k7], .int .i64 0]) ∧ Below W.heap.size W w' := fun W => by
    have h := key_any s W
    rw [hK] at h
    exact h
  have hss : (s.toList == s.toList) = true := by simp
  have tK : ∀ W, Calls Tryd.prog 21 #[.agg #[.int .u8 k0, .int .u8 k1, .int .u8 k2, .int .u8 k3, .int .u8 k4, .int .u8 k5, .int .u8 k6, .int .u8 k7]] W fun e w' => e = .returned (.string s) ∧ Below W.heap.size W w' := fun W => by
    have hb := key_back hK
    have h := keyt_any W [k0, k1, k2, k3, k4, k5, k6, k7] rfl hb.2.2
    rw [hb.1, Lib.mk_data] at h
    exact h
  clear hI hMc hK
  go_enter Tryd.func5, Tryd.ntmps5
  go_wp2_with fail
  refine c0.mono ?_
  rintro e w1 ⟨rfl, hb1⟩
  have hV1 := hV.below hb1
  clear c0
  go_wp2_with fail
  refine (cI _ hV1).mono ?_
  rintro e w2 ⟨rfl, hb2⟩
  have hV2 := hV1.below hb2
  have B2 := hb1.trans (hb2.mono hb1.size)
  clear cI hb1 hb2 hV1
  go_wp2_with fail
  refine (cM _ hV2).mono ?_
  rintro e w3 ⟨rfl, hb3⟩
  have hV3 := hV2.below hb3
  have B3 := B2.trans (hb3.mono B2.size)
  clear cM hb3 hV2 B2
  obtain ⟨g1, hg1⟩ : ∃ g1, w3.heap.size = g1 := ⟨_, rfl⟩
  have hMa := (Mem.nil w3).push g1 (.cells #[.int .u8 0, .int .u8 0, .int .u8 0, .int .u8 0, .int .u8 0, .int .u8 0] 30) hg1.symm
  go_wp2_with fail
  refine (cK _).mono ?_
  rintro e w4 ⟨rfl, hb4⟩
  have hMb := hMa.after hb4
  clear cK hMa hb4
  obtain ⟨g2, hg2⟩ : ∃ g2, w4.heap.size = g2 := ⟨_, rfl⟩
  have hMc := hMb.push g2 (.cells #[.int .u8 k0, .int .u8 k1, .int .u8 k2, .int .u8 k3, .int .u8 k4, .int .u8 k5, .int .u8 k6, .int .u8 k7] 35) hg2.symm
  clear hMb
  go_upto_region 8 with fail
  refine wp_letter (fun W => Mem w3 W [(g1, .cells #[.int .u8 0, .int .u8 0, .int .u8 0, .int .u8 0, .int .u8 0, .int .u8 0] 30 (0, 0)), (g2, .cells #[.int .u8 k0, .int .u8 k1, .int .u8 k2, .int .u8 k3, .int .u8 k4, .int .u8 k5, .int .u8 k6, .int .u8 k7] 35 (0, 0))]) hMc ?_
  intro w5 hMd
  clear hMc
  have f0_w5 : w5.cell? ⟨g2, 0, none⟩ = some (.int .u8 k0) := hMd.cell 1 rfl 0
  have f1_w5 : w5.cell? ⟨g2, 1, none⟩ = some (.int .u8 k1) := hMd.cell 1 rfl 1
  have f2_w5 : w5.cell? ⟨g2, 2, none⟩ = some (.int .u8 k2) := hMd.cell 1 rfl 2
  have f3_w5 : w5.cell? ⟨g2, 3, none⟩ = some (.int .u8 k3) := hMd.cell 1 rfl 3
  have f4_w5 : w5.cell? ⟨g2, 4, none⟩ = some (.int .u8 k4) := hMd.cell 1 rfl 4
  have f5_w5 : w5.cell? ⟨g2, 5, none⟩ = some (.int .u8 k5) := hMd.cell 1 rfl 5
  have f6_w5 : w5.cell? ⟨g2, 6, none⟩ = some (.int .u8 k6) := hMd.cell 1 rfl 6
  have f7_w5 : w5.cell? ⟨g2, 7, none⟩ = some (.int .u8 k7) := hMd.cell 1 rfl 7
  go_wp2_with fail
  refine (tK _).mono ?_
  rintro e w6 ⟨rfl, hbw6⟩
  have hMw6 := hMd.after hbw6
  go_wp2_with fail
  go_ret
  exact ⟨rfl, B3.trans (hMw6.below.mono B3.size)⟩

set_option maxHeartbeats 4000000 in
set_option maxRecDepth 20000 in
theorem once_010 {w : World} (hV : Vs w) (s : ByteArray) (hs : s.size ≤ 300) {m0 m1 m2 m3 m4 m5 : Int}  (hI : ip s.data.toList = none) (hMc : mac s.data.toList = some [m0, m1, m2, m3, m4, m5]) (hK : key s.data.toList = none) :
    Calls Tryd.prog 5 #[.string s] w fun e w' => e = .returned (.bool true) ∧ Below w.heap.size w w' := by
  have c0 := known_any hV
  have hz : ¬ (300 : Int) < s.size := by omega
  have cI : ∀ W, Vs W → Calls Tryd.prog 9 #[.string s] W fun e w' => e = .returned (.tuple #[.int .u32 0, .int .i64 60]) ∧ Below W.heap.size W w' := fun W h => by
    have h := ip_any h s (by omega)
    rw [hI] at h
    exact h
  have cM : ∀ W, Vs W → Calls Tryd.prog 11 #[.string s] W fun e w' => e = .returned (.tuple #[.agg #[.int .u8 m0, .int .u8 m1, .int .u8 m2, .int .u8 m3, .int .u8 m4, .int .u8 m5], .int .i64 0]) ∧ Below W.heap.size W w' := fun W h => by
    have h := mac_any h s (by omega)
    rw [hMc] at h
    exact h
  have cK : ∀ W, Calls Tryd.prog 13 #[.string s] W fun e w' => e = .returned (.tuple #[.agg #[.int .u8 0, .int .u8 0, .int .u8 0, .int .u8 0, .int .u8 0, .int .u8 0, .int .u8 0, .int .u8 0], .int .i64 60]) ∧ Below W.heap.size W w' := fun W => by
    have h := key_any s W
    rw [hK] at h
    exact h
  have hss : (s.toList == s.toList) = true := by simp
  have tM : ∀ W, Calls Tryd.prog 20 #[.agg #[.int .u8 m0, .int .u8 m1, .int .u8 m2, .int .u8 m3, .int .u8 m4, .int .u8 m5]] W fun e w' => e = .returned (.string s) ∧ Below W.heap.size W w' := fun W => by
    have hb := mac_back hMc
    have h := mact_any W [m0, m1, m2, m3, m4, m5] rfl hb.2.2
    rw [hb.1, Lib.mk_data] at h
    exact h
  clear hI hMc hK
  go_enter Tryd.func5, Tryd.ntmps5
  go_wp2_with fail
  refine c0.mono ?_
  rintro e w1 ⟨rfl, hb1⟩
  have hV1 := hV.below hb1
  clear c0
  go_wp2_with fail
  refine (cI _ hV1).mono ?_
  rintro e w2 ⟨rfl, hb2⟩
  have hV2 := hV1.below hb2
  have B2 := hb1.trans (hb2.mono hb1.size)
  clear cI hb1 hb2 hV1
  go_wp2_with fail
  refine (cM _ hV2).mono ?_
  rintro e w3 ⟨rfl, hb3⟩
  have hV3 := hV2.below hb3
  have B3 := B2.trans (hb3.mono B2.size)
  clear cM hb3 hV2 B2
  obtain ⟨g1, hg1⟩ : ∃ g1, w3.heap.size = g1 := ⟨_, rfl⟩
  have hMa := (Mem.nil w3).push g1 (.cells #[.int .u8 m0, .int .u8 m1, .int .u8 m2, .int .u8 m3, .int .u8 m4, .int .u8 m5] 30) hg1.symm
  go_wp2_with fail
  refine (cK _).mono ?_
  rintro e w4 ⟨rfl, hb4⟩
  have hMb := hMa.after hb4
  clear cK hMa hb4
  obtain ⟨g2, hg2⟩ : ∃ g2, w4.heap.size = g2 := ⟨_, rfl⟩
  have hMc := hMb.push g2 (.cells #[.int .u8 0, .int .u8 0, .int .u8 0, .int .u8 0, .int .u8 0, .int .u8 0, .int .u8 0, .int .u8 0] 35) hg2.symm
  clear hMb
  go_upto_region 8 with fail
  refine wp_letter (fun W => Mem w3 W [(g1, .cells #[.int .u8 m0, .int .u8 m1, .int .u8 m2, .int .u8 m3, .int .u8 m4, .int .u8 m5] 30 (0, 0)), (g2, .cells #[.int .u8 0, .int .u8 0, .int .u8 0, .int .u8 0, .int .u8 0, .int .u8 0, .int .u8 0, .int .u8 0] 35 (0, 0))]) hMc ?_
  intro w5 hMd
  clear hMc
  have d0_w5 : w5.cell? ⟨g1, 0, none⟩ = some (.int .u8 m0) := hMd.cell 0 rfl 0
  have d1_w5 : w5.cell? ⟨g1, 1, none⟩ = some (.int .u8 m1) := hMd.cell 0 rfl 1
  have d2_w5 : w5.cell? ⟨g1, 2, none⟩ = some (.int .u8 m2) := hMd.cell 0 rfl 2
  have d3_w5 : w5.cell? ⟨g1, 3, none⟩ = some (.int .u8 m3) := hMd.cell 0 rfl 3
  have d4_w5 : w5.cell? ⟨g1, 4, none⟩ = some (.int .u8 m4) := hMd.cell 0 rfl 4
  have d5_w5 : w5.cell? ⟨g1, 5, none⟩ = some (.int .u8 m5) := hMd.cell 0 rfl 5
  go_wp2_with fail
  refine (tM _).mono ?_
  rintro e w6 ⟨rfl, hbw6⟩
  have hMw6 := hMd.after hbw6
  go_wp2_with fail
  go_ret
  exact ⟨rfl, B3.trans (hMw6.below.mono B3.size)⟩

set_option maxHeartbeats 4000000 in
set_option maxRecDepth 20000 in
theorem once_011 {w : World} (hV : Vs w) (s : ByteArray) (hs : s.size ≤ 300) {m0 m1 m2 m3 m4 m5 : Int} {k0 k1 k2 k3 k4 k5 k6 k7 : Int}  (hI : ip s.data.toList = none) (hMc : mac s.data.toList = some [m0, m1, m2, m3, m4, m5]) (hK : key s.data.toList = some [k0, k1, k2, k3, k4, k5, k6, k7]) :
    Calls Tryd.prog 5 #[.string s] w fun e w' => e = .returned (.bool true) ∧ Below w.heap.size w w' := by
  have c0 := known_any hV
  have hz : ¬ (300 : Int) < s.size := by omega
  have cI : ∀ W, Vs W → Calls Tryd.prog 9 #[.string s] W fun e w' => e = .returned (.tuple #[.int .u32 0, .int .i64 60]) ∧ Below W.heap.size W w' := fun W h => by
    have h := ip_any h s (by omega)
    rw [hI] at h
    exact h
  have cM : ∀ W, Vs W → Calls Tryd.prog 11 #[.string s] W fun e w' => e = .returned (.tuple #[.agg #[.int .u8 m0, .int .u8 m1, .int .u8 m2, .int .u8 m3, .int .u8 m4, .int .u8 m5], .int .i64 0]) ∧ Below W.heap.size W w' := fun W h => by
    have h := mac_any h s (by omega)
    rw [hMc] at h
    exact h
  have cK : ∀ W, Calls Tryd.prog 13 #[.string s] W fun e w' => e = .returned (.tuple #[.agg #[.int .u8 k0, .int .u8 k1, .int .u8 k2, .int .u8 k3, .int .u8 k4, .int .u8 k5, .int .u8 k6, .int .u8 k7], .int .i64 0]) ∧ Below W.heap.size W w' := fun W => by
    have h := key_any s W
    rw [hK] at h
    exact h
  have hss : (s.toList == s.toList) = true := by simp
  have tM : ∀ W, Calls Tryd.prog 20 #[.agg #[.int .u8 m0, .int .u8 m1, .int .u8 m2, .int .u8 m3, .int .u8 m4, .int .u8 m5]] W fun e w' => e = .returned (.string s) ∧ Below W.heap.size W w' := fun W => by
    have hb := mac_back hMc
    have h := mact_any W [m0, m1, m2, m3, m4, m5] rfl hb.2.2
    rw [hb.1, Lib.mk_data] at h
    exact h
  have tK : ∀ W, Calls Tryd.prog 21 #[.agg #[.int .u8 k0, .int .u8 k1, .int .u8 k2, .int .u8 k3, .int .u8 k4, .int .u8 k5, .int .u8 k6, .int .u8 k7]] W fun e w' => e = .returned (.string s) ∧ Below W.heap.size W w' := fun W => by
    have hb := key_back hK
    have h := keyt_any W [k0, k1, k2, k3, k4, k5, k6, k7] rfl hb.2.2
    rw [hb.1, Lib.mk_data] at h
    exact h
  clear hI hMc hK
  go_enter Tryd.func5, Tryd.ntmps5
  go_wp2_with fail
  refine c0.mono ?_
  rintro e w1 ⟨rfl, hb1⟩
  have hV1 := hV.below hb1
  clear c0
  go_wp2_with fail
  refine (cI _ hV1).mono ?_
  rintro e w2 ⟨rfl, hb2⟩
  have hV2 := hV1.below hb2
  have B2 := hb1.trans (hb2.mono hb1.size)
  clear cI hb1 hb2 hV1
  go_wp2_with fail
  refine (cM _ hV2).mono ?_
  rintro e w3 ⟨rfl, hb3⟩
  have hV3 := hV2.below hb3
  have B3 := B2.trans (hb3.mono B2.size)
  clear cM hb3 hV2 B2
  obtain ⟨g1, hg1⟩ : ∃ g1, w3.heap.size = g1 := ⟨_, rfl⟩
  have hMa := (Mem.nil w3).push g1 (.cells #[.int .u8 m0, .int .u8 m1, .int .u8 m2, .int .u8 m3, .int .u8 m4, .int .u8 m5] 30) hg1.symm
  go_wp2_with fail
  refine (cK _).mono ?_
  rintro e w4 ⟨rfl, hb4⟩
  have hMb := hMa.after hb4
  clear cK hMa hb4
  obtain ⟨g2, hg2⟩ : ∃ g2, w4.heap.size = g2 := ⟨_, rfl⟩
  have hMc := hMb.push g2 (.cells #[.int .u8 k0, .int .u8 k1, .int .u8 k2, .int .u8 k3, .int .u8 k4, .int .u8 k5, .int .u8 k6, .int .u8 k7] 35) hg2.symm
  clear hMb
  go_upto_region 8 with fail
  refine wp_letter (fun W => Mem w3 W [(g1, .cells #[.int .u8 m0, .int .u8 m1, .int .u8 m2, .int .u8 m3, .int .u8 m4, .int .u8 m5] 30 (0, 0)), (g2, .cells #[.int .u8 k0, .int .u8 k1, .int .u8 k2, .int .u8 k3, .int .u8 k4, .int .u8 k5, .int .u8 k6, .int .u8 k7] 35 (0, 0))]) hMc ?_
  intro w5 hMd
  clear hMc
  have d0_w5 : w5.cell? ⟨g1, 0, none⟩ = some (.int .u8 m0) := hMd.cell 0 rfl 0
  have d1_w5 : w5.cell? ⟨g1, 1, none⟩ = some (.int .u8 m1) := hMd.cell 0 rfl 1
  have d2_w5 : w5.cell? ⟨g1, 2, none⟩ = some (.int .u8 m2) := hMd.cell 0 rfl 2
  have d3_w5 : w5.cell? ⟨g1, 3, none⟩ = some (.int .u8 m3) := hMd.cell 0 rfl 3
  have d4_w5 : w5.cell? ⟨g1, 4, none⟩ = some (.int .u8 m4) := hMd.cell 0 rfl 4
  have d5_w5 : w5.cell? ⟨g1, 5, none⟩ = some (.int .u8 m5) := hMd.cell 0 rfl 5
  go_wp2_with fail
  refine (tM _).mono ?_
  rintro e w6 ⟨rfl, hbw6⟩
  have hMw6 := hMd.after hbw6
  have f0_w6 : w6.cell? ⟨g2, 0, none⟩ = some (.int .u8 k0) := hMw6.cell 1 rfl 0
  have f1_w6 : w6.cell? ⟨g2, 1, none⟩ = some (.int .u8 k1) := hMw6.cell 1 rfl 1
  have f2_w6 : w6.cell? ⟨g2, 2, none⟩ = some (.int .u8 k2) := hMw6.cell 1 rfl 2
  have f3_w6 : w6.cell? ⟨g2, 3, none⟩ = some (.int .u8 k3) := hMw6.cell 1 rfl 3
  have f4_w6 : w6.cell? ⟨g2, 4, none⟩ = some (.int .u8 k4) := hMw6.cell 1 rfl 4
  have f5_w6 : w6.cell? ⟨g2, 5, none⟩ = some (.int .u8 k5) := hMw6.cell 1 rfl 5
  have f6_w6 : w6.cell? ⟨g2, 6, none⟩ = some (.int .u8 k6) := hMw6.cell 1 rfl 6
  have f7_w6 : w6.cell? ⟨g2, 7, none⟩ = some (.int .u8 k7) := hMw6.cell 1 rfl 7
  go_wp2_with fail
  refine (tK _).mono ?_
  rintro e w7 ⟨rfl, hbw7⟩
  have hMw7 := hMw6.after hbw7
  go_wp2_with fail
  go_ret
  exact ⟨rfl, B3.trans (hMw7.below.mono B3.size)⟩

set_option maxHeartbeats 4000000 in
set_option maxRecDepth 20000 in
theorem once_100 {w : World} (hV : Vs w) (s : ByteArray) (hs : s.size ≤ 300) {a : Nat}  (hI : ip s.data.toList = some a) (ha : a ≤ 4294967295) (hMc : mac s.data.toList = none) (hK : key s.data.toList = none) :
    Calls Tryd.prog 5 #[.string s] w fun e w' => e = .returned (.bool true) ∧ Below w.heap.size w w' := by
  have c0 := known_any hV
  have hz : ¬ (300 : Int) < s.size := by omega
  have cI : ∀ W, Vs W → Calls Tryd.prog 9 #[.string s] W fun e w' => e = .returned (.tuple #[.int .u32 (a : Int), .int .i64 0]) ∧ Below W.heap.size W w' := fun W h => by
    have h := ip_any h s (by omega)
    rw [hI] at h
    exact h
  have cM : ∀ W, Vs W → Calls Tryd.prog 11 #[.string s] W fun e w' => e = .returned (.tuple #[.agg #[.int .u8 0, .int .u8 0, .int .u8 0, .int .u8 0, .int .u8 0, .int .u8 0], .int .i64 60]) ∧ Below W.heap.size W w' := fun W h => by
    have h := mac_any h s (by omega)
    rw [hMc] at h
    exact h
  have cK : ∀ W, Calls Tryd.prog 13 #[.string s] W fun e w' => e = .returned (.tuple #[.agg #[.int .u8 0, .int .u8 0, .int .u8 0, .int .u8 0, .int .u8 0, .int .u8 0, .int .u8 0, .int .u8 0], .int .i64 60]) ∧ Below W.heap.size W w' := fun W => by
    have h := key_any s W
    rw [hK] at h
    exact h
  have hss : (s.toList == s.toList) = true := by simp
  have tI : ∀ W, Vs W → Calls Tryd.prog 19 #[.int .u32 (a : Int)] W fun e w' => e = .returned (.string s) ∧ Below W.heap.size W w' := fun W h => by
    have h := iptext_any h a ha
    rw [(ip_lt hI).2, Lib.mk_data] at h
    exact h
  clear hI hMc hK
  go_enter Tryd.func5, Tryd.ntmps5
  go_wp2_with fail
  refine c0.mono ?_
  rintro e w1 ⟨rfl, hb1⟩
  have hV1 := hV.below hb1
  clear c0
  go_wp2_with fail
  refine (cI _ hV1).mono ?_
  rintro e w2 ⟨rfl, hb2⟩
  have hV2 := hV1.below hb2
  have B2 := hb1.trans (hb2.mono hb1.size)
  clear cI hb1 hb2 hV1
  go_wp2_with fail
  refine (cM _ hV2).mono ?_
  rintro e w3 ⟨rfl, hb3⟩
  have hV3 := hV2.below hb3
  have B3 := B2.trans (hb3.mono B2.size)
  clear cM hb3 hV2 B2
  obtain ⟨g1, hg1⟩ : ∃ g1, w3.heap.size = g1 := ⟨_, rfl⟩
  have hMa := (Mem.nil w3).push g1 (.cells #[.int .u8 0, .int .u8 0, .int .u8 0, .int .u8 0, .int .u8 0, .int .u8 0] 30) hg1.symm
  go_wp2_with fail
  refine (cK _).mono ?_
  rintro e w4 ⟨rfl, hb4⟩
  have hMb := hMa.after hb4
  clear cK hMa hb4
  obtain ⟨g2, hg2⟩ : ∃ g2, w4.heap.size = g2 := ⟨_, rfl⟩
  have hMc := hMb.push g2 (.cells #[.int .u8 0, .int .u8 0, .int .u8 0, .int .u8 0, .int .u8 0, .int .u8 0, .int .u8 0, .int .u8 0] 35) hg2.symm
  clear hMb
  go_upto_region 8 with fail
  refine wp_letter (fun W => Mem w3 W [(g1, .cells #[.int .u8 0, .int .u8 0, .int .u8 0, .int .u8 0, .int .u8 0, .int .u8 0] 30 (0, 0)), (g2, .cells #[.int .u8 0, .int .u8 0, .int .u8 0, .int .u8 0, .int .u8 0, .int .u8 0, .int .u8 0, .int .u8 0] 35 (0, 0))]) hMc ?_
  intro w5 hMd
  clear hMc
  go_wp2_with fail
  refine (tI _ (hV3.below hMd.below)).mono ?_
  rintro e w6 ⟨rfl, hbw6⟩
  have hMw6 := hMd.after hbw6
  go_wp2_with fail
  go_ret
  exact ⟨rfl, B3.trans (hMw6.below.mono B3.size)⟩

set_option maxHeartbeats 4000000 in
set_option maxRecDepth 20000 in
theorem once_101 {w : World} (hV : Vs w) (s : ByteArray) (hs : s.size ≤ 300) {a : Nat} {k0 k1 k2 k3 k4 k5 k6 k7 : Int}  (hI : ip s.data.toList = some a) (ha : a ≤ 4294967295) (hMc : mac s.data.toList = none) (hK : key s.data.toList = some [k0, k1, k2, k3, k4, k5, k6, k7]) :
    Calls Tryd.prog 5 #[.string s] w fun e w' => e = .returned (.bool true) ∧ Below w.heap.size w w' := by
  have c0 := known_any hV
  have hz : ¬ (300 : Int) < s.size := by omega
  have cI : ∀ W, Vs W → Calls Tryd.prog 9 #[.string s] W fun e w' => e = .returned (.tuple #[.int .u32 (a : Int), .int .i64 0]) ∧ Below W.heap.size W w' := fun W h => by
    have h := ip_any h s (by omega)
    rw [hI] at h
    exact h
  have cM : ∀ W, Vs W → Calls Tryd.prog 11 #[.string s] W fun e w' => e = .returned (.tuple #[.agg #[.int .u8 0, .int .u8 0, .int .u8 0, .int .u8 0, .int .u8 0, .int .u8 0], .int .i64 60]) ∧ Below W.heap.size W w' := fun W h => by
    have h := mac_any h s (by omega)
    rw [hMc] at h
    exact h
  have cK : ∀ W, Calls Tryd.prog 13 #[.string s] W fun e w' => e = .returned (.tuple #[.agg #[.int .u8 k0, .int .u8 k1, .int .u8 k2, .int .u8 k3, .int .u8 k4, .int .u8 k5, .int .u8 k6, .int .u8 k7], .int .i64 0]) ∧ Below W.heap.size W w' := fun W => by
    have h := key_any s W
    rw [hK] at h
    exact h
  have hss : (s.toList == s.toList) = true := by simp
  have tI : ∀ W, Vs W → Calls Tryd.prog 19 #[.int .u32 (a : Int)] W fun e w' => e = .returned (.string s) ∧ Below W.heap.size W w' := fun W h => by
    have h := iptext_any h a ha
    rw [(ip_lt hI).2, Lib.mk_data] at h
    exact h
  have tK : ∀ W, Calls Tryd.prog 21 #[.agg #[.int .u8 k0, .int .u8 k1, .int .u8 k2, .int .u8 k3, .int .u8 k4, .int .u8 k5, .int .u8 k6, .int .u8 k7]] W fun e w' => e = .returned (.string s) ∧ Below W.heap.size W w' := fun W => by
    have hb := key_back hK
    have h := keyt_any W [k0, k1, k2, k3, k4, k5, k6, k7] rfl hb.2.2
    rw [hb.1, Lib.mk_data] at h
    exact h
  clear hI hMc hK
  go_enter Tryd.func5, Tryd.ntmps5
  go_wp2_with fail
  refine c0.mono ?_
  rintro e w1 ⟨rfl, hb1⟩
  have hV1 := hV.below hb1
  clear c0
  go_wp2_with fail
  refine (cI _ hV1).mono ?_
  rintro e w2 ⟨rfl, hb2⟩
  have hV2 := hV1.below hb2
  have B2 := hb1.trans (hb2.mono hb1.size)
  clear cI hb1 hb2 hV1
  go_wp2_with fail
  refine (cM _ hV2).mono ?_
  rintro e w3 ⟨rfl, hb3⟩
  have hV3 := hV2.below hb3
  have B3 := B2.trans (hb3.mono B2.size)
  clear cM hb3 hV2 B2
  obtain ⟨g1, hg1⟩ : ∃ g1, w3.heap.size = g1 := ⟨_, rfl⟩
  have hMa := (Mem.nil w3).push g1 (.cells #[.int .u8 0, .int .u8 0, .int .u8 0, .int .u8 0, .int .u8 0, .int .u8 0] 30) hg1.symm
  go_wp2_with fail
  refine (cK _).mono ?_
  rintro e w4 ⟨rfl, hb4⟩
  have hMb := hMa.after hb4
  clear cK hMa hb4
  obtain ⟨g2, hg2⟩ : ∃ g2, w4.heap.size = g2 := ⟨_, rfl⟩
  have hMc := hMb.push g2 (.cells #[.int .u8 k0, .int .u8 k1, .int .u8 k2, .int .u8 k3, .int .u8 k4, .int .u8 k5, .int .u8 k6, .int .u8 k7] 35) hg2.symm
  clear hMb
  go_upto_region 8 with fail
  refine wp_letter (fun W => Mem w3 W [(g1, .cells #[.int .u8 0, .int .u8 0, .int .u8 0, .int .u8 0, .int .u8 0, .int .u8 0] 30 (0, 0)), (g2, .cells #[.int .u8 k0, .int .u8 k1, .int .u8 k2, .int .u8 k3, .int .u8 k4, .int .u8 k5, .int .u8 k6, .int .u8 k7] 35 (0, 0))]) hMc ?_
  intro w5 hMd
  clear hMc
  go_wp2_with fail
  refine (tI _ (hV3.below hMd.below)).mono ?_
  rintro e w6 ⟨rfl, hbw6⟩
  have hMw6 := hMd.after hbw6
  have f0_w6 : w6.cell? ⟨g2, 0, none⟩ = some (.int .u8 k0) := hMw6.cell 1 rfl 0
  have f1_w6 : w6.cell? ⟨g2, 1, none⟩ = some (.int .u8 k1) := hMw6.cell 1 rfl 1
  have f2_w6 : w6.cell? ⟨g2, 2, none⟩ = some (.int .u8 k2) := hMw6.cell 1 rfl 2
  have f3_w6 : w6.cell? ⟨g2, 3, none⟩ = some (.int .u8 k3) := hMw6.cell 1 rfl 3
  have f4_w6 : w6.cell? ⟨g2, 4, none⟩ = some (.int .u8 k4) := hMw6.cell 1 rfl 4
  have f5_w6 : w6.cell? ⟨g2, 5, none⟩ = some (.int .u8 k5) := hMw6.cell 1 rfl 5
  have f6_w6 : w6.cell? ⟨g2, 6, none⟩ = some (.int .u8 k6) := hMw6.cell 1 rfl 6
  have f7_w6 : w6.cell? ⟨g2, 7, none⟩ = some (.int .u8 k7) := hMw6.cell 1 rfl 7
  go_wp2_with fail
  refine (tK _).mono ?_
  rintro e w7 ⟨rfl, hbw7⟩
  have hMw7 := hMw6.after hbw7
  go_wp2_with fail
  go_ret
  exact ⟨rfl, B3.trans (hMw7.below.mono B3.size)⟩

set_option maxHeartbeats 4000000 in
set_option maxRecDepth 20000 in
theorem once_110 {w : World} (hV : Vs w) (s : ByteArray) (hs : s.size ≤ 300) {a : Nat} {m0 m1 m2 m3 m4 m5 : Int}  (hI : ip s.data.toList = some a) (ha : a ≤ 4294967295) (hMc : mac s.data.toList = some [m0, m1, m2, m3, m4, m5]) (hK : key s.data.toList = none) :
    Calls Tryd.prog 5 #[.string s] w fun e w' => e = .returned (.bool true) ∧ Below w.heap.size w w' := by
  have c0 := known_any hV
  have hz : ¬ (300 : Int) < s.size := by omega
  have cI : ∀ W, Vs W → Calls Tryd.prog 9 #[.string s] W fun e w' => e = .returned (.tuple #[.int .u32 (a : Int), .int .i64 0]) ∧ Below W.heap.size W w' := fun W h => by
    have h := ip_any h s (by omega)
    rw [hI] at h
    exact h
  have cM : ∀ W, Vs W → Calls Tryd.prog 11 #[.string s] W fun e w' => e = .returned (.tuple #[.agg #[.int .u8 m0, .int .u8 m1, .int .u8 m2, .int .u8 m3, .int .u8 m4, .int .u8 m5], .int .i64 0]) ∧ Below W.heap.size W w' := fun W h => by
    have h := mac_any h s (by omega)
    rw [hMc] at h
    exact h
  have cK : ∀ W, Calls Tryd.prog 13 #[.string s] W fun e w' => e = .returned (.tuple #[.agg #[.int .u8 0, .int .u8 0, .int .u8 0, .int .u8 0, .int .u8 0, .int .u8 0, .int .u8 0, .int .u8 0], .int .i64 60]) ∧ Below W.heap.size W w' := fun W => by
    have h := key_any s W
    rw [hK] at h
    exact h
  have hss : (s.toList == s.toList) = true := by simp
  have tI : ∀ W, Vs W → Calls Tryd.prog 19 #[.int .u32 (a : Int)] W fun e w' => e = .returned (.string s) ∧ Below W.heap.size W w' := fun W h => by
    have h := iptext_any h a ha
    rw [(ip_lt hI).2, Lib.mk_data] at h
    exact h
  have tM : ∀ W, Calls Tryd.prog 20 #[.agg #[.int .u8 m0, .int .u8 m1, .int .u8 m2, .int .u8 m3, .int .u8 m4, .int .u8 m5]] W fun e w' => e = .returned (.string s) ∧ Below W.heap.size W w' := fun W => by
    have hb := mac_back hMc
    have h := mact_any W [m0, m1, m2, m3, m4, m5] rfl hb.2.2
    rw [hb.1, Lib.mk_data] at h
    exact h
  clear hI hMc hK
  go_enter Tryd.func5, Tryd.ntmps5
  go_wp2_with fail
  refine c0.mono ?_
  rintro e w1 ⟨rfl, hb1⟩
  have hV1 := hV.below hb1
  clear c0
  go_wp2_with fail
  refine (cI _ hV1).mono ?_
  rintro e w2 ⟨rfl, hb2⟩
  have hV2 := hV1.below hb2
  have B2 := hb1.trans (hb2.mono hb1.size)
  clear cI hb1 hb2 hV1
  go_wp2_with fail
  refine (cM _ hV2).mono ?_
  rintro e w3 ⟨rfl, hb3⟩
  have hV3 := hV2.below hb3
  have B3 := B2.trans (hb3.mono B2.size)
  clear cM hb3 hV2 B2
  obtain ⟨g1, hg1⟩ : ∃ g1, w3.heap.size = g1 := ⟨_, rfl⟩
  have hMa := (Mem.nil w3).push g1 (.cells #[.int .u8 m0, .int .u8 m1, .int .u8 m2, .int .u8 m3, .int .u8 m4, .int .u8 m5] 30) hg1.symm
  go_wp2_with fail
  refine (cK _).mono ?_
  rintro e w4 ⟨rfl, hb4⟩
  have hMb := hMa.after hb4
  clear cK hMa hb4
  obtain ⟨g2, hg2⟩ : ∃ g2, w4.heap.size = g2 := ⟨_, rfl⟩
  have hMc := hMb.push g2 (.cells #[.int .u8 0, .int .u8 0, .int .u8 0, .int .u8 0, .int .u8 0, .int .u8 0, .int .u8 0, .int .u8 0] 35) hg2.symm
  clear hMb
  go_upto_region 8 with fail
  refine wp_letter (fun W => Mem w3 W [(g1, .cells #[.int .u8 m0, .int .u8 m1, .int .u8 m2, .int .u8 m3, .int .u8 m4, .int .u8 m5] 30 (0, 0)), (g2, .cells #[.int .u8 0, .int .u8 0, .int .u8 0, .int .u8 0, .int .u8 0, .int .u8 0, .int .u8 0, .int .u8 0] 35 (0, 0))]) hMc ?_
  intro w5 hMd
  clear hMc
  go_wp2_with fail
  refine (tI _ (hV3.below hMd.below)).mono ?_
  rintro e w6 ⟨rfl, hbw6⟩
  have hMw6 := hMd.after hbw6
  have d0_w6 : w6.cell? ⟨g1, 0, none⟩ = some (.int .u8 m0) := hMw6.cell 0 rfl 0
  have d1_w6 : w6.cell? ⟨g1, 1, none⟩ = some (.int .u8 m1) := hMw6.cell 0 rfl 1
  have d2_w6 : w6.cell? ⟨g1, 2, none⟩ = some (.int .u8 m2) := hMw6.cell 0 rfl 2
  have d3_w6 : w6.cell? ⟨g1, 3, none⟩ = some (.int .u8 m3) := hMw6.cell 0 rfl 3
  have d4_w6 : w6.cell? ⟨g1, 4, none⟩ = some (.int .u8 m4) := hMw6.cell 0 rfl 4
  have d5_w6 : w6.cell? ⟨g1, 5, none⟩ = some (.int .u8 m5) := hMw6.cell 0 rfl 5
  go_wp2_with fail
  refine (tM _).mono ?_
  rintro e w7 ⟨rfl, hbw7⟩
  have hMw7 := hMw6.after hbw7
  go_wp2_with fail
  go_ret
  exact ⟨rfl, B3.trans (hMw7.below.mono B3.size)⟩

set_option maxHeartbeats 4000000 in
set_option maxRecDepth 20000 in
theorem once_111 {w : World} (hV : Vs w) (s : ByteArray) (hs : s.size ≤ 300) {a : Nat} {m0 m1 m2 m3 m4 m5 : Int} {k0 k1 k2 k3 k4 k5 k6 k7 : Int}  (hI : ip s.data.toList = some a) (ha : a ≤ 4294967295) (hMc : mac s.data.toList = some [m0, m1, m2, m3, m4, m5]) (hK : key s.data.toList = some [k0, k1, k2, k3, k4, k5, k6, k7]) :
    Calls Tryd.prog 5 #[.string s] w fun e w' => e = .returned (.bool true) ∧ Below w.heap.size w w' := by
  have c0 := known_any hV
  have hz : ¬ (300 : Int) < s.size := by omega
  have cI : ∀ W, Vs W → Calls Tryd.prog 9 #[.string s] W fun e w' => e = .returned (.tuple #[.int .u32 (a : Int), .int .i64 0]) ∧ Below W.heap.size W w' := fun W h => by
    have h := ip_any h s (by omega)
    rw [hI] at h
    exact h
  have cM : ∀ W, Vs W → Calls Tryd.prog 11 #[.string s] W fun e w' => e = .returned (.tuple #[.agg #[.int .u8 m0, .int .u8 m1, .int .u8 m2, .int .u8 m3, .int .u8 m4, .int .u8 m5], .int .i64 0]) ∧ Below W.heap.size W w' := fun W h => by
    have h := mac_any h s (by omega)
    rw [hMc] at h
    exact h
  have cK : ∀ W, Calls Tryd.prog 13 #[.string s] W fun e w' => e = .returned (.tuple #[.agg #[.int .u8 k0, .int .u8 k1, .int .u8 k2, .int .u8 k3, .int .u8 k4, .int .u8 k5, .int .u8 k6, .int .u8 k7], .int .i64 0]) ∧ Below W.heap.size W w' := fun W => by
    have h := key_any s W
    rw [hK] at h
    exact h
  have hss : (s.toList == s.toList) = true := by simp
  have tI : ∀ W, Vs W → Calls Tryd.prog 19 #[.int .u32 (a : Int)] W fun e w' => e = .returned (.string s) ∧ Below W.heap.size W w' := fun W h => by
    have h := iptext_any h a ha
    rw [(ip_lt hI).2, Lib.mk_data] at h
    exact h
  have tM : ∀ W, Calls Tryd.prog 20 #[.agg #[.int .u8 m0, .int .u8 m1, .int .u8 m2, .int .u8 m3, .int .u8 m4, .int .u8 m5]] W fun e w' => e = .returned (.string s) ∧ Below W.heap.size W w' := fun W => by
    have hb := mac_back hMc
    have h := mact_any W [m0, m1, m2, m3, m4, m5] rfl hb.2.2
    rw [hb.1, Lib.mk_data] at h
    exact h
  have tK : ∀ W, Calls Tryd.prog 21 #[.agg #[.int .u8 k0, .int .u8 k1, .int .u8 k2, .int .u8 k3, .int .u8 k4, .int .u8 k5, .int .u8 k6, .int .u8 k7]] W fun e w' => e = .returned (.string s) ∧ Below W.heap.size W w' := fun W => by
    have hb := key_back hK
    have h := keyt_any W [k0, k1, k2, k3, k4, k5, k6, k7] rfl hb.2.2
    rw [hb.1, Lib.mk_data] at h
    exact h
  clear hI hMc hK
  go_enter Tryd.func5, Tryd.ntmps5
  go_wp2_with fail
  refine c0.mono ?_
  rintro e w1 ⟨rfl, hb1⟩
  have hV1 := hV.below hb1
  clear c0
  go_wp2_with fail
  refine (cI _ hV1).mono ?_
  rintro e w2 ⟨rfl, hb2⟩
  have hV2 := hV1.below hb2
  have B2 := hb1.trans (hb2.mono hb1.size)
  clear cI hb1 hb2 hV1
  go_wp2_with fail
  refine (cM _ hV2).mono ?_
  rintro e w3 ⟨rfl, hb3⟩
  have hV3 := hV2.below hb3
  have B3 := B2.trans (hb3.mono B2.size)
  clear cM hb3 hV2 B2
  obtain ⟨g1, hg1⟩ : ∃ g1, w3.heap.size = g1 := ⟨_, rfl⟩
  have hMa := (Mem.nil w3).push g1 (.cells #[.int .u8 m0, .int .u8 m1, .int .u8 m2, .int .u8 m3, .int .u8 m4, .int .u8 m5] 30) hg1.symm
  go_wp2_with fail
  refine (cK _).mono ?_
  rintro e w4 ⟨rfl, hb4⟩
  have hMb := hMa.after hb4
  clear cK hMa hb4
  obtain ⟨g2, hg2⟩ : ∃ g2, w4.heap.size = g2 := ⟨_, rfl⟩
  have hMc := hMb.push g2 (.cells #[.int .u8 k0, .int .u8 k1, .int .u8 k2, .int .u8 k3, .int .u8 k4, .int .u8 k5, .int .u8 k6, .int .u8 k7] 35) hg2.symm
  clear hMb
  go_upto_region 8 with fail
  refine wp_letter (fun W => Mem w3 W [(g1, .cells #[.int .u8 m0, .int .u8 m1, .int .u8 m2, .int .u8 m3, .int .u8 m4, .int .u8 m5] 30 (0, 0)), (g2, .cells #[.int .u8 k0, .int .u8 k1, .int .u8 k2, .int .u8 k3, .int .u8 k4, .int .u8 k5, .int .u8 k6, .int .u8 k7] 35 (0, 0))]) hMc ?_
  intro w5 hMd
  clear hMc
  go_wp2_with fail
  refine (tI _ (hV3.below hMd.below)).mono ?_
  rintro e w6 ⟨rfl, hbw6⟩
  have hMw6 := hMd.after hbw6
  have d0_w6 : w6.cell? ⟨g1, 0, none⟩ = some (.int .u8 m0) := hMw6.cell 0 rfl 0
  have d1_w6 : w6.cell? ⟨g1, 1, none⟩ = some (.int .u8 m1) := hMw6.cell 0 rfl 1
  have d2_w6 : w6.cell? ⟨g1, 2, none⟩ = some (.int .u8 m2) := hMw6.cell 0 rfl 2
  have d3_w6 : w6.cell? ⟨g1, 3, none⟩ = some (.int .u8 m3) := hMw6.cell 0 rfl 3
  have d4_w6 : w6.cell? ⟨g1, 4, none⟩ = some (.int .u8 m4) := hMw6.cell 0 rfl 4
  have d5_w6 : w6.cell? ⟨g1, 5, none⟩ = some (.int .u8 m5) := hMw6.cell 0 rfl 5
  go_wp2_with fail
  refine (tM _).mono ?_
  rintro e w7 ⟨rfl, hbw7⟩
  have hMw7 := hMw6.after hbw7
  have f0_w7 : w7.cell? ⟨g2, 0, none⟩ = some (.int .u8 k0) := hMw7.cell 1 rfl 0
  have f1_w7 : w7.cell? ⟨g2, 1, none⟩ = some (.int .u8 k1) := hMw7.cell 1 rfl 1
  have f2_w7 : w7.cell? ⟨g2, 2, none⟩ = some (.int .u8 k2) := hMw7.cell 1 rfl 2
  have f3_w7 : w7.cell? ⟨g2, 3, none⟩ = some (.int .u8 k3) := hMw7.cell 1 rfl 3
  have f4_w7 : w7.cell? ⟨g2, 4, none⟩ = some (.int .u8 k4) := hMw7.cell 1 rfl 4
  have f5_w7 : w7.cell? ⟨g2, 5, none⟩ = some (.int .u8 k5) := hMw7.cell 1 rfl 5
  have f6_w7 : w7.cell? ⟨g2, 6, none⟩ = some (.int .u8 k6) := hMw7.cell 1 rfl 6
  have f7_w7 : w7.cell? ⟨g2, 7, none⟩ = some (.int .u8 k7) := hMw7.cell 1 rfl 7
  go_wp2_with fail
  refine (tK _).mono ?_
  rintro e w8 ⟨rfl, hbw8⟩
  have hMw8 := hMw7.after hbw8
  go_wp2_with fail
  go_ret
  exact ⟨rfl, B3.trans (hMw8.below.mono B3.size)⟩

theorem once_any {w : World} (hV : Vs w) (s : ByteArray) :
    Calls Tryd.prog 5 #[.string s] w fun e w' => e = .returned (.bool true) ∧ Below w.heap.size w w' := by
  by_cases hs : s.size ≤ 300
  · cases hI : ip s.data.toList with
    | none =>
      cases hM : mac s.data.toList with
      | none =>
        cases hK : key s.data.toList with
        | none => exact once_000 hV s hs hI hM hK
        | some l =>
          obtain ⟨k0, k1, k2, k3, k4, k5, k6, k7, rfl⟩ := eight (key_back hK).2.1
          exact once_001 hV s hs hI hM hK
      | some l2 =>
        obtain ⟨m0, m1, m2, m3, m4, m5, rfl⟩ := six (mac_back hM).2.1
        cases hK : key s.data.toList with
        | none => exact once_010 hV s hs hI hM hK
        | some l =>
          obtain ⟨k0, k1, k2, k3, k4, k5, k6, k7, rfl⟩ := eight (key_back hK).2.1
          exact once_011 hV s hs hI hM hK
    | some a =>
      have ha := (ip_lt hI).1
      cases hM : mac s.data.toList with
      | none =>
        cases hK : key s.data.toList with
        | none => exact once_100 hV s hs hI (by omega) hM hK
        | some l =>
          obtain ⟨k0, k1, k2, k3, k4, k5, k6, k7, rfl⟩ := eight (key_back hK).2.1
          exact once_101 hV s hs hI (by omega) hM hK
      | some l2 =>
        obtain ⟨m0, m1, m2, m3, m4, m5, rfl⟩ := six (mac_back hM).2.1
        cases hK : key s.data.toList with
        | none => exact once_110 hV s hs hI (by omega) hM hK
        | some l =>
          obtain ⟨k0, k1, k2, k3, k4, k5, k6, k7, rfl⟩ := eight (key_back hK).2.1
          exact once_111 hV s hs hI (by omega) hM hK
  · exact once_long hV s (by omega)
end Go.Proofs.YtkkbnagfndphpaaDoor
