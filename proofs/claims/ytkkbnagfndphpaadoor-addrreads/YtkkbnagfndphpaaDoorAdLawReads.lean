/-
  The walk of AddrReads.
-/
import Derived.Test.YtkkbnagfndphpaaDoorAdKnown
import Derived.Test.YtkkbnagfndphpaaDoorAdNameRef
import Derived.Test.YtkkbnagfndphpaaDoorAdIpRef
import Derived.Test.YtkkbnagfndphpaaDoorAdMacRef
import Derived.Test.YtkkbnagfndphpaaDoorAdKeyRef
namespace Go.Proofs.YtkkbnagfndphpaaDoor
open Go.RowKit
open Ad
set_option linter.unusedVariables false

theorem mv_six (s : List UInt8) : ∃ a b c d e f, mv (mac s) = .agg #[.int .u8 a, .int .u8 b, .int .u8 c, .int .u8 d, .int .u8 e, .int .u8 f] := by
  cases h : mac s with
  | none => exact ⟨0, 0, 0, 0, 0, 0, rfl⟩
  | some l =>
    obtain ⟨a, b, c, d, e, f, rfl⟩ := six (mac_back h).2.1
    exact ⟨a, b, c, d, e, f, rfl⟩
theorem kv_eight (s : List UInt8) : ∃ a b c d e f x y, kv (key s) = .agg #[.int .u8 a, .int .u8 b, .int .u8 c, .int .u8 d, .int .u8 e, .int .u8 f, .int .u8 x, .int .u8 y] := by
  cases h : key s with
  | none => exact ⟨0, 0, 0, 0, 0, 0, 0, 0, rfl⟩
  | some l =>
    obtain ⟨a, b, c, d, e, f, x, y, rfl⟩ := eight (key_back h).2.1
    exact ⟨a, b, c, d, e, f, x, y, rfl⟩
theorem reads_long {w : World} (hV : Vs w) (s : ByteArray) (hs : 300 < s.size) (most : Int) :
    Calls Tryd.prog 3 #[.string s, .int .u32 most] w fun e w' => e = .returned (.bool true) ∧ Below w.heap.size w w' := by
  have c0 := known_any hV
  have hz : (300 : Int) < s.size := by omega
  go_enter Tryd.func3, Tryd.ntmps3
  go_wp2_with fail
  refine c0.mono ?_
  rintro e w1 ⟨rfl, hb1⟩
  go_wp2_with fail
  go_ret
  exact ⟨rfl, hb1⟩
set_option maxHeartbeats 8000000 in
set_option maxRecDepth 20000 in
theorem reads_short {w : World} (hV : Vs w) (s : ByteArray) (hs : s.size ≤ 300) (most : Nat) (hm : most ≤ 4294967295) :
    Calls Tryd.prog 3 #[.string s, .int .u32 (most : Int)] w fun e w' => e = .returned (.bool true) ∧ Below w.heap.size w w' := by
  have c0 := known_any hV
  have hz : ¬ (300 : Int) < s.size := by omega
  have cI := fun (W : World) (h : Vs W) => ip_any h s (by omega)
  have cJ := fun (W : World) => rip_any W s (by omega)
  have cM := fun (W : World) (h : Vs W) => mac_any h s (by omega)
  have cN := fun (W : World) => rmac_any W s (by omega)
  have cK := fun (W : World) => key_any s W
  have cL := fun (W : World) => rkey_any s (by omega) W
  have cP := fun (W : World) => num_any s most hm (by omega) W
  have cQ := fun (W : World) => rnum_any s most hm (by omega) W
  have cR := fun (W : World) (h : Vs W) => name_any h s (by omega)
  have cS := fun (W : World) (h : Vs W) => rname_any h s (by omega)
  obtain ⟨m0, m1, m2, m3, m4, m5, hmv⟩ := mv_six s.data.toList
  obtain ⟨k0, k1, k2, k3, k4, k5, k6, k7, hkv⟩ := kv_eight s.data.toList
  rw [hmv] at cM cN
  rw [hkv] at cK cL
  generalize nv (ip s.data.toList) = iv at cI cJ
  generalize ne (ip s.data.toList) = ie at cI cJ
  generalize le (mac s.data.toList) = me at cM cN
  generalize le (key s.data.toList) = ke at cK cL
  generalize nv (num s.data.toList most) = nn at cP cQ
  generalize ne (num s.data.toList most) = nE at cP cQ
  generalize nam s.data.toList = nm at cR cS
  have q0 := mac_same m0 m1 m2 m3 m4 m5
  have q1 := key_same k0 k1 k2 k3 k4 k5 k6 k7
  clear hmv hkv
  go_enter Tryd.func3, Tryd.ntmps3
  go_wp2_with fail
  refine c0.mono ?_
  rintro e w1 ⟨rfl, hb1⟩
  have hV1 := hV.below hb1
  clear c0
  go_wp2_with fail
  refine (cI _ hV1).mono ?_
  rintro e w2 ⟨rfl, hb2⟩
  have hV2 := hV1.below hb2
  have B2 := hb1.trans (hb2.mono hb1.size)
  clear cI hb1 hb2 hV1
  go_wp2_with fail
  refine (cJ _).mono ?_
  rintro e w3 ⟨rfl, hb3⟩
  have hV3 := hV2.below hb3
  have B3 := B2.trans (hb3.mono B2.size)
  clear cJ hb3 hV2 B2
  go_wp2_with fail
  refine (cM _ hV3).mono ?_
  rintro e w4 ⟨rfl, hb4⟩
  have hV4 := hV3.below hb4
  have B4 := B3.trans (hb4.mono B3.size)
  clear cM hb4 hV3 B3
  have hMa : Mem w4 (w4.alloc (.cells #[.int .u8 m0, .int .u8 m1, .int .u8 m2, .int .u8 m3, .int .u8 m4, .int .u8 m5] 30)) [(w4.heap.size, .cells #[.int .u8 m0, .int .u8 m1, .int .u8 m2, .int .u8 m3, .int .u8 m4, .int .u8 m5] 30 (0, 0))] := (Mem.nil w4).push w4.heap.size _ rfl
  obtain ⟨g1, hg1⟩ : ∃ g1, w4.heap.size = g1 := ⟨_, rfl⟩
  rw [hg1] at hMa
  go_wp2_with fail
  refine (cN _).mono ?_
  rintro e w5 ⟨rfl, hb5⟩
  have hMb := hMa.after hb5
  clear cN hMa hb5
  have hV5 := hV4.below hMb.below
  obtain ⟨g2, hg2⟩ : ∃ g2, w5.heap.size = g2 := ⟨_, rfl⟩
  have hMc := hMb.push g2 (.cells #[.int .u8 m0, .int .u8 m1, .int .u8 m2, .int .u8 m3, .int .u8 m4, .int .u8 m5] 30) hg2.symm
  clear hMb
  go_wp2_with fail
  refine (cK _).mono ?_
  rintro e w6 ⟨rfl, hb6⟩
  have hMd := hMc.after hb6
  clear cK hMc hb6 hV5
  obtain ⟨g3, hg3⟩ : ∃ g3, w6.heap.size = g3 := ⟨_, rfl⟩
  have hMe := hMd.push g3 (.cells #[.int .u8 k0, .int .u8 k1, .int .u8 k2, .int .u8 k3, .int .u8 k4, .int .u8 k5, .int .u8 k6, .int .u8 k7] 35) hg3.symm
  clear hMd
  go_wp2_with fail
  refine (cL _).mono ?_
  rintro e w7 ⟨rfl, hb7⟩
  have hMf := hMe.after hb7
  clear cL hMe hb7
  obtain ⟨g4, hg4⟩ : ∃ g4, w7.heap.size = g4 := ⟨_, rfl⟩
  have hMg := hMf.push g4 (.cells #[.int .u8 k0, .int .u8 k1, .int .u8 k2, .int .u8 k3, .int .u8 k4, .int .u8 k5, .int .u8 k6, .int .u8 k7] 35) hg4.symm
  clear hMf
  go_wp2_with fail
  refine (cP _).mono ?_
  rintro e w8 ⟨rfl, hb8⟩
  have hMh := hMg.after hb8
  clear cP hMg hb8
  go_wp2_with fail
  refine (cQ _).mono ?_
  rintro e w9 ⟨rfl, rfl⟩
  clear cQ
  have g1_0 : w8.cell? ⟨g1, 0, none⟩ = some (.int .u8 m0) := hMh.cell 0 rfl 0
  have g1_1 : w8.cell? ⟨g1, 1, none⟩ = some (.int .u8 m1) := hMh.cell 0 rfl 1
  have g1_2 : w8.cell? ⟨g1, 2, none⟩ = some (.int .u8 m2) := hMh.cell 0 rfl 2
  have g1_3 : w8.cell? ⟨g1, 3, none⟩ = some (.int .u8 m3) := hMh.cell 0 rfl 3
  have g1_4 : w8.cell? ⟨g1, 4, none⟩ = some (.int .u8 m4) := hMh.cell 0 rfl 4
  have g1_5 : w8.cell? ⟨g1, 5, none⟩ = some (.int .u8 m5) := hMh.cell 0 rfl 5
  have g2_0 : w8.cell? ⟨g2, 0, none⟩ = some (.int .u8 m0) := hMh.cell 1 rfl 0
  have g2_1 : w8.cell? ⟨g2, 1, none⟩ = some (.int .u8 m1) := hMh.cell 1 rfl 1
  have g2_2 : w8.cell? ⟨g2, 2, none⟩ = some (.int .u8 m2) := hMh.cell 1 rfl 2
  have g2_3 : w8.cell? ⟨g2, 3, none⟩ = some (.int .u8 m3) := hMh.cell 1 rfl 3
  have g2_4 : w8.cell? ⟨g2, 4, none⟩ = some (.int .u8 m4) := hMh.cell 1 rfl 4
  have g2_5 : w8.cell? ⟨g2, 5, none⟩ = some (.int .u8 m5) := hMh.cell 1 rfl 5
  have g3_0 : w8.cell? ⟨g3, 0, none⟩ = some (.int .u8 k0) := hMh.cell 2 rfl 0
  have g3_1 : w8.cell? ⟨g3, 1, none⟩ = some (.int .u8 k1) := hMh.cell 2 rfl 1
  have g3_2 : w8.cell? ⟨g3, 2, none⟩ = some (.int .u8 k2) := hMh.cell 2 rfl 2
  have g3_3 : w8.cell? ⟨g3, 3, none⟩ = some (.int .u8 k3) := hMh.cell 2 rfl 3
  have g3_4 : w8.cell? ⟨g3, 4, none⟩ = some (.int .u8 k4) := hMh.cell 2 rfl 4
  have g3_5 : w8.cell? ⟨g3, 5, none⟩ = some (.int .u8 k5) := hMh.cell 2 rfl 5
  have g3_6 : w8.cell? ⟨g3, 6, none⟩ = some (.int .u8 k6) := hMh.cell 2 rfl 6
  have g3_7 : w8.cell? ⟨g3, 7, none⟩ = some (.int .u8 k7) := hMh.cell 2 rfl 7
  have g4_0 : w8.cell? ⟨g4, 0, none⟩ = some (.int .u8 k0) := hMh.cell 3 rfl 0
  have g4_1 : w8.cell? ⟨g4, 1, none⟩ = some (.int .u8 k1) := hMh.cell 3 rfl 1
  have g4_2 : w8.cell? ⟨g4, 2, none⟩ = some (.int .u8 k2) := hMh.cell 3 rfl 2
  have g4_3 : w8.cell? ⟨g4, 3, none⟩ = some (.int .u8 k3) := hMh.cell 3 rfl 3
  have g4_4 : w8.cell? ⟨g4, 4, none⟩ = some (.int .u8 k4) := hMh.cell 3 rfl 4
  have g4_5 : w8.cell? ⟨g4, 5, none⟩ = some (.int .u8 k5) := hMh.cell 3 rfl 5
  have g4_6 : w8.cell? ⟨g4, 6, none⟩ = some (.int .u8 k6) := hMh.cell 3 rfl 6
  have g4_7 : w8.cell? ⟨g4, 7, none⟩ = some (.int .u8 k7) := hMh.cell 3 rfl 7
  have hV8 := hV4.below hMh.below
  go_wp2_with fail
  refine (cR _ hV8).mono ?_
  rintro e w10 ⟨rfl, hb10⟩
  have hV10 := hV8.below hb10
  go_wp2_with fail
  refine (cS _ hV10).mono ?_
  rintro e w11 ⟨rfl, hb11⟩
  go_wp2_with fail
  go_ret
  have B5 := B4.trans (hMh.below.mono B4.size)
  have B6 := B5.trans (hb10.mono B5.size)
  exact ⟨by simp, B6.trans (hb11.mono B6.size)⟩
theorem reads_any {w : World} (hV : Vs w) (s : ByteArray) (most : Nat) (hm : most ≤ 4294967295) :
    Calls Tryd.prog 3 #[.string s, .int .u32 (most : Int)] w fun e w' => e = .returned (.bool true) ∧ Below w.heap.size w w' := by
  by_cases h : s.size ≤ 300
  · exact reads_short hV s h most hm
  · exact reads_long hV s (by omega) most
end Go.Proofs.YtkkbnagfndphpaaDoor
