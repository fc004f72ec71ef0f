/-
  The walk of lychlaw8.RewriteHops: it answers true.
-/
import Derived.Test.YtjalpbkfpjfigaaRwPacket
import Derived.Test.YtjalpbkfpjfigaaRwPktFacts
import Derived.Test.YtjalpbkfpjfigaaRwRefHop
import Derived.Test.YtjalpbkfpjfigaaRwKnownAll
namespace Go.Proofs.Ytjalpbkfpjfigaa
open Go.RowKit
open Sm
set_option linter.unusedVariables false
set_option maxRecDepth 20000

set_option maxHeartbeats 2000000 in
theorem hops_long {w : World} (a : Option Addr) (n c : Nat) (P : Pa) (side : Int) (h : 2000 < n) :
    Calls Try.prog 3 #[.slice a n c, .agg (paB P), .int .u8 side] w fun e w' => e = .returned (.bool true) ∧ Below w.heap.size w w' := by
  have hk := rknown_any (w.alloc (.cells (paB P) paT))
  have h1 : (2000 : Int) < n := by omega
  have HB : Hid (Below w.heap.size w (w.alloc (.cells (paB P) paT))) := (Below.refl _ _).alloc (Nat.le_refl _) _
  clear h
  go_enter Try.func3, Try.ntmps3
  go_wp2_with fail
  refine hk.mono ?_
  rintro e w2 ⟨rfl, hbel⟩
  have HB2 : Hid (Below w.heap.size w w2) := HB.out.trans (hbel.mono HB.out.size)
  clear hk hbel
  go_wp2_with fail
  go_ret
  exact ⟨rfl, HB2.out⟩

namespace Sm
theorem hopOut_facts {l : List Int} (h : IsBytes l) : IsBytes (hopOut l) ∧ (hopOut l).length ≤ 65535 := hopOut_bytes h
end Sm

set_option maxHeartbeats 4000000 in
theorem hops_core {w : World} {a : Option Addr} {n c : Nat} {l : List Int} (hr : Row w a l) (hn : l.length = n) (hc : n ≤ c) (h1 : n ≤ 2000) (P : Pa) (hP : P.Ok) (side : Int) (s0 : 0 ≤ side) (s1 : side ≤ 255) :
    Calls Try.prog 3 #[.slice a n c, .agg (paB P), .int .u8 side] w fun e w' => e = .returned (.bool true) ∧ Below w.heap.size w w' := by
  have hk := rknown_any (w.alloc (.cells (paB P) paT))
  have h1' : (n : Int) ≤ 2000 := by omega
  have hst : side.tmod 2 = side % 2 := Int.tmod_eq_emod_of_nonneg s0
  have hsw := wrap64_small (side % 2) (by omega) (by omega)
  have HS : Hid (side % 2 = 0 ∨ side % 2 = 1) := by show _ ∨ _; omega
  have HR : Hid (∀ W, Below w.heap.size w W → Row W a l) := fun W hb => hr.below hb (Nat.le_refl _)
  have HN : Hid (l.length = n ∧ n ≤ c ∧ P.Ok ∧ IsBytes l) := ⟨hn, hc, hP, hr.bytes⟩
  have HM1 : Hid (Mem w (w.alloc (.cells (paB P) paT)) [(w.heap.size, .cells (paB P) paT)]) := (Mem.nil w).push1 rfl
  have hof := hopOut_facts hr.bytes
  obtain ⟨E, hE⟩ : ∃ E, hopErr l = E := ⟨_, rfl⟩
  obtain ⟨L, hL⟩ : ∃ L, hopOut l = L := ⟨_, rfl⟩
  obtain ⟨nL, hnL⟩ : ∃ n, L.length = n := ⟨_, rfl⟩
  rw [hL] at hof
  have HE : Hid (hopErr l = E ∧ hopOut l = L ∧ L.length = nL ∧ IsBytes L ∧ L.length ≤ 65535) := ⟨hE, hL, hnL, hof.1, hof.2⟩
  clear hr hn hc h1 hP hof hE hL hnL
  generalize side % 2 = sd at *
  go_enter Try.func3, Try.ntmps3
  go_wp2_with fail
  refine hk.mono ?_
  rintro e w2 ⟨rfl, hbel⟩
  have HM2 : Hid (Mem w w2 [(w.heap.size, .cells (paB P) paT)]) := HM1.out.after hbel
  have hH := hop_any (HR.out w2 HM2.out.below) HN.out.1 HN.out.2.1
  rw [HE.out.1, HE.out.2.1, HE.out.2.2.1] at hH
  clear hk hbel HM1
  go_wp2_with fail
  refine hH.mono ?_
  rintro e w3 ⟨u1, rfl, ho1, hb3⟩
  have HM3 : Hid (Mem w w3 [(w.heap.size, .cells (paB P) paT)]) := HM2.out.after hb3
  have HO1 : Hid _ := ho1
  have hH2 := rhop_any (HR.out w3 HM3.out.below) HN.out.1 HN.out.2.1
  rw [HE.out.1, HE.out.2.1, HE.out.2.2.1] at hH2
  clear hH ho1 hb3 HM2
  go_wp2_with fail
  refine hH2.mono ?_
  rintro e w4 ⟨u2, rfl, ho2, hb4⟩
  have HM4 : Hid (Mem w w4 [(w.heap.size, .cells (paB P) paT)]) := HM3.out.after hb4
  have HO : Hid (w4.ownsRow 0 5 1 u1 nL (L.map (Value.int .u8)) ∧ w4.ownsRow 0 5 1 u2 nL (L.map (Value.int .u8))) := ⟨own_base (own_after HO1.out hb4 (Nat.le_refl _)) (Nat.zero_le _), own_base ho2 (Nat.zero_le _)⟩
  have hPk := packet_any w4 P HN.out.2.2.1 sd 0 HS.out ⟨by omega, by omega⟩
  have kc : ∀ i, w4.cell? ⟨w.heap.size, i, none⟩ = (paB P)[i]? := HM4.out.cell 0 rfl
  have hpf := pktb_facts HN.out.2.2.1 (side := sd) (k := 0) ⟨by omega, by omega⟩
  obtain ⟨B, hB⟩ : ∃ B, pktb P sd 0 = B := ⟨_, rfl⟩
  obtain ⟨nB, hnB⟩ : ∃ n, B.length = n := ⟨_, rfl⟩
  rw [hB] at hPk hpf
  rw [hnB] at hPk
  have HB : Hid (B.length = nB ∧ IsBytes B ∧ B.length ≤ 65535) := ⟨hnB, hpf⟩
  clear hH2 ho2 hb4 HM3 HO1 hB hnB hpf
  go_wp2_with fail
  refine hPk.mono ?_
  rintro e w5 ⟨u3, rfl, ho3, hb5⟩
  have HM5 : Hid (Mem w w5 [(w.heap.size, .cells (paB P) paT)]) := HM4.out.after hb5
  have HO5 : Hid (w5.ownsRow 0 5 1 u1 nL (L.map (Value.int .u8)) ∧ w5.ownsRow 0 5 1 u2 nL (L.map (Value.int .u8))) := ⟨own_after HO.out.1 hb5 (Nat.le_refl _), own_after HO.out.2 hb5 (Nat.le_refl _)⟩
  obtain ⟨a3, c3, rfl, hr3, hn3, hf3, hc3⟩ := own_read ho3 HB.out.1 HB.out.2.1 (by have := HB.out; omega)
  have HR3 : Hid (∀ W, Below w5.heap.size w5 W → Row W a3 B) := fun W hb => hr3.below hb (Nat.le_refl _)
  have HC3 : Hid (nB ≤ c3) := hc3
  have hH := hop_any hr3 HB.out.1 hc3
  have hof := hopOut_facts HB.out.2.1
  obtain ⟨F, hF⟩ : ∃ E, hopErr B = E := ⟨_, rfl⟩
  obtain ⟨K, hK⟩ : ∃ L, hopOut B = L := ⟨_, rfl⟩
  obtain ⟨nK, hnK⟩ : ∃ n, K.length = n := ⟨_, rfl⟩
  rw [hK] at hof
  have HF : Hid (hopErr B = F ∧ hopOut B = K ∧ K.length = nK ∧ IsBytes K ∧ K.length ≤ 65535) := ⟨hF, hK, hnK, hof.1, hof.2⟩
  rw [hF, hK, hnK] at hH
  clear hPk ho3 hb5 HM4 HO kc hr3 hn3 hf3 hc3 hof hF hK hnK
  go_wp2_with fail
  refine hH.mono ?_
  rintro e w6 ⟨u4, rfl, ho4, hb6⟩
  have HM6 : Hid (Mem w w6 [(w.heap.size, .cells (paB P) paT)]) := HM5.out.after hb6
  have HO6 : Hid (w6.ownsRow 0 5 1 u1 nL (L.map (Value.int .u8)) ∧ w6.ownsRow 0 5 1 u2 nL (L.map (Value.int .u8)) ∧ w6.ownsRow 0 5 1 u4 nK (K.map (Value.int .u8))) := ⟨own_after HO5.out.1 hb6 (Nat.le_refl _), own_after HO5.out.2 hb6 (Nat.le_refl _), own_base ho4 (Nat.zero_le _)⟩
  have hH2 := rhop_any (HR3.out w6 hb6) HB.out.1 HC3.out
  rw [HF.out.1, HF.out.2.1, HF.out.2.2.1] at hH2
  clear hH ho4 hb6 HM5 HO5
  go_wp2_with fail
  refine hH2.mono ?_
  rintro e w7 ⟨u5, rfl, ho5, hb7⟩
  have HB7 : Hid (Below w.heap.size w w7) := (HM6.out.after hb7).below
  obtain ⟨a1, c1, rfl, hr1, -⟩ := own_read (own_after HO6.out.1 hb7 (Nat.le_refl _)) HE.out.2.2.1 HE.out.2.2.2.1 (by have := HE.out; omega)
  obtain ⟨a2, c2, rfl, hr2, -⟩ := own_read (own_after HO6.out.2.1 hb7 (Nat.le_refl _)) HE.out.2.2.1 HE.out.2.2.2.1 (by have := HE.out; omega)
  obtain ⟨a4, c4, rfl, hr4, -⟩ := own_read (own_after HO6.out.2.2 hb7 (Nat.le_refl _)) HF.out.2.2.1 HF.out.2.2.2.1 (by have := HF.out; omega)
  obtain ⟨a5, c5, rfl, hr5, -⟩ := own_read ho5 HF.out.2.2.1 HF.out.2.2.2.1 (by have := HF.out; omega)
  have hh := hbytes_yes hr1 hr2 nL nL HE.out.2.2.1 HE.out.2.2.1 c1 c2
  have hh2 := hbytes_yes hr4 hr5 nK nK HF.out.2.2.1 HF.out.2.2.1 c4 c5
  have HH2 : Hid (Calls Try.prog 10 #[.slice a4 nK c4, .slice a5 nK c5] w7 fun e w' => e = .returned (.bool true) ∧ w7 = w') := hh2
  clear hH2 ho5 hb7 HM6 HO6 hr1 hr2 hr4 hr5 hh2
  go_wp2_with fail
  refine hh.mono ?_
  rintro e w' ⟨rfl, rfl⟩
  clear hh
  go_wp2_with fail
  refine HH2.out.mono ?_
  rintro e w' ⟨rfl, rfl⟩
  go_wp2_with fail
  go_ret
  exact ⟨rfl, HB7.out⟩
end Go.Proofs.Ytjalpbkfpjfigaa
