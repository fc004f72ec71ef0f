/-
  The statements' seat: what lychseat.body answers: a datagram, a segment, an echo.
-/
import Derived.Test.YtjalpbkfpjfigaaGreatRwSeat
import Derived.Test.YtjalpbkfpjfigaaGreatUdpSum
import Derived.Test.YtjalpbkfpjfigaaGreatUdpRef
import Derived.Test.YtjalpbkfpjfigaaGreatTcpSum
import Derived.Test.YtjalpbkfpjfigaaGreatTcpRefBytes
import Derived.Test.YtjalpbkfpjfigaaGreatIcmpSum
import Derived.Test.YtjalpbkfpjfigaaGreatIcmpRefBytes
import Derived.Lib.SlBytesConst
namespace Go.Proofs.YtjalpbkfpjfigaaGreat
open Go.RowKit
open Sm
set_option linter.unusedVariables false
set_option maxRecDepth 20000

namespace Sm
def abc : List Int := [97, 98, 99, 100, 101, 102, 103, 104, 105, 106, 107, 108, 109, 110, 111, 112]
def dat (n : Int) : List Int := abc.take (n % 16).toNat
def and8 (x k : Int) : Int := bits .and .u8 x k
theorem and_all : ∀ n : Fin 256, 0 ≤ bits .and .u8 (n.val : Int) 23 ∧ bits .and .u8 (n.val : Int) 23 ≤ 255 := by decide +kernel
theorem and23_range {n : Int} (h0 : 0 ≤ n) (h1 : n ≤ 255) : 0 ≤ and8 n 23 ∧ and8 n 23 ≤ 255 := by
  have := and_all ⟨n.toNat, by omega⟩
  simp only at this
  rw [show ((n.toNat : Nat) : Int) = n by omega] at this
  exact this
theorem abc_bytes : IsBytes abc := by
  unfold abc
  repeat (first | exact bytes_nil | refine bytes_cons ⟨by decide, by decide⟩ ?_)
theorem dat_bytes (n : Int) : IsBytes (dat n) := by
  have := bytes_part abc_bytes 0 (n % 16).toNat
  simpa [dat] using this
theorem dat_len (n : Int) (h : 0 ≤ n) : (dat n).length = (n % 16).toNat := by
  unfold dat
  rw [List.length_take]
  have : abc.length = 16 := rfl
  omega
/-- The datagram, the segment, the echo. -/
def bdDg (src dst fr tp flags n : Int) : Dg := if and8 flags 64 = 0 then (Dg.mk fr tp 0 (dat n)).at (usum src dst ⟨fr, tp, 0, dat n⟩) else ⟨fr, tp, 0, dat n⟩
def bdSg0 (fr tp flags n : Int) : Sg := ⟨fr, tp, n, 0, and8 flags 23, 9, 0, 0, if and8 n 32 ≠ 0 then [1, 1, 1, 0] else [], dat n⟩
def bdSg (src dst fr tp flags n : Int) : Sg := (bdSg0 fr tp flags n).at (tsum src dst (bdSg0 fr tp flags n))
def bdMg (fr flags n : Int) : Mg := msl ⟨if and8 flags 1 ≠ 0 then 0 else 8, 0, 0, fr * 65536 + n, dat n⟩
def bodyb (pr src dst fr tp flags n : Int) : List Int := if pr = 17 then udOut (bdDg src dst fr tp flags n) else if pr = 6 then tcOut (bdSg src dst fr tp flags n) else mgOut (bdMg fr flags n)
end Sm

theorem Mem.first' {w W : World} {p : Nat × Obj} {L : List (Nat × Obj)} (h : Mem w W (p :: L)) : Mem w W [p] :=
  ⟨h.below, fun q hq => h.low q (by simp at hq; simp [hq]), fun q hq => h.at_ q (by simp at hq; simp [hq]), by simp⟩
/-- The constant text's bytes: marked behind their end. -/
abbrev abcO : Obj := .cells (bs abc) 5 (16, 17)
theorem dat_row {w W : World} {g i : Nat} {L : List (Nat × Obj)} (hM : Mem w W L) (hi : L[i]? = some (g, abcO)) (n : Int) (h0 : 0 ≤ n) : Row W (some ⟨g, 0, none⟩) (dat n) := by
  have hr : Row W (some ⟨g, 0, none⟩) abc := ⟨abc_bytes, by decide, Or.inr ⟨g, 0, rfl, fun j hj => by rw [cell_of_row W g (0 + j) (bs abc) 5 (16, 17) (hM.get i hi), Nat.zero_add]; exact bs_get hj⟩⟩
  have hr := hr.part 0 (n % 16).toNat (by have : abc.length = 16 := rfl; omega)
  simpa [dat] using hr
theorem abc_conv (w : World) : (Go.convert 22 22 (.slice (some ⟨w.heap.size, 0, none⟩) 16 16) : Sem Value).run Tryz.prog (w.alloc (.cells (bs abc) 5)) = .ok (.slice (some ⟨w.heap.size, 0, none⟩) 16 16) (w.alloc abcO) :=
  Go.Lib.run_convert_bytes_const w 22 5 (bs abc) 16 16 Tryz.underlying22 Tryz.underlying5

set_option maxHeartbeats 2000000 in
theorem body_icmp (w : World) (src dst fr tp flags n : Int) (hf : 0 ≤ fr ∧ fr ≤ 65535) (hn : 0 ≤ n ∧ n ≤ 255) :
    Calls Tryz.prog 23 #[.int .u8 1, .int .u32 src, .int .u32 dst, .int .u16 fr, .int .u16 tp, .int .u8 flags, .int .u8 n] w fun e w' => ∃ u, e = .returned u ∧ w'.ownsRow w.heap.size 5 1 u (mgOut (bdMg fr flags n)).length ((mgOut (bdMg fr flags n)).map (Value.int .u8)) ∧ Below w.heap.size w w' := by
  have hor := sm_long fr n hf.1 hf.2 hn.1 (by omega)
  have v0 := wrap32_small fr hf.1 (by omega)
  have v1 := wrap32_small (fr * 65536) (by omega) (by omega)
  have v2 := wrap32_small n hn.1 (by omega)
  have k0 : (0 : Int) ≤ n % 16 := by omega
  have k1 : n % 16 ≤ (16 : Int) := by omega
  have HD : Hid (∀ t, (Mg.mk t 0 0 (fr * 65536 + n) (dat n)).body.length = (n % 16).toNat) := fun t => dat_len n hn.1
  have HK : Hid (∀ t, t = 8 ∨ t = 0 → (Mg.mk t 0 0 (fr * 65536 + n) (dat n)).Ok) := fun t ht => ⟨by simp only; omega, by simp only; omega, by simp only; omega, by simp only; omega, dat_bytes n⟩
  have HM0 : Hid (Mem w (w.alloc abcO) [(w.heap.size, abcO)]) := (Mem.nil w).push1 rfl
  have HR : Hid (∀ (W : World) (L : List (Nat × Obj)) (i : Nat), Mem w W L → L[i]? = some (w.heap.size, abcO) → Row W (some ⟨w.heap.size, 0, none⟩) (dat n)) := fun W L i hM hi => dat_row hM hi n hn.1
  have hbf : bits .and .u8 flags 1 = and8 flags 1 := rfl
  have HB : Hid (bdMg fr flags n = msl ⟨if and8 flags 1 ≠ 0 then 0 else 8, 0, 0, fr * 65536 + n, dat n⟩) := rfl
  generalize bdMg fr flags n = R at *
  generalize and8 flags 1 = B1 at *
  generalize hr : fr * 65536 + n = rest at *
  generalize hk : (n % 16).toNat = k at *
  have n0 := hn.1
  clear hr hf hn
  have fin : ∀ (t : Int), (t = 8 ∨ t = 0) → ∀ W, Mem w W [(w.heap.size, abcO)] → MgV W 0 (.agg (mgA t 0 0 rest (.slice (some ⟨w.heap.size, 0, none⟩) k 16))) ⟨t, 0, 0, rest, dat n⟩ := fun t _ W hM =>
    ⟨some ⟨w.heap.size, 0, none⟩, 16, by rw [HD.out t], HR.out W _ 0 hM rfl, fun e => (by cases e), fun x hx => Nat.zero_le _⟩
  have HFin : Hid _ := fin
  clear fin HR
  have hcv := abc_conv w
  simp only [bs, abc, List.map_cons, List.map_nil] at hcv
  go_enter Tryz.func23, Tryz.ntmps23
  go_upto_region 2 with fail
  refine wp_letter (fun W => Mem w W [(w.heap.size, abcO)]) HM0.out ?_
  intro w1 hM1
  have HM1 : Hid _ := hM1
  clear hM1 HM0
  by_cases hb : B1 = 0
  · have HB2 : Hid (R = msl ⟨8, 0, 0, rest, dat n⟩) := by show _ = _; rw [HB.out, if_neg (by simp [hb])]
    clear HB
    go_upto_region 17 with fail
    refine wp_letter (fun W => Mem w W [(w.heap.size, abcO), (w1.heap.size, .cells (mgA 8 0 0 rest (.slice (some ⟨w.heap.size, 0, none⟩) k 16)) mgT (0, 0))]) (HM1.out.push2 rfl) ?_
    intro w2 hM2
    have HM2 : Hid _ := hM2
    have kc : ∀ i, w2.cell? ⟨w1.heap.size, i, none⟩ = (mgA 8 0 0 rest (.slice (some ⟨w.heap.size, 0, none⟩) k 16))[i]? := hM2.cell 1 rfl
    have hv2 := HFin.out 8 (Or.inl rfl) w2 hM2.first'
    have hS := rmsum_any (HK.out 8 (Or.inl rfl)) hv2
    have hSr := msum_range ⟨8, 0, 0, rest, dat n⟩
    obtain ⟨S, hSe⟩ : ∃ S, msum ⟨8, 0, 0, rest, dat n⟩ = S := ⟨_, rfl⟩
    have HRS : Hid (R = ⟨8, 0, S, rest, dat n⟩ ∧ 0 ≤ S ∧ S ≤ 65535) := ⟨by rw [HB2.out, ← hSe]; rfl, by rw [← hSe]; exact hSr.1, by rw [← hSe]; exact hSr.2⟩
    rw [hSe] at hS
    clear hM2 hv2 HM1 hSr hSe HB2
    generalize w1.heap.size = G at *
    go_wp2_with fail
    refine hS.mono ?_
    rintro e w3 ⟨rfl, hb3⟩
    have hM3 := HM2.out.after hb3
    have HM3 : Hid _ := hM3
    clear kc hS hb3 HM2
    have kc : ∀ i, w3.cell? ⟨G, i, none⟩ = (mgA 8 0 0 rest (.slice (some ⟨w.heap.size, 0, none⟩) k 16))[i]? := hM3.cell 1 rfl
    have kf : ∀ i, w3.frozen? ⟨G, i, none⟩ = false := hM3.free 1 rfl
    clear hM3
    go_upto_region 20 with fail
    refine wp_letter (fun W => Mem w W [(w.heap.size, abcO), (G, .cells (mgA 8 0 S rest (.slice (some ⟨w.heap.size, 0, none⟩) k 16)) mgT (0, 0))]) (HM3.out.set 1 rfl 2 _) ?_
    intro w4 hM4
    have HM4 : Hid _ := hM4
    clear kc kf HM3
    have kc : ∀ i, w4.cell? ⟨G, i, none⟩ = (mgA 8 0 S rest (.slice (some ⟨w.heap.size, 0, none⟩) k 16))[i]? := hM4.cell 1 rfl
    have hv4 : MgV w4 0 (.agg (mgA 8 0 S rest (.slice (some ⟨w.heap.size, 0, none⟩) k 16))) ⟨8, 0, S, rest, dat n⟩ := by
      obtain ⟨bo, cb, e, h⟩ := HFin.out 8 (Or.inl rfl) w4 hM4.first'
      simp only [mgA, Value.agg.injEq, Array.mk.injEq, List.cons.injEq, true_and, and_true, Value.slice.injEq] at e
      obtain ⟨rfl, rfl, rfl⟩ := e
      exact ⟨_, _, rfl, h⟩
    have hB := rmbytes_any ((HK.out 8 (Or.inl rfl)).at HRS.out.2.1 HRS.out.2.2) hv4
    rw [show (Mg.mk 8 0 0 rest (dat n)).at S = R from HRS.out.1.symm] at hB
    clear hM4 hv4
    go_wp2_with fail
    refine hB.mono ?_
    rintro e w5 ⟨x, rfl, hown, hb5⟩
    have HB5 : Hid _ := HM4.out.below.trans (hb5.mono HM4.out.below.size)
    have HU : Hid _ := own_base hown HM4.out.below.size
    clear hown hb5 hB kc
    go_wp2_with fail
    go_ret
    exact ⟨_, rfl, HU.out, HB5.out⟩
  · have HB2 : Hid (R = msl ⟨0, 0, 0, rest, dat n⟩) := by show _ = _; rw [HB.out, if_pos hb]
    clear HB
    go_upto_region 17 with fail
    refine wp_letter (fun W => Mem w W [(w.heap.size, abcO), (w1.heap.size, .cells (mgA 8 0 0 rest (.slice (some ⟨w.heap.size, 0, none⟩) k 16)) mgT (0, 0))]) (HM1.out.push2 rfl) ?_
    intro w2 hM2
    have HM9 : Hid _ := hM2
    have kc : ∀ i, w2.cell? ⟨w1.heap.size, i, none⟩ = (mgA 8 0 0 rest (.slice (some ⟨w.heap.size, 0, none⟩) k 16))[i]? := hM2.cell 1 rfl
    have kf : ∀ i, w2.frozen? ⟨w1.heap.size, i, none⟩ = false := hM2.free 1 rfl
    clear hM2 HM1
    generalize w1.heap.size = G at *
    go_upto_region 19 with fail
    refine wp_letter (fun W => Mem w W [(w.heap.size, abcO), (G, .cells (mgA 0 0 0 rest (.slice (some ⟨w.heap.size, 0, none⟩) k 16)) mgT (0, 0))]) (HM9.out.set 1 rfl 0 _) ?_
    clear kc kf HM9
    intro w2 hM2
    have HM2 : Hid _ := hM2
    have kc : ∀ i, w2.cell? ⟨G, i, none⟩ = (mgA 0 0 0 rest (.slice (some ⟨w.heap.size, 0, none⟩) k 16))[i]? := hM2.cell 1 rfl
    have hv2 := HFin.out 0 (Or.inr rfl) w2 hM2.first'
    have hS := rmsum_any (HK.out 0 (Or.inr rfl)) hv2
    have hSr := msum_range ⟨0, 0, 0, rest, dat n⟩
    obtain ⟨S, hSe⟩ : ∃ S, msum ⟨0, 0, 0, rest, dat n⟩ = S := ⟨_, rfl⟩
    have HRS : Hid (R = ⟨0, 0, S, rest, dat n⟩ ∧ 0 ≤ S ∧ S ≤ 65535) := ⟨by rw [HB2.out, ← hSe]; rfl, by rw [← hSe]; exact hSr.1, by rw [← hSe]; exact hSr.2⟩
    rw [hSe] at hS
    clear hM2 hv2 hSr hSe HB2
    go_wp2_with fail
    refine hS.mono ?_
    rintro e w3 ⟨rfl, hb3⟩
    have hM3 := HM2.out.after hb3
    have HM3 : Hid _ := hM3
    clear kc hS hb3 HM2
    have kc : ∀ i, w3.cell? ⟨G, i, none⟩ = (mgA 0 0 0 rest (.slice (some ⟨w.heap.size, 0, none⟩) k 16))[i]? := hM3.cell 1 rfl
    have kf : ∀ i, w3.frozen? ⟨G, i, none⟩ = false := hM3.free 1 rfl
    clear hM3
    go_upto_region 20 with fail
    refine wp_letter (fun W => Mem w W [(w.heap.size, abcO), (G, .cells (mgA 0 0 S rest (.slice (some ⟨w.heap.size, 0, none⟩) k 16)) mgT (0, 0))]) (HM3.out.set 1 rfl 2 _) ?_
    intro w4 hM4
    have HM4 : Hid _ := hM4
    clear kc kf HM3
    have kc : ∀ i, w4.cell? ⟨G, i, none⟩ = (mgA 0 0 S rest (.slice (some ⟨w.heap.size, 0, none⟩) k 16))[i]? := hM4.cell 1 rfl
    have hv4 : MgV w4 0 (.agg (mgA 0 0 S rest (.slice (some ⟨w.heap.size, 0, none⟩) k 16))) ⟨0, 0, S, rest, dat n⟩ := by
      obtain ⟨bo, cb, e, h⟩ := HFin.out 0 (Or.inr rfl) w4 hM4.first'
      simp only [mgA, Value.agg.injEq, Array.mk.injEq, List.cons.injEq, true_and, and_true, Value.slice.injEq] at e
      obtain ⟨rfl, rfl, rfl⟩ := e
      exact ⟨_, _, rfl, h⟩
    have hB := rmbytes_any ((HK.out 0 (Or.inr rfl)).at HRS.out.2.1 HRS.out.2.2) hv4
    rw [show (Mg.mk 0 0 0 rest (dat n)).at S = R from HRS.out.1.symm] at hB
    clear hM4 hv4
    go_wp2_with fail
    refine hB.mono ?_
    rintro e w5 ⟨x, rfl, hown, hb5⟩
    have HB5 : Hid _ := HM4.out.below.trans (hb5.mono HM4.out.below.size)
    have HU : Hid _ := own_base hown HM4.out.below.size
    clear hown hb5 hB kc
    go_wp2_with fail
    go_ret
    exact ⟨_, rfl, HU.out, HB5.out⟩
end Go.Proofs.YtjalpbkfpjfigaaGreat
