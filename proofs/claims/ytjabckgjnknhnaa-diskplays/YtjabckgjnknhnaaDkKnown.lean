/-
  lychlaw9.known: a write that is cut off.
-/
import Derived.Test.YtjabckgjnknhnaaDkNew
import Derived.Test.YtjabckgjnknhnaaDkWrite
namespace Go.Proofs.Ytjabckgjnknhnaa
open Go.RowKit
open Sm
set_option linter.unusedVariables false

theorem rep_set (m i : Nat) (x y : Int) (h : i < m) : (List.replicate i x ++ List.replicate (m - i) y).set i x = List.replicate (i + 1) x ++ List.replicate (m - (i + 1)) y := by
  obtain ⟨d, hd⟩ : ∃ d, m - i = d + 1 := ⟨m - i - 1, by omega⟩
  rw [hd, show m - (i + 1) = d by omega, List.replicate_succ, List.set_append_right _ _ (by simp)]
  simp [List.replicate_succ']

theorem rep_bytes (n : Nat) (x : Int) (h0 : 0 ≤ x) (h1 : x ≤ 255) : IsBytes (List.replicate n x) := by
  intro i
  by_cases h : i < n
  · simp [List.getD, h]; omega
  · simp [List.getD, h]

set_option maxRecDepth 20000 in
set_option maxHeartbeats 1000000 in
theorem dknown_any (w : World) : Calls Try.prog 6 #[] w fun e w' => e = .returned (.bool true) ∧ Below w.heap.size w w' := by
  have hN := dnew_any (Mem.nil w) 2 64
  go_enter Try.func6, Try.ntmps6
  go_wp2_with fail
  refine hN.mono ?_
  rintro e w1 ⟨p, rfl, h, hc, ks, H, hB⟩
  have hlen : ks.length = 2 := by
    have := congrArg List.length hB
    rw [List.length_map, List.length_replicate] at this
    rw [this]; decide
  rw [show (bd 64 64 65536).toNat = 64 by decide] at H hB
  have hb := dblocks_any H
  rw [hlen] at hb
  have hs := dsize_any H
  clear hN
  have HB : Hid (ks.map Bk.b = List.replicate (bd 2 1 64).toNat (List.replicate 64 0)) := hB
  have HH : Hid (DkAt w w1 p h 64 ⟨false, false, 0, 0⟩ hc ks []) := H
  have HL : Hid (ks.length = 2) := hlen
  clear H hB hlen
  go_wp2_with fail
  refine hb.mono ?_
  rintro e w' ⟨rfl, rfl⟩
  go_wp2_with fail
  refine hs.mono ?_
  rintro e w' ⟨rfl, rfl⟩
  clear hb hs
  have hM := make_bytes 64 (by omega) w1
  have hk : Mem w1 (w1.alloc (.cells (madeCells #[.int .u8 0] 64) 5)) [(w1.heap.size, .cells (bs (List.replicate 64 0)) 5 (0, 0))] := by rw [← bs_made]; exact (Mem.nil w1).push1 rfl
  have hst := HH.out.st.join hk
  generalize w1.alloc (.cells (madeCells #[.int .u8 0] 64) 5) = w2 at hM hk hst
  generalize w1.heap.size = g at hM hk hst
  have hM2 : (Instr.makeSlice 31 (.int .i64 64) (.int .i64 64)).run Try.prog w1 = .ok (.slice (some ⟨g, 0, none⟩) 64 64) w2 := hM
  clear hM hk
  have b7 : ∀ i j : Nat, IsBytes (List.replicate i 7 ++ List.replicate j 0) := fun i j => bytes_append (rep_bytes i 7 (by omega) (by omega)) (rep_bytes j 0 (by omega) (by omega))
  go_upto_region 6 with fail
  go_loopw [3] (fun v wr => ∃ i : Nat, i ≤ 64 ∧ v = .int .i64 i ∧ St w wr p (dkA h ks.length ⟨false, false, 0, 0⟩) dkT h 64 hc ks [(g, .cells (bs (List.replicate i 7 ++ List.replicate (64 - i) 0)) 5 (0, 0))]) (fun v _ => 64 - (intOf v).toNat)
  case atStart => exact ⟨0, by omega, rfl, hst⟩
  case round =>
    obtain ⟨i, hi, rfl, hs⟩ := hrel
    by_cases hlt : i < 64
    · have HE : Hid (bs ((List.replicate i (7 : Int) ++ List.replicate (64 - i) 0).set i 7) = bs (List.replicate (i + 1) 7 ++ List.replicate (64 - (i + 1)) 0)) := by rw [rep_set 64 i 7 0 hlt]; exact rfl
      have c0 := hs.extraCell i
      rw [bs_get (by simp; omega)] at c0
      have f0 := hs.extraFree i
      have hn := hs.extraSet i (.int .u8 7)
      rw [bs_set] at hn
      have HS : Hid _ := hn
      have q0 : (i : Int) < 64 := by omega
      generalize (List.replicate i (7 : Int) ++ List.replicate (64 - i) 0).getD i 0 = z at c0
      clear hs hst hn b7
      go_wp2
      go_roundw
      case rel => exact ⟨i + 1, by omega, by go_num, by rw [← HE.out]; exact HS.out⟩
      case measure => simp [intOf]; omega
    · obtain rfl : i = 64 := by omega
      have HS : Hid (St w wr p (dkA h ks.length ⟨false, false, 0, 0⟩) dkT h 64 hc ks [(g, .cells (bs (List.replicate 64 7)) 5 (0, 0))]) := hs
      clear hs hst hlt hi b7
      have H0 : DkAt w wr p h 64 ⟨false, false, 0, 0⟩ hc ks [(g, .cells (bs (List.replicate 64 7)) 5 (0, 0))] := ⟨HS.out, HH.out.pos, HH.out.top, by omega, by omega, by decide, by decide⟩
      have h7 : IsBytes (List.replicate 64 7) := rep_bytes 64 7 (by omega) (by omega)
      have hl7 : (List.replicate 64 (7 : Int)).length = 64 := by simp
      have HR : Hid (∀ W D ks, St w W p (dkA h ks.length D) dkT h 64 hc ks [(g, .cells (bs (List.replicate 64 7)) 5 (0, 0))] → Row W (some ⟨g, 0, none⟩) (List.replicate 64 7)) := fun W D ks hs => hs.extraRow h7 (by rw [hl7]; omega)
      have H7 : Hid ((List.replicate 64 (7 : Int)).length = 64) := hl7
      have hcut := dcut_any H0 0 3 (by omega)
      clear H0 HS h7 hl7
      go_wp2_with fail
      refine hcut.mono ?_
      rintro e w3 ⟨rfl, H1⟩
      rw [show (⟨false, true, max 0 0, bd 3 0 (64 : Nat)⟩ : Dk) = ⟨false, true, 0, 3⟩ by rfl] at H1
      have hw1 := dwrite_any H1 H7.out (HR.out _ _ _ H1.st) (cap := 64) (by omega) 1
      rw [HL.out] at hw1
      clear hcut H1
      go_wp2_with fail
      refine hw1.mono ?_
      rintro e w4 ⟨rfl, ks2, H2, hB2⟩
      have e2 : wErr ⟨false, true, 0, 3⟩ 2 64 1 64 = 42 := by decide
      rw [show wD ⟨false, true, 0, 3⟩ 2 64 1 64 = ⟨true, false, 0, 0⟩ by rfl] at H2
      have hL2 : ks2.length = 2 := by
        have := congrArg List.length hB2
        rw [List.length_map] at this
        rw [this, HB.out]; rfl
      have HB2 : Hid (ks2.map Bk.b = [List.replicate 64 0, List.replicate 3 7 ++ List.replicate 61 0]) := by rw [hB2, HB.out]; rfl
      have hw2 := dwrite_any H2 H7.out (HR.out _ _ _ H2.st) (cap := 64) (by omega) 1
      rw [hL2] at hw2
      clear hw1 hB2 H2
      rw [e2]
      go_wp2_with fail
      refine hw2.mono ?_
      rintro e w5 ⟨rfl, ks3, H3, hB3⟩
      have e3 : wErr ⟨true, false, 0, 0⟩ 2 64 1 64 = 42 := by decide
      rw [show wD ⟨true, false, 0, 0⟩ 2 64 1 64 = ⟨true, false, 0, 0⟩ by rfl] at H3
      have HB3 : Hid (ks3.map Bk.b = [List.replicate 64 0, List.replicate 3 7 ++ List.replicate 61 0]) := by rw [hB3, HB2.out]; rfl
      have hd := ddead_any H3
      have hp := dpower_any H3
      clear hw2 hB3 H3 HB2 hL2
      rw [e3]
      go_wp2_with fail
      refine hd.mono ?_
      rintro e w' ⟨rfl, rfl⟩
      go_wp2_with fail
      refine hp.mono ?_
      rintro e w6 ⟨rfl, H4⟩
      obtain ⟨k, hk, hkb⟩ : ∃ k, ks3[1]? = some k ∧ k.b = List.replicate 3 7 ++ List.replicate 61 0 := by
        have := congrArg (fun l => l[1]?) HB3.out
        simp only [List.getElem?_map] at this
        obtain ⟨k, hk, e⟩ := Option.map_eq_some_iff.mp this
        exact ⟨k, hk, e⟩
      have hr := dread_yes H4 1 hk rfl
      have HBl : Hid (Below w.heap.size w w6) := H4.st.below
      have HK : Hid (k.b = List.replicate 3 7 ++ List.replicate 61 0) := hkb
      clear hd hp H4 hk hkb
      go_wp2_with fail
      refine hr.mono ?_
      rintro e w7 ⟨g7, rfl, hm7⟩
      have c2 : w7.cell? ⟨g7, 2, none⟩ = some (.int .u8 7) := by rw [hm7.cell 0 rfl, HK.out]; rfl
      have c3 : w7.cell? ⟨g7, 3, none⟩ = some (.int .u8 0) := by rw [hm7.cell 0 rfl, HK.out]; rfl
      have HB7 : Hid (Below w.heap.size w w7) := HBl.out.trans (hm7.below.mono HBl.out.size)
      clear hr hm7 HK HBl
      go_wp2
      go_ret
      exact ⟨by simp, HB7.out⟩
end Go.Proofs.Ytjabckgjnknhnaa
