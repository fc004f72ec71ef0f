/-
  Addresses of version 4 as text: the document's own Ip, at every text.
-/
import Derived.Test.YtkkbnagfndphpaaDoorAdIp
namespace Go.Proofs.YtkkbnagfndphpaaDoor
open Go.RowKit
open Ad
set_option linter.unusedVariables false

set_option maxHeartbeats 4000000 in
set_option maxRecDepth 20000 in
theorem rip_any (w : World) (s : ByteArray) (hs : s.size ≤ 1000) :
    Calls Tryd.prog 10 #[.string s] w fun e w' => e = .returned (.tuple #[.int .u32 (nv (ip s.data.toList)), .int .i64 (ne (ip s.data.toList))]) ∧ Below w.heap.size w w' := by
  have cS : Calls Tryd.prog 27 #[.string s, .int .u8 46] w _ := rparts_any s 46 hs w
  unfold ip
  have hpl := cut_part_len 46 s.data.toList
  generalize hA : cut 46 s.data.toList = A at cS hpl ⊢
  by_cases h4 : A.length = 4
  · rw [if_pos h4]
    obtain ⟨R, hR⟩ : ∃ R, ipGo 0 A = R := ⟨_, rfl⟩
    rw [hR]
    go_enter Tryd.func10, Tryd.ntmps10
    go_wp2_with fail
    refine cS.mono ?_
    rintro e w1 ⟨g, cap, rfl, hcap, hcells, hb1⟩
    have hb1s := hb1.size
    rw [h4] at hcap ⊢
    have hcz : (4 : Int) ≤ cap := by omega
    go_wp2_with fail
    go_loopw [5, 6] (fun v jj w' => ∃ (j n : Nat), v = .int .u32 n ∧ jj = .int .i64 j ∧ j ≤ 4 ∧ n < 256 ^ j ∧ ipGo n (A.drop j) = R ∧ w' = w1) (fun _ jj _ => 4 - (intOf jj).toNat)
    case atStart => exact ⟨0, 0, rfl, rfl, by omega, by simp, by simpa using hR, rfl⟩
    case round =>
      obtain ⟨j, n, rfl, rfl, hj4, hn, hc, rfl⟩ := hrel
      by_cases hj : j < 4
      · have hjz : (j : Int) < 4 := by omega
        have e7 : IntKind.i64.wrap ((j : Int) + 1) = (j : Int) + 1 := wrap64 (by omega) (by omega)
        obtain ⟨x, hx⟩ : ∃ x, A[j]? = some x := ⟨A[j]'(by omega), List.getElem?_eq_getElem (by omega)⟩
        have hcell := hcells j x hx
        have hxl : (⟨x.toArray⟩ : ByteArray).size ≤ 1000 := by
          have := hpl x (List.mem_of_getElem? hx)
          rw [text_len] at this
          show x.toArray.size ≤ 1000
          simp; omega
        rw [drop_at hx] at hc
        have cN := rnum_any ⟨x.toArray⟩ 255 (by omega) (by omega)
        have hxx : (⟨x.toArray⟩ : ByteArray).data.toList = x := by simp
        rw [hxx] at cN
        clear hcells hpl hx hA hxx
        cases hnum : num x 255 with
        | none =>
          rw [ipGo_stop hnum] at hc
          subst hc
          rw [hnum, nv_none, ne_none] at cN
          generalize (⟨x.toArray⟩ : ByteArray) = X at cN hcell
          go_wp2_with fail
          refine (cN _).mono ?_
          rintro e w' ⟨rfl, rfl⟩
          go_wp2_with fail
          exact bodyPost_ret (v := .tuple #[.int .u32 0, .int .i64 60]) (by simp [results, Tryd.results10, go_sem]) rfl ⟨rfl, hb1⟩
        | some b =>
          rw [ipGo_on hnum] at hc
          rw [hnum, nv_some, ne_some] at cN
          have hb255 := num_le hnum
          obtain ⟨k1, k2⟩ := pow_next hj hn hb255
          have hmod : (n : Int) * 256 % 4294967296 = (n : Int) * 256 := by omega
          have hor : bits .or .u32 ((n : Int) * 256) (b : Int) = (n : Int) * 256 + b :=
            bits_join .u32 32 (by decide) (fun n h0 h1 => wrap32u h0 (by omega)) 8 ((n : Int) * 256) b (by omega) (by omega) (by omega) (by omega) (by omega) (by omega)
          clear hnum
          generalize (⟨x.toArray⟩ : ByteArray) = X at cN hcell
          go_wp2_with fail
          refine (cN _).mono ?_
          rintro e w' ⟨rfl, rfl⟩
          go_wp2_with fail
          go_roundw
          case rel => exact ⟨j + 1, n * 256 + b, by congr 1, by first | rfl | trivial, by omega, k2, hc, by first | rfl | trivial⟩
          case measure => simp [intOf]; omega
      · have hjz : ¬ (j : Int) < 4 := by omega
        have hnil : A.drop j = [] := List.drop_eq_nil_of_le (by omega)
        rw [hnil] at hc
        subst hc
        go_wp2_with fail
        exact bodyPost_ret (v := .tuple #[.int .u32 n, .int .i64 0]) (by simp [results, Tryd.results10, go_sem]) rfl ⟨rfl, hb1⟩
  · rw [if_neg h4]
    go_enter Tryd.func10, Tryd.ntmps10
    go_wp2_with fail
    refine cS.mono ?_
    rintro e w1 ⟨g, cap, rfl, hcap, hcells, hb1⟩
    have hlz : (((A.length : Nat) : Int) != 4) = true := by simp; omega
    go_wp2_with fail
    exact bodyPost_ret (v := .tuple #[.int .u32 0, .int .i64 60]) (by simp [results, Tryd.results10, go_sem]) rfl ⟨rfl, hb1⟩
end Go.Proofs.YtkkbnagfndphpaaDoor
