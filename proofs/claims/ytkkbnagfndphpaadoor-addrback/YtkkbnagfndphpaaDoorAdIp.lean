/-
  Addresses of version 4 as text: the program's Ip and the document's own, at every text.
-/
import Derived.Test.YtkkbnagfndphpaaDoorAdLib
import Derived.Test.YtkkbnagfndphpaaDoorAdNumRef
import Derived.Test.YtkkbnagfndphpaaDoorAdParts
namespace Go.Proofs.YtkkbnagfndphpaaDoor
open Go.RowKit
open Ad
set_option linter.unusedVariables false

namespace Ad
def ipGo : Nat → List (List UInt8) → Option Nat
  | n, [] => some n
  | n, p :: r => match num p 255 with
    | none => none
    | some b => ipGo (n * 256 + b) r
def ip (s : List UInt8) : Option Nat := if (cut 46 s).length = 4 then ipGo 0 (cut 46 s) else none
theorem ipGo_stop {n : Nat} {p : List UInt8} {r : List (List UInt8)} (h : num p 255 = none) : ipGo n (p :: r) = none := by rw [ipGo, h]
theorem ipGo_on {n b : Nat} {p : List UInt8} {r : List (List UInt8)} (h : num p 255 = some b) : ipGo n (p :: r) = ipGo (n * 256 + b) r := by rw [ipGo, h]
theorem pow_next {n j b : Nat} (hj : j < 4) (h : n < 256 ^ j) (hb : b ≤ 255) : n ≤ 16777215 ∧ n * 256 + b < 256 ^ (j + 1) := by
  have h1 : 256 ^ j ≤ 256 ^ 3 := Nat.pow_le_pow_right (by omega) (by omega)
  have h2 : (256 : Nat) ^ 3 = 16777216 := by decide
  rw [Nat.pow_succ]
  omega
theorem drop_at {α : Type} {l : List α} {j : Nat} {x : α} (h : l[j]? = some x) : l.drop j = x :: l.drop (j + 1) := by
  obtain ⟨hl, e⟩ := List.getElem?_eq_some_iff.1 h
  rw [List.drop_eq_getElem_cons hl, e]
theorem cut_part_len (c : UInt8) : ∀ (l : List UInt8) (p : List UInt8), p ∈ cut c l → p.length ≤ l.length
  | [], p, h => by simp only [cut, List.mem_singleton] at h; subst h; simp
  | x :: l, p, h => by
    rw [cut] at h
    split at h
    · rcases List.mem_cons.1 h with rfl | h
      · simp
      · have := cut_part_len c l p h; simp only [List.length_cons]; omega
    · split at h
      · simp only [List.mem_singleton] at h; subst h; simp
      · rename_i q r e
        rcases List.mem_cons.1 h with rfl | h
        · have := cut_part_len c l q (by rw [e]; simp); simp only [List.length_cons]; omega
        · have := cut_part_len c l p (by rw [e]; simp [h]); simp only [List.length_cons]; omega
end Ad

set_option maxHeartbeats 4000000 in
set_option maxRecDepth 20000 in
/-- Ip of package addr. -/
theorem ip_any {w : World} (hV : Vs w) (s : ByteArray) (hs : s.size ≤ 1000) :
    Calls Tryd.prog 9 #[.string s] w fun e w' => e = .returned (.tuple #[.int .u32 (nv (ip s.data.toList)), .int .i64 (ne (ip s.data.toList))]) ∧ Below w.heap.size w w' := by
  have cS := split_any hV s 46 5 4 (by omega) (by omega) (by omega) 5 rfl
  unfold ip
  by_cases hcut : (cut 46 s.data.toList).length = 4
  · rw [if_pos hcut]
    obtain ⟨R, hR⟩ : ∃ R, ipGo 0 (cut 46 s.data.toList) = R := ⟨_, rfl⟩
    rw [hR]
    go_enter Tryd.func9, Tryd.ntmps9
    go_wp2_with fail
    refine cS.mono ?_
    rintro e w1 ⟨P, cap, rfl, hcap, hcells, hb1, hsp⟩
    obtain ⟨h4, hmap⟩ : P.length = 4 ∧ P.map (·.data.toList) = cut 46 s.data.toList := by
      rcases hsp with ⟨a, b, _⟩ | ⟨_, c⟩
      · exact ⟨a, b⟩
      · exact absurd hcut c
    clear hsp
    rw [h4] at hcap ⊢
    have hPs : ∀ (j : Nat) x, P[j]? = some x → (cut 46 s.data.toList)[j]? = some x.data.toList := by
      intro j x hj
      rw [← hmap, List.getElem?_map, hj]; rfl
    have hb1s := hb1.size
    obtain ⟨g, hg⟩ : ∃ g, w.heap.size = g := ⟨_, rfl⟩
    rw [hg] at hcells
    simp only [hg]
    go_wp2_with fail
    go_loopw [5, 17] (fun v jj w' => ∃ (j n : Nat), v = .int .u32 n ∧ jj = .int .i64 j ∧ j ≤ 4 ∧ n < 256 ^ j ∧ ipGo n ((cut 46 s.data.toList).drop j) = R ∧ Below w1.heap.size w1 w') (fun _ jj _ => 4 - (intOf jj).toNat)
    case atStart => exact ⟨0, 0, rfl, rfl, by omega, by simp, by simpa using hR, Below.refl _ _⟩
    case round =>
      obtain ⟨j, n, rfl, rfl, hj4, hn, hc, hbr⟩ := hrel
      have hbw : Below w.heap.size w wr := hb1.trans (hbr.mono hb1s)
      by_cases hj : j < 4
      · have hjz : (j : Int) < 4 := by omega
        have e7 : IntKind.i64.wrap ((j : Int) + 1) = (j : Int) + 1 := wrap64 (by omega) (by omega)
        obtain ⟨x, hx⟩ : ∃ x, P[j]? = some x := ⟨P[j]'(by omega), List.getElem?_eq_getElem (by omega)⟩
        have hcx := hPs j x hx
        have hc1 := hcells j x hx
        have hcell : wr.cell? ⟨g, j, none⟩ = some (.string x) := (hbr.cell (cell_in hc1)).trans hc1
        have hxl : x.size ≤ 1000 := by
          have := cut_part_len 46 _ _ (List.mem_of_getElem? hcx)
          rw [text_len, text_len] at this; omega
        rw [drop_at hcx] at hc
        have cN := num_any x 255 (by omega) (by omega)
        have hnb := nv_bounds x.data.toList 255
        clear hc1 hcx hx hPs hcells
        cases hnum : num x.data.toList 255 with
        | none =>
          rw [ipGo_stop hnum] at hc
          subst hc
          rw [hnum, nv_none, ne_none] at cN
          go_wp2_with fail
          refine (cN _).mono ?_
          rintro e w' ⟨rfl, hbn⟩
          go_wp2_with fail
          exact bodyPost_ret (v := .tuple #[.int .u32 0, .int .i64 60]) (by simp [results, Tryd.results9, go_sem]) rfl ⟨rfl, by first | exact hbw.trans (hbn.mono hbw.size) | (rw [← hg]; exact hbw.trans (hbn.mono hbw.size))⟩
        | some b =>
          rw [ipGo_on hnum] at hc
          rw [hnum, nv_some, ne_some] at cN
          have hb255 := num_le hnum
          obtain ⟨k1, k2⟩ := pow_next hj hn hb255
          have hmod : (n : Int) * 256 % 4294967296 = (n : Int) * 256 := by omega
          have hor : bits .or .u32 ((n : Int) * 256) (b : Int) = (n : Int) * 256 + b :=
            bits_join .u32 32 (by decide) (fun n h0 h1 => wrap32u h0 (by omega)) 8 ((n : Int) * 256) b (by omega) (by omega) (by omega) (by omega) (by omega) (by omega)
          clear hnum
          go_wp2_with fail
          refine (cN _).mono ?_
          rintro e w' ⟨rfl, hbn⟩
          go_wp2_with fail
          go_roundw
          case rel => exact ⟨j + 1, n * 256 + b, by congr 1, by first | rfl | trivial, by omega, k2, hc, hbr.trans (hbn.mono hbr.size)⟩
          case measure => simp [intOf]; omega
      · have hjz : ¬ (j : Int) < 4 := by omega
        have hnil : (cut 46 s.data.toList).drop j = [] := List.drop_eq_nil_of_le (by omega)
        rw [hnil] at hc
        subst hc
        go_wp2_with fail
        exact bodyPost_ret (v := .tuple #[.int .u32 n, .int .i64 0]) (by simp [results, Tryd.results9, go_sem]) rfl ⟨rfl, by first | exact hbw | (rw [← hg]; exact hbw)⟩
  · rw [if_neg hcut]
    go_enter Tryd.func9, Tryd.ntmps9
    go_wp2_with fail
    refine cS.mono ?_
    rintro e w1 ⟨P, cap, rfl, hcap, hcells, hb1, hsp⟩
    have h4 : P.length ≠ 4 := by
      rcases hsp with ⟨_, _, c⟩ | ⟨c, _⟩
      · exact absurd c hcut
      · exact c
    have hlz : (((P.length : Nat) : Int) != 4) = true := by simp; omega
    go_wp2_with fail
    exact bodyPost_ret (v := .tuple #[.int .u32 0, .int .i64 60]) (by simp [results, Tryd.results9, go_sem]) rfl ⟨rfl, hb1⟩
end Go.Proofs.YtkkbnagfndphpaaDoor
