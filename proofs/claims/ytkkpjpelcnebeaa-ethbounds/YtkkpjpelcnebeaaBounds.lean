/-
  The walk of lychlaw2.EthBounds: it answers true.
-/
import Derived.Test.YtkkpjpelcnebeaaKnown
import Derived.Test.YtkkpjpelcnebeaaBytes
import Derived.Test.YtkkpjpelcnebeaaReads
namespace Go.Proofs.Ytkkpjpelcnebeaa
open Go.RowKit
open Sm
set_option linter.unusedVariables false

theorem noughts_row (w : World) (k : Nat) (h : k ≤ 140737488351232) : Row (w.alloc (.cells (madeCells #[Value.int .u8 0] k) 5)) (some ⟨w.heap.size, 0, none⟩) (List.replicate k 0) := by
  have e : madeCells #[Value.int .u8 0] k = ((List.replicate k (0 : Int)).map (Value.int .u8)).toArray := by
    apply Array.toList_inj.mp; rw [toList_madeCells_one]; simp
  rw [e]
  exact row_lit w _ (bytes_noughts k) (by simpa using h) 5

theorem noughts_at (w : World) (k : Nat) (h : k ≤ 140737488351232) (g : Nat) (hg : g = w.heap.size) : Row (w.alloc (.cells (madeCells #[Value.int .u8 0] k) 5)) (some ⟨g, 0, none⟩) (List.replicate k 0) := by
  subst hg; exact noughts_row w k h
theorem twelve_noughts : IsBytes [0, 0, 0, 0, 0, 0, 0, 0, 0, 0, 0, 0] := bytes_noughts 12

set_option maxRecDepth 20000 in
set_option maxHeartbeats 1000000 in
theorem bounds_a (w : World) (x : Int) (K : Nat) (hK : (K : Int) = x % 1700) (r0 : 0 ≤ x) (r1 : x ≤ 65535) (hc : 1600 < K) :
    Calls Try.prog 6 #[.int .u16 x] w fun e w' => e = .returned (.bool true) ∧ Below w.heap.size w w' := by
  have hk := known_any w
  have hx : x % 1700 = (K : Int) := hK.symm
  have hK2 : (K : Int) < 1700 := by omega
  have hmk := make_bytes K (by omega)
  have u1 : IntKind.i64.wrap (K : Int) = K := by rw [IntKind.wrap_i64]; omega
  have h1 : (1600 : Int) < K := by omega
  have h2 : (14 : Int) ≤ K := by omega
  have h3 : (1586 : Int) < K := by omega
  have her : ferr (List.replicate K 0) = 23 := by unfold ferr; simp only [List.length_replicate]; rw [if_pos (by omega)]
  clear hK
  go_enter Try.func6, Try.ntmps6
  go_wp2_with fail
  refine hk.mono ?_
  rintro e w1 ⟨rfl, hbel1⟩
  have HB1 : Hid (Below w.heap.size w w1) := hbel1
  clear hk hbel1
  go_wp2_with fail
  have hp := parse_all (noughts_row w1 K (by omega)) K K (by simp) (Nat.le_refl _)
  rw [her] at hp
  generalize fld (List.replicate K 0) 0 = y0 at hp
  generalize fld (List.replicate K 0) 1 = y1 at hp
  generalize fld (List.replicate K 0) 2 = y2 at hp
  generalize fld (List.replicate K 0) 3 = y3 at hp
  generalize fld (List.replicate K 0) 4 = y4 at hp
  generalize fld (List.replicate K 0) 5 = y5 at hp
  generalize fld (List.replicate K 0) 6 = y6 at hp
  generalize fld (List.replicate K 0) 7 = y7 at hp
  generalize fld (List.replicate K 0) 8 = y8 at hp
  generalize fld (List.replicate K 0) 9 = y9 at hp
  generalize fld (List.replicate K 0) 10 = y10 at hp
  generalize fld (List.replicate K 0) 11 = y11 at hp
  generalize fld (List.replicate K 0) 12 = y12 at hp
  generalize fld (List.replicate K 0) 13 = y13 at hp
  generalize (fbody (List.replicate K 0)).length = bl at hp
  refine hp.mono ?_
  rintro e w2 ⟨a2, c2, rfl, -, hb2⟩
  have HB2 : Hid (Below w.heap.size w w2) := (HB1.out.alloc HB1.out.size _).trans (hb2.mono (by have := HB1.out.size; simp; omega))
  clear hb2 HB1 her hp
  go_wp2_with fail
  refine (bytes_big _ (some ⟨w2.heap.size + 1, 0, none⟩) K K (by omega) 0 0 0 0 0 0 0 0 0 0 0 0 0).mono ?_
  rintro e w3 ⟨rfl, hb3⟩
  have HB3 : Hid (Below w.heap.size w w3) := ((HB2.out.alloc HB2.out.size _).alloc (by have := HB2.out.size; simp; omega) _).trans (hb3.mono (by have := HB2.out.size; simp; omega))
  clear hb3 HB2
  go_wp2_with fail
  go_ret
  exact ⟨by simp, HB3.out⟩

set_option maxRecDepth 20000 in
set_option maxHeartbeats 1000000 in
theorem bounds_b (w : World) (x : Int) (K : Nat) (hK : (K : Int) = x % 1700) (r0 : 0 ≤ x) (r1 : x ≤ 65535) (hc : K < 14) :
    Calls Try.prog 6 #[.int .u16 x] w fun e w' => e = .returned (.bool true) ∧ Below w.heap.size w w' := by
  have hk := known_any w
  have hx : x % 1700 = (K : Int) := hK.symm
  have hK2 : (K : Int) < 1700 := by omega
  have hmk := make_bytes K (by omega)
  have u1 : IntKind.i64.wrap (K : Int) = K := by rw [IntKind.wrap_i64]; omega
  have h1 : (K : Int) ≤ 1600 := by omega
  have h2 : (K : Int) < 14 := by omega
  have h3 : (K : Int) ≤ 1586 := by omega
  have her : ferr (List.replicate K 0) = 20 := by unfold ferr; simp only [List.length_replicate]; rw [if_neg (by omega), if_pos (by omega)]
  clear hK
  go_enter Try.func6, Try.ntmps6
  go_wp2_with fail
  refine hk.mono ?_
  rintro e w1 ⟨rfl, hbel1⟩
  have HB1 : Hid (Below w.heap.size w w1) := hbel1
  clear hk hbel1
  go_wp2_with fail
  have hp := parse_all (noughts_row w1 K (by omega)) K K (by simp) (Nat.le_refl _)
  rw [her] at hp
  generalize fld (List.replicate K 0) 0 = y0 at hp
  generalize fld (List.replicate K 0) 1 = y1 at hp
  generalize fld (List.replicate K 0) 2 = y2 at hp
  generalize fld (List.replicate K 0) 3 = y3 at hp
  generalize fld (List.replicate K 0) 4 = y4 at hp
  generalize fld (List.replicate K 0) 5 = y5 at hp
  generalize fld (List.replicate K 0) 6 = y6 at hp
  generalize fld (List.replicate K 0) 7 = y7 at hp
  generalize fld (List.replicate K 0) 8 = y8 at hp
  generalize fld (List.replicate K 0) 9 = y9 at hp
  generalize fld (List.replicate K 0) 10 = y10 at hp
  generalize fld (List.replicate K 0) 11 = y11 at hp
  generalize fld (List.replicate K 0) 12 = y12 at hp
  generalize fld (List.replicate K 0) 13 = y13 at hp
  generalize (fbody (List.replicate K 0)).length = bl at hp
  refine hp.mono ?_
  rintro e w2 ⟨a2, c2, rfl, -, hb2⟩
  have HB2 : Hid (Below w.heap.size w w2) := (HB1.out.alloc HB1.out.size _).trans (hb2.mono (by have := HB1.out.size; simp; omega))
  clear hb2 HB1 her hp
  go_wp2_with fail
  have hr := noughts_at (w2.alloc (Obj.cells (ethA y0 y1 y2 y3 y4 y5 y6 y7 y8 y9 y10 y11 (y12 * 256 + y13) (.slice a2 bl c2)) 28)) K (by omega) (w2.heap.size + 1) (by simp)
  refine (bytes_ok hr K K (by simp) (by omega) 0 0 0 0 0 0 0 0 0 0 0 0 0 (by omega) (by omega) (K + 14) rfl twelve_noughts).mono ?_
  rintro e w3 ⟨g, rfl, -, hb3⟩
  have HB3 : Hid (Below w.heap.size w w3) := ((HB2.out.alloc HB2.out.size _).alloc (by have := HB2.out.size; simp; omega) _).trans (hb3.mono (by have := HB2.out.size; simp; omega))
  clear hb3 HB2 hr
  obtain ⟨n, hn⟩ : ∃ n, n = K + 14 := ⟨_, rfl⟩
  rw [← hn]
  have hni : (K : Int) + 14 = n := by omega
  have hnb : (n : Int) ≤ 1600 := by omega
  clear hn
  go_wp2_with fail
  go_ret
  exact ⟨by simpa using hnb, HB3.out⟩

set_option maxRecDepth 20000 in
set_option maxHeartbeats 1000000 in
theorem bounds_c (w : World) (x : Int) (K : Nat) (hK : (K : Int) = x % 1700) (r0 : 0 ≤ x) (r1 : x ≤ 65535) (hc : 14 ≤ K ∧ K ≤ 1586) :
    Calls Try.prog 6 #[.int .u16 x] w fun e w' => e = .returned (.bool true) ∧ Below w.heap.size w w' := by
  have hk := known_any w
  have hx : x % 1700 = (K : Int) := hK.symm
  have hK2 : (K : Int) < 1700 := by omega
  have hmk := make_bytes K (by omega)
  have u1 : IntKind.i64.wrap (K : Int) = K := by rw [IntKind.wrap_i64]; omega
  have h1 : (K : Int) ≤ 1600 := by omega
  have h2 : (14 : Int) ≤ K := by omega
  have h3 : (K : Int) ≤ 1586 := by omega
  have her : ferr (List.replicate K 0) = 0 := by unfold ferr; simp only [List.length_replicate]; rw [if_neg (by omega), if_neg (by omega)]
  clear hK
  go_enter Try.func6, Try.ntmps6
  go_wp2_with fail
  refine hk.mono ?_
  rintro e w1 ⟨rfl, hbel1⟩
  have HB1 : Hid (Below w.heap.size w w1) := hbel1
  clear hk hbel1
  go_wp2_with fail
  have hp := parse_all (noughts_row w1 K (by omega)) K K (by simp) (Nat.le_refl _)
  rw [her] at hp
  generalize fld (List.replicate K 0) 0 = y0 at hp
  generalize fld (List.replicate K 0) 1 = y1 at hp
  generalize fld (List.replicate K 0) 2 = y2 at hp
  generalize fld (List.replicate K 0) 3 = y3 at hp
  generalize fld (List.replicate K 0) 4 = y4 at hp
  generalize fld (List.replicate K 0) 5 = y5 at hp
  generalize fld (List.replicate K 0) 6 = y6 at hp
  generalize fld (List.replicate K 0) 7 = y7 at hp
  generalize fld (List.replicate K 0) 8 = y8 at hp
  generalize fld (List.replicate K 0) 9 = y9 at hp
  generalize fld (List.replicate K 0) 10 = y10 at hp
  generalize fld (List.replicate K 0) 11 = y11 at hp
  generalize fld (List.replicate K 0) 12 = y12 at hp
  generalize fld (List.replicate K 0) 13 = y13 at hp
  generalize (fbody (List.replicate K 0)).length = bl at hp
  refine hp.mono ?_
  rintro e w2 ⟨a2, c2, rfl, -, hb2⟩
  have HB2 : Hid (Below w.heap.size w w2) := (HB1.out.alloc HB1.out.size _).trans (hb2.mono (by have := HB1.out.size; simp; omega))
  clear hb2 HB1 her hp
  go_wp2_with fail
  have hr := noughts_at (w2.alloc (Obj.cells (ethA y0 y1 y2 y3 y4 y5 y6 y7 y8 y9 y10 y11 (y12 * 256 + y13) (.slice a2 bl c2)) 28)) K (by omega) (w2.heap.size + 1) (by simp)
  refine (bytes_ok hr K K (by simp) (by omega) 0 0 0 0 0 0 0 0 0 0 0 0 0 (by omega) (by omega) (K + 14) rfl twelve_noughts).mono ?_
  rintro e w3 ⟨g, rfl, -, hb3⟩
  have HB3 : Hid (Below w.heap.size w w3) := ((HB2.out.alloc HB2.out.size _).alloc (by have := HB2.out.size; simp; omega) _).trans (hb3.mono (by have := HB2.out.size; simp; omega))
  clear hb3 HB2 hr
  obtain ⟨n, hn⟩ : ∃ n, n = K + 14 := ⟨_, rfl⟩
  rw [← hn]
  have hni : (K : Int) + 14 = n := by omega
  have hnb : (n : Int) ≤ 1600 := by omega
  clear hn
  go_wp2_with fail
  go_ret
  exact ⟨by simpa using hnb, HB3.out⟩

set_option maxRecDepth 20000 in
set_option maxHeartbeats 1000000 in
theorem bounds_d (w : World) (x : Int) (K : Nat) (hK : (K : Int) = x % 1700) (r0 : 0 ≤ x) (r1 : x ≤ 65535) (hc : 1586 < K ∧ K ≤ 1600) :
    Calls Try.prog 6 #[.int .u16 x] w fun e w' => e = .returned (.bool true) ∧ Below w.heap.size w w' := by
  have hk := known_any w
  have hx : x % 1700 = (K : Int) := hK.symm
  have hK2 : (K : Int) < 1700 := by omega
  have hmk := make_bytes K (by omega)
  have u1 : IntKind.i64.wrap (K : Int) = K := by rw [IntKind.wrap_i64]; omega
  have h1 : (K : Int) ≤ 1600 := by omega
  have h2 : (14 : Int) ≤ K := by omega
  have h3 : (1586 : Int) < K := by omega
  have her : ferr (List.replicate K 0) = 0 := by unfold ferr; simp only [List.length_replicate]; rw [if_neg (by omega), if_neg (by omega)]
  clear hK
  go_enter Try.func6, Try.ntmps6
  go_wp2_with fail
  refine hk.mono ?_
  rintro e w1 ⟨rfl, hbel1⟩
  have HB1 : Hid (Below w.heap.size w w1) := hbel1
  clear hk hbel1
  go_wp2_with fail
  have hp := parse_all (noughts_row w1 K (by omega)) K K (by simp) (Nat.le_refl _)
  rw [her] at hp
  generalize fld (List.replicate K 0) 0 = y0 at hp
  generalize fld (List.replicate K 0) 1 = y1 at hp
  generalize fld (List.replicate K 0) 2 = y2 at hp
  generalize fld (List.replicate K 0) 3 = y3 at hp
  generalize fld (List.replicate K 0) 4 = y4 at hp
  generalize fld (List.replicate K 0) 5 = y5 at hp
  generalize fld (List.replicate K 0) 6 = y6 at hp
  generalize fld (List.replicate K 0) 7 = y7 at hp
  generalize fld (List.replicate K 0) 8 = y8 at hp
  generalize fld (List.replicate K 0) 9 = y9 at hp
  generalize fld (List.replicate K 0) 10 = y10 at hp
  generalize fld (List.replicate K 0) 11 = y11 at hp
  generalize fld (List.replicate K 0) 12 = y12 at hp
  generalize fld (List.replicate K 0) 13 = y13 at hp
  generalize (fbody (List.replicate K 0)).length = bl at hp
  refine hp.mono ?_
  rintro e w2 ⟨a2, c2, rfl, -, hb2⟩
  have HB2 : Hid (Below w.heap.size w w2) := (HB1.out.alloc HB1.out.size _).trans (hb2.mono (by have := HB1.out.size; simp; omega))
  clear hb2 HB1 her hp
  go_wp2_with fail
  refine (bytes_big _ (some ⟨w2.heap.size + 1, 0, none⟩) K K (by omega) 0 0 0 0 0 0 0 0 0 0 0 0 0).mono ?_
  rintro e w3 ⟨rfl, hb3⟩
  have HB3 : Hid (Below w.heap.size w w3) := ((HB2.out.alloc HB2.out.size _).alloc (by have := HB2.out.size; simp; omega) _).trans (hb3.mono (by have := HB2.out.size; simp; omega))
  clear hb3 HB2
  go_wp2_with fail
  go_ret
  exact ⟨by simp, HB3.out⟩

theorem bounds_core (w : World) (x : Int) (r0 : 0 ≤ x) (r1 : x ≤ 65535) :
    Calls Try.prog 6 #[.int .u16 x] w fun e w' => e = .returned (.bool true) ∧ Below w.heap.size w w' := by
  obtain ⟨K, hK⟩ : ∃ K : Nat, (K : Int) = x % 1700 := ⟨(x % 1700).toNat, by omega⟩
  by_cases h1 : 1600 < K
  · exact bounds_a w x K hK r0 r1 h1
  by_cases h2 : K < 14
  · exact bounds_b w x K hK r0 r1 h2
  by_cases h3 : K ≤ 1586
  · exact bounds_c w x K hK r0 r1 ⟨by omega, h3⟩
  · exact bounds_d w x K hK r0 r1 ⟨by omega, by omega⟩
end Go.Proofs.Ytkkpjpelcnebeaa
