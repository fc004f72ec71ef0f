/-
  The walks of lychlaw7.VxlanReads, VxlanBack, VxlanBits, VxlanBounds: each answers true.
-/
import Derived.Test.YtdhmefoenopoeaaVxlanKnown
import Derived.Test.YtdhmefoenopoeaaVxlanBytes
import Derived.Test.YtdhmefoenopoeaaVxlanRef
namespace Go.Proofs.Ytdhmefoenopoeaa
open Go.RowKit
open Sm
set_option linter.unusedVariables false

/-! ### VxlanReads -/
set_option maxRecDepth 20000 in
set_option maxHeartbeats 1000000 in
theorem vreads_long {w : World} (a : Option Addr) (n c : Nat) (h : 3000 < n) :
    Calls Try.prog 3 #[.slice a n c] w fun e w' => e = .returned (.bool true) ∧ Below w.heap.size w w' := by
  have h' : (3000 : Int) < n := by omega
  have hk := vknown_any w
  clear h
  go_enter Try.func3, Try.ntmps3
  go_wp2_with fail
  refine hk.mono ?_
  rintro e w1 ⟨rfl, hb⟩
  go_wp2_with fail
  go_ret
  exact ⟨rfl, hb⟩

set_option maxRecDepth 20000 in
set_option maxHeartbeats 2000000 in
theorem vreads_core {w : World} {a : Option Addr} {l : List Int} (hr : Row w a l) (n c : Nat) (hn : l.length = n) (hc : n ≤ c) (h3 : n ≤ 3000) :
    Calls Try.prog 3 #[.slice a n c] w fun e w' => e = .returned (.bool true) ∧ Below w.heap.size w w' := by
  have h3' : (n : Int) ≤ 3000 := by omega
  have hk := vknown_any w
  obtain ⟨E, eE⟩ : ∃ E, vxErr l = E := ⟨_, rfl⟩
  obtain ⟨V, eV⟩ : ∃ V, vxNet l = V := ⟨_, rfl⟩
  obtain ⟨bd, ebd⟩ : ∃ bd, vxBody l = bd := ⟨_, rfl⟩
  obtain ⟨m, em⟩ : ∃ m, bd.length = m := ⟨_, rfl⟩
  have HR : Hid (Row w a l ∧ bd.length = m) := ⟨hr, em⟩
  have HP : Hid (∀ W, Row W a l → Calls Try.prog 8 #[.slice a n c] W fun r w' => ∃ bo cb, r = .returned (.tuple #[.int .u32 V, .slice bo m cb, .int .i64 E]) ∧ Row w' bo bd ∧ (bo = none → cb = 0) ∧ (∀ x, bo = some x → W.heap.size ≤ x.block) ∧ m ≤ cb ∧ Below W.heap.size W w') := fun W hW => vparse_any hW hn hc eE eV ebd em
  have HQ : Hid (∀ W, Row W a l → Calls Try.prog 9 #[.slice a n c] W fun r w' => ∃ bo cb, r = .returned (.tuple #[.int .u32 V, .slice bo m cb, .int .i64 E]) ∧ Row w' bo bd ∧ (bo = none → cb = 0) ∧ (∀ x, bo = some x → W.heap.size ≤ x.block) ∧ Below W.heap.size W w') := fun W hW => rvx_any hW hn hc (by omega) eE eV ebd em
  clear hr hn hc h3 eE eV ebd em
  go_enter Try.func3, Try.ntmps3
  go_wp2_with fail
  refine hk.mono ?_
  rintro e w1 ⟨rfl, hb1⟩
  have HB1 : Hid _ := hb1
  have hp := HP.out w1 (HR.out.1.below hb1 (Nat.le_refl _))
  clear hk hb1
  go_wp2_with fail
  refine hp.mono ?_
  rintro e w2 ⟨b1, c1, rfl, hr1, -, -, -, hb2⟩
  have HB2 : Hid (Below w.heap.size w w2) := HB1.out.trans (hb2.mono HB1.out.size)
  have hq := HQ.out w2 (HR.out.1.below HB2.out (Nat.le_refl _))
  have HR1 : Hid (Row w2 b1 bd) := hr1
  clear hp hb2 hr1 HB1
  go_wp2_with fail
  refine hq.mono ?_
  rintro e w3 ⟨b2, c2, rfl, hr2, -, -, hb3⟩
  have HB3 : Hid (Below w.heap.size w w3) := HB2.out.trans (hb3.mono HB2.out.size)
  have hh := hbytes_yes (HR1.out.below hb3 (Nat.le_refl _)) hr2 m m HR.out.2 HR.out.2 c1 c2
  clear hq hb3 hr2 HB2 HR1
  go_wp2_with fail
  refine hh.mono ?_
  rintro e w' ⟨rfl, rfl⟩
  go_wp2_with fail
  go_ret
  exact ⟨by simp, HB3.out⟩

/-! ### VxlanBack -/
set_option maxRecDepth 20000 in
set_option maxHeartbeats 1000000 in
theorem vback_long {w : World} (v : Int) (a : Option Addr) (n c : Nat) (x : Int) (h : 2000 < n) :
    Calls Try.prog 4 #[.int .u32 v, .slice a n c, .int .u16 x] w fun e w' => e = .returned (.bool true) ∧ Below w.heap.size w w' := by
  have h' : (2000 : Int) < n := by omega
  have hk := vknown_any w
  clear h
  go_enter Try.func4, Try.ntmps4
  go_wp2_with fail
  refine hk.mono ?_
  rintro e w1 ⟨rfl, hb⟩
  go_wp2_with fail
  go_ret
  exact ⟨rfl, hb⟩

set_option maxRecDepth 20000 in
set_option maxHeartbeats 4000000 in
theorem vback_core {w : World} (v : Int) (v0 : 0 ≤ v) {a : Option Addr} {l : List Int} (hr : Row w a l) (n c : Nat) (hn : l.length = n) (hnil : a = none → c = 0) (h2 : n ≤ 2000) (x : Int) (x0 : 0 ≤ x) (x1 : x ≤ 65535) :
    Calls Try.prog 4 #[.int .u32 v, .slice a n c, .int .u16 x] w fun e w' => e = .returned (.bool true) ∧ Below w.heap.size w w' := by
  have h2' : (n : Int) ≤ 2000 := by omega
  have hk := vknown_any w
  obtain ⟨m, hm⟩ : ∃ m : Nat, (m : Int) = x % 1700 := ⟨(x % 1700).toNat, by omega⟩
  have HM : Hid ((m : Int) = x % 1700 ∧ m < 1700 ∧ n ≤ 2000) := ⟨hm, by omega, h2⟩
  have HR : Hid (Row w a l ∧ l.length = n ∧ (a = none → c = 0) ∧ 0 ≤ v) := ⟨hr, hn, hnil, v0⟩
  clear hr hn hnil h2 hm
  go_enter Try.func4, Try.ntmps4
  go_wp2_with fail
  refine hk.mono ?_
  rintro e w1 ⟨rfl, hb1⟩
  have HB1 : Hid (Below w.heap.size w w1) := hb1
  have hr1 := HR.out.1.below hb1 (Nat.le_refl _)
  clear hk hb1
  go_upto_region 6 with (first
    | (at_builtin; refine wpList_append_more _ rfl _ (.tmp 19) rfl w1.heap.size _ 0 [] rfl (World.ownsRow_nil _ _ _ _) a c n l rfl HR.out.2.1 HR.out.2.2.1 hr1 (by have := HM.out; omega) (Nat.le_refl _) ?_; intro u2 w2 hown2 hbel2)
    | (at_builtin; refine wpList_append_zeros (kn := .u16) Try.underlying32 _ rfl (.tmp 20) (.tmp 22) rfl w1.heap.size u2 (0 + n) _ rfl hown2 _ m rfl HM.out.1.symm (by have := HM.out; omega) hbel2.size ?_; intro u3 w3 hown3 hgrow3; have hb3 : Below w1.heap.size w1 w3 := hbel2.trans (own_grown hown2 hgrow3 hbel2.size)))
  rw [List.nil_append, map_noughts, Nat.zero_add] at hown3
  obtain ⟨ao, c3, rfl, hrow3, hcn3, hfar3, hc3⟩ := own_read hown3 (by simp [HR.out.2.1]) (bytes_append HR.out.1.bytes (bytes_noughts m)) (by have := HM.out; simp [HR.out.2.1]; omega)
  have HB3 : Hid (Below w.heap.size w w3) := HB1.out.trans (hb3.mono HB1.out.size)
  obtain ⟨L, hL⟩ : ∃ L, L = l ++ List.replicate m 0 := ⟨_, rfl⟩
  obtain ⟨M, hM⟩ : ∃ M, M = n + m := ⟨_, rfl⟩
  have hLM : L.length = M := by rw [hL, hM]; simp [HR.out.2.1]
  rw [← hL] at hrow3
  rw [← hM] at hc3 ⊢
  have HL : Hid (L.length = M ∧ (ao = none → c3 = 0) ∧ 0 ≤ v ∧ IsBytes L) := ⟨hLM, hcn3, HR.out.2.2.2, hrow3.bytes⟩
  have HR3 : Hid (Row w3 ao L) := hrow3
  clear hr1 hbel2 hown2 hown3 hgrow3 hb3 hrow3 hcn3 hfar3 hL hM hLM HB1 HR HM h2' x0 x1 v0
  obtain ⟨E, eE⟩ : ∃ E, vxbErr v L = E := ⟨_, rfl⟩
  obtain ⟨K, eK⟩ : ∃ K, vxOut v L = K := ⟨_, rfl⟩
  obtain ⟨k, ek⟩ : ∃ k, K.length = k := ⟨_, rfl⟩
  have hof := vxOut_facts HL.out.2.2.1 HL.out.2.2.2
  rw [eK] at hof
  have HK : Hid (vxbErr v L = E ∧ vxOut v L = K ∧ K.length = k ∧ IsBytes K ∧ K.length ≤ 1600) := ⟨eE, eK, ek, hof.1, hof.2⟩
  have hp := vbytes_any HR3.out M c3 HL.out.1 v HL.out.2.2.1 eE eK ek
  clear eE eK ek hof
  go_wp2_with fail
  refine hp.mono ?_
  rintro e w4 ⟨u4, rfl, hown4, hb4⟩
  have HB4 : Hid (Below w.heap.size w w4) := HB3.out.trans (hb4.mono HB3.out.size)
  have HR4 : Hid (Row w4 ao L) := HR3.out.below hb4 (Nat.le_refl _)
  have HO4 : Hid _ := hown4
  have hq := rvbytes_any HR4.out M c3 HL.out.1 HL.out.2.1 v HL.out.2.2.1 HK.out.1 HK.out.2.1 HK.out.2.2.1
  clear hp hown4 hb4 HB3 HR3
  go_wp2_with fail
  refine hq.mono ?_
  rintro e w5 ⟨u5, rfl, hown5, hb5⟩
  have HB5 : Hid (Below w.heap.size w w5) := HB4.out.trans (hb5.mono HB4.out.size)
  have HR5 : Hid (Row w5 ao L) := HR4.out.below hb5 (Nat.le_refl _)
  obtain ⟨a4, c4, rfl, hr4, -, -, hc4⟩ := own_read (own_after HO4.out hb5 (Nat.le_refl _)) HK.out.2.2.1 HK.out.2.2.2.1 (by have := HK.out; omega)
  obtain ⟨a5, c5, rfl, hr5, -, -, hc5⟩ := own_read hown5 HK.out.2.2.1 HK.out.2.2.2.1 (by have := HK.out; omega)
  have hh := hbytes_yes hr4 hr5 k k HK.out.2.2.1 HK.out.2.2.1 c4 c5
  have HR6 : Hid (Row w5 a4 K) := hr4
  clear hq hown5 hb5 HB4 HR4 HO4 hr4 hr5 hc5
  go_wp2_with fail
  refine hh.mono ?_
  rintro e w' ⟨rfl, rfl⟩
  clear hh
  by_cases hv : 16777215 < v
  · obtain rfl : E = 21 := by rw [← HK.out.1]; unfold vxbErr; rw [if_pos hv]
    go_wp2_with fail
    go_ret
    exact ⟨by simp, HB5.out⟩
  by_cases hM : 1592 < M
  · obtain rfl : E = 23 := by rw [← HK.out.1]; unfold vxbErr; rw [if_neg hv, if_pos (by rw [HL.out.1]; exact hM)]
    have hM' : (1592 : Int) < M := by omega
    have hv' : v ≤ 16777215 := by omega
    go_wp2_with fail
    go_ret
    exact ⟨by simp, HB5.out⟩
  have hE : vxbErr v L = 0 := (vxfits_iff v L).mpr ⟨by omega, by rw [HL.out.1]; omega⟩
  obtain rfl : E = 0 := by rw [← HK.out.1]; exact hE
  have hK : K = vxb v L := by rw [← HK.out.2.1]; exact if_pos hE
  have hbk := vx_back (v := v) (b := L) HL.out.2.2.1 (by omega)
  rw [← hK] at hbk
  have hp := vparse_any HR6.out HK.out.2.2.1 hc4 hbk.1 hbk.2.1 hbk.2.2 HL.out.1
  clear hE hK hbk hv hM
  go_wp2_with fail
  refine hp.mono ?_
  rintro e w7 ⟨b7, c7, rfl, hr7, -, -, -, hb7⟩
  have HB7 : Hid (Below w.heap.size w w7) := HB5.out.trans (hb7.mono HB5.out.size)
  have hh := hbytes_yes hr7 (HR5.out.below hb7 (Nat.le_refl _)) M M HL.out.1 HL.out.1 c7 c3
  clear hp hr7 hb7 HB5 HR5 HR6
  go_wp2_with fail
  refine hh.mono ?_
  rintro e w' ⟨rfl, rfl⟩
  go_wp2_with fail
  go_ret
  exact ⟨by simp, HB7.out⟩

/-! ### VxlanBits -/
set_option maxRecDepth 20000 in
set_option maxHeartbeats 2000000 in
theorem vbits_core {w : World} (v a b c d e : Int) (v0 : 0 ≤ v) (v1 : v ≤ 4294967295) (a0 : 0 ≤ a ∧ a ≤ 255) (b0 : 0 ≤ b ∧ b ≤ 255) (c0 : 0 ≤ c ∧ c ≤ 255) (d0 : 0 ≤ d ∧ d ≤ 255) (e0 : 0 ≤ e ∧ e ≤ 255) :
    Calls Try.prog 5 #[.int .u32 v, .int .u8 a, .int .u8 b, .int .u8 c, .int .u8 d, .int .u8 e] w fun r w' => r = .returned (.bool true) ∧ Below w.heap.size w w' := by
  have hk := vknown_any w
  obtain ⟨X, hX, X0, X1, X8⟩ := or8_facts a a0.1 a0.2
  obtain ⟨Y, hY, Y0, Y1, Y8⟩ := not8_facts a a0.1 a0.2
  have hlow := low24 v v0 v1
  obtain ⟨V, hV⟩ : ∃ V, v % 16777216 = V := ⟨_, rfl⟩
  rw [hV] at hlow
  have V0 : 0 ≤ V := by omega
  have V1 : V ≤ 16777215 := by omega
  have u1 : IntKind.u8.wrap (V / 65536) = V / 65536 := wrap8_small _ (by omega) (by omega)
  have u2 : IntKind.u8.wrap (V / 256) = V / 256 % 256 := by simp [IntKind.wrap, IntKind.bits, IntKind.signed]
  have u3 : IntKind.u8.wrap V = V % 256 := by simp [IntKind.wrap, IntKind.bits, IntKind.signed]
  have hby : ∀ Z, 0 ≤ Z → Z ≤ 255 → IsBytes [Z, b, c, d, V / 65536, V / 256 % 256, V % 256, e] := fun Z z0 z1 => by
    iterate 8 (refine bytes_cons ⟨by omega, by omega⟩ ?_)
    exact bytes_nil
  have HX : Hid (∀ W, Calls Try.prog 8 #[.slice (some ⟨W.heap.size, 0, none⟩) 8 8] (W.alloc (.cells (bs [X, b, c, d, V / 65536, V / 256 % 256, V % 256, e]) 5)) fun r w' => ∃ bo cb, r = .returned (.tuple #[.int .u32 V, .slice bo 0 cb, .int .i64 0]) ∧ Below W.heap.size W w') := fun W => by
    obtain ⟨q1, q2, q3⟩ := vx_e0 (l := [X, b, c, d, V / 65536, V / 256 % 256, V % 256, e]) (by simp) (by show ¬ X / 8 % 2 = 0; exact X8)
    have q2' : vxNet [X, b, c, d, V / 65536, V / 256 % 256, V % 256, e] = V := by
      rw [q2]
      show V / 65536 * 65536 + V / 256 % 256 * 256 + V % 256 = V
      omega
    refine (vparse_any (row_lit W _ (hby X X0 X1) (by simp) 5) (n := 8) (c := 8) rfl (Nat.le_refl _) q1 q2' (bd := []) (by rw [q3]; rfl) (m := 0) rfl).mono ?_
    rintro r w' ⟨bo, cb, rfl, -, -, -, -, hb⟩
    exact ⟨bo, cb, rfl, ((Below.refl _ _).alloc (Nat.le_refl _) _).trans (hb.mono (by simp))⟩
  have HY : Hid (∀ W, Calls Try.prog 8 #[.slice (some ⟨W.heap.size, 0, none⟩) 8 8] (W.alloc (.cells (bs [Y, b, c, d, V / 65536, V / 256 % 256, V % 256, e]) 5)) fun r w' => ∃ bo cb, r = .returned (.tuple #[.int .u32 0, .slice bo 0 cb, .int .i64 21]) ∧ Below W.heap.size W w') := fun W => by
    obtain ⟨q1, q2, q3⟩ := vx_e21 (l := [Y, b, c, d, V / 65536, V / 256 % 256, V % 256, e]) (by simp) (by show Y / 8 % 2 = 0; exact Y8)
    refine (vparse_any (row_lit W _ (hby Y Y0 Y1) (by simp) 5) (n := 8) (c := 8) rfl (Nat.le_refl _) q1 q2 q3 (m := 0) rfl).mono ?_
    rintro r w' ⟨bo, cb, rfl, -, -, -, -, hb⟩
    exact ⟨bo, cb, rfl, ((Below.refl _ _).alloc (Nat.le_refl _) _).trans (hb.mono (by simp))⟩
  clear a0 b0 c0 d0 e0 v0 v1 X0 X1 X8 Y0 Y1 Y8 hV hby
  go_enter Try.func5, Try.ntmps5
  go_wp2_with fail
  refine hk.mono ?_
  rintro r w1 ⟨rfl, hb1⟩
  have HB1 : Hid (Below w.heap.size w w1) := hb1
  have hp := HX.out w1
  clear hk hb1
  go_wp2_with fail
  refine hp.mono ?_
  rintro r w2 ⟨bo2, cb2, rfl, hb2⟩
  have HB2 : Hid (Below w.heap.size w w2) := HB1.out.trans (hb2.mono HB1.out.size)
  have hq := HY.out w2
  clear hp hb2 HB1 HX
  go_wp2_with fail
  refine hq.mono ?_
  rintro r w3 ⟨bo3, cb3, rfl, hb3⟩
  have HB3 : Hid (Below w.heap.size w w3) := HB2.out.trans (hb3.mono HB2.out.size)
  clear hq hb3 HB2 HY
  go_wp2_with fail
  go_ret
  exact ⟨by simp, HB3.out⟩

/-! ### VxlanBounds -/
theorem vz_err (v : Int) (n : Nat) : vxbErr v (List.replicate n 0) = if 16777215 < v then 21 else if 1592 < n then 23 else 0 := by
  unfold vxbErr; rw [List.length_replicate]

set_option maxRecDepth 20000 in
set_option maxHeartbeats 2000000 in
theorem vbounds_core {w : World} (x : Int) (x0 : 0 ≤ x) (x1 : x ≤ 65535) (v : Int) (v0 : 0 ≤ v) (v1 : v ≤ 4294967295) :
    Calls Try.prog 6 #[.int .u16 x, .int .u32 v] w fun r w' => r = .returned (.bool true) ∧ Below w.heap.size w w' := by
  have hk := vknown_any w
  obtain ⟨n, hn⟩ : ∃ n : Nat, x % 1700 = n := ⟨(x % 1700).toNat, by omega⟩
  have hn2 : n < 1700 := by omega
  have t8 : IntKind.i64.wrap ((n : Int) + 8) = (n : Int) + 8 := wrap64_small _ (by omega) (by omega)
  have tw : IntKind.i64.wrap (n : Int) = n := wrap64_small _ (by omega) (by omega)
  have hmk := make_bytes n (by omega)
  obtain ⟨E, eE⟩ : ∃ E, vxbErr v (List.replicate n 0) = E := ⟨_, rfl⟩
  obtain ⟨K, eK⟩ : ∃ K, vxOut v (List.replicate n 0) = K := ⟨_, rfl⟩
  obtain ⟨k, ek⟩ : ∃ k, K.length = k := ⟨_, rfl⟩
  have HK : Hid (vxbErr v (List.replicate n 0) = E ∧ vxOut v (List.replicate n 0) = K ∧ K.length = k ∧ 0 ≤ v) := ⟨eE, eK, ek, v0⟩
  clear eE eK ek v0
  go_enter Try.func6, Try.ntmps6
  go_wp2_with fail
  refine hk.mono ?_
  rintro r w1 ⟨rfl, hb1⟩
  have HB1 : Hid (Below w.heap.size w w1) := hb1
  clear hk hb1
  have hp := vbytes_any (noughts_at w1 n (by omega) w1.heap.size rfl) n n (by simp) v HK.out.2.2.2 HK.out.1 HK.out.2.1 HK.out.2.2.1
  go_upto_region 4 with fail
  rw [hn]
  clear hn
  go_wp2_with fail
  refine hp.mono ?_
  rintro r w2 ⟨u, rfl, hown, hb2⟩
  have HB2 : Hid (Below w.heap.size w w2) := by
    have h1 := HB1.out.alloc HB1.out.size (.cells (madeCells #[.int .u8 0] n) 5)
    exact h1.trans (hb2.mono h1.size)
  obtain ⟨a, cap, rfl⟩ := own_len hown
  clear hp hown hb2 HB1
  have hE := vz_err v n
  rw [HK.out.1] at hE
  by_cases hv : 16777215 < v
  · rw [if_pos hv] at hE
    subst hE
    go_wp2_with fail
    go_ret
    exact ⟨by simp, HB2.out⟩
  have hv' : v ≤ 16777215 := by omega
  rw [if_neg hv] at hE
  by_cases hM : 1592 < n
  · rw [if_pos hM] at hE
    subst hE
    have hM' : (1592 : Int) < n := by omega
    go_wp2_with fail
    go_ret
    exact ⟨by simp, HB2.out⟩
  rw [if_neg hM] at hE
  subst hE
  have hM' : (n : Int) ≤ 1592 := by omega
  have hk2 : (k : Int) = (n : Int) + 8 := by
    have e : K = vxb v (List.replicate n 0) := by rw [← HK.out.2.1]; exact if_pos HK.out.1
    rw [← HK.out.2.2.1, e, vxb_len, List.length_replicate]
    omega
  clear hv hM hn2
  go_wp2_with fail
  go_ret
  exact ⟨by simp, HB2.out⟩
end Go.Proofs.Ytdhmefoenopoeaa
