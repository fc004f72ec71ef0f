/-
  Which settings may be: an address may be owned once, in whichever place (ValidClaims).
-/
import Derived.Test.YtnddbklbgddblaaDoorPe49
import Derived.Test.YtnddbklbgddblaaDoorPe03
namespace Go.Proofs.YtnddbklbgddblaaDoor
open Go.RowKit
open La (adr)
open Va
set_option linter.unusedVariables false
set_option linter.unusedSimpArgs false
set_option maxRecDepth 20000

namespace Va
theorem or_flags (x : Int) (h0 : 0 ≤ x) (h1 : x ≤ 65535) : ∃ k1 k : Int, bits .or .u16 x 128 = k1 ∧ bits .or .u16 k1 4 = k ∧ 0 ≤ k ∧ k ≤ 65535 ∧ (bits .and .u16 k 4 != 0) = true ∧ (bits .and .u16 k 128 != 0) = true := by
  have hk : ∀ n : Int, 0 ≤ n → n < 2 ^ 16 → IntKind.u16.wrap n = n := fun n a b => by
    rw [show IntKind.u16.wrap n = n % 65536 by simp [IntKind.wrap, IntKind.bits, IntKind.signed]]; omega
  obtain ⟨a, rfl⟩ := Int.eq_ofNat_of_zero_le h0
  have ha : a < 2 ^ 16 := by omega
  have e1 := (bits_nat .u16 16 (by decide) hk a 128 ha (by decide)).2
  have l1 : a ||| 128 < 2 ^ 16 := Nat.or_lt_two_pow ha (by decide)
  have e2 := (bits_nat .u16 16 (by decide) hk (a ||| 128) 4 l1 (by decide)).2
  have l2 : (a ||| 128) ||| 4 < 2 ^ 16 := Nat.or_lt_two_pow l1 (by decide)
  have e3 := (bits_nat .u16 16 (by decide) hk ((a ||| 128) ||| 4) 4 l2 (by decide)).1
  have e4 := (bits_nat .u16 16 (by decide) hk ((a ||| 128) ||| 4) 128 l2 (by decide)).1
  refine ⟨_, _, e1, e2, by omega, by omega, ?_, ?_⟩
  · have : ((a ||| 128) ||| 4) &&& 4 = 4 := by
      apply Nat.eq_of_testBit_eq; intro i
      simp only [Nat.testBit_and, Nat.testBit_or]
      cases (Nat.testBit 4 i) <;> simp
    rw [this] at e3
    have e3' : bits .and .u16 (((a ||| 128 ||| 4 : Nat) : Int)) 4 = 4 := e3
    rw [e3']; rfl
  · have : ((a ||| 128) ||| 4) &&& 128 = 128 := by
      apply Nat.eq_of_testBit_eq; intro i
      simp only [Nat.testBit_and, Nat.testBit_or]
      cases (Nat.testBit 128 i) <;> simp
    rw [this] at e4
    have e4' : bits .and .u16 (((a ||| 128 ||| 4 : Nat) : Int)) 128 = 128 := e4
    rw [e4']; rfl
theorem chk_claim {f : Int} (hf : f ≤ 1000) {t0 t1 : Ten} (h0 : SQ 0 t0) (h1 : SQ 1 t1) (hp : t0.pool = [adr 5 5 (0 : Nat) 1, adr 5 5 (0 : Nat) 2]) (hs : t0.stat = [(adr 10 0 0 9, adr 5 6 (0 : Nat) 9)]) {x u1 u2 v2 : Int}
    (hx : x = adr 5 5 (0 : Nat) 1 ∨ x = adr 5 5 (0 : Nat) 2 ∨ x = adr 5 6 (0 : Nat) 9 ∨ x = adr 10 9 0 200)
    (hu : (u1 = x ∧ u2 = adr 5 5 (1 : Nat) 2 ∧ v2 = adr 5 6 (1 : Nat) 9) ∨ (u1 = adr 5 5 (1 : Nat) 1 ∧ u2 = x ∧ v2 = adr 5 6 (1 : Nat) 9) ∨ (u1 = adr 5 5 (1 : Nat) 1 ∧ u2 = adr 5 5 (1 : Nat) 2 ∧ v2 = x)) :
    chk (sc f [t0, { t1 with pool := [u1, u2], stat := [(adr 10 0 0 9, v2)] }]) = 92 := by
  have hG : GOk (sc f [t0, { t1 with pool := [u1, u2], stat := [(adr 10 0 0 9, v2)] }]) := ⟨by show adr 10 9 0 200 ≠ 0; decide, hf, by show 2 ≤ 16; omega⟩
  have hmem : x = u1 ∨ x = u2 ∨ x = v2 := by rcases hu with h | h | h <;> omega
  have nums : u1 ≠ 0 ∧ u2 ≠ 0 ∧ v2 ≠ 0 ∧ u1 ≠ u2 ∧ v2 ≠ u1 ∧ v2 ≠ u2 := by
    simp only [adr] at hx hu ⊢
    omega
  have tws : ∀ y, (y = u1 ∨ y = u2 ∨ y = v2) → y ≠ adr 192 168 0 5 ∧ y ≠ adr 192 168 0 6 := by
    intro y hy
    simp only [adr] at hx hu hy ⊢
    omega
  have ok1 : TOk { t1 with pool := [u1, u2], stat := [(adr 10 0 0 9, v2)] } := by
    have k := h1.ok
    refine ⟨k.r0, k.r1, rfl, ?_, k.r4, k.r5, rfl, k.r7, ?_, k.r9, ?_, ?_, k.r12, k.r13, k.r14, k.r15, k.r16⟩
    · rw [unl_iff]
      simp
      omega
    · rw [Bool.and_eq_true, unl_iff, unl_iff]
      simp [fst', snd', adr]
      omega
    · apply any_none
      intro y hy
      have e : y = v2 := by simpa [snd'] using hy
      subst e
      rw [Bool.eq_false_iff]
      intro e
      have := hs_iff.mp e
      simp at this
      omega
    · apply any_none
      intro y hy
      obtain ⟨p, hp', rfl⟩ := List.mem_map.mp hy
      rw [Bool.eq_false_iff]
      intro e
      rw [owns_iff] at e
      have hy2 : p.1 = u1 ∨ p.1 = u2 ∨ p.1 = v2 := by simpa [snd'] using e
      have hn := tws _ hy2
      rcases h1.twi p hp' with e1 | e1 <;> rw [e1] at hn
      · exact hn.1 rfl
      · exact hn.2 rfl
  have hp0 : pchk (sc f [t0, { t1 with pool := [u1, u2], stat := [(adr 10 0 0 9, v2)] }]) 0 = 0 := by
    refine POk.none ⟨h0.ok, Or.inl rfl, fun o ho => absurd ho (by simp)⟩ (by show 0 < 2; omega) (fun z hz => ⟨fun e => ?_, fun o ho => absurd ho (by simp)⟩)
    have hz2 := h0.own (show z ∈ t0.pool ++ snd' t0.stat from hz)
    have e' : z = adr 10 9 0 200 := e
    simp only [adr] at hz2 e'
    omega
  refine chk_at hG (k := 1) (by show 1 < 2; omega) (by decide) ?_ (fun j hj => by
    obtain rfl : j = 0 := by omega
    exact hp0)
  refine POk.owned ⟨ok1, Or.inr ?_, fun o ho => ?_⟩ (by show 1 < 2; omega) (x := x) ?_ ?_
  · show lss t0.name t1.name = true
    rw [h0.name, h1.name, lss_seat]; decide
  · have e : o = t0 := by simpa using ho
    subst e
    show o.vni ≠ t1.vni
    rw [h0.vni, h1.vni]; omega
  · show x ∈ [u1, u2] ++ snd' [(adr 10 0 0 9, v2)]
    simp [snd']
    omega
  · rcases hx with e | e | e | e
    · exact Or.inr ⟨t0, by simp, by rw [hp, hs, e]; simp [snd']⟩
    · exact Or.inr ⟨t0, by simp, by rw [hp, hs, e]; simp [snd']⟩
    · exact Or.inr ⟨t0, by simp, by rw [hp, hs, e]; simp [snd']⟩
    · exact Or.inl e
end Va
theorem zx_parts {i : Nat} {k : Int} {t : Ten} {p s q : Value} {C : List (Nat × Obj)} (hS : SeatQ i k t) (h4 : (bits .and .u16 k 4 != 0) = true) (h128 : (bits .and .u16 k 128 != 0) = true) (hz : ZX (t, p, s, q) C) :
    t.pool = [adr 5 5 i 1, adr 5 5 i 2] ∧ t.stat = [(adr 10 0 0 9, adr 5 6 i 9)] ∧ ∃ gp cp Yp gs cs Ys D, p = .slice (some ⟨gp, 0, none⟩) 2 cp ∧ s = .slice (some ⟨gs, 0, none⟩) 1 cs ∧ C = (gp, .cells ([.int .u32 (adr 5 5 i 1), .int .u32 (adr 5 5 i 2)] ++ Yp).toArray 22 (0, 0)) :: (gs, .cells ([.int .u32 (adr 10 0 0 9), .int .u32 (adr 5 6 i 9)] ++ Ys).toArray 52 (0, 0)) :: D ∧
      OwB 52 2 q t.twi.length (px t.twi).flatten D ∧ 2 ≤ cp ∧ cp ≤ maxLen ∧ 2 + Yp.length = cp * 1 ∧ 1 ≤ cs ∧ cs ≤ maxLen ∧ 2 + Ys.length = cs * 2 := by
  obtain ⟨lo, hi, fi, se, qu, ra, bu, rfl, r⟩ := hS
  rw [h4, h128] at hz ⊢
  obtain ⟨h0, B1, B2, B3, rfl, k1, k2, k3⟩ := hz
  have k1' : OwB 22 1 p 2 [.int .u32 (adr 5 5 i 1), .int .u32 (adr 5 5 i 2)] B1 := k1
  have k2' : OwB 52 2 s 1 [.int .u32 (adr 10 0 0 9), .int .u32 (adr 5 6 i 9)] B2 := k2
  obtain ⟨gp, cp, Yp, rfl, rfl, a1, a2, a3⟩ := owb_un k1' (by omega)
  obtain ⟨gs, cs, Ys, rfl, rfl, b1, b2, b3⟩ := owb_un k2' (by omega)
  exact ⟨rfl, rfl, gp, cp, Yp, gs, cs, Ys, B3, rfl, rfl, rfl, k3, a1, a2, a3, b1, b2, b3⟩
set_option maxHeartbeats 16000000 in
theorem claims14_law {w : World} (hV : Vs w) (ii kk kd : Int) (hi0 : -9223372036854775808 ≤ ii) (hi1 : ii ≤ 9223372036854775807) (hj0 : -9223372036854775808 ≤ kk) (hj1 : kk ≤ 9223372036854775807) (hk0 : 0 ≤ kd) (hk1 : kd ≤ 65535) :
    Calls Tryd.prog 8 #[.int .i64 ii, .int .i64 kk, .int .u16 kd] w fun e w' => e = .returned (.bool true) ∧ Below w.heap.size w w' := by
  obtain ⟨kq, kf, hkq, hkf, hkf0, hkf1, hf4, hf128⟩ := or_flags kd hk0 hk1
  have C := known14_any hV
  have CS : ∀ X : World, Calls Tryd.prog 20 #[.slice (some ⟨X.heap.size, 0, none⟩) 2 2, .int .u8 1] (X.alloc (.cells #[.int .u16 kf, .int .u16 kf] 36)) (ScQ 2 (fun _ => kf) (X.alloc (.cells #[.int .u16 kf, .int .u16 kf] 36))) := by
    intro X
    have hM0 : Mem X (X.alloc (.cells #[.int .u16 kf, .int .u16 kf] 36 (0, 0))) [(X.heap.size, .cells #[.int .u16 kf, .int .u16 kf] 36 (0, 0))] := (Mem.nil X).push1 rfl
    have := sconf14_any (X.alloc (.cells #[.int .u16 kf, .int .u16 kf] 36 (0, 0))) (some ⟨X.heap.size, 0, none⟩) 2 2 (fun _ => kf) (fun i hi => ⟨X.heap.size, 0, rfl, by
      have : i = 0 ∨ i = 1 := by omega
      rcases this with rfl | rfl
      · exact hM0.cell 0 rfl 0
      · exact hM0.cell 0 rfl 1, hkf0, hkf1⟩) 1 (by omega) (by omega)
    exact this
  have HV : Hid (Vs w ∧ (bits .and .u16 kf 4 != 0) = true ∧ (bits .and .u16 kf 128 != 0) = true) := ⟨hV, hf4, hf128⟩
  have CP4 : ∀ X, Calls Tryd.prog 17 #[.int .i64 ii, .int .i64 4] X fun e w' => e = .returned (.int .i64 (plc ii 4)) ∧ X = w' := fun X => place_any ii 4 X hi0 hi1 (by omega) (by omega)
  have CP3 : ∀ X, Calls Tryd.prog 17 #[.int .i64 kk, .int .i64 3] X fun e w' => e = .returned (.int .i64 (plc kk 3)) ∧ X = w' := fun X => place_any kk 3 X hj0 hj1 (by omega) (by omega)
  obtain ⟨P, hP, hP4⟩ : ∃ P : Nat, plc ii 4 = P ∧ P < 4 := ⟨(plc ii 4).toNat, by have := plc_range ii 4 (by omega); omega, by have := plc_range ii 4 (by omega); omega⟩
  obtain ⟨K, hK, hK3⟩ : ∃ K : Nat, plc kk 3 = K ∧ K < 3 := ⟨(plc kk 3).toNat, by have := plc_range kk 3 (by omega); omega, by have := plc_range kk 3 (by omega); omega⟩
  rw [hP] at CP4
  rw [hK] at CP3
  clear hV hi0 hi1 hj0 hj1 hk0 hk1 hkf0 hkf1 hP hK hf4 hf128
  go_enter Tryd.func8, Tryd.ntmps8
  go_wp2_with fail
  refine C.mono ?_
  rintro _ V0 ⟨rfl, hb⟩
  have HB0 : Hid (Below w.heap.size w V0) := hb
  clear hb C
  have CS0 := CS V0
  have HB0' : Hid (Below V0.heap.size V0 (V0.alloc (.cells #[.int .u16 kf, .int .u16 kf] 36))) := (Below.refl _ _).alloc (Nat.le_refl _) _
  obtain ⟨w0, hw0⟩ : ∃ w0, V0.alloc (.cells #[.int .u16 kf, .int .u16 kf] 36) = w0 := ⟨_, rfl⟩
  have HW0 : Hid (V0.alloc (.cells #[.int .u16 kf, .int .u16 kf] 36) = w0) := hw0
  rw [hw0] at HB0'
  clear hw0 CS
  go_wp2_with fail
  refine CS0.mono ?_
  rintro _ V1 ⟨f, ys, u, B, hf, rfl, hlen, hsq, hB, hzx, hM1⟩
  rw [HW0.out] at hM1
  obtain ⟨t0, p0, s0, q0, C0', t1, p1, s1, q1, C1', rfl⟩ := two_ys hlen
  have hQ0 : SeatQ 0 kf t0 := hsq 0 _ rfl
  have hQ1 : SeatQ 1 kf t1 := hsq 1 _ rfl
  have hS0 : SQ 0 t0 := hQ0.sq (by omega)
  have hS1 : SQ 1 t1 := hQ1.sq (by omega)
  have hz0 : ZX (t0, p0, s0, q0) C0' := hzx _ (List.mem_cons_self ..)
  have hz1 : ZX (t1, p1, s1, q1) C1' := hzx _ (List.mem_cons_of_mem _ (List.mem_cons_self ..))
  obtain ⟨hp0, hst0, gA, cA, YA, gB, cB, YB, D0, rfl, rfl, hC0, ho0, xa1, xa2, xa3, xb1, xb2, xb3⟩ := zx_parts hQ0 HV.out.2.1 HV.out.2.2 hz0
  obtain ⟨hp1, hst1, gp, cp, Yp, gq, cq, Yq, D1, rfl, rfl, hC1, ho1, ya1, ya2, ya3, yb1, yb2, yb3⟩ := zx_parts hQ1 HV.out.2.1 HV.out.2.2 hz1
  simp only [List.map_cons, List.map_nil, List.flatMap_cons, List.flatMap_nil, List.append_nil, List.flatten_cons, List.flatten_nil, List.length_cons, List.length_nil] at hB hM1
  obtain ⟨gb, cap, Y, rfl, rfl, hcap1, hcap2, hY⟩ := owb_un hB (by omega)
  obtain ⟨A, hA⟩ : ∃ A, (cc (sc f [t0, t1]) (.slice (some ⟨gb, 0, none⟩) 2 cap)).toArray = A := ⟨_, rfl⟩
  have hsz : A.size = 29 := by rw [← hA, List.size_toArray]; exact cc_len (sc_len _ _) _
  have hone : A.all (·.oneCell') = true := by rw [← hA]; exact cc_one _ rfl
  have i29 : (Tryd.prog.info? 28).map (·.size) = some A.size := by rw [hsz]; kernel_rfl
  have hA28 : A[28]? = some (.slice (some ⟨gb, 0, none⟩) 2 cap) := by rw [← hA]; exact cc_at28 (sc_len _ _) _
  have hA0 : A[0]? = some (.int .u32 (adr 10 9 0 200)) := by rw [← hA]; rfl
  obtain ⟨X0, hX0⟩ : ∃ X, ((zc (t0, .slice (some ⟨gA, 0, none⟩) 2 cA, .slice (some ⟨gB, 0, none⟩) 1 cB, q0) ++ zc (t1, .slice (some ⟨gp, 0, none⟩) 2 cp, .slice (some ⟨gq, 0, none⟩) 1 cq, q1)) ++ Y).toArray = X := ⟨_, rfl⟩
  have hX : X0[23]? = some (.slice (some ⟨gA, 0, none⟩) 2 cA) ∧ X0[27]? = some (.slice (some ⟨gB, 0, none⟩) 1 cB) ∧ X0[56]? = some (.slice (some ⟨gp, 0, none⟩) 2 cp) ∧ X0[60]? = some (.slice (some ⟨gq, 0, none⟩) 1 cq) := by
    rw [← hX0]
    obtain ⟨h1, h2, h3⟩ := hz0.1
    obtain ⟨h4, h5, h6⟩ := hz1.1
    clear hC0 hC1 hB hM1 hsq hzx hz0 hz1 hQ0 hQ1 hS0 hS1 hX0 hA ho0 ho1 hp0 hst0 hp1 hst1 hY
    obtain ⟨n, vn, key, vt, vm, ho, po, lo, hi, fi, st, tw, se, qu, ra, bu⟩ := t0
    obtain ⟨n', vn', key', vt', vm', ho', po', lo', hi', fi', st', tw', se', qu', ra', bu'⟩ := t1
    simp only at h1 h2 h3 h4 h5 h6
    obtain ⟨a, b, c, d, f, g, x, y, rfl⟩ := eight8 h1
    obtain ⟨a1, b1, c1, d1, f1, g1, rfl⟩ := six6 h2
    obtain ⟨a2, b2, c2, d2, f2, g2, rfl⟩ := six6 h3
    obtain ⟨a3, b3, c3, d3, f3, g3, x3, y3, rfl⟩ := eight8 h4
    obtain ⟨a4, b4, c4, d4, f4, g4, rfl⟩ := six6 h5
    obtain ⟨a5, b5, c5, d5, f5, g5, rfl⟩ := six6 h6
    exact ⟨rfl, rfl, rfl, rfl⟩
  obtain ⟨hX23, hX27, hX56, hX60⟩ := hX
  obtain ⟨PA, hPA⟩ : ∃ X, ([Value.int .u32 (adr 5 5 (0 : Nat) 1), .int .u32 (adr 5 5 (0 : Nat) 2)] ++ YA).toArray = X := ⟨_, rfl⟩
  obtain ⟨SA, hSA⟩ : ∃ X, ([Value.int .u32 (adr 10 0 0 9), .int .u32 (adr 5 6 (0 : Nat) 9)] ++ YB).toArray = X := ⟨_, rfl⟩
  obtain ⟨P1, hP1⟩ : ∃ X, ([Value.int .u32 (adr 5 5 (1 : Nat) 1), .int .u32 (adr 5 5 (1 : Nat) 2)] ++ Yp).toArray = X := ⟨_, rfl⟩
  obtain ⟨Q1, hQ1'⟩ : ∃ X, ([Value.int .u32 (adr 10 0 0 9), .int .u32 (adr 5 6 (1 : Nat) 9)] ++ Yq).toArray = X := ⟨_, rfl⟩
  have hPA0 : PA[0]? = some (.int .u32 (adr 5 5 (0 : Nat) 1)) := by rw [← hPA]; rfl
  have hPA1 : PA[1]? = some (.int .u32 (adr 5 5 (0 : Nat) 2)) := by rw [← hPA]; rfl
  have hSA1 : SA[1]? = some (.int .u32 (adr 5 6 (0 : Nat) 9)) := by rw [← hSA]; rfl
  have HP1 : Hid (P1[0]? = some (.int .u32 (adr 5 5 (1 : Nat) 1)) ∧ P1[1]? = some (.int .u32 (adr 5 5 (1 : Nat) 2)) ∧ Q1[1]? = some (.int .u32 (adr 5 6 (1 : Nat) 9))) := by rw [← hP1, ← hQ1']; exact ⟨rfl, rfl, rfl⟩
  have HPut : Hid (∀ x : Int, P1.setIfInBounds 0 (.int .u32 x) = ([Value.int .u32 x, .int .u32 (adr 5 5 (1 : Nat) 2)] ++ Yp).toArray ∧ P1.setIfInBounds 1 (.int .u32 x) = ([Value.int .u32 (adr 5 5 (1 : Nat) 1), .int .u32 x] ++ Yp).toArray ∧ Q1.setIfInBounds 1 (.int .u32 x) = ([Value.int .u32 (adr 10 0 0 9), .int .u32 x] ++ Yq).toArray ∧ P1 = ([Value.int .u32 (adr 5 5 (1 : Nat) 1), .int .u32 (adr 5 5 (1 : Nat) 2)] ++ Yp).toArray ∧ Q1 = ([Value.int .u32 (adr 10 0 0 9), .int .u32 (adr 5 6 (1 : Nat) 9)] ++ Yq).toArray) := by
    intro x
    rw [← hP1, ← hQ1']
    exact ⟨rfl, rfl, rfl, rfl, rfl⟩
  -- what the worlds hold as settings
  have HCV : Hid (∀ (u1 u2 v2 : Int) (P' Q' : Array Value), P' = ([Value.int .u32 u1, .int .u32 u2] ++ Yp).toArray → Q' = ([Value.int .u32 (adr 10 0 0 9), .int .u32 v2] ++ Yq).toArray → ∀ X, Mem w0 X ((gb, .cells X0 39 (0, 0)) :: (gA, .cells PA 22 (0, 0)) :: (gB, .cells SA 52 (0, 0)) :: (gp, .cells P' 22 (0, 0)) :: (gq, .cells Q' 52 (0, 0)) :: (D0 ++ D1)) → CV X (.agg A) (sc f [t0, { t1 with pool := [u1, u2], stat := [(adr 10 0 0 9, v2)] }])) := by
    intro u1 u2 v2 P' Q' hP' hQ' X hX
    rw [← hA]
    show CV X (.agg (cc (sc f [t0, { t1 with pool := [u1, u2], stat := [(adr 10 0 0 9, v2)] }]) (.slice (some ⟨gb, 0, none⟩) 2 cap)).toArray) _
    have hm : Mem w0 X ([(gb, .cells X0 39 (0, 0))] ++ (((gA, .cells PA 22 (0, 0)) :: (gB, .cells SA 52 (0, 0)) :: D0) ++ ((gp, .cells P' 22 (0, 0)) :: (gq, .cells Q' 52 (0, 0)) :: D1))) := hX.perm (by
      classical
      rw [List.perm_iff_count]; intro z; simp only [List.count_append, List.count_cons, List.count_nil]; omega)
    refine cv_ys (ys := [((t0, .slice (some ⟨gA, 0, none⟩) 2 cA, .slice (some ⟨gB, 0, none⟩) 1 cB, q0), C0'), (({ t1 with pool := [u1, u2], stat := [(adr 10 0 0 9, v2)] }, .slice (some ⟨gp, 0, none⟩) 2 cp, .slice (some ⟨gq, 0, none⟩) 1 cq, q1), [])]) (sc_len _ _) rfl (B := [(gb, .cells X0 39 (0, 0))]) (C := ((gA, .cells PA 22 (0, 0)) :: (gB, .cells SA 52 (0, 0)) :: D0) ++ ((gp, .cells P' 22 (0, 0)) :: (gq, .cells Q' 52 (0, 0)) :: D1)) ?_ ?_ hm
    · rw [← hX0]
      simpa [zc, tc] using hB
    · intro y hy
      simp only [List.mem_cons, List.not_mem_nil, or_false] at hy
      rcases hy with rfl | rfl
      · refine hz0.zb (fun x hx => List.mem_append_left _ ?_)
        rw [hC0, hPA, hSA] at hx
        exact hx
      · refine ⟨⟨hz1.1.key, hz1.1.vmac, hz1.1.host⟩, [(gp, .cells P' 22 (0, 0))], [(gq, .cells Q' 52 (0, 0))], D1, fun x hx => ?_, ?_, ?_, ho1⟩
        · apply List.mem_append_right
          simp only [List.mem_append, List.mem_cons, List.not_mem_nil, or_false] at hx ⊢
          rcases hx with h | h | h
          · exact Or.inr (Or.inr h)
          · exact Or.inr (Or.inl h)
          · exact Or.inl h
        · rw [hP']
          exact owb_mk (T := 22) (sz := 1) (n := 2) (cap := cp) (g := gp) (X := [.int .u32 u1, .int .u32 u2]) (Y := Yp) rfl ya1 ya2 ya3
        · rw [hQ']
          exact owb_mk (T := 52) (sz := 2) (n := 1) (cap := cq) (g := gq) (X := [.int .u32 (adr 10 0 0 9), .int .u32 v2]) (Y := Yq) rfl yb1 yb2 yb3
  have HSM : Hid (∀ u1 u2 v2 : Int, ∀ t ∈ [t0, { t1 with pool := [u1, u2], stat := [(adr 10 0 0 9, v2)] }], TSm t) := by
    intro u1 u2 v2 t ht
    have h1 := sq_sm hS1
    have : t = t0 ∨ t = { t1 with pool := [u1, u2], stat := [(adr 10 0 0 9, v2)] } := by simpa using ht
    rcases this with rfl | rfl
    · exact sq_sm hS0
    · exact ⟨h1.1, by show 2 ≤ _; omega, by show 1 ≤ _; omega, h1.2.2.2⟩
  have HCH : Hid (∀ x u1 u2 v2 : Int, (x = adr 5 5 (0 : Nat) 1 ∨ x = adr 5 5 (0 : Nat) 2 ∨ x = adr 5 6 (0 : Nat) 9 ∨ x = adr 10 9 0 200) → ((u1 = x ∧ u2 = adr 5 5 (1 : Nat) 2 ∧ v2 = adr 5 6 (1 : Nat) 9) ∨ (u1 = adr 5 5 (1 : Nat) 1 ∧ u2 = x ∧ v2 = adr 5 6 (1 : Nat) 9) ∨ (u1 = adr 5 5 (1 : Nat) 1 ∧ u2 = adr 5 5 (1 : Nat) 2 ∧ v2 = x)) → chk (sc f [t0, { t1 with pool := [u1, u2], stat := [(adr 10 0 0 9, v2)] }]) = 92) := fun x u1 u2 v2 h1 h2 => chk_claim (by omega) hS0 hS1 hp0 hst0 h1 h2
  have hMB : Mem w0 V1 ((gb, .cells X0 39 (0, 0)) :: (gA, .cells PA 22 (0, 0)) :: (gB, .cells SA 52 (0, 0)) :: (gp, .cells P1 22 (0, 0)) :: (gq, .cells Q1 52 (0, 0)) :: (D0 ++ D1)) := by
    rw [hC0, hC1, hPA, hSA, hP1, hQ1'] at hM1
    have e : ((gb, Obj.cells ((zc (t0, .slice (some ⟨gA, 0, none⟩) 2 cA, .slice (some ⟨gB, 0, none⟩) 1 cB, q0) ++ zc (t1, .slice (some ⟨gp, 0, none⟩) 2 cp, .slice (some ⟨gq, 0, none⟩) 1 cq, q1)) ++ Y).toArray 39 (0, 0))) = (gb, .cells X0 39 (0, 0)) := by rw [hX0]
    rw [e] at hM1
    exact hM1.perm (by
      classical
      rw [List.perm_iff_count]; intro z; simp only [List.count_append, List.count_cons, List.count_nil]; omega)
  have HMB : Hid (Mem w0 V1 ((gb, .cells X0 39 (0, 0)) :: (gA, .cells PA 22 (0, 0)) :: (gB, .cells SA 52 (0, 0)) :: (gp, .cells P1 22 (0, 0)) :: (gq, .cells Q1 52 (0, 0)) :: (D0 ++ D1))) := hMB
  have HVW : Hid (Vs w ∧ Below w.heap.size w w0) := ⟨HV.out.1, HB0.out.trans (HB0'.out.mono HB0.out.size)⟩
  have hA' : Value.agg (cc (sc f [t0, t1]) (.slice (some ⟨gb, 0, none⟩) 2 cap)).toArray = .agg A := by rw [hA]
  simp only [List.map_cons, List.map_nil]
  rw [hA']
  clear hA hA' hX0 hPA hSA hP1 hQ1' hM1 hMB hB hzx hz0 hz1 hS0 hS1 hQ0 hQ1 hp0 hp1 hst0 hst1 hC0 hC1 ho0 ho1 hY hlen hsq hcap1 hcap2 CS0 HW0 HB0 HB0' HV hf xa1 xa2 xa3 xb1 xb2 xb3 ya1 ya2 ya3 yb1 yb2 yb3
  obtain ⟨g7, hg7⟩ : ∃ g, V1.heap.size = g := ⟨_, rfl⟩
  have hk1 : (V1.alloc (.cells cz 28)).heap[g7]? = some (.cells cz 28 (0, 0)) := by rw [← hg7]; exact heap_alloc_new _ _
  have ew : (V1.alloc (.cells cz 28)).setRow g7 A = V1.alloc (.cells A 28) := by rw [← hg7]; exact World.setRow_alloc_new V1 cz A 28
  have HP : Hid (Mem w0 ((V1.alloc (.cells cz 28)).setRow g7 A) ((g7, .cells A 28 (0, 0)) :: (gb, .cells X0 39 (0, 0)) :: (gA, .cells PA 22 (0, 0)) :: (gB, .cells SA 52 (0, 0)) :: (gp, .cells P1 22 (0, 0)) :: (gq, .cells Q1 52 (0, 0)) :: (D0 ++ D1))) := by rw [ew]; exact HMB.out.front _ hg7.symm
  clear ew HMB
  go_upto_region 4 with (refine wpList_store_row rfl 28 (.tmp 7) (.tmp 19) (by with_reducible rfl) g7 A (by simp [Act.eval]; try exact hg7) (by first | rfl | simp [Act.eval]) 28 cz hk1 i29 (by rw [hsz]; rfl) hone ?_)
  refine wp_letter (fun X => Mem w0 X ((g7, .cells A 28 (0, 0)) :: (gb, .cells X0 39 (0, 0)) :: (gA, .cells PA 22 (0, 0)) :: (gB, .cells SA 52 (0, 0)) :: (gp, .cells P1 22 (0, 0)) :: (gq, .cells Q1 52 (0, 0)) :: (D0 ++ D1))) (by exact HP.out) ?_
  intro V2 hM2
  try simp only [hg7]
  have HM2 : Hid (Mem w0 V2 ((g7, .cells A 28 (0, 0)) :: (gb, .cells X0 39 (0, 0)) :: (gA, .cells PA 22 (0, 0)) :: (gB, .cells SA 52 (0, 0)) :: (gp, .cells P1 22 (0, 0)) :: (gq, .cells Q1 52 (0, 0)) :: (D0 ++ D1))) := hM2
  clear HP hg7 hk1 hM2 hone hsz
  -- what region 4 reads
  generalize adr 5 5 (0 : Nat) 1 = x0 at *
  generalize adr 5 5 (0 : Nat) 2 = x1 at *
  generalize adr 5 6 (0 : Nat) 9 = x2 at *
  generalize adr 10 9 0 200 = x3 at *
  have HS : Hid (∀ X, Below V2.heap.size V2 X → X.cell? ⟨g7, 28, none⟩ = some (.slice (some ⟨gb, 0, none⟩) 2 cap) ∧ X.cell? ⟨gb, 23, none⟩ = some (.slice (some ⟨gA, 0, none⟩) 2 cA) ∧ X.cell? ⟨gA, 0, none⟩ = some (.int .u32 x0) ∧ X.cell? ⟨gA, 1, none⟩ = some (.int .u32 x1) ∧ X.cell? ⟨gb, 27, none⟩ = some (.slice (some ⟨gB, 0, none⟩) 1 cB) ∧ X.cell? ⟨gB, 1, none⟩ = some (.int .u32 x2) ∧ X.cell? ⟨g7, 0, none⟩ = some (.int .u32 x3)) := by
    intro X hX
    have hM := HM2.out.after hX
    exact ⟨(hM.cell 0 rfl 28).trans hA28, (hM.cell 1 rfl 23).trans hX23, (hM.cell 2 rfl 0).trans hPA0, (hM.cell 2 rfl 1).trans hPA1, (hM.cell 1 rfl 27).trans hX27, (hM.cell 3 rfl 1).trans hSA1, (hM.cell 0 rfl 0).trans hA0⟩
  obtain ⟨go, hgo⟩ : ∃ g, V2.heap.size = g := ⟨_, rfl⟩
  have HG : Hid (V2.heap.size = go) := hgo
  clear hgo
  have HM3 : Hid (Mem w0 (V2.drew.alloc (.cells #[.int .u32 x0, .int .u32 x1, .int .u32 x2, .int .u32 x3] 22)) ((go, .cells #[.int .u32 x0, .int .u32 x1, .int .u32 x2, .int .u32 x3] 22 (0, 0)) :: ((g7, .cells A 28 (0, 0)) :: (gb, .cells X0 39 (0, 0)) :: (gA, .cells PA 22 (0, 0)) :: (gB, .cells SA 52 (0, 0)) :: (gp, .cells P1 22 (0, 0)) :: (gq, .cells Q1 52 (0, 0)) :: (D0 ++ D1)))) := HM2.out.drew.front _ HG.out.symm
  have HBA : Hid (Below V2.heap.size V2 (V2.drew.alloc (.cells #[.int .u32 x0, .int .u32 x1, .int .u32 x2, .int .u32 x3] 22))) := (Below.refl _ _).drew.alloc (Nat.le_refl _) _
  refine wp_region_held_drew (S := fun X => X.cell? ⟨g7, 28, none⟩ = some (.slice (some ⟨gb, 0, none⟩) 2 cap) ∧ X.cell? ⟨gb, 23, none⟩ = some (.slice (some ⟨gA, 0, none⟩) 2 cA) ∧ X.cell? ⟨gA, 0, none⟩ = some (.int .u32 x0) ∧ X.cell? ⟨gA, 1, none⟩ = some (.int .u32 x1) ∧ X.cell? ⟨gb, 27, none⟩ = some (.slice (some ⟨gB, 0, none⟩) 1 cB) ∧ X.cell? ⟨gB, 1, none⟩ = some (.int .u32 x2) ∧ X.cell? ⟨g7, 0, none⟩ = some (.int .u32 x3)) (by kernel_rfl) (HS.out _ (Below.refl _ _).drew) (fun hHeld => ?_)
  refine wpAnyH_take (i := 0) (v := ?_) rfl (by kernel_rfl) (by kernel_rfl) (by kernel_rfl) (fun _ _ _ h => h) (Or.inl ⟨by rfl, ?qy0⟩) (by assumption) ?qr0
  case qy0 =>
    intro w hSw
    (try dsimp only at hSw)
    go_simp
    all_goals with_reducible rfl
  try simp only [List.getElem_toArray, List.getElem_cons_zero, List.getElem_cons_succ, Act.put, List.setIfInBounds_toArray, List.set_cons_zero, List.set_cons_succ]
  refine wpAnyH_take (i := 1) (v := ?_) rfl (by kernel_rfl) (by kernel_rfl) (by kernel_rfl) (fun _ _ _ h => h) (Or.inl ⟨by rfl, ?qy1⟩) (by assumption) ?qr1
  case qy1 =>
    intro w hSw
    (try dsimp only at hSw)
    go_simp
    all_goals with_reducible rfl
  try simp only [List.getElem_toArray, List.getElem_cons_zero, List.getElem_cons_succ, Act.put, List.setIfInBounds_toArray, List.set_cons_zero, List.set_cons_succ]
  refine wpAnyH_take (i := 2) (v := ?_) rfl (by kernel_rfl) (by kernel_rfl) (by kernel_rfl) (fun _ _ _ h => h) (Or.inl ⟨by rfl, ?qy2⟩) (by assumption) ?qr2
  case qy2 =>
    intro w hSw
    (try dsimp only at hSw)
    go_simp
    all_goals with_reducible rfl
  try simp only [List.getElem_toArray, List.getElem_cons_zero, List.getElem_cons_succ, Act.put, List.setIfInBounds_toArray, List.set_cons_zero, List.set_cons_succ]
  refine wpAnyH_take (i := 3) (v := ?_) rfl (by kernel_rfl) (by kernel_rfl) (by kernel_rfl) (fun _ _ _ h => h) (Or.inl ⟨by rfl, ?qy3⟩) (by assumption) ?qr3
  case qy3 =>
    intro w hSw
    (try dsimp only at hSw)
    go_simp
    all_goals with_reducible rfl
  try simp only [List.getElem_toArray, List.getElem_cons_zero, List.getElem_cons_succ, Act.put, List.setIfInBounds_toArray, List.set_cons_zero, List.set_cons_succ]
  refine wpAnyH_take (i := 4) (v := ?_) rfl (by kernel_rfl) (by kernel_rfl) (by kernel_rfl) (fun _ _ _ h => h) (Or.inl ⟨by rfl, ?qy4⟩) (by assumption) ?qr4
  case qy4 =>
    intro w hSw
    (try dsimp only at hSw)
    go_simp
    all_goals with_reducible rfl
  try simp only [List.getElem_toArray, List.getElem_cons_zero, List.getElem_cons_succ, Act.put, List.setIfInBounds_toArray, List.set_cons_zero, List.set_cons_succ]
  refine wpAnyH_take (i := 5) (v := ?_) rfl (by kernel_rfl) (by kernel_rfl) (by kernel_rfl) (fun _ _ _ h => h) (Or.inl ⟨by rfl, ?qy5⟩) (by assumption) ?qr5
  case qy5 =>
    intro w hSw
    (try dsimp only at hSw)
    go_simp
    all_goals with_reducible rfl
  try simp only [List.getElem_toArray, List.getElem_cons_zero, List.getElem_cons_succ, Act.put, List.setIfInBounds_toArray, List.set_cons_zero, List.set_cons_succ]
  refine wpAnyH_take (i := 6) (v := ?_) rfl (by kernel_rfl) (by kernel_rfl) (by kernel_rfl) (fun _ _ _ h => h) (Or.inl ⟨by rfl, ?qy6⟩) (by assumption) ?qr6
  case qy6 =>
    intro w hSw
    (try dsimp only at hSw)
    go_simp
    all_goals with_reducible rfl
  try simp only [List.getElem_toArray, List.getElem_cons_zero, List.getElem_cons_succ, Act.put, List.setIfInBounds_toArray, List.set_cons_zero, List.set_cons_succ]
  refine wpAnyH_take (i := 7) (v := ?_) rfl (by kernel_rfl) (by kernel_rfl) (by kernel_rfl) (fun _ _ _ h => h) (Or.inl ⟨by rfl, ?qy7⟩) (by assumption) ?qr7
  case qy7 =>
    intro w hSw
    (try dsimp only at hSw)
    go_simp
    all_goals with_reducible rfl
  try simp only [List.getElem_toArray, List.getElem_cons_zero, List.getElem_cons_succ, Act.put, List.setIfInBounds_toArray, List.set_cons_zero, List.set_cons_succ]
  refine wpAnyH_take (i := 8) (v := ?_) rfl (by kernel_rfl) (by kernel_rfl) (by kernel_rfl) (fun _ _ _ h => h) (Or.inl ⟨by rfl, ?qy8⟩) (by assumption) ?qr8
  case qy8 =>
    intro w hSw
    (try dsimp only at hSw)
    go_simp
    all_goals with_reducible rfl
  try simp only [List.getElem_toArray, List.getElem_cons_zero, List.getElem_cons_succ, Act.put, List.setIfInBounds_toArray, List.set_cons_zero, List.set_cons_succ]
  refine wpAnyH_take (i := 9) (v := ?_) rfl (by kernel_rfl) (by kernel_rfl) (by kernel_rfl) (fun _ _ _ h => h) (Or.inl ⟨by rfl, ?qy9⟩) (by assumption) ?qr9
  case qy9 =>
    intro w hSw
    (try dsimp only at hSw)
    go_simp
    all_goals with_reducible rfl
  try simp only [List.getElem_toArray, List.getElem_cons_zero, List.getElem_cons_succ, Act.put, List.setIfInBounds_toArray, List.set_cons_zero, List.set_cons_succ]
  refine wpAnyH_take (i := 10) (v := ?_) rfl (by kernel_rfl) (by kernel_rfl) (by kernel_rfl) (fun _ _ _ h => h) (Or.inl ⟨by rfl, ?qy10⟩) (by assumption) ?qr10
  case qy10 =>
    intro w hSw
    (try dsimp only at hSw)
    go_simp
    all_goals with_reducible rfl
  try simp only [List.getElem_toArray, List.getElem_cons_zero, List.getElem_cons_succ, Act.put, List.setIfInBounds_toArray, List.set_cons_zero, List.set_cons_succ]
  refine wpAnyH_take (i := 11) (v := ?_) rfl (by kernel_rfl) (by kernel_rfl) (by kernel_rfl) (fun _ _ _ h => h) (Or.inl ⟨by rfl, ?qy11⟩) (by assumption) ?qr11
  case qy11 =>
    intro w hSw
    (try dsimp only at hSw)
    go_simp
    all_goals with_reducible rfl
  try simp only [List.getElem_toArray, List.getElem_cons_zero, List.getElem_cons_succ, Act.put, List.setIfInBounds_toArray, List.set_cons_zero, List.set_cons_succ]
  refine wpAnyH_take (i := 12) (v := ?_) rfl (by kernel_rfl) (by kernel_rfl) (by kernel_rfl) (fun _ _ _ h => h) (Or.inl ⟨by rfl, ?qy12⟩) (by assumption) ?qr12
  case qy12 =>
    intro w hSw
    (try dsimp only at hSw)
    go_simp
    all_goals with_reducible rfl
  try simp only [List.getElem_toArray, List.getElem_cons_zero, List.getElem_cons_succ, Act.put, List.setIfInBounds_toArray, List.set_cons_zero, List.set_cons_succ]
  refine wpAnyH_take (i := 13) (v := ?_) rfl (by kernel_rfl) (by kernel_rfl) (by kernel_rfl) (fun _ _ _ h => h) (Or.inl ⟨by rfl, ?qy13⟩) (by assumption) ?qr13
  case qy13 =>
    intro w hSw
    (try dsimp only at hSw)
    go_simp
    all_goals with_reducible rfl
  try simp only [List.getElem_toArray, List.getElem_cons_zero, List.getElem_cons_succ, Act.put, List.setIfInBounds_toArray, List.set_cons_zero, List.set_cons_succ]
  refine wpAnyH_take (i := 14) (v := ?_) rfl (by kernel_rfl) (by kernel_rfl) (by kernel_rfl) (fun _ _ _ h => h) (Or.inl ⟨by rfl, ?qy14⟩) (by assumption) ?qr14
  case qy14 =>
    intro w hSw
    (try dsimp only at hSw)
    go_simp
    all_goals with_reducible rfl
  try simp only [List.getElem_toArray, List.getElem_cons_zero, List.getElem_cons_succ, Act.put, List.setIfInBounds_toArray, List.set_cons_zero, List.set_cons_succ]
  refine wpAnyH_take (i := 15) (v := ?_) rfl (by kernel_rfl) (by kernel_rfl) (by kernel_rfl) (fun _ _ _ h => h) (Or.inl ⟨by rfl, ?qy15⟩) (by assumption) ?qr15
  case qy15 =>
    intro w hSw
    (try dsimp only at hSw)
    go_simp
    all_goals with_reducible rfl
  try simp only [List.getElem_toArray, List.getElem_cons_zero, List.getElem_cons_succ, Act.put, List.setIfInBounds_toArray, List.set_cons_zero, List.set_cons_succ]
  refine wpAnyH_take (i := 16) (v := ?_) rfl (by kernel_rfl) (by kernel_rfl) (by kernel_rfl) (fun _ _ _ h => h) (Or.inl ⟨by rfl, ?qy16⟩) (by assumption) ?qr16
  case qy16 =>
    intro w hSw
    (try dsimp only at hSw)
    go_simp
    all_goals with_reducible rfl
  try simp only [List.getElem_toArray, List.getElem_cons_zero, List.getElem_cons_succ, Act.put, List.setIfInBounds_toArray, List.set_cons_zero, List.set_cons_succ]
  refine wpAnyH_take (i := 17) (v := ?_) rfl (by kernel_rfl) (by kernel_rfl) (by kernel_rfl) (fun _ _ _ h => h) (Or.inl ⟨by rfl, ?qy17⟩) (by assumption) ?qr17
  case qy17 =>
    intro w hSw
    (try dsimp only at hSw)
    go_simp
    all_goals with_reducible rfl
  try simp only [List.getElem_toArray, List.getElem_cons_zero, List.getElem_cons_succ, Act.put, List.setIfInBounds_toArray, List.set_cons_zero, List.set_cons_succ]
  refine wpAnyH_take (i := 18) (v := ?_) rfl (by kernel_rfl) (by kernel_rfl) (by kernel_rfl) (fun _ _ _ h => h) (Or.inl ⟨by rfl, ?qy18⟩) (by assumption) ?qr18
  case qy18 =>
    intro w hSw
    (try dsimp only at hSw)
    go_simp
    all_goals with_reducible rfl
  try simp only [List.getElem_toArray, List.getElem_cons_zero, List.getElem_cons_succ, Act.put, List.setIfInBounds_toArray, List.set_cons_zero, List.set_cons_succ]
  refine wpAnyH_take (i := 19) (v := ?_) rfl (by kernel_rfl) (by kernel_rfl) (by kernel_rfl) (fun _ _ _ h => h) (Or.inl ⟨by rfl, ?qy19⟩) (by assumption) ?qr19
  case qy19 =>
    intro w hSw
    (try dsimp only at hSw)
    go_simp
    all_goals with_reducible rfl
  try simp only [List.getElem_toArray, List.getElem_cons_zero, List.getElem_cons_succ, Act.put, List.setIfInBounds_toArray, List.set_cons_zero, List.set_cons_succ]
  refine wpAnyH_take (i := 20) (v := ?_) rfl (by kernel_rfl) (by kernel_rfl) (by kernel_rfl) (fun _ _ _ h => h) (Or.inl ⟨by rfl, ?qy20⟩) (by assumption) ?qr20
  case qy20 =>
    intro w hSw
    (try dsimp only at hSw)
    go_simp
    all_goals with_reducible rfl
  try simp only [List.getElem_toArray, List.getElem_cons_zero, List.getElem_cons_succ, Act.put, List.setIfInBounds_toArray, List.set_cons_zero, List.set_cons_succ]
  refine wpAnyH_take (i := 21) (v := ?_) rfl (by kernel_rfl) (by kernel_rfl) (by kernel_rfl) (fun _ _ _ h => h) (Or.inl ⟨by rfl, ?qy21⟩) (by assumption) ?qr21
  case qy21 =>
    intro w hSw
    (try dsimp only at hSw)
    go_simp
    all_goals with_reducible rfl
  try simp only [List.getElem_toArray, List.getElem_cons_zero, List.getElem_cons_succ, Act.put, List.setIfInBounds_toArray, List.set_cons_zero, List.set_cons_succ]
  refine wpAnyH_take (i := 22) (v := ?_) rfl (by kernel_rfl) (by kernel_rfl) (by kernel_rfl) (fun _ _ _ h => h) (Or.inl ⟨by rfl, ?qy22⟩) (by assumption) ?qr22
  case qy22 =>
    intro w hSw
    (try dsimp only at hSw)
    go_simp
    all_goals with_reducible rfl
  try simp only [List.getElem_toArray, List.getElem_cons_zero, List.getElem_cons_succ, Act.put, List.setIfInBounds_toArray, List.set_cons_zero, List.set_cons_succ]
  refine wpAnyH_take (i := 23) (v := ?_) rfl (by kernel_rfl) (by kernel_rfl) (by kernel_rfl) (fun _ _ _ h => h) (Or.inl ⟨by rfl, ?qy23⟩) (by assumption) ?qr23
  case qy23 =>
    intro w hSw
    (try dsimp only at hSw)
    go_simp
    all_goals with_reducible rfl
  try simp only [List.getElem_toArray, List.getElem_cons_zero, List.getElem_cons_succ, Act.put, List.setIfInBounds_toArray, List.set_cons_zero, List.set_cons_succ]
  refine wpAnyH_ready (rs := [24]) (by kernel_rfl) (by simp) ?_
  refine AllReadyH.cons rfl (fun K hK => ?_) AllReadyH.nil
  go_simp
  refine hK.out _ _ (HS.out _ HBA.out) (fun hHeld => ?_)
  clear hK K
  try simp only [List.getElem_toArray, List.getElem_cons_zero, List.getElem_cons_succ, Act.put, List.setIfInBounds_toArray, List.set_cons_zero, List.set_cons_succ]
  refine wpAnyH_take (i := 25) (v := ?_) rfl (by kernel_rfl) (by kernel_rfl) (by kernel_rfl) (fun _ _ _ h => h) (Or.inl ⟨by rfl, ?qy25⟩) (by assumption) ?qr25
  case qy25 =>
    intro w hSw
    (try dsimp only at hSw)
    go_simp
    all_goals with_reducible rfl
  try simp only [List.getElem_toArray, List.getElem_cons_zero, List.getElem_cons_succ, Act.put, List.setIfInBounds_toArray, List.set_cons_zero, List.set_cons_succ]
  refine wpAnyH_done (by kernel_rfl) ?_ _
  go_upto_region 5 with fail
  refine wp_letter (fun X => Mem w0 X ((go, .cells #[.int .u32 x0, .int .u32 x1, .int .u32 x2, .int .u32 x3] 22 (0, 0)) :: ((g7, .cells A 28 (0, 0)) :: (gb, .cells X0 39 (0, 0)) :: (gA, .cells PA 22 (0, 0)) :: (gB, .cells SA 52 (0, 0)) :: (gp, .cells P1 22 (0, 0)) :: (gq, .cells Q1 52 (0, 0)) :: (D0 ++ D1)))) (by exact HM3.out) ?_
  intro V3 hM3
  try simp only [HG.out]
  obtain ⟨x, hx, hset⟩ : ∃ x : Int, (#[Value.int .u32 x0, .int .u32 x1, .int .u32 x2, .int .u32 x3] : Array Value)[P]? = some (.int .u32 x) ∧ (x = x0 ∨ x = x1 ∨ x = x2 ∨ x = x3) := by
    have : P = 0 ∨ P = 1 ∨ P = 2 ∨ P = 3 := by omega
    rcases this with rfl | rfl | rfl | rfl
    · exact ⟨x0, rfl, Or.inl rfl⟩
    · exact ⟨x1, rfl, Or.inr (Or.inl rfl)⟩
    · exact ⟨x2, rfl, Or.inr (Or.inr (Or.inl rfl))⟩
    · exact ⟨x3, rfl, Or.inr (Or.inr (Or.inr rfl))⟩
  have d0 : V3.cell? ⟨go, P, none⟩ = some (.int .u32 x) := (hM3.cell 0 rfl P).trans hx
  have c28 : V3.cell? ⟨g7, 28, none⟩ = some (.slice (some ⟨gb, 0, none⟩) 2 cap) := (hM3.cell 1 rfl 28).trans hA28
  have c56 : V3.cell? ⟨gb, 56, none⟩ = some (.slice (some ⟨gp, 0, none⟩) 2 cp) := (hM3.cell 2 rfl 56).trans hX56
  have c60 : V3.cell? ⟨gb, 60, none⟩ = some (.slice (some ⟨gq, 0, none⟩) 1 cq) := (hM3.cell 2 rfl 60).trans hX60
  have HM4 : Hid (Mem w0 V3 ((g7, .cells A 28 (0, 0)) :: (gb, .cells X0 39 (0, 0)) :: (gA, .cells PA 22 (0, 0)) :: (gB, .cells SA 52 (0, 0)) :: (gp, .cells P1 22 (0, 0)) :: (gq, .cells Q1 52 (0, 0)) :: (D0 ++ D1))) := hM3.sub
  have HST : Hid (x = x0 ∨ x = x1 ∨ x = x2 ∨ x = x3) := hset
  have hP4' : (P : Int) < 4 := by omega
  clear hM3 HM3 HM2 HS HBA HG hx hset hA0 hA28 hX23 hX27 hX56 hX60 hPA0 hPA1 hSA1
  go_wp2_with fail
  refine (CP4 V3).mono ?_
  rintro _ _ ⟨rfl, rfl⟩
  go_wp2_with fail
  refine (CP3 V3).mono ?_
  rintro _ _ ⟨rfl, rfl⟩
  clear CP4 CP3 d0
  have : K = 0 ∨ K = 1 ∨ K = 2 := by omega
  rcases this with rfl | rfl | rfl
  · have fr : V3.frozen? ⟨gp, 0, none⟩ = false := HM4.out.free 4 rfl 0
    have cl := (HM4.out.cell 4 rfl 0).trans HP1.out.1
    have HM5 : Hid (Mem w0 (V3.setCell ⟨gp, 0, none⟩ (.int .u32 x)) ((g7, .cells A 28 (0, 0)) :: (gb, .cells X0 39 (0, 0)) :: (gA, .cells PA 22 (0, 0)) :: (gB, .cells SA 52 (0, 0)) :: (gp, .cells (P1.setIfInBounds 0 (.int .u32 x)) 22 (0, 0)) :: (gq, .cells Q1 52 (0, 0)) :: (D0 ++ D1))) := HM4.out.set 4 rfl 0 (.int .u32 x)
    obtain ⟨P', hP'⟩ : ∃ P', P1.setIfInBounds 0 (.int .u32 x) = P' := ⟨_, rfl⟩
    obtain ⟨Q', hQ'⟩ : ∃ Q', Q1 = Q' := ⟨_, rfl⟩
    rw [hP', hQ'] at HM5
    have hPP : P' = ([Value.int .u32 (x), .int .u32 (adr 5 5 (1 : Nat) 2)] ++ Yp).toArray := by rw [← hP']; exact (HPut.out x).1
    have hQQ : Q' = ([Value.int .u32 (adr 10 0 0 9), .int .u32 (adr 5 6 (1 : Nat) 9)] ++ Yq).toArray := by rw [← hQ']; exact (HPut.out x).2.2.2.2
    have HCK : Hid (∀ X, Mem w0 X ((g7, .cells A 28 (0, 0)) :: (gb, .cells X0 39 (0, 0)) :: (gA, .cells PA 22 (0, 0)) :: (gB, .cells SA 52 (0, 0)) :: (gp, .cells P' 22 (0, 0)) :: (gq, .cells Q' 52 (0, 0)) :: (D0 ++ D1)) → Calls Tryd.prog 11 #[.agg A] X fun e V => e = .returned (.int .i64 92) ∧ Below X.heap.size X V) := by
      intro X hX
      have h := check_any (HVW.out.1.below (HVW.out.2.trans (hX.below.mono HVW.out.2.size))) (HCV.out _ _ _ P' Q' hPP hQQ X hX.sub) (by show 2 ≤ 1000000; omega) (HSM.out _ _ _)
      rw [HCH.out x _ _ _ HST.out (Or.inl ⟨rfl, rfl, rfl⟩)] at h
      exact h
    clear hP' hQ' hPP hQQ HPut HCV HSM HCH HST HM4 HP1
    go_upto_region 12 with fail
    refine wp_letter (fun X => Mem w0 X ((g7, .cells A 28 (0, 0)) :: (gb, .cells X0 39 (0, 0)) :: (gA, .cells PA 22 (0, 0)) :: (gB, .cells SA 52 (0, 0)) :: (gp, .cells P' 22 (0, 0)) :: (gq, .cells Q' 52 (0, 0)) :: (D0 ++ D1))) (by exact HM5.out) ?_
    intro V5 hM5
    clear HM5 fr cl c28 c56 c60
    have k7 : V5.heap[g7]? = some (.cells A 28 (0, 0)) := hM5.get 0 rfl
    have CK := HCK.out V5 hM5
    have HB5 : Hid (Below w.heap.size w V5) := HVW.out.2.trans (hM5.below.mono HVW.out.2.size)
    clear HCK hM5 HVW
    go_wp2_with (refine wpList_load_row rfl 28 (.tmp 7) (by with_reducible rfl) g7 (by first | rfl | simp [Act.eval]) 28 A (0, 0) _ k7 Tryd.underlying28 rfl i29 ?_)
    refine CK.mono ?_
    rintro _ V6 ⟨rfl, hb⟩
    go_wp2_with fail
    go_ret
    exact ⟨rfl, HB5.out.trans (hb.mono HB5.out.size)⟩
  · have fr : V3.frozen? ⟨gp, 1, none⟩ = false := HM4.out.free 4 rfl 1
    have cl := (HM4.out.cell 4 rfl 1).trans HP1.out.2.1
    have HM5 : Hid (Mem w0 (V3.setCell ⟨gp, 1, none⟩ (.int .u32 x)) ((g7, .cells A 28 (0, 0)) :: (gb, .cells X0 39 (0, 0)) :: (gA, .cells PA 22 (0, 0)) :: (gB, .cells SA 52 (0, 0)) :: (gp, .cells (P1.setIfInBounds 1 (.int .u32 x)) 22 (0, 0)) :: (gq, .cells Q1 52 (0, 0)) :: (D0 ++ D1))) := HM4.out.set 4 rfl 1 (.int .u32 x)
    obtain ⟨P', hP'⟩ : ∃ P', P1.setIfInBounds 1 (.int .u32 x) = P' := ⟨_, rfl⟩
    obtain ⟨Q', hQ'⟩ : ∃ Q', Q1 = Q' := ⟨_, rfl⟩
    rw [hP', hQ'] at HM5
    have hPP : P' = ([Value.int .u32 (adr 5 5 (1 : Nat) 1), .int .u32 (x)] ++ Yp).toArray := by rw [← hP']; exact (HPut.out x).2.1
    have hQQ : Q' = ([Value.int .u32 (adr 10 0 0 9), .int .u32 (adr 5 6 (1 : Nat) 9)] ++ Yq).toArray := by rw [← hQ']; exact (HPut.out x).2.2.2.2
    have HCK : Hid (∀ X, Mem w0 X ((g7, .cells A 28 (0, 0)) :: (gb, .cells X0 39 (0, 0)) :: (gA, .cells PA 22 (0, 0)) :: (gB, .cells SA 52 (0, 0)) :: (gp, .cells P' 22 (0, 0)) :: (gq, .cells Q' 52 (0, 0)) :: (D0 ++ D1)) → Calls Tryd.prog 11 #[.agg A] X fun e V => e = .returned (.int .i64 92) ∧ Below X.heap.size X V) := by
      intro X hX
      have h := check_any (HVW.out.1.below (HVW.out.2.trans (hX.below.mono HVW.out.2.size))) (HCV.out _ _ _ P' Q' hPP hQQ X hX.sub) (by show 2 ≤ 1000000; omega) (HSM.out _ _ _)
      rw [HCH.out x _ _ _ HST.out (Or.inr (Or.inl ⟨rfl, rfl, rfl⟩))] at h
      exact h
    clear hP' hQ' hPP hQQ HPut HCV HSM HCH HST HM4 HP1
    go_upto_region 12 with fail
    refine wp_letter (fun X => Mem w0 X ((g7, .cells A 28 (0, 0)) :: (gb, .cells X0 39 (0, 0)) :: (gA, .cells PA 22 (0, 0)) :: (gB, .cells SA 52 (0, 0)) :: (gp, .cells P' 22 (0, 0)) :: (gq, .cells Q' 52 (0, 0)) :: (D0 ++ D1))) (by exact HM5.out) ?_
    intro V5 hM5
    clear HM5 fr cl c28 c56 c60
    have k7 : V5.heap[g7]? = some (.cells A 28 (0, 0)) := hM5.get 0 rfl
    have CK := HCK.out V5 hM5
    have HB5 : Hid (Below w.heap.size w V5) := HVW.out.2.trans (hM5.below.mono HVW.out.2.size)
    clear HCK hM5 HVW
    go_wp2_with (refine wpList_load_row rfl 28 (.tmp 7) (by with_reducible rfl) g7 (by first | rfl | simp [Act.eval]) 28 A (0, 0) _ k7 Tryd.underlying28 rfl i29 ?_)
    refine CK.mono ?_
    rintro _ V6 ⟨rfl, hb⟩
    go_wp2_with fail
    go_ret
    exact ⟨rfl, HB5.out.trans (hb.mono HB5.out.size)⟩
  · have fr : V3.frozen? ⟨gq, 1, none⟩ = false := HM4.out.free 5 rfl 1
    have cl := (HM4.out.cell 5 rfl 1).trans HP1.out.2.2
    have HM5 : Hid (Mem w0 (V3.setCell ⟨gq, 1, none⟩ (.int .u32 x)) ((g7, .cells A 28 (0, 0)) :: (gb, .cells X0 39 (0, 0)) :: (gA, .cells PA 22 (0, 0)) :: (gB, .cells SA 52 (0, 0)) :: (gp, .cells P1 22 (0, 0)) :: (gq, .cells (Q1.setIfInBounds 1 (.int .u32 x)) 52 (0, 0)) :: (D0 ++ D1))) := HM4.out.set 5 rfl 1 (.int .u32 x)
    obtain ⟨P', hP'⟩ : ∃ P', P1 = P' := ⟨_, rfl⟩
    obtain ⟨Q', hQ'⟩ : ∃ Q', Q1.setIfInBounds 1 (.int .u32 x) = Q' := ⟨_, rfl⟩
    rw [hP', hQ'] at HM5
    have hPP : P' = ([Value.int .u32 (adr 5 5 (1 : Nat) 1), .int .u32 (adr 5 5 (1 : Nat) 2)] ++ Yp).toArray := by rw [← hP']; exact (HPut.out x).2.2.2.1
    have hQQ : Q' = ([Value.int .u32 (adr 10 0 0 9), .int .u32 (x)] ++ Yq).toArray := by rw [← hQ']; exact (HPut.out x).2.2.1
    have HCK : Hid (∀ X, Mem w0 X ((g7, .cells A 28 (0, 0)) :: (gb, .cells X0 39 (0, 0)) :: (gA, .cells PA 22 (0, 0)) :: (gB, .cells SA 52 (0, 0)) :: (gp, .cells P' 22 (0, 0)) :: (gq, .cells Q' 52 (0, 0)) :: (D0 ++ D1)) → Calls Tryd.prog 11 #[.agg A] X fun e V => e = .returned (.int .i64 92) ∧ Below X.heap.size X V) := by
      intro X hX
      have h := check_any (HVW.out.1.below (HVW.out.2.trans (hX.below.mono HVW.out.2.size))) (HCV.out _ _ _ P' Q' hPP hQQ X hX.sub) (by show 2 ≤ 1000000; omega) (HSM.out _ _ _)
      rw [HCH.out x _ _ _ HST.out (Or.inr (Or.inr ⟨rfl, rfl, rfl⟩))] at h
      exact h
    clear hP' hQ' hPP hQQ HPut HCV HSM HCH HST HM4 HP1
    go_upto_region 12 with fail
    refine wp_letter (fun X => Mem w0 X ((g7, .cells A 28 (0, 0)) :: (gb, .cells X0 39 (0, 0)) :: (gA, .cells PA 22 (0, 0)) :: (gB, .cells SA 52 (0, 0)) :: (gp, .cells P' 22 (0, 0)) :: (gq, .cells Q' 52 (0, 0)) :: (D0 ++ D1))) (by exact HM5.out) ?_
    intro V5 hM5
    clear HM5 fr cl c28 c56 c60
    have k7 : V5.heap[g7]? = some (.cells A 28 (0, 0)) := hM5.get 0 rfl
    have CK := HCK.out V5 hM5
    have HB5 : Hid (Below w.heap.size w V5) := HVW.out.2.trans (hM5.below.mono HVW.out.2.size)
    clear HCK hM5 HVW
    go_wp2_with (refine wpList_load_row rfl 28 (.tmp 7) (by with_reducible rfl) g7 (by first | rfl | simp [Act.eval]) 28 A (0, 0) _ k7 Tryd.underlying28 rfl i29 ?_)
    refine CK.mono ?_
    rintro _ V6 ⟨rfl, hb⟩
    go_wp2_with fail
    go_ret
    exact ⟨rfl, HB5.out.trans (hb.mono HB5.out.size)⟩
end Go.Proofs.YtnddbklbgddblaaDoor

