/-
  What is written, cut off anywhere, isn't read: the statement's walk.
-/
import Derived.Test.YtngegdamcfmonaaGreatM46
namespace Go.Proofs.YtngegdamcfmonaaGreat
open Go.RowKit
open Sm
open Cf
set_option linter.unusedVariables false
set_option maxRecDepth 20000

set_option maxHeartbeats 8000000 in
theorem cuts_law {w : World} {v : Value} {t : Ten} (at_ : Int) (ha0 : -9223372036854775808 ≤ at_) (ha1 : at_ ≤ 9223372036854775807) (hT : TV w v t) (k1 : IsBytes t.key) (k2 : IsBytes t.vmac) (k3 : IsBytes t.host) :
    Calls Tryz.prog 8 #[v, .int .i64 at_] w fun e w' => e = .returned (.bool true) ∧ Below w.heap.size w w' := by
  obtain ⟨tl, rfl, hs, ho⟩ := hT.row
  have HA : Hid (TV w (.agg tl.toArray) t) := hT
  obtain ⟨g, hg⟩ : ∃ g, w.heap.size = g := ⟨_, rfl⟩
  have hM0 : Hid (Mem w (w.alloc (.cells tl.toArray 33)) [(g, .cells tl.toArray 33 (0, 0))]) := (Mem.nil w).push1 hg.symm
  have hi33 : (Tryz.prog.info? 33).map (·.size) = some tl.toArray.size := by rw [List.size_toArray, hs]; kernel_rfl
  clear hT
  go_enter Tryz.func8, Tryz.ntmps8
  go_wp2_with fail
  have hm0 := hM0.out
  generalize w.alloc (.cells tl.toArray 33) = W0 at hm0 ⊢
  refine (known_any W0).mono ?_
  rintro e W1 ⟨rfl, hb1⟩
  have hm1 := hm0.after hb1
  have HB : Hid (Below w.heap.size w W1) := hm1.below
  have hk := hm1.get 0 rfl
  have C1 := light_any (HA.out.at_ hm1.below (Nat.le_refl _))
  clear hm0 hM0
  by_cases q1 : Lgt t
  rotate_left
  · rw [decide_eq_false q1] at C1
    go_wp2_with (refine wpList_load_row rfl 33 (.tmp 2) (by with_reducible rfl) g rfl 33 tl.toArray (0, 0) _ hk Tryz.underlying33 rfl hi33 ?_)
    refine C1.mono ?_
    rintro e W2 ⟨rfl, hb2⟩
    go_wp2_with fail
    go_ret
    exact ⟨rfl, HB.out.trans (hb2.mono HB.out.size)⟩
  rw [decide_eq_true q1] at C1
  go_wp2_with (refine wpList_load_row rfl 33 (.tmp 2) (by with_reducible rfl) g rfl 33 tl.toArray (0, 0) _ hk Tryz.underlying33 rfl hi33 ?_)
  refine C1.mono ?_
  rintro e W2 ⟨rfl, hb2⟩
  have hm2 := hm1.after hb2
  have hk2 := hm2.get 0 rfl
  have HB2 : Hid (Below w.heap.size w W2) := hm2.below
  have C2 := fits_any (HA.out.at_ hm2.below (Nat.le_refl _))
  clear C1 hk
  by_cases q2 : Fit t
  rotate_left
  · rw [decide_eq_false q2] at C2
    go_wp2_with (refine wpList_load_row_g rfl 33 (.tmp 2) (by with_reducible rfl) g rfl 33 tl.toArray (0, 0) _ hk2 Tryz.underlying33 hi33 ?_)
    refine C2.mono ?_
    rintro e W3 ⟨rfl, hb3⟩
    go_wp2_with fail
    go_ret
    exact ⟨rfl, HB2.out.trans (hb3.mono HB2.out.size)⟩
  rw [decide_eq_true q2] at C2
  go_wp2_with (refine wpList_load_row_g rfl 33 (.tmp 2) (by with_reducible rfl) g rfl 33 tl.toArray (0, 0) _ hk2 Tryz.underlying33 hi33 ?_)
  refine C2.mono ?_
  rintro e W3 ⟨rfl, hb3⟩
  have hm3 := hm2.after hb3
  have hk3 := hm3.get 0 rfl
  have I1 := lgt_in q1 HA.out.1 k1 k2 k3
  have hlt := HA.out.1
  have hle := tenc_le t hlt
  have hpos := tenc_pos t hlt
  have C3 := cfgTenant_any (HA.out.at_ hm3.below (Nat.le_refl _)) I1 (by omega)
  clear C2 hk2 HB HB2 hm1 hm2 hb1 hb2 hb3 q1 q2
  go_wp2_with (refine wpList_load_row rfl 33 (.tmp 2) (by with_reducible rfl) g rfl 33 tl.toArray (0, 0) _ hk3 Tryz.underlying33 rfl hi33 ?_)
  refine C3.mono ?_
  rintro e W4 ⟨u, rfl, hO⟩
  obtain ⟨a1, c1, rfl, hS1⟩ := hO.sl (by omega)
  have hm4 := hm3.after hO.mem.below
  have hk4 := hm4.get 0 rfl
  obtain ⟨hl, p, s, q, etl, r1, r2, r3⟩ := HA.out.at_ hm4.below (Nat.le_refl _)
  have hbp := build_put2 t hl p s q
  rw [← etl] at hbp
  have C4 := cfgChange_any (h := ⟨true, ByteArray.empty, t⟩) ⟨hl, p, s, q, rfl, r1, r2, r3⟩ I1 (Nat.zero_le _) (by show (1 :: tenc t).length ≤ _; rw [List.length_cons]; omega)
  generalize (hc ⟨true, ByteArray.empty, t⟩ p s q).toArray = H at hbp C4
  clear C3 hk3 etl r1 r2 r3 hm3 hO
  go_wp2_with ((refine wpList_load_row rfl 33 (.tmp 2) (by with_reducible rfl) g rfl 33 tl.toArray (0, 0) _ hk4 Tryz.underlying33 rfl hi33 ?_); (refine wpList_build_run rfl 35 _ (by with_reducible rfl) (hbp _) (by first | (simp [Act.eval, Act.put]; done) | kernel_rfl) ?_))
  refine C4.mono ?_
  rintro e W5 ⟨u2, rfl, hO2⟩
  have hO3 : Out W4 W5 u2 (1 :: tenc t) [] := hO2
  obtain ⟨a2, c2, rfl, hS2⟩ := hO3.sl (by rw [List.length_cons]; omega)
  have hm5 := hm4.after hO2.mem.below
  have hS5 : Sl W5 a1 (tenc t) c1 := ⟨hS1.row.below hO2.mem.below (Nat.le_refl _), hS1.le, hS1.big, hS1.nil⟩
  have HC1 := fun l (h1 : l <+: tenc t) (h2 : l.length < (tenc t).length) => tdec_cut t hlt l h1 h2
  have HC2 := fun l (h1 : l <+: 1 :: tenc t) (h2 : l.length < (1 :: tenc t).length) => hdec_cut t hlt l h1 h2
  obtain ⟨L2, hL2⟩ : ∃ L2, 1 :: tenc t = L2 := ⟨_, rfl⟩
  have hn2 : (L2.length : Int) = (tenc t).length + 1 := by rw [← hL2]; simp
  rw [hL2] at hS2 HC2 ⊢
  generalize tenc t = L1 at *
  obtain ⟨P1, hP1⟩ : ∃ P, plc at_ ((L1.length : Int) + 1) = P := ⟨_, rfl⟩
  obtain ⟨P2, hP2⟩ : ∃ P, plc at_ (L2.length : Int) = P := ⟨_, rfl⟩
  have R1 := plc_range at_ ((L1.length : Int) + 1) (by omega)
  have R2 := plc_range at_ (L2.length : Int) (by omega)
  have C5 := place_any at_ ((L1.length : Int) + 1) W5 ha0 ha1 (by omega) (by omega)
  rw [hP1] at R1 C5
  have w1 : IntKind.i64.wrap ((L1.length : Int) + 1) = (L1.length : Int) + 1 := wrap64n (by omega) (by omega)
  have w2 : IntKind.i64.wrap ((L1.length : Int) - 1) = (L1.length : Int) - 1 := wrap64n (by omega) (by omega)
  clear C4 hk4 hbp hO2 hO3 hS1 hm4 hL2 HA
  go_wp2_with fail
  refine C5.mono ?_
  rintro e W6 ⟨rfl, rfl⟩
  clear C5
  rw [hP2] at R2
  obtain ⟨S1, S2⟩ := sl_head hS2 P2 R2.1 (by omega)
  have hP2n : (L2.take P2.toNat).length = P2.toNat := by rw [List.length_take]; omega
  have CC := fun V (hV : Below W5.heap.size W5 V) => openChange_any (w := V) (l := L2.take P2.toNat) (a := a2) (c := c2) ⟨S2.row.below hV (Nat.le_refl _), S2.le, S2.big, S2.nil⟩
  rw [HC2 _ (List.take_prefix _ _) (by omega)] at CC
  have CP := fun V => place_any at_ (L2.length : Int) V ha0 ha1 (by omega) (by omega)
  rw [hP2] at CP
  obtain ⟨K, hK, hK0, hK1⟩ : ∃ K : Int, K = min P1 ((L1.length : Int) - 1) ∧ 0 ≤ K ∧ K ≤ (L1.length : Int) - 1 := ⟨_, rfl, by omega, by omega⟩
  obtain ⟨T1, hST⟩ := sl_head hS5 K hK0 (by omega)
  have hKn : (L1.take K.toNat).length = K.toNat := by rw [List.length_take]; omega
  have CT := openTenant_any hST (by omega)
  rw [HC1 _ (List.take_prefix _ _) (by omega)] at CT
  obtain ⟨n1, hn1⟩ : ∃ n, L1.length = n := ⟨_, rfl⟩
  obtain ⟨n2, hn2'⟩ : ∃ n, L2.length = n := ⟨_, rfl⟩
  obtain ⟨m1, hm1⟩ : ∃ n, (L1.take K.toNat).length = n := ⟨_, rfl⟩
  obtain ⟨m2, hm2⟩ : ∃ n, (L2.take P2.toNat).length = n := ⟨_, rfl⟩
  rw [hm1, hn1] at T1
  rw [hm1] at CT
  rw [hm2, hn2'] at S1
  rw [hm2] at CC
  rw [hn2'] at CP hn2 R2
  simp only [hn1] at w1 w2 hK hK0 hK1 hn2 R1 hpos hle
  simp only [hn1, hn2']
  have HCC : Hid (∀ V, Below W5.heap.size W5 V → Calls Tryz.prog 23 #[.slice a2 m2 c2] V (OCP V none)) := CC
  have HCP : Hid (∀ V, Calls Tryz.prog 30 #[.int .i64 at_, .int .i64 n2] V fun e w' => e = .returned (.int .i64 P2) ∧ V = w') := CP
  have HS1 : Hid (∀ V, (Instr.slice 40 (.slice a2 n2 c2) none (some (.int .i64 P2)) none).run Tryz.prog V = .ok (.slice a2 m2 c2) V) := S1
  have htz : (tz : Array Value).all (·.oneCell') = true := tz_one
  have hsT : (Tryz.prog.info? 33).map (·.size) = some (tz : Array Value).size := by kernel_rfl
  have hsH : (Tryz.prog.info? 35).map (·.size) = some (hz0 : Array Value).size := by kernel_rfl
  have hzo := hz0_one
  have HBB : Hid (Below w.heap.size w W5) := hm5.below
  clear HC1 HC2 hS5 hS2 S2 hm5 CC CP S1 hST hP2n hKn hn1 hn2' hm1 hm2 hP1 hP2 R1 R2 hpos hle hn2 hlt I1 w1 hK0 hK1
  by_cases q : P1 ≤ (n1 : Int) - 1
  · have q1 : ¬ ((n1 : Int) - 1 < P1) := by omega
    obtain rfl : P1 = K := by omega
    clear hK
    go_wp2_with fail
    refine CT.mono ?_
    rintro e W7 ⟨hb7, rfl⟩
    clear CT T1
    have S1 := HS1.out
    have CP := HCP.out
    go_upto_region 9 with (refine wpList_store_row rfl 33 (.tmp 8) (.tmp 42) (by with_reducible rfl) W7.heap.size tz rfl rfl 33 _ (heap_alloc_new W7 _) hsT rfl htz ?_)
    refine wp_letter (fun V => Below W5.heap.size W5 V) (by
      rw [World.setRow_alloc_new]
      exact hb7.trans ((Below.refl _ _).alloc (hb7.size) _)) ?_
    intro V8 hb8
    go_wp2_with fail
    refine (CP _).mono ?_
    rintro e V9 ⟨rfl, rfl⟩
    go_wp2_with fail
    refine (HCC.out _ hb8).mono ?_
    rintro e V10 ⟨hb10, rfl⟩
    go_upto_region 10 with (refine wpList_store_row rfl 35 (.tmp 11) (.tmp 53) (by with_reducible rfl) V10.heap.size hz0 rfl rfl 35 _ (heap_alloc_new V10 _) hsH rfl hzo ?_)
    refine wp_letter (fun V => Below W5.heap.size W5 V) (by
      rw [World.setRow_alloc_new]
      have hb11 := hb8.trans (hb10.mono hb8.size)
      exact hb11.trans ((Below.refl _ _).alloc (hb11.size) _)) ?_
    intro V12 hb12
    go_wp2_with fail
    go_ret
    exact ⟨rfl, HBB.out.trans (hb12.mono HBB.out.size)⟩
  · have q1 : (n1 : Int) - 1 < P1 := by omega
    obtain rfl : (n1 : Int) - 1 = K := by omega
    clear hK
    go_wp2_with fail
    refine CT.mono ?_
    rintro e W7 ⟨hb7, rfl⟩
    clear CT T1
    have S1 := HS1.out
    have CP := HCP.out
    go_upto_region 9 with (refine wpList_store_row rfl 33 (.tmp 8) (.tmp 42) (by with_reducible rfl) W7.heap.size tz rfl rfl 33 _ (heap_alloc_new W7 _) hsT rfl htz ?_)
    refine wp_letter (fun V => Below W5.heap.size W5 V) (by
      rw [World.setRow_alloc_new]
      exact hb7.trans ((Below.refl _ _).alloc (hb7.size) _)) ?_
    intro V8 hb8
    go_wp2_with fail
    refine (CP _).mono ?_
    rintro e V9 ⟨rfl, rfl⟩
    go_wp2_with fail
    refine (HCC.out _ hb8).mono ?_
    rintro e V10 ⟨hb10, rfl⟩
    go_upto_region 10 with (refine wpList_store_row rfl 35 (.tmp 11) (.tmp 53) (by with_reducible rfl) V10.heap.size hz0 rfl rfl 35 _ (heap_alloc_new V10 _) hsH rfl hzo ?_)
    refine wp_letter (fun V => Below W5.heap.size W5 V) (by
      rw [World.setRow_alloc_new]
      have hb11 := hb8.trans (hb10.mono hb8.size)
      exact hb11.trans ((Below.refl _ _).alloc (hb11.size) _)) ?_
    intro V12 hb12
    go_wp2_with fail
    go_ret
    exact ⟨rfl, HBB.out.trans (hb12.mono HBB.out.size)⟩
end Go.Proofs.YtngegdamcfmonaaGreat

