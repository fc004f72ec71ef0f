/-
  lychlaw10.LogFalls.
-/
import Derived.Test.YtbmpjlgfbiakoaaDoorLgEnds
namespace Go.Proofs.YtbmpjlgfbiakoaaDoor
open Go.RowKit
open Sm
set_option linter.unusedVariables false

theorem Sy.perm {w W : World} {p h m N : Nat} {D : Dk} {pl : Nat} {B : Int} {all : List (List Int)} {L L' : List (Nat × Obj)} (H : Sy w W p h m N D pl B all L) (hp : L.Perm L') : Sy w W p h m N D pl B all L' := by
  obtain ⟨hc, ks, v, X, K, h1, h2, h3, h4⟩ := H.at_
  exact ⟨hc, ks, v, X, K, h1.on (h1.st.perm (List.Perm.cons _ (List.Perm.append_left X (hp.append_right K)))), h2, h3, h4⟩
theorem row_bs {W : World} {g : Nat} {r : List Int} (hg : W.heap[g]? = some (.cells (bs r) 5 (0, 0))) (hb : IsBytes r) (hl : r.length ≤ 140737488351232) : Row W (some ⟨g, 0, none⟩) r :=
  ⟨hb, hl, Or.inr ⟨g, 0, rfl, fun i hi => by rw [Nat.zero_add, cell_of_row W g i (bs r) 5 (0, 0) hg, bs_get hi]⟩⟩
theorem RS.shapeN {v : Value} {bl : List (List Int)} {Y : List (Nat × Obj)} (h : RS v bl Y) : ∃ a c n, v = .slice a n c ∧ n = bl.length := by
  obtain ⟨a, c, e⟩ := h.shape
  exact ⟨a, c, _, e, rfl⟩
/-- The append of a record, its lengths as letters. -/
theorem Sy.moreN {w W : World} {p h m N : Nat} {D : Dk} {pl : Nat} {B : Int} {all : List (List Int)} {v : Value} {bl : List (List Int)} {Y L : List (Nat × Obj)} {g k n1 : Nat} {r : List Int} (hE : RS v bl Y) (H : Sy w W p h m N D pl B all (Y ++ ((g, .cells (bs r) 5 (0, 0)) :: L))) (hl : bl.length ≤ 1000) (hr : IsBytes r) (hk : r.length = k) (hn : bl.length + 1 = n1) (ty : TypeId) :
    ∃ a' c' Y' W', (Builtin.append_ #[33, 33] ty #[v, .slice (some ⟨W.heap.size, 0, none⟩) 1 1]).run Tryd.prog (W.alloc (.cells #[.slice (some ⟨g, 0, none⟩) k k] 22)) = .ok (.slice a' n1 c') W' ∧ RS (.slice a' n1 c') (bl ++ [r]) Y' ∧ Sy w W' p h m N D pl B all (Y' ++ L) := by
  subst hk
  subst hn
  exact Sy.more hE H hl hr ty

/-- The loop's own. -/
def Fl (w W : World) (p h m N pl i : Nat) (v : Value) : Prop :=
  ∃ (D : Dk) (B : Int) (bl : List (List Int)) (Y : List (Nat × Obj)), D.dead = false ∧ 0 ≤ B ∧ B ≤ i ∧ bl.length ≤ i ∧ (∀ x ∈ bl, x.length ≤ 16384) ∧ RS v bl Y ∧ Sy w W p h m N D pl B bl Y

set_option maxRecDepth 20000 in
set_option maxHeartbeats 8000000 in
theorem falls_any {w : World} {ga : Addr} (hG : Gl w ga) (x0 y0 : Int) (hx0 : -9223372036854775808 ≤ x0) (hx1 : x0 ≤ 9223372036854775807) (hy0 : -9223372036854775808 ≤ y0) (hy1 : y0 ≤ 9223372036854775807) {a : Option Addr} {l : List Int} {n : Nat} (hn : l.length = n) (hr : RowK .u16 w a l) (hu : ∀ i, 0 ≤ l.getD i 0 ∧ l.getD i 0 ≤ 65535) (c : Nat) (h30 : n ≤ 30) (x y : Int) (hc0 : -9223372036854775808 ≤ x) (hc1 : x ≤ 9223372036854775807) (mo : Int) (hm0 : 0 ≤ mo) (hm1 : mo ≤ 255) :
    Calls Tryd.prog 5 #[.int .i64 x0, .int .i64 y0, .slice a n c, .int .i64 x, .int .i64 y, .int .u8 mo] w fun e w' => e = .returned (.bool true) ∧ Below w.heap.size w w' := by
  have hK := known_log hG
  have q30 : ¬ (30 : Int) < (n : Int) := by omega
  have HR : Hid (RowK .u16 w a l) := hr
  have HU : Hid (∀ i, 0 ≤ l.getD i 0 ∧ l.getD i 0 ≤ 65535) := hu
  have HG : Hid (Gl w ga) := hG
  have hpx := plc_range x0 8 (by omega)
  have hpy := plc_range y0 200 (by omega)
  have hcx : ∀ W, Calls Tryd.prog 13 #[.int .i64 x0, .int .i64 8] W (fun e w' => e = .returned (.int .i64 (plc x0 8)) ∧ W = w') := fun W => place_any x0 8 W hx0 hx1 (by omega) (by omega)
  have hcy : ∀ W, Calls Tryd.prog 13 #[.int .i64 y0, .int .i64 200] W (fun e w' => e = .returned (.int .i64 (plc y0 200)) ∧ W = w') := fun W => place_any y0 200 W hy0 hy1 (by omega) (by omega)
  generalize plc x0 8 = X at hpx hcx
  generalize plc y0 200 = S at hpy hcy
  obtain ⟨N, hN⟩ : ∃ N : Nat, (4 : Int) + X = (N : Int) := ⟨(4 + X).toNat, by omega⟩
  obtain ⟨M, hM⟩ : ∃ M : Nat, (256 : Int) + S = (M : Int) := ⟨(256 + S).toNat, by omega⟩
  have wN : IntKind.i64.wrap (N : Int) = N := by rw [IntKind.wrap_i64]; omega
  have wM : IntKind.i64.wrap (M : Int) = M := by rw [IntKind.wrap_i64]; omega
  have HX : Hid (4 ≤ N ∧ 256 ≤ M) := ⟨by omega, by omega⟩
  have HNW : Hid (∀ W, Calls Tryd.prog 12 #[.int .i64 N, .int .i64 M] W fun e W' => ∃ p, e = .returned (.pointer (some ⟨p, 0, none⟩)) ∧ ∃ h, Sd W W' p h M N ⟨false, false, 0, 0⟩ 0 [] []) := fun W => sd_new (by unfold bd; omega) (by unfold bd; omega) W
  obtain ⟨R, hR⟩ : ∃ R, R = room N M := ⟨_, rfl⟩
  have HRR : Hid (R = room N M) := hR
  have hRle : R ≤ 16384 := by rw [hR]; exact room_le N M
  obtain ⟨R1, hR1⟩ : ∃ R1 : Nat, (R : Int) + 1 = (R1 : Int) := ⟨R + 1, by omega⟩
  have hR1n : ¬ (R1 : Int) = 0 := by omega
  have wR1 : IntKind.i64.wrap (R1 : Int) = R1 := by rw [IntKind.wrap_i64]; omega
  have HPL : Hid (∀ W, Calls Tryd.prog 13 #[.int .i64 x, .int .i64 60] W fun e w' => e = .returned (.int .i64 (plc x 60)) ∧ W = w') := fun W => place_any x 60 W hc0 hc1 (by omega) (by omega)
  have hpl := plc_range x 60 (by omega)
  generalize plc x 60 = P at *
  obtain ⟨CM, hCM⟩ : ∃ CM, IntKind.i64.wrap (x + mo) = CM := ⟨_, rfl⟩
  have hCMb : -9223372036854775808 ≤ CM ∧ CM ≤ 9223372036854775807 := by rw [← hCM, IntKind.wrap_i64]; omega
  have wmo : IntKind.i64.wrap mo = mo := by rw [IntKind.wrap_i64]; omega
  have HPL2 : Hid (∀ W, Calls Tryd.prog 13 #[.int .i64 CM, .int .i64 60] W fun e w' => e = .returned (.int .i64 (plc CM 60)) ∧ W = w') := fun W => place_any CM 60 W hCMb.1 hCMb.2 (by omega) (by omega)
  have hpl2 := plc_range CM 60 (by omega)
  generalize plc CM 60 = P2 at *
  clear hr hu hG hR hCMb hc0 hc1 hx0 hx1 hy0 hy1
  go_enter Tryd.func5, Tryd.ntmps5
  go_wp2_with fail
  refine hK.mono ?_
  rintro e w1 ⟨rfl, K1, h1⟩
  have HG1 : Hid (Gl w1 ga) := HG.out.on h1
  have HB1 : Hid (Below w.heap.size w w1) := h1.below
  clear hK h1
  go_wp2_with fail
  refine (hcx _).mono ?_
  rintro e w' ⟨rfl, rfl⟩
  clear hcx
  go_wp2_with fail
  refine (hcy _).mono ?_
  rintro e w' ⟨rfl, rfl⟩
  clear hcy
  go_wp2_with fail
  refine (HNW.out w1).mono ?_
  rintro e w2 ⟨p, rfl, h, H2⟩
  have hO := sd_open H2 HG1.out rfl HX.out.1 HX.out.2 (by omega) (by omega)
  clear H2
  go_wp2_with fail
  refine hO.mono ?_
  rintro e w3 ⟨pl0, v', rfl, got, Y, hRS, hE, H3⟩
  obtain ⟨rfl, rfl⟩ := rs_nil (by rw [ends_nil hE] at hRS; exact hRS)
  have hRM := sd_room H3.sd
  rw [← HRR.out] at hRM
  have HS3 : Hid (Sy w1 w3 p h M N ⟨false, false, 0, 0⟩ pl0 0 [] []) := H3
  clear hO hRS hE H3
  go_wp2_with fail
  refine hRM.mono ?_
  rintro e w' ⟨rfl, rfl⟩
  clear hRM
  go_wp2_with fail
  refine (HPL.out _).mono ?_
  rintro e w' ⟨rfl, rfl⟩
  have hC := sy_cut HS3.out P y (by omega)
  go_wp2_with fail
  refine hC.mono ?_
  rintro e w4 ⟨rfl, H4⟩
  have HT0 : Hid (Fl w1 w4 p h M N pl0 0 (.slice none 0 0)) := ⟨_, 0, [], [], rfl, by omega, by omega, by simp, by simp, Or.inl ⟨rfl, rfl, rfl⟩, H4⟩
  clear hC H4 HS3
  go_wp2_with fail
  go_loopw [14, 18, 19] (fun u14 u18 u19 wr => ∃ (i pl : Nat), u14 = .pointer (some ⟨pl, 0, none⟩) ∧ u19 = .int .i64 i ∧ i ≤ n ∧ Fl w1 wr p h M N pl i u18) (fun _ _ u _ => n - (intOf u).toNat)
  case atStart => exact ⟨0, pl0, rfl, rfl, by omega, HT0.out⟩
  case round =>
    obtain ⟨i, pl, rfl, rfl, hi, D, B, bl, Y, hD, hB0, hB, hal, hxl, hRS, hS⟩ := hrel
    clear HT0
    obtain ⟨av, cv, nb, rfl, hnb⟩ := hRS.shapeN
    by_cases hlt : i < n
    · obtain ⟨b, off, rfl, hcell⟩ := HR.out.at_ (i := i) (by omega)
      have hz := HU.out i
      generalize l.getD i 0 = z at *
      obtain ⟨hz0, hz1⟩ := hz
      have wz : IntKind.i64.wrap z = z := by rw [IntKind.wrap_i64]; omega
      obtain ⟨k, hk⟩ : ∃ k : Nat, z % (R1 : Int) = (k : Int) := ⟨(z % (R1 : Int)).toNat, by have := Int.emod_nonneg z hR1n; omega⟩
      have hkt : Int.tmod z (R1 : Int) = (k : Int) := by rw [Int.tmod_eq_emod_of_nonneg hz0]; exact hk
      have hkR : k ≤ R := by have := Int.emod_lt_of_pos z (show (0 : Int) < R1 by omega); omega
      have wk : IntKind.i64.wrap (k : Int) = k := by rw [IntKind.wrap_i64]; omega
      have c0 : wr.cell? ⟨b, off + i, none⟩ = some (.int .u16 z) := hcell wr (HB1.out.trans (hS.sd.below.mono HB1.out.size))
      have hRC := record_any wr i (by omega) (by omega) k (by omega)
      have q0 : (i : Int) < (n : Int) := by omega
      have HS : Hid (Sy w1 wr p h M N D pl B bl Y) := hS
      have HRS : Hid (RS (.slice av nb cv) bl Y) := hRS
      obtain ⟨NR, hNR⟩ : ∃ NR : Nat, (nb : Int) + 1 = (NR : Int) := ⟨nb + 1, by omega⟩
      have wNR : IntKind.i64.wrap (NR : Int) = NR := by rw [IntKind.wrap_i64]; omega
      have HNB : Hid (nb = bl.length ∧ bl.length + 1 = NR) := ⟨hnb, by omega⟩
      have hnb30 : nb ≤ 30 := by omega
      have HXL : Hid ((∀ x ∈ bl, x.length ≤ 16384) ∧ bl.length ≤ i) := ⟨hxl, hal⟩
      have HXL2 : Hid ((∀ x ∈ bl ++ [rcd i k], x.length ≤ 16384) ∧ (bl ++ [rcd i k]).length ≤ i + 1) := by
        refine ⟨fun x hx => ?_, by simp; omega⟩
        rcases List.mem_append.mp hx with h9 | h9
        · exact hxl x h9
        · rw [List.mem_singleton.mp h9, rcd_length]; omega
      clear hS hcell hk hRS hnb hal hxl
      go_wp2_with fail
      refine hRC.mono ?_
      rintro e w5 ⟨g5, rfl, q5⟩
      have hAP := sy_append (g := g5) (HS.out.push q5) HG1.out hD HX.out.1 HX.out.2 (by omega) hB0 (by have := HXL.out.2; omega) (rcd_length i k) (by rw [← HRR.out]; omega) (beside_of (fz := (0, 0)) (by simp) (rcd_bytes i k) (by rw [rcd_length]; omega)) (rcd_bytes i k)
      clear hRC HS q5
      go_wp2_with fail
      refine hAP.mono ?_
      rintro e w6 ⟨err, rfl, D', hcs⟩
      clear hAP
      rcases hcs with ⟨rfl, a1, a2, a3⟩ | ⟨rfl, a1, a2, a3, a4⟩
      · obtain ⟨a', c', Y', W', hrun, hR2, hS2⟩ := Sy.moreN (L := []) (k := k) (n1 := NR) HRS.out (a3.perm (by rw [List.singleton_append]; exact (List.perm_append_comm (l₁ := [_]) (l₂ := Y)))) (by have := HXL.out.2; omega) (rcd_bytes i k) (rcd_length i k) HNB.out.2 33
        have HT : Hid (Fl w1 W' p h M N pl (i + 1) (.slice a' NR c')) := ⟨D', B + 1, bl ++ [rcd i k], Y', a1, by omega, by omega, HXL2.out.2, HXL2.out.1, hR2, by simpa using hS2⟩
        clear a3 a2 hS2 hR2
        go_wp2_with (refine wpList_append_run (.tmp 76) (.tmp 78) 33 33 (by with_reducible rfl) hrun rfl rfl (by simp [Act.eval]) (by simp [Act.eval]) ?_)
        go_roundw
        case rel => exact ⟨i + 1, pl, rfl, by go_num, by omega, HT.out⟩
        case measure => simp [intOf]; omega
      · subst a1
        obtain ⟨all', ha', hsd⟩ := fallen a4
        have hDd : Calls Tryd.prog 25 #[.pointer (some ⟨p, 0, none⟩)] w6 fun e W' => e = .returned (.bool true) ∧ w6 = W' := sd_dead hsd
        have hP := sd_power hsd
        clear a3 a4 hsd
        go_wp2_with fail
        refine hDd.mono ?_
        rintro e w' ⟨rfl, rfl⟩
        clear hDd
        go_wp2_with fail
        refine hP.mono ?_
        rintro e w7 ⟨rfl, H7⟩
        have hO := sd_open H7 HG1.out rfl HX.out.1 HX.out.2 (by omega) (by omega)
        clear hP H7
        go_wp2_with fail
        refine hO.mono ?_
        rintro e w8 ⟨pl2, v2, rfl, got, Y2, hRS2, hE, H8⟩
        clear hO
        rcases ha' with rfl | rfl
        · obtain ⟨av2, cv2, ng, rfl, hng⟩ := hRS2.shapeN
          have hgl : got.length ≤ 30 := by have := hE.1; have := HXL.out.2; omega
          have hen := ends_any (W := w8) (rws_of hRS2 (fun x hx => H8.has (by simp [hx])) (fun r hr => by
            have h9 := hE.2.2; rw [h9] at hr; have := HXL.out.1 r (List.mem_of_mem_drop hr); omega)) (rws_of HRS.out (fun x hx => H8.has (by simp [hx])) (fun r hr => by have := HXL.out.1 r hr; omega)) (by omega) (by have := HXL.out.2; omega)
          have HEN : Hid (Ends got all') := hE
          have HS8 : Hid (Sy w1 w8 p h M N ⟨false, false, 0, 0⟩ pl2 (B + 1) all' Y) := (H8.sub (Y := Y2)).sub (Y := [_])
          clear hRS2 hE H8 hng
          go_wp2_with fail
          refine hen.mono ?_
          rintro e w9 ⟨bb, rfl, hbb, hM9⟩
          obtain rfl : bb = true := hbb HEN.out
          have HS9 : Hid (Sy w1 w9 p h M N ⟨false, false, 0, 0⟩ pl2 (B + 1) all' Y) := HS8.out.join hM9
          have hrec : Calls Tryd.prog 20 #[.pointer (some ⟨pl2, 0, none⟩)] w9 fun e W2 => e = .returned (.int .i64 nb) ∧ w9 = W2 := by
            have := sy_records HS9.out (by omega) (by omega); rw [← HNB.out.1] at this; exact this
          have bne : ((nb : Int) != (nb : Int)) = false := by simp
          clear hen hbb hM9 HS8
          go_wp2_with fail
          refine hrec.mono ?_
          rintro e w' ⟨rfl, rfl⟩
          go_wp2_with fail
          refine hrec.mono ?_
          rintro e w' ⟨rfl, rfl⟩
          clear hrec
          go_wp2_with fail
          refine (HPL2.out _).mono ?_
          rintro e w' ⟨rfl, rfl⟩
          have hC := sy_cut HS9.out P2 y (by omega)
          go_wp2_with fail
          refine hC.mono ?_
          rintro e w10 ⟨rfl, H10⟩
          have HT : Hid (Fl w1 w10 p h M N pl2 (i + 1) (.slice av nb cv)) := ⟨_, B + 1, all', Y, rfl, by omega, by omega, by have := HXL.out.2; omega, HXL.out.1, HRS.out, H10⟩
          clear hC H10
          go_wp2_with fail
          go_roundw
          case rel => exact ⟨i + 1, pl2, rfl, by go_num, by omega, HT.out⟩
          case measure => simp [intOf]; omega
        · have hgl : got.length ≤ 31 := by have := hE.1; have := HXL2.out.2; omega
          obtain ⟨hh, cap, g, gc, jj, rfl, hjj, c1, hrow⟩ := newest_of hRS2 hE H8 (x := rcd i k) List.getLast?_concat (by rw [rcd_length]; omega)
          rw [rcd_length] at c1
          have hjjl : jj < 40 := by have := HXL2.out.2; omega
          have wjj : IntKind.i64.wrap (jj : Int) = jj := by rw [IntKind.wrap_i64]; omega
          have j1 : ((jj + 1 : Nat) : Int) - 1 = (jj : Int) := by omega
          have j2 : (0 : Int) < ((jj + 1 : Nat) : Int) := by omega
          have j2n : 0 < jj + 1 := by omega
          have j3 : (jj : Int) < ((jj + 1 : Nat) : Int) := by omega
          have j3n : jj < jj + 1 := by omega
          have hgb : ∀ r ∈ got, r.length ≤ 1000000 := fun r hr => by
            have h9 := hE.2.2; rw [h9] at hr; have := HXL2.out.1 r (List.mem_of_mem_drop hr); omega
          have hen := ends_any (W := w8) (rws_of hRS2 (fun x hx => H8.has (by simp [hx])) hgb) (rws_of HRS.out (fun x hx => H8.has (by simp [hx])) (fun r hr => by have := HXL.out.1 r hr; omega)) (by omega) (by have := HXL.out.2; omega)
          have HEN : Hid (Ends got (bl ++ [rcd i k])) := hE
          have HS8 : Hid (Sy w1 w8 p h M N ⟨false, false, 0, 0⟩ pl2 (B + 1) (bl ++ [rcd i k]) (Y2 ++ ([(g5, .cells (bs (rcd i k)) 5 (0, 0))] ++ Y))) := H8
          have HR2 : Hid (RS (.slice (some ⟨hh, 0, none⟩) (jj + 1) cap) got Y2) := hRS2
          have HRW : Hid (Row w8 (some ⟨g, 0, none⟩) (rcd i k) ∧ Row w8 (some ⟨g5, 0, none⟩) (rcd i k)) := ⟨hrow, row_bs (H8.has (x := (g5, .cells (bs (rcd i k)) 5 (0, 0))) (by simp)) (rcd_bytes i k) (by rw [rcd_length]; omega)⟩
          have HGB : Hid ((∀ r ∈ got, r.length ≤ 1000000) ∧ got.length ≤ 31) := ⟨hgb, hgl⟩
          have HC1 : Hid (∀ V, Mem w8 V [] → V.cell? ⟨hh, jj, none⟩ = some (.slice (some ⟨g, 0, none⟩) k gc)) := fun V hV => (hV.old (cell_lt c1)).trans c1
          have bne1 : ((NR : Int) != (nb : Int)) = true := by simp; omega
          have bne2 : ((NR : Int) != (NR : Int)) = false := by simp
          have beq1 : ((NR : Int) == (NR : Int)) = true := by simp
          generalize hJ1 : jj + 1 = J1 at *
          clear hRS2 hE H8 hrow c1 hgb hgl hjj hJ1
          go_wp2_with fail
          refine hen.mono ?_
          rintro e w9 ⟨bb, rfl, hbb, hM9⟩
          have HS9 : Hid (Sy w1 w9 p h M N ⟨false, false, 0, 0⟩ pl2 (B + 1) (bl ++ [rcd i k]) (Y2 ++ ([(g5, .cells (bs (rcd i k)) 5 (0, 0))] ++ Y))) := HS8.out.join hM9
          clear hen hbb
          cases bb
          · obtain ⟨a', c', Y', W', hrun, hR3, hS3⟩ := Sy.moreN (L := Y2) (k := k) (n1 := NR) HRS.out (HS9.out.perm (by
              refine List.perm_append_comm.trans ?_
              rw [List.singleton_append, List.cons_append]
              exact List.perm_middle.symm)) (by have := HXL.out.2; omega) (rcd_bytes i k) (rcd_length i k) HNB.out.2 33
            have hen2 := ends_any (W := W') (rws_of HR2.out (fun x hx => hS3.has (by simp [hx])) HGB.out.1) (rws_of hR3 (fun x hx => hS3.has (by simp [hx])) (fun r hr => by have := HXL2.out.1 r hr; omega)) (by have := HGB.out.2; omega) (by have := HXL2.out.2; omega)
            have HR3 : Hid (RS (.slice a' NR c') (bl ++ [rcd i k]) Y') := hR3
            have HS3 : Hid (Sy w1 W' p h M N ⟨false, false, 0, 0⟩ pl2 (B + 1) (bl ++ [rcd i k]) (Y' ++ Y2)) := hS3
            clear hR3 hS3 hM9 HS9 HS8
            go_wp2_with (refine wpList_append_run (.tmp 105) (.tmp 107) 33 33 (by with_reducible rfl) hrun rfl rfl (by simp [Act.eval]) (by simp [Act.eval]) ?_)
            refine hen2.mono ?_
            rintro e w10 ⟨bb, rfl, hbb, hM10⟩
            obtain rfl : bb = true := hbb HEN.out
            have HS10 : Hid (Sy w1 w10 p h M N ⟨false, false, 0, 0⟩ pl2 (B + 1) (bl ++ [rcd i k]) Y') := ((HS3.out.join hM10).perm List.perm_append_comm).sub (Y := Y2)
            have hrec : Calls Tryd.prog 20 #[.pointer (some ⟨pl2, 0, none⟩)] w10 fun e W2 => e = .returned (.int .i64 NR) ∧ w10 = W2 := by
              have := sy_records HS10.out (by omega) (by omega); rw [List.length_append, List.length_singleton, HNB.out.2] at this; exact this
            clear hen2 hbb hM10 HS3 hrun
            go_wp2_with fail
            refine hrec.mono ?_
            rintro e w' ⟨rfl, rfl⟩
            go_wp2_with fail
            refine hrec.mono ?_
            rintro e w' ⟨rfl, rfl⟩
            clear hrec
            go_wp2_with fail
            refine (HPL2.out _).mono ?_
            rintro e w' ⟨rfl, rfl⟩
            have hC := sy_cut HS10.out P2 y (by omega)
            go_wp2_with fail
            refine hC.mono ?_
            rintro e w11 ⟨rfl, H11⟩
            have HT : Hid (Fl w1 w11 p h M N pl2 (i + 1) (.slice a' NR c')) := ⟨_, B + 1, _, Y', rfl, by omega, by omega, HXL2.out.2, HXL2.out.1, HR3.out, H11⟩
            clear hC H11
            go_wp2_with fail
            go_roundw
            case rel => exact ⟨i + 1, pl2, rfl, by go_num, by omega, HT.out⟩
            case measure => simp [intOf]; omega
          · have hrec : Calls Tryd.prog 20 #[.pointer (some ⟨pl2, 0, none⟩)] w9 fun e W2 => e = .returned (.int .i64 NR) ∧ w9 = W2 := by
              have := sy_records HS9.out (by omega) (by omega); rw [List.length_append, List.length_singleton, HNB.out.2] at this; exact this
            have k9 := HC1.out _ hM9
            have hby : Calls Tryd.prog 21 #[.slice (some ⟨g, 0, none⟩) k gc, .slice (some ⟨g5, 0, none⟩) k k] w9 fun e W' => e = .returned (.bool true) ∧ w9 = W' := hbytes_same (hM9.row HRW.out.1) (hM9.row HRW.out.2) k k (rcd_length i k) (rcd_length i k) gc k rfl
            obtain ⟨a', c', Y', W', hrun, hR3, hS3⟩ := Sy.moreN (L := []) (k := k) (n1 := NR) HRS.out ((HS9.out.sub (Y := Y2)).perm (by rw [List.singleton_append]; exact (List.perm_append_comm (l₁ := [_]) (l₂ := Y)))) (by have := HXL.out.2; omega) (rcd_bytes i k) (rcd_length i k) HNB.out.2 33
            have HR3 : Hid (RS (.slice a' NR c') (bl ++ [rcd i k]) Y') := hR3
            have HS3 : Hid (Sy w1 W' p h M N ⟨false, false, 0, 0⟩ pl2 (B + 1) (bl ++ [rcd i k]) Y') := by rw [List.append_nil] at hS3; exact hS3
            clear hR3 hS3 hM9 HS9 HS8
            go_wp2_with fail
            refine hrec.mono ?_
            rintro e w' ⟨rfl, rfl⟩
            go_wp2_with fail
            refine hrec.mono ?_
            rintro e w' ⟨rfl, rfl⟩
            go_wp2_with fail
            refine hby.mono ?_
            rintro e w' ⟨rfl, rfl⟩
            go_wp2_with fail
            refine hrec.mono ?_
            rintro e w' ⟨rfl, rfl⟩
            clear hrec hby
            go_wp2_with (refine wpList_append_run (.tmp 148) (.tmp 150) 33 33 (by with_reducible rfl) hrun rfl rfl (by simp [Act.eval]) (by simp [Act.eval]) ?_)
            refine (HPL2.out _).mono ?_
            rintro e w' ⟨rfl, rfl⟩
            have hC := sy_cut HS3.out P2 y (by omega)
            go_wp2_with fail
            refine hC.mono ?_
            rintro e w11 ⟨rfl, H11⟩
            have HT : Hid (Fl w1 w11 p h M N pl2 (i + 1) (.slice a' NR c')) := ⟨_, B + 1, _, Y', rfl, by omega, by omega, HXL2.out.2, HXL2.out.1, HR3.out, H11⟩
            clear hC H11
            go_wp2_with fail
            go_roundw
            case rel => exact ⟨i + 1, pl2, rfl, by go_num, by omega, HT.out⟩
            case measure => simp [intOf]; omega
    · have : i = n := by omega
      subst this
      have hP := sd_power hS.sd
      have HRS : Hid (RS (.slice av nb cv) bl Y) := hRS
      have HXL : Hid ((∀ x ∈ bl, x.length ≤ 16384) ∧ bl.length ≤ i) := ⟨hxl, hal⟩
      clear hS hRS hxl hal hnb
      go_wp2_with fail
      refine hP.mono ?_
      rintro e w7 ⟨rfl, H7⟩
      have hO := sd_open H7 HG1.out rfl HX.out.1 HX.out.2 (by omega) (by omega)
      clear hP H7
      go_wp2_with fail
      refine hO.mono ?_
      rintro e w8 ⟨pl2, v2, rfl, got, Y2, hRS2, hE, H8⟩
      clear hO
      obtain ⟨av2, cv2, ng, rfl, hng⟩ := hRS2.shapeN
      have hgl : got.length ≤ 30 := by have := hE.1; have := HXL.out.2; omega
      have hen := ends_any (W := w8) (rws_of hRS2 (fun x hx => H8.has (by simp [hx])) (fun r hr => by
        have h9 := hE.2.2; rw [h9] at hr; have := HXL.out.1 r (List.mem_of_mem_drop hr); omega)) (rws_of HRS.out (fun x hx => H8.has (by simp [hx])) (fun r hr => by have := HXL.out.1 r hr; omega)) (by omega) (by have := HXL.out.2; omega)
      have HEN : Hid (Ends got bl) := hE
      have HB8 : Hid (Below w.heap.size w w8) := HB1.out.trans (H8.sd.below.mono HB1.out.size)
      clear hRS2 hE H8 hng
      go_wp2_with fail
      refine hen.mono ?_
      rintro e w9 ⟨bb, rfl, hbb, hM9⟩
      obtain rfl : bb = true := hbb HEN.out
      have HB9 : Hid (Below w.heap.size w w9) := HB8.out.trans (hM9.below.mono HB8.out.size)
      clear hen hbb hM9
      go_wp2
      go_ret
      exact ⟨rfl, HB9.out⟩
set_option maxRecDepth 20000 in
set_option maxHeartbeats 2000000 in
theorem falls_long {w : World} {ga : Addr} (hG : Gl w ga) (x0 y0 : Int) (a : Option Addr) (n c : Nat) (hn : 30 < n) (x y mo : Int) :
    Calls Tryd.prog 5 #[.int .i64 x0, .int .i64 y0, .slice a n c, .int .i64 x, .int .i64 y, .int .u8 mo] w fun e w' => e = .returned (.bool true) ∧ Below w.heap.size w w' := by
  have hK := known_log hG
  have q : (30 : Int) < (n : Int) := by omega
  go_enter Tryd.func5, Tryd.ntmps5
  go_wp2_with fail
  refine hK.mono ?_
  rintro e w1 ⟨rfl, K, h1⟩
  go_wp2
  go_ret
  exact ⟨rfl, h1.below⟩
end Go.Proofs.YtbmpjlgfbiakoaaDoor
