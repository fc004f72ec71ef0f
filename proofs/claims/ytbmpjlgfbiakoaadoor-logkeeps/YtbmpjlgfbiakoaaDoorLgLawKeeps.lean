/-
  lychlaw10.LogKeeps.
-/
import Derived.Test.YtbmpjlgfbiakoaaDoorLgLawFalls
namespace Go.Proofs.YtbmpjlgfbiakoaaDoor
open Go.RowKit
open Sm
set_option linter.unusedVariables false

/-- A slice of bools that came in. -/
def RowO (W : World) (a : Option Addr) (n : Nat) : Prop :=
  n = 0 ∨ ∃ b off, a = some ⟨b, off, none⟩ ∧ ∀ i, i < n → ∃ x : Bool, W.cell? ⟨b, off + i, none⟩ = some (.bool x)
theorem RowO.at_ {w : World} {a : Option Addr} {n : Nat} (h : RowO w a n) {i : Nat} (hi : i < n) : ∃ b off x, a = some ⟨b, off, none⟩ ∧ ∀ V, Below w.heap.size w V → V.cell? ⟨b, off + i, none⟩ = some (.bool x) := by
  rcases h with e | ⟨b, off, e, hc⟩
  · omega
  · obtain ⟨x, h1⟩ := hc i hi
    exact ⟨b, off, x, e, fun V hV => by rw [← h1]; exact hV.cell (p := ⟨b, off + i, none⟩) (cell_lt h1)⟩
theorem Rws.at_ {W : World} {a : Option Addr} {n c : Nat} {bl : List (List Int)} (h : Rws W (.slice a n c) bl) {i : Nat} {r : List Int} (hi : bl[i]? = some r) : ∃ b g gc, a = some ⟨b, 0, none⟩ ∧ W.cell? ⟨b, i, none⟩ = some (.slice (some ⟨g, 0, none⟩) r.length gc) ∧ Row W (some ⟨g, 0, none⟩) r := by
  obtain ⟨a2, c2, e, h2⟩ := h
  injection e with e1 e2 e3
  rw [e1]; exact h2 i r hi
theorem ends_yes {W : World} {v1 v2 : Value} {got all : List (List Int)} (h1 : Rws W v1 got) (h2 : Rws W v2 all) (hl1 : got.length ≤ 1000000) (hl2 : all.length ≤ 1000000) (hE : Ends got all) :
    Calls Tryd.prog 23 #[v1, v2] W fun e W' => e = .returned (.bool true) ∧ Mem W W' [] := by
  refine (ends_any h1 h2 hl1 hl2).mono ?_
  rintro e W' ⟨b, rfl, hb, hM⟩
  obtain rfl : b = true := hb hE
  exact ⟨rfl, hM⟩
theorem getLastD_concat (bl : List (List Int)) (r : List Int) : (bl ++ [r]).getLastD [] = r := by rw [List.getLastD_eq_getLast?, List.getLast?_concat]; rfl

/-- The loop's own. -/
def Kp (w W : World) (p h m N pl i : Nat) (v : Value) : Prop :=
  ∃ (B : Int) (bl : List (List Int)) (Y : List (Nat × Obj)), 0 ≤ B ∧ B ≤ i ∧ bl.length ≤ i ∧ (∀ x ∈ bl, x.length ≤ 16384) ∧ RS v bl Y ∧ Sy w W p h m N ⟨false, false, 0, 0⟩ pl B bl Y

set_option maxRecDepth 20000 in
set_option maxHeartbeats 8000000 in
theorem keeps_any {w : World} {ga : Addr} (hG : Gl w ga) (x0 y0 : Int) (hx0 : -9223372036854775808 ≤ x0) (hx1 : x0 ≤ 9223372036854775807) (hy0 : -9223372036854775808 ≤ y0) (hy1 : y0 ≤ 9223372036854775807) {a : Option Addr} {l : List Int} {n : Nat} (hn : l.length = n) (hr : RowK .u16 w a l) (hu : ∀ i, 0 ≤ l.getD i 0 ∧ l.getD i 0 ≤ 65535) (c : Nat) (h40 : n ≤ 40) {ao : Option Addr} {no : Nat} (hro : RowO w ao no) (co : Nat) (h40o : no ≤ 40) :
    Calls Tryd.prog 4 #[.int .i64 x0, .int .i64 y0, .slice a n c, .slice ao no co] w fun e w' => e = .returned (.bool true) ∧ Below w.heap.size w w' := by
  have hK := known_log hG
  have q40 : ¬ (40 : Int) < (n : Int) := by omega
  have q40o : ¬ (40 : Int) < (no : Int) := by omega
  have HR : Hid (RowK .u16 w a l) := hr
  have HU : Hid (∀ i, 0 ≤ l.getD i 0 ∧ l.getD i 0 ≤ 65535) := hu
  have HRO : Hid (RowO w ao no) := hro
  have HG : Hid (Gl w ga) := hG
  have hpx := plc_range x0 8 (by omega)
  have hpy := plc_range y0 300 (by omega)
  have hcx : ∀ W, Calls Tryd.prog 13 #[.int .i64 x0, .int .i64 8] W (fun e w' => e = .returned (.int .i64 (plc x0 8)) ∧ W = w') := fun W => place_any x0 8 W hx0 hx1 (by omega) (by omega)
  have hcy : ∀ W, Calls Tryd.prog 13 #[.int .i64 y0, .int .i64 300] W (fun e w' => e = .returned (.int .i64 (plc y0 300)) ∧ W = w') := fun W => place_any y0 300 W hy0 hy1 (by omega) (by omega)
  generalize plc x0 8 = X at hpx hcx
  generalize plc y0 300 = S at hpy hcy
  obtain ⟨N, hN⟩ : ∃ N : Nat, (4 : Int) + X = (N : Int) := ⟨(4 + X).toNat, by omega⟩
  obtain ⟨M, hM⟩ : ∃ M : Nat, (256 : Int) + S = (M : Int) := ⟨(256 + S).toNat, by omega⟩
  have wN : IntKind.i64.wrap (N : Int) = N := by rw [IntKind.wrap_i64]; omega
  have wM : IntKind.i64.wrap (M : Int) = M := by rw [IntKind.wrap_i64]; omega
  have HX : Hid (4 ≤ N ∧ 256 ≤ M) := ⟨by omega, by omega⟩
  have HNW : Hid (∀ W, Calls Tryd.prog 12 #[.int .i64 N, .int .i64 M] W fun e W' => ∃ p, e = .returned (.pointer (some ⟨p, 0, none⟩)) ∧ ∃ h, Sd W W' p h M N ⟨false, false, 0, 0⟩ 0 [] []) := fun W => sd_new (by unfold bd; omega) (by unfold bd; omega) W
  obtain ⟨R, hR⟩ : ∃ R, R = room N M := ⟨_, rfl⟩
  have HRR : Hid (R = room N M) := hR
  have hRle : R ≤ 16384 := by rw [hR]; exact room_le N M
  obtain ⟨R3, hR3⟩ : ∃ R3 : Nat, (R : Int) + 3 = (R3 : Int) := ⟨R + 3, by omega⟩
  have hR3n : ¬ (R3 : Int) = 0 := by omega
  have wR3 : IntKind.i64.wrap (R3 : Int) = R3 := by rw [IntKind.wrap_i64]; omega
  obtain ⟨Q, hQ⟩ : ∃ Q, Q = (N - 1) / 2 := ⟨_, rfl⟩
  obtain ⟨U, hU⟩ : ∃ U, U = M - 64 := ⟨_, rfl⟩
  obtain ⟨T, hT⟩ : ∃ T, T = Q * U := ⟨_, rfl⟩
  obtain ⟨N1, hN1⟩ : ∃ N1 : Nat, (N : Int) - 1 = (N1 : Int) := ⟨N - 1, by omega⟩
  have hQi : Int.tdiv (N1 : Int) 2 = (Q : Int) := by rw [Int.tdiv_eq_ediv_of_nonneg (by omega)]; omega
  have hUi : (M : Int) - 64 = (U : Int) := by omega
  have hTi : (Q : Int) * (U : Int) = (T : Int) := by rw [hT]; push_cast; rfl
  have hTl : T ≤ 5 * 500 := by rw [hT]; exact Nat.mul_le_mul (by omega) (by omega)
  have wN1 : IntKind.i64.wrap (N1 : Int) = N1 := by rw [IntKind.wrap_i64]; omega
  have wQ : IntKind.i64.wrap (Q : Int) = Q := by rw [IntKind.wrap_i64]; omega
  have wU : IntKind.i64.wrap (U : Int) = U := by rw [IntKind.wrap_i64]; omega
  have wT : IntKind.i64.wrap (T : Int) = T := by rw [IntKind.wrap_i64]; omega
  have hRT : R = min T 16384 := by
    rw [hR, hT, hQ, hU]; unfold room; rw [if_pos HX.out]
    first | rfl | (unfold sbk; rfl)
  have hTR : T = R := by omega
  rw [hTR] at hTi wT
  clear hr hu hro hG hR hx0 hx1 hy0 hy1 hRT hTl hT hU hQ hTR
  go_enter Tryd.func4, Tryd.ntmps4
  go_wp2_with fail
  refine hK.mono ?_
  rintro e w1 ⟨rfl, K1, h1⟩
  have HG1 : Hid (Gl w1 ga) := HG.out.on h1
  have HB1 : Hid (Below w.heap.size w w1) := h1.below
  clear hK h1
  go_wp2_with fail
  refine (hcx _).mono ?_
  rintro e w' ⟨rfl, rfl⟩
  clear hcx
  go_wp2_with fail
  refine (hcy _).mono ?_
  rintro e w' ⟨rfl, rfl⟩
  clear hcy
  go_wp2_with fail
  refine (HNW.out w1).mono ?_
  rintro e w2 ⟨p, rfl, h, H2⟩
  have hO := sd_open H2 HG1.out rfl HX.out.1 HX.out.2 (by omega) (by omega)
  clear H2
  go_wp2_with fail
  refine hO.mono ?_
  rintro e w3 ⟨pl0, v', rfl, got, Y, hRS, hE, H3⟩
  obtain ⟨rfl, rfl⟩ := rs_nil (by rw [ends_nil hE] at hRS; exact hRS)
  have hRM := sd_room H3.sd
  rw [← HRR.out] at hRM
  have hBL := sd_blocks H3.sd
  have hSZ := sd_size H3.sd
  have HT0 : Hid (Kp w1 w3 p h M N pl0 0 (.slice none 0 0)) := ⟨0, [], [], by omega, by omega, by simp, by simp, Or.inl ⟨rfl, rfl, rfl⟩, H3⟩
  clear hO hRS hE H3
  go_wp2_with fail
  refine hRM.mono ?_
  rintro e w' ⟨rfl, rfl⟩
  clear hRM
  go_wp2_with fail
  refine hBL.mono ?_
  rintro e w' ⟨rfl, rfl⟩
  clear hBL
  go_wp2_with fail
  refine hSZ.mono ?_
  rintro e w' ⟨rfl, rfl⟩
  clear hSZ
  go_wp2_with fail
  go_loopw [10, 14, 15] (fun u10 u14 u15 wr => ∃ (i pl : Nat), u10 = .pointer (some ⟨pl, 0, none⟩) ∧ u15 = .int .i64 i ∧ i ≤ n ∧ Kp w1 wr p h M N pl i u14) (fun _ _ u _ => n - (intOf u).toNat)
  case atStart => exact ⟨0, pl0, rfl, rfl, by omega, HT0.out⟩
  case round =>
    obtain ⟨i, pl, rfl, rfl, hi, B, bl, Y, hB0, hB, hal, hxl, hRS, hS⟩ := hrel
    clear HT0
    obtain ⟨av, cv, nb, rfl, hnb⟩ := hRS.shapeN
    by_cases hlt : i < n
    · obtain ⟨b, off, rfl, hcell⟩ := HR.out.at_ (i := i) (by omega)
      have hz := HU.out i
      generalize l.getD i 0 = z at *
      obtain ⟨hz0, hz1⟩ := hz
      have wz : IntKind.i64.wrap z = z := by rw [IntKind.wrap_i64]; omega
      obtain ⟨k, hk⟩ : ∃ k : Nat, z % (R3 : Int) = (k : Int) := ⟨(z % (R3 : Int)).toNat, by have := Int.emod_nonneg z hR3n; omega⟩
      have hkt : Int.tmod z (R3 : Int) = (k : Int) := by rw [Int.tmod_eq_emod_of_nonneg hz0]; exact hk
      have hkR : k ≤ R + 2 := by have := Int.emod_lt_of_pos z (show (0 : Int) < R3 by omega); omega
      have wk : IntKind.i64.wrap (k : Int) = k := by rw [IntKind.wrap_i64]; omega
      have c0 : wr.cell? ⟨b, off + i, none⟩ = some (.int .u16 z) := hcell wr (HB1.out.trans (hS.sd.below.mono HB1.out.size))
      have hRC := record_any wr i (by omega) (by omega) k (by omega)
      have q0 : (i : Int) < (n : Int) := by omega
      have HS : Hid (Sy w1 wr p h M N ⟨false, false, 0, 0⟩ pl B bl Y) := hS
      have HRS : Hid (RS (.slice av nb cv) bl Y) := hRS
      have HXL : Hid ((∀ x ∈ bl, x.length ≤ 16384) ∧ bl.length ≤ i) := ⟨hxl, hal⟩
      by_cases hbig : R < k
      · have qb : (R : Int) < (k : Int) := by omega
        clear hS hcell hk hRS hnb hal hxl
        go_wp2_with fail
        refine hRC.mono ?_
        rintro e w5 ⟨g5, rfl, q5⟩
        have H5 := HS.out.join q5
        have hAP := sy_big H5 (some ⟨g5, 0, none⟩) k k (by rw [← HRR.out]; exact hbig)
        have HT : Hid (Kp w1 w5 p h M N pl (i + 1) (.slice av nb cv)) := ⟨B, bl, Y, hB0, by omega, by have := HXL.out.2; omega, HXL.out.1, HRS.out, H5⟩
        clear hRC HS q5 H5
        go_wp2_with fail
        refine hAP.mono ?_
        rintro e w' ⟨rfl, rfl⟩
        clear hAP
        go_wp2_with fail
        go_roundw
        case rel => exact ⟨i + 1, pl, rfl, by go_num, by omega, HT.out⟩
        case measure => simp [intOf]; omega
      · have qb : ¬ (R : Int) < (k : Int) := by omega
        obtain ⟨NR, hNR⟩ : ∃ NR : Nat, (NR : Int) - 1 = (nb : Int) := ⟨nb + 1, by omega⟩
        have wnb : IntKind.i64.wrap (nb : Int) = nb := by rw [IntKind.wrap_i64]; omega
        have HNB : Hid (nb = bl.length ∧ bl.length + 1 = NR) := ⟨hnb, by omega⟩
        have n1 : (nb : Int) < (NR : Int) := by omega
        have n1n : nb < NR := by omega
        have bne2 : ((NR : Int) != (NR : Int)) = false := by simp
        have HXL2 : Hid ((∀ x ∈ bl ++ [rcd i k], x.length ≤ 16384) ∧ (bl ++ [rcd i k]).length ≤ i + 1) := by
          refine ⟨fun x hx => ?_, by simp; omega⟩
          rcases List.mem_append.mp hx with h9 | h9
          · exact hxl x h9
          · rw [List.mem_singleton.mp h9, rcd_length]; omega
        have HLA9 : Hid ((bl ++ [rcd i k])[nb]? = some (rcd i k)) := by show _ = _; rw [hnb]; simp
        clear hS hcell hk hRS hnb hal hxl
        go_wp2_with fail
        refine hRC.mono ?_
        rintro e w5 ⟨g5, rfl, q5⟩
        have hAP := sy_append (g := g5) (HS.out.push q5) HG1.out rfl HX.out.1 HX.out.2 (by omega) hB0 (by have := HXL.out.2; omega) (rcd_length i k) (by rw [← HRR.out]; omega) (beside_of (fz := (0, 0)) (by simp) (rcd_bytes i k) (by rw [rcd_length]; omega)) (rcd_bytes i k)
        clear hRC HS q5
        go_wp2_with fail
        refine hAP.mono ?_
        rintro e w6 ⟨err, rfl, D', hcs⟩
        clear hAP
        rcases hcs with ⟨rfl, a1, a2, a3⟩ | ⟨rfl, a1, a2, a3, a4⟩
        · obtain rfl : D' = (⟨false, false, 0, 0⟩ : Dk) := by first | exact a2 rfl | exact a2 trivial
          have hRC2 := record_any w6 i (by omega) (by omega) k (by omega)
          have HS6 : Hid (Sy w1 w6 p h M N ⟨false, false, 0, 0⟩ pl (B + 1) (bl ++ [rcd i k]) Y) := a3.sub (Y := [_])
          clear a3 a2 a1
          go_wp2_with fail
          refine hRC2.mono ?_
          rintro e w7 ⟨g7, rfl, q7⟩
          obtain ⟨a', c', Y', W', hrun, hR2, hS2⟩ := Sy.moreN (L := []) (k := k) (n1 := NR) HRS.out ((HS6.out.push q7).perm (by rw [List.singleton_append]; exact (List.perm_append_comm (l₁ := [_]) (l₂ := Y)))) (by have := HXL.out.2; omega) (rcd_bytes i k) (rcd_length i k) HNB.out.2 33
          rw [List.append_nil] at hS2
          have HR2 : Hid (RS (.slice a' NR c') (bl ++ [rcd i k]) Y') := hR2
          have HS2 : Hid (Sy w1 W' p h M N ⟨false, false, 0, 0⟩ pl (B + 1) (bl ++ [rcd i k]) Y') := hS2
          have HRWS : Hid (∀ V, (∀ x ∈ Y', V.heap[x.1]? = some x.2) → Rws V (.slice a' NR c') (bl ++ [rcd i k])) := fun V hV => rws_of HR2.out hV (fun r hr => by have := HXL2.out.1 r hr; omega)
          obtain ⟨hh, g, gc, rfl, c1, hrow⟩ := (HRWS.out W' (fun x hx => hS2.has hx)).at_ HLA9.out
          rw [rcd_length] at c1
          have hhl : hh < W'.drew.heap.size := cell_lt c1
          have hrowd : Row W'.drew (some ⟨g, 0, none⟩) (rcd i k) := row_drew hrow
          have HC1 : Hid (∀ V K, Mem W'.drew V K → V.cell? ⟨hh, nb, none⟩ = some (.slice (some ⟨g, 0, none⟩) k gc)) := fun V K hV => (hV.old hhl).trans c1
          have HREC : Hid (Calls Tryd.prog 20 #[.pointer (some ⟨pl, 0, none⟩)] W'.drew fun e W2 => e = .returned (.int .i64 NR) ∧ W'.drew = W2) := by
            have := sy_records (HS2.out.drewN 1) (by omega) (by omega); rw [List.length_append, List.length_singleton, HNB.out.2] at this; exact this
          have HLA : Hid (Calls Tryd.prog 22 #[.pointer (some ⟨pl, 0, none⟩)] W'.drew fun e W2 => ∃ g, e = .returned (.slice (some ⟨g, 0, none⟩) k k) ∧ Mem W'.drew W2 [(g, .cells (bs (rcd i k)) 5 (0, 0))]) := by
            have := sy_last (HS2.out.drewN 1) (by rw [getLastD_concat, rcd_length]; omega); rw [getLastD_concat, rcd_length] at this; exact this
          have HBY : Hid (∀ V g9, Mem W'.drew V [(g9, .cells (bs (rcd i k)) 5 (0, 0))] → Calls Tryd.prog 21 #[.slice (some ⟨g9, 0, none⟩) k k, .slice (some ⟨g, 0, none⟩) k gc] V fun e W2 => e = .returned (.bool true) ∧ V = W2) := fun V g9 hV =>
            hbytes_yes (hV.own 0 rfl (rcd_bytes i k) (by rw [rcd_length]; omega)) (hV.row hrowd) k k (rcd_length i k) (rcd_length i k) k gc
          clear hRC2 q7 HS6 hR2 hS2 hrow hrowd
          go_wp2_with (refine wpList_append_run (.tmp 96) (.tmp 100) 33 33 (by with_reducible rfl) hrun rfl rfl (by simp [Act.eval]) (by simp [Act.eval]) ?_)
          clear hrun
          go_upto_region 24 with fail
          go_region_held3 (fun w' => w'.cell? ⟨hh, nb, none⟩ = some (.slice (some ⟨g, 0, none⟩) k gc)) (first | go_keep | assumption | exact HC1.out _ _ q9)
            (first
              | (go_at_call 20; with_reducible refine HREC.out.mono ?_; rintro e3 w' ⟨rfl, rfl⟩)
              | (go_at_call 22; with_reducible refine HLA.out.mono ?_; rintro e3 w9 ⟨g9, rfl, q9⟩)
              | (go_at_call 21; with_reducible refine (HBY.out _ _ q9).mono ?_; rintro e3 w' ⟨rfl, rfl⟩))
          have HS9 : Hid (Sy w1 w9 p h M N ⟨false, false, 0, 0⟩ pl (B + 1) (bl ++ [rcd i k]) Y') := (HS2.out.drewN 1).join q9
          have HT9 : Hid (Kp w1 w9 p h M N pl (i + 1) (.slice (some ⟨hh, 0, none⟩) NR c')) := ⟨B + 1, _, Y', by omega, by omega, HXL2.out.2, HXL2.out.1, HR2.out, HS9.out⟩
          clear HREC HLA HBY HC1 c1 q9 HS2 hhl
          by_cases hio : i < no
          · obtain ⟨ob, ooff, bx, rfl, hoc⟩ := HRO.out.at_ hio
            have c9 : w9.cell? ⟨ob, ooff + i, none⟩ = some (.bool bx) := hoc w9 (HB1.out.trans (HS9.out.sd.below.mono HB1.out.size))
            have qo : (i : Int) < (no : Int) := by omega
            clear hoc
            cases bx
            · go_wp2_with fail
              go_roundw
              case rel => exact ⟨i + 1, pl, rfl, by go_num, by omega, HT9.out⟩
              case measure => simp [intOf]; omega
            · have hO := sd_open HS9.out.sd HG1.out rfl HX.out.1 HX.out.2 (by omega) (by omega)
              clear HT9
              go_wp2_with fail
              refine hO.mono ?_
              rintro e w10 ⟨pl2, v2, rfl, got, Y2, hRS2, hE, H10⟩
              clear hO
              obtain ⟨av2, cv2, ng, rfl, hng⟩ := hRS2.shapeN
              have hgl : got.length ≤ 41 := by have := hE.1; have := HXL2.out.2; omega
              have hgb : ∀ r ∈ got, r.length ≤ 1000000 := fun r hr => by
                have h9 := hE.2.2; rw [h9] at hr; have := HXL2.out.1 r (List.mem_of_mem_drop hr); omega
              have H10d := H10.drewN 1
              have HEN : Hid (Calls Tryd.prog 23 #[.slice av2 ng cv2, .slice (some ⟨hh, 0, none⟩) NR c'] w10.drew fun e W2 => e = .returned (.bool true) ∧ Mem w10.drew W2 []) :=
                ends_yes (rws_of hRS2 (fun x hx => H10d.has (by simp [hx])) hgb) (HRWS.out _ (fun x hx => H10d.has (by simp [hx]))) (by omega) (by have := HXL2.out.2; omega) hE
              obtain ⟨hh2, g2, gc2, e2, c2, hrow2⟩ := (HRWS.out w10.drew (fun x hx => H10d.has (by simp [hx]))).at_ HLA9.out
              injection e2 with e2
              injection e2 with e2
              subst e2
              rw [rcd_length] at c2
              have c2' : w10.cell? ⟨hh, nb, none⟩ = some (.slice (some ⟨g2, 0, none⟩) k gc2) := c2
              have hhl2 : hh < w10.drew.heap.size := cell_lt c2
              have HC2 : Hid (∀ V K, Mem w10.drew V K → V.cell? ⟨hh, nb, none⟩ = some (.slice (some ⟨g2, 0, none⟩) k gc2)) := fun V K hV => (hV.old hhl2).trans c2
              have HSX : Hid (Sy w1 w10.drew p h M N ⟨false, false, 0, 0⟩ pl2 (B + 1) (bl ++ [rcd i k]) Y') := H10d.sub (Y := Y2)
              have HREC : Hid (∀ V, Mem w10.drew V [] → Calls Tryd.prog 20 #[.pointer (some ⟨pl2, 0, none⟩)] V fun e W2 => e = .returned (.int .i64 NR) ∧ V = W2) := fun V hV => by
                have := sy_records (HSX.out.join hV) (by omega) (by omega); rw [List.length_append, List.length_singleton, HNB.out.2] at this; exact this
              have HLA : Hid (∀ V, Mem w10.drew V [] → Calls Tryd.prog 22 #[.pointer (some ⟨pl2, 0, none⟩)] V fun e W2 => ∃ g, e = .returned (.slice (some ⟨g, 0, none⟩) k k) ∧ Mem V W2 [(g, .cells (bs (rcd i k)) 5 (0, 0))]) := fun V hV => by
                have := sy_last (HSX.out.join hV) (by rw [getLastD_concat, rcd_length]; omega); rw [getLastD_concat, rcd_length] at this; exact this
              have HBY : Hid (∀ V V2 g9, Mem w10.drew V [] → Mem V V2 [(g9, .cells (bs (rcd i k)) 5 (0, 0))] → Calls Tryd.prog 21 #[.slice (some ⟨g9, 0, none⟩) k k, .slice (some ⟨g2, 0, none⟩) k gc2] V2 fun e W2 => e = .returned (.bool true) ∧ V2 = W2) := fun V V2 g9 hV h2 =>
                hbytes_yes (h2.own 0 rfl (rcd_bytes i k) (by rw [rcd_length]; omega)) (h2.row (hV.row hrow2)) k k (rcd_length i k) (rcd_length i k) k gc2
              clear hRS2 hE H10 H10d hng hgl hgb c2 hrow2 hhl2
              go_upto_region 28 with fail
              go_region_held3 (fun w' => w'.cell? ⟨hh, nb, none⟩ = some (.slice (some ⟨g2, 0, none⟩) k gc2)) (first | go_keep | assumption | exact HC2.out _ _ (q11.join q12) | exact HC2.out _ _ q11)
                (first
                  | (go_at_call 23; with_reducible refine HEN.out.mono ?_; rintro e3 w11 ⟨rfl, q11⟩)
                  | (go_at_call 20; with_reducible refine (HREC.out _ q11).mono ?_; rintro e3 w' ⟨rfl, rfl⟩)
                  | (go_at_call 22; with_reducible refine (HLA.out _ q11).mono ?_; rintro e3 w12 ⟨g12, rfl, q12⟩)
                  | (go_at_call 21; with_reducible refine (HBY.out _ _ _ q11 q12).mono ?_; rintro e3 w' ⟨rfl, rfl⟩))
              have HT : Hid (Kp w1 w12 p h M N pl2 (i + 1) (.slice (some ⟨hh, 0, none⟩) NR c')) := ⟨B + 1, _, Y', by omega, by omega, HXL2.out.2, HXL2.out.1, HR2.out, (HSX.out.join q11).join q12⟩
              go_wp2_with fail
              go_roundw
              case rel => exact ⟨i + 1, pl2, rfl, by go_num, by omega, HT.out⟩
              case measure => simp [intOf]; omega
          · have qo : ¬ (i : Int) < (no : Int) := by omega
            go_wp2_with fail
            go_roundw
            case rel => exact ⟨i + 1, pl, rfl, by go_num, by omega, HT9.out⟩
            case measure => simp [intOf]; omega
        · cases a2
    · have : i = n := by omega
      subst this
      have hO := sd_open hS.sd HG1.out rfl HX.out.1 HX.out.2 (by omega) (by omega)
      have HRS : Hid (RS (.slice av nb cv) bl Y) := hRS
      have HXL : Hid ((∀ x ∈ bl, x.length ≤ 16384) ∧ bl.length ≤ i) := ⟨hxl, hal⟩
      clear hS hRS hxl hal hnb
      go_wp2_with fail
      refine hO.mono ?_
      rintro e w8 ⟨pl2, v2, rfl, got, Y2, hRS2, hE, H8⟩
      clear hO
      obtain ⟨av2, cv2, ng, rfl, hng⟩ := hRS2.shapeN
      have hgl : got.length ≤ 41 := by have := hE.1; have := HXL.out.2; omega
      have hen := ends_yes (W := w8) (rws_of hRS2 (fun x hx => H8.has (by simp [hx])) (fun r hr => by
        have h9 := hE.2.2; rw [h9] at hr; have := HXL.out.1 r (List.mem_of_mem_drop hr); omega)) (rws_of HRS.out (fun x hx => H8.has (by simp [hx])) (fun r hr => by have := HXL.out.1 r hr; omega)) (by omega) (by have := HXL.out.2; omega) hE
      have HB8 : Hid (Below w.heap.size w w8) := HB1.out.trans (H8.sd.below.mono HB1.out.size)
      clear hRS2 hE H8 hng
      go_wp2_with fail
      refine hen.mono ?_
      rintro e w9 ⟨rfl, hM9⟩
      have HB9 : Hid (Below w.heap.size w w9) := HB8.out.trans (hM9.below.mono HB8.out.size)
      clear hen hM9
      go_wp2
      go_ret
      exact ⟨rfl, HB9.out⟩
set_option maxRecDepth 20000 in
set_option maxHeartbeats 2000000 in
theorem keeps_long {w : World} {ga : Addr} (hG : Gl w ga) (x0 y0 : Int) (a : Option Addr) (n c : Nat) (ao : Option Addr) (no co : Nat) (hn : 40 < n ∨ 40 < no) :
    Calls Tryd.prog 4 #[.int .i64 x0, .int .i64 y0, .slice a n c, .slice ao no co] w fun e w' => e = .returned (.bool true) ∧ Below w.heap.size w w' := by
  have hK := known_log hG
  by_cases h1 : 40 < n
  · have q : (40 : Int) < (n : Int) := by omega
    go_enter Tryd.func4, Tryd.ntmps4
    go_wp2_with fail
    refine hK.mono ?_
    rintro e w1 ⟨rfl, K, h1⟩
    go_wp2
    go_ret
    exact ⟨rfl, h1.below⟩
  · have q : ¬ (40 : Int) < (n : Int) := by omega
    have q2 : (40 : Int) < (no : Int) := by omega
    go_enter Tryd.func4, Tryd.ntmps4
    go_wp2_with fail
    refine hK.mono ?_
    rintro e w1 ⟨rfl, K, h1⟩
    go_wp2
    go_ret
    exact ⟨rfl, h1.below⟩
end Go.Proofs.YtbmpjlgfbiakoaaDoor
