/-
  lychlaw10.LogMany.
-/
import Derived.Test.YtbmpjlgfbiakoaaDoorLgLawOnly
namespace Go.Proofs.YtbmpjlgfbiakoaaDoor
open Go.RowKit
open Sm
set_option linter.unusedVariables false
set_option linter.unusedSimpArgs false

/-- So many records of a length. -/
def recs (k m : Nat) : List (List Int) := (List.range k).map fun i : Nat => rcd i m
theorem recs_length (k m : Nat) : (recs k m).length = k := by simp [recs]
theorem recs_succ (k m : Nat) : recs (k + 1) m = recs k m ++ [rcd k m] := by simp [recs, List.range_succ]
theorem recs_last (k m : Nat) : (recs (k + 1) m).getLast? = some (rcd k m) := by rw [recs_succ, List.getLast?_concat]
theorem ends_last {got all : List (List Int)} (h : Ends got all) (hne : all ≠ []) : got ≠ [] ∧ got.getLast? = all.getLast? := by
  obtain ⟨h1, h2, h3⟩ := h
  have h4 : got ≠ [] := fun e => hne (h2 e)
  refine ⟨h4, ?_⟩
  have : 0 < got.length := List.length_pos_iff.mpr h4
  rw [h3, List.getLast?_drop, if_neg (by omega)]

theorem records_heap {W : World} {pl : Nat} {P v : Value} {t c : Int} (hl : W.heap[pl]? = some (.cells #[P, .int .u64 t, .int .i64 c, v] lgT (0, 0))) : Calls Tryd.prog 20 #[.pointer (some ⟨pl, 0, none⟩)] W fun e W' => e = .returned (.int .i64 c) ∧ W = W' := by
  have k2 := cell_of hl 2
  simp at k2
  clear hl
  go_enter Tryd.func20, Tryd.ntmps20
  go_wp2
  go_ret
  exact ⟨rfl, rfl⟩
theorem Sy.sdl {w W : World} {p h m N : Nat} {D : Dk} {pl : Nat} {B : Int} {all : List (List Int)} {L : List (Nat × Obj)} (H : Sy w W p h m N D pl B all L) (hB : B ≤ 1000000) (hB0 : 0 ≤ B) : ∃ t v, Sd w W p h m N D B all ((pl, .cells (lgA p t (all.length : Int) v) lgT (0, 0)) :: L) := by
  obtain ⟨hc, ks, v, X, K, h1, h2, h3, h4⟩ := H.at_
  rw [(syn_nw h3 hB hB0).1] at h1
  refine ⟨(nw (fd (ks.map Bk.b))).t, v, hc, ks, K ++ X, h1.on (h1.st.perm (List.Perm.cons _ ?_)), h2, h3⟩
  show (X ++ (L ++ K)).Perm (L ++ (K ++ X))
  rw [show L ++ (K ++ X) = (L ++ K) ++ X by simp]; exact List.perm_append_comm
theorem row_has {w W : World} {p h m N : Nat} {D : Dk} {pl : Nat} {B : Int} {all : List (List Int)} {L : List (Nat × Obj)} (H : Sy w W p h m N D pl B all L) {g gc : Nat} {cur : Array Value} {r : List Int} (hx : (g, Obj.cells cur 5 (0, 0)) ∈ L) (ho : (Bk.mk g gc cur r).Ok r.length) (hl : r.length ≤ 1000000) : Row W (some ⟨g, 0, none⟩) r := row_of_bk ho (H.has hx) (by omega)

set_option maxRecDepth 20000 in
set_option maxHeartbeats 4000000 in
theorem many_any {w : World} {ga : Addr} (hG : Gl w ga) (n l b s : Int) (hn0 : 0 ≤ n) (hn1 : n ≤ 65535) (hl0 : 0 ≤ l) (hl1 : l ≤ 65535) (hb0 : 0 ≤ b) (hb1 : b ≤ 255) (hs0 : 0 ≤ s) (hs1 : s ≤ 255) :
    Calls Tryd.prog 7 #[.int .u16 n, .int .u16 l, .int .u8 b, .int .u8 s] w fun e w' => e = .returned (.bool true) ∧ Below w.heap.size w w' := by
  have hK := known_log hG
  obtain ⟨c6, hc6⟩ : ∃ c6 : Nat, b % 6 = (c6 : Int) := ⟨(b % 6).toNat, by omega⟩
  have hc6t : Int.tmod b 6 = (c6 : Int) := by rw [Int.tmod_eq_emod_of_nonneg hb0]; exact hc6
  obtain ⟨N, hN⟩ : ∃ N : Nat, (4 : Int) + (c6 : Int) = (N : Int) := ⟨4 + c6, by omega⟩
  have hN4 : 4 ≤ N ∧ N ≤ 9 := by omega
  obtain ⟨M, hM⟩ : ∃ M : Nat, (256 : Int) + s = (M : Int) := ⟨(256 + s).toNat, by omega⟩
  have hM4 : 256 ≤ M ∧ M ≤ 511 := by omega
  obtain ⟨k, hk⟩ : ∃ k : Nat, n % 400 = (k : Int) := ⟨(n % 400).toNat, by omega⟩
  have hkt : Int.tmod n 400 = (k : Int) := by rw [Int.tmod_eq_emod_of_nonneg hn0]; exact hk
  have hk4 : k ≤ 399 := by omega
  obtain ⟨R, hR⟩ : ∃ R, R = room N M := ⟨_, rfl⟩
  have hRle : R ≤ 16384 := by rw [hR]; exact room_le N M
  obtain ⟨R1, hR1⟩ : ∃ R1 : Nat, (R : Int) + 1 = (R1 : Int) := ⟨R + 1, by omega⟩
  have hR1n : ¬ (R1 : Int) = 0 := by omega
  obtain ⟨m', hm'⟩ : ∃ m' : Nat, l % (R1 : Int) = (m' : Int) := ⟨(l % (R1 : Int)).toNat, by have := Int.emod_nonneg l hR1n; omega⟩
  have hm't : Int.tmod l (R1 : Int) = (m' : Int) := by rw [Int.tmod_eq_emod_of_nonneg hl0]; exact hm'
  have hm'R : m' ≤ R := by have := Int.emod_lt_of_pos l (show (0 : Int) < R1 by omega); omega
  have wN : IntKind.i64.wrap (N : Int) = N := by rw [IntKind.wrap_i64]; omega
  have wM : IntKind.i64.wrap (M : Int) = M := by rw [IntKind.wrap_i64]; omega
  have wc6 : IntKind.i64.wrap (c6 : Int) = c6 := by rw [IntKind.wrap_i64]; omega
  have ws : IntKind.i64.wrap s = s := by rw [IntKind.wrap_i64]; omega
  have wl : IntKind.i64.wrap l = l := by rw [IntKind.wrap_i64]; omega
  have wk : IntKind.i64.wrap (k : Int) = k := by rw [IntKind.wrap_i64]; omega
  have wR1 : IntKind.i64.wrap (R1 : Int) = R1 := by rw [IntKind.wrap_i64]; omega
  have HG : Hid (Gl w ga) := hG
  have HRR : Hid (R = room N M) := hR
  have HX : Hid (4 ≤ N ∧ N ≤ 9 ∧ 256 ≤ M ∧ M ≤ 511 ∧ m' ≤ R ∧ R ≤ 16384) := ⟨hN4.1, hN4.2, hM4.1, hM4.2, hm'R, hRle⟩
  have HNW : Hid (∀ W, Calls Tryd.prog 12 #[.int .i64 N, .int .i64 M] W fun e W' => ∃ p, e = .returned (.pointer (some ⟨p, 0, none⟩)) ∧ ∃ h, Sd W W' p h M N ⟨false, false, 0, 0⟩ 0 [] []) := fun W => sd_new (by unfold bd; omega) (by unfold bd; omega) W
  clear hG hR hN4 hM4
  go_enter Tryd.func7, Tryd.ntmps7
  go_wp2_with fail
  refine hK.mono ?_
  rintro e w1 ⟨rfl, K1, h1⟩
  have HG1 : Hid (Gl w1 ga) := HG.out.on h1
  have HB1 : Hid (Below w.heap.size w w1) := h1.below
  clear hK h1
  go_wp2_with fail
  refine (HNW.out w1).mono ?_
  rintro e w2 ⟨p, rfl, h, H2⟩
  have hO := sd_open H2 HG1.out rfl HX.out.1 HX.out.2.2.1 (by omega) (by omega)
  clear H2
  go_wp2_with fail
  refine hO.mono ?_
  rintro e w3 ⟨pl, v', rfl, got, Y, hRS, hE, H3⟩
  obtain ⟨rfl, rfl⟩ := rs_nil (by rw [ends_nil hE] at hRS; exact hRS)
  have hRM := sd_room H3.sd
  rw [← HRR.out] at hRM
  have HS3 : Hid (Sy w1 w3 p h M N ⟨false, false, 0, 0⟩ pl 0 [] []) := H3
  clear hO hRS hE H3
  go_wp2_with fail
  refine hRM.mono ?_
  rintro e w' ⟨rfl, rfl⟩
  clear hRM
  go_wp2_with fail
  go_loopw [15] (fun u wr => ∃ i : Nat, u = .int .i64 i ∧ i ≤ k ∧ Sy w1 wr p h M N ⟨false, false, 0, 0⟩ pl (i : Int) (recs i m') []) (fun u _ => k - (intOf u).toNat)
  case atStart => exact ⟨0, rfl, by omega, HS3.out⟩
  case round =>
    obtain ⟨i, rfl, hi, hS⟩ := hrel
    clear HS3
    by_cases hlt : i < k
    · have hRC := record_any wr i (by omega) (by omega) m' (by omega)
      have HAP : Hid (∀ W1 g, Mem wr W1 [(g, .cells (bs (rcd i m')) 5 (0, 0))] → Calls Tryd.prog 18 #[.pointer (some ⟨pl, 0, none⟩), .slice (some ⟨g, 0, none⟩) m' m'] W1 fun ev W' => ev = .returned (.int .i64 0) ∧ Sy w1 W' p h M N ⟨false, false, 0, 0⟩ pl ((i + 1 : Nat) : Int) (recs (i + 1) m') []) := by
        intro W1 g hq
        obtain ⟨x1, x2, x3, x4, x5, x6⟩ := HX.out
        refine (sy_append (hS.push hq) HG1.out rfl x1 x3 (by omega) (by omega) (by rw [recs_length]; omega) (rcd_length i m') (by rw [← HRR.out]; exact x5) (beside_of (fz := (0, 0)) (by simp) (rcd_bytes i m') (by rw [rcd_length]; omega)) (rcd_bytes i m')).mono ?_
        rintro ev W' ⟨err, rfl, D', hc⟩
        rcases hc with ⟨rfl, a1, a2, a3⟩ | ⟨rfl, a1, a2, _⟩
        · have := a2 rfl
          subst this
          refine ⟨rfl, ?_⟩
          rw [recs_succ, Int.natCast_add]
          exact a3.sub
        · cases a2
      have q0 : (i : Int) < (k : Int) := by omega
      clear hS
      go_wp2_with fail
      refine hRC.mono ?_
      rintro e w5 ⟨g5, rfl, q5⟩
      go_wp2_with fail
      refine (HAP.out _ _ q5).mono ?_
      rintro e w6 ⟨rfl, H6⟩
      have HS6 : Hid (Sy w1 w6 p h M N ⟨false, false, 0, 0⟩ pl ((i + 1 : Nat) : Int) (recs (i + 1) m') []) := H6
      clear H6 q5 hRC HAP
      go_wp2_with fail
      go_roundw
      case rel => exact ⟨i + 1, by go_num, by omega, HS6.out⟩
      case measure => simp [intOf]; omega
    · have : i = k := by omega
      subst this
      obtain ⟨t0, v0, hSd⟩ := hS.sdl (by omega) (by omega)
      rw [recs_length] at hSd
      have hO := sd_open hSd HG1.out rfl HX.out.1 HX.out.2.2.1 (by omega) (by omega)
      clear hS hSd
      go_wp2_with fail
      refine hO.mono ?_
      rintro e w4 ⟨pl2, v2, rfl, got, Y, hRS, hE, H4⟩
      have r1 : Calls Tryd.prog 20 #[.pointer (some ⟨pl2, 0, none⟩)] w4 fun e W2 => e = .returned (.int .i64 i) ∧ w4 = W2 := by
        have := sy_records H4 (by omega) (by omega)
        rw [recs_length] at this; exact this
      have r2 : Calls Tryd.prog 20 #[.pointer (some ⟨pl, 0, none⟩)] w4 fun e W2 => e = .returned (.int .i64 i) ∧ w4 = W2 := records_heap (H4.has (x := (pl, .cells (lgA p t0 (i : Int) v0) lgT (0, 0))) (by simp))
      have bnn : ((i : Int) != (i : Int)) = false := by simp
      have HB4 : Hid (Below w.heap.size w w4) := HB1.out.trans (H4.sd.below.mono HB1.out.size)
      clear hO
      go_wp2_with fail
      refine r1.mono ?_
      rintro e w' ⟨rfl, rfl⟩
      go_wp2_with fail
      refine r2.mono ?_
      rintro e w' ⟨rfl, rfl⟩
      clear r1 r2
      by_cases hi0 : i = 0
      · subst hi0
        obtain ⟨rfl, rfl⟩ := rs_nil (by rw [ends_nil hE] at hRS; exact hRS)
        clear H4 hE hRS
        go_upto_region 17 with fail
        go_quiet (fail)
        go_wp2
        go_ret
        exact ⟨by simp, below_drewN HB4.out _⟩
      · obtain ⟨kk, rfl⟩ : ∃ kk, i = kk + 1 := ⟨i - 1, by omega⟩
        obtain ⟨hgne, hgl⟩ := ends_last hE (by rw [recs_succ]; simp)
        rw [recs_last] at hgl
        obtain ⟨j, hj⟩ : ∃ j, got.length = j + 1 := ⟨got.length - 1, by have := List.length_pos_iff.mpr hgne; omega⟩
        have hgj : got[j]? = some (rcd kk m') := by rw [List.getLast?_eq_getElem?] at hgl; rw [← hgl, hj]; rfl
        obtain ⟨hh, cap, g, gc, cur, ev2, ⟨hc, hm1, hm2⟩, hm3, hok⟩ := rs_at hRS hgj
        subst ev2
        have hjk : j < 400 := by have h9 := hE.1; rw [recs_length] at h9; omega
        rw [hj] at *
        rw [rcd_length] at hm2 hok
        have c0 : w4.cell? ⟨hh, j, none⟩ = some (.slice (some ⟨g, 0, none⟩) m' gc) := (cell_of (H4.has (x := (hh, .cells hc 22 (0, 0))) (by simp [hm1])) j).trans hm2
        have hhl : hh < w4.drew.heap.size := cell_lt c0
        have HC0 : Hid (∀ V K, Mem w4.drew V K → V.cell? ⟨hh, j, none⟩ = some (.slice (some ⟨g, 0, none⟩) m' gc)) := fun V K hV => (hV.old hhl).trans c0
        have H4d : Sy w1 w4.drew p h M N ⟨false, false, 0, 0⟩ pl2 ((kk + 1 : Nat) : Int) (recs (kk + 1) m') (Y ++ [(pl, .cells (lgA p t0 ((kk + 1 : Nat) : Int) v0) lgT (0, 0))]) := H4.drewN 1
        have hrw : Row w4.drew (some ⟨g, 0, none⟩) (rcd kk m') := row_has H4d (cur := cur) (gc := gc) (by simp [hm3]) (by rw [rcd_length]; exact hok) (by rw [rcd_length]; omega)
        have hkkI : ((kk + 1 : Nat) : Int) - 1 = (kk : Int) := by omega
        have hjI : ((j + 1 : Nat) : Int) - 1 = (j : Int) := by omega
        have HRC1 : Hid (Calls Tryd.prog 19 #[.int .i64 kk, .int .i64 m'] w4.drew fun e W' => ∃ g, e = .returned (.slice (some ⟨g, 0, none⟩) m' m') ∧ Mem w4.drew W' [(g, .cells (bs (rcd kk m')) 5 (0, 0))]) := record_any w4.drew kk (by omega) (by omega) m' (by omega)
        have HRC2 : Hid (∀ V, Calls Tryd.prog 19 #[.int .i64 kk, .int .i64 m'] V fun e W' => ∃ g, e = .returned (.slice (some ⟨g, 0, none⟩) m' m') ∧ Mem V W' [(g, .cells (bs (rcd kk m')) 5 (0, 0))]) := fun V => record_any V kk (by omega) (by omega) m' (by omega)
        have HBY1 : Hid (∀ V g5, Mem w4.drew V [(g5, .cells (bs (rcd kk m')) 5 (0, 0))] → Calls Tryd.prog 21 #[.slice (some ⟨g, 0, none⟩) m' gc, .slice (some ⟨g5, 0, none⟩) m' m'] V fun e W' => e = .returned (.bool true) ∧ V = W') := fun V g5 hV =>
          hbytes_yes (hV.row hrw) (hV.own 0 rfl (rcd_bytes kk m') (by rw [rcd_length]; omega)) m' m' (rcd_length kk m') (rcd_length kk m') gc m'
        have HLA : Hid (∀ V g5, Mem w4.drew V [(g5, .cells (bs (rcd kk m')) 5 (0, 0))] → Calls Tryd.prog 22 #[.pointer (some ⟨pl2, 0, none⟩)] V fun e W' => ∃ g, e = .returned (.slice (some ⟨g, 0, none⟩) m' m') ∧ Mem V W' [(g, .cells (bs (rcd kk m')) 5 (0, 0))]) := fun V g5 hV => by
          have e1 : (recs (kk + 1) m').getLastD [] = rcd kk m' := by rw [List.getLastD_eq_getLast?, recs_last]; rfl
          have := sy_last (H4d.join hV) (by rw [e1, rcd_length]; omega)
          rw [e1, rcd_length] at this; exact this
        have HBY2 : Hid (∀ V g6 V2 g7, Mem V V2 [(g7, .cells (bs (rcd kk m')) 5 (0, 0))] → ∀ U, Mem U V [(g6, .cells (bs (rcd kk m')) 5 (0, 0))] → Calls Tryd.prog 21 #[.slice (some ⟨g6, 0, none⟩) m' m', .slice (some ⟨g7, 0, none⟩) m' m'] V2 fun e W' => e = .returned (.bool true) ∧ V2 = W') := fun V g6 V2 g7 h7 U h6 =>
          hbytes_yes (h7.row (h6.own 0 rfl (rcd_bytes kk m') (by rw [rcd_length]; omega))) (h7.own 0 rfl (rcd_bytes kk m') (by rw [rcd_length]; omega)) m' m' (rcd_length kk m') (rcd_length kk m') m' m'
        have HFB : Hid (∀ V K, Mem w4.drew V K → Below w.heap.size w V) := fun V K hV => (below_drewN HB4.out 1).trans (hV.below.mono (below_drewN HB4.out 1).size)
        have b0 : (((kk + 1 : Nat) : Int) == 0) = false := by simp; omega
        have b1 : (0 : Int) < ((kk + 1 : Nat) : Int) := by omega
        have b2 : (0 : Int) < ((j + 1 : Nat) : Int) := by omega
        have b3 : (j : Int) < ((j + 1 : Nat) : Int) := by omega
        have b2n : 0 < j + 1 := by omega
        have b3n : j < j + 1 := by omega
        have wj : IntKind.i64.wrap (j : Int) = j := by rw [IntKind.wrap_i64]; omega
        have wkk : IntKind.i64.wrap (kk : Int) = kk := by rw [IntKind.wrap_i64]; omega
        clear H4 H4d hrw hE hRS hm1 hm2 hm3 hok hgl hgj hgne hj
        generalize ((kk + 1 : Nat) : Int) = KK at *
        generalize hJ1 : (j + 1 : Nat) = J1 at *
        clear hJ1
        go_upto_region 17 with fail
        refine wp_region_held_drew (S := (fun w' => w'.cell? ⟨hh, j, none⟩ = some (.slice (some ⟨g, 0, none⟩) m' gc))) (by kernel_rfl) (HC0.out _ _ (Mem.nil _)) (fun hHeld => ?_)
        refine wpAnyH_take (i := 0) (v := ?_) rfl (by kernel_rfl) (by kernel_rfl) (by kernel_rfl) (fun _ _ _ h => h) (Or.inl ⟨by rfl, ?hy0⟩) (by assumption) ?hr0
        case hy0 =>
          intro w hSw
          (try dsimp only at hSw)
          go_simp
          all_goals with_reducible rfl
        try simp only [List.getElem_toArray, List.getElem_cons_zero, List.getElem_cons_succ, Act.put, List.setIfInBounds_toArray, List.set_cons_zero, List.set_cons_succ]
        refine wpAnyH_take (i := 1) (v := ?_) rfl (by kernel_rfl) (by kernel_rfl) (by kernel_rfl) (fun _ _ _ h => h) (Or.inl ⟨by rfl, ?hy1⟩) (by assumption) ?hr1
        case hy1 =>
          intro w hSw
          (try dsimp only at hSw)
          go_simp
          all_goals with_reducible rfl
        try simp only [List.getElem_toArray, List.getElem_cons_zero, List.getElem_cons_succ, Act.put, List.setIfInBounds_toArray, List.set_cons_zero, List.set_cons_succ]
        refine wpAnyH_take (i := 2) (v := ?_) rfl (by kernel_rfl) (by kernel_rfl) (by kernel_rfl) (fun _ _ _ h => h) (Or.inl ⟨by rfl, ?hy2⟩) (by assumption) ?hr2
        case hy2 =>
          intro w hSw
          (try dsimp only at hSw)
          go_simp
          all_goals with_reducible rfl
        try simp only [List.getElem_toArray, List.getElem_cons_zero, List.getElem_cons_succ, Act.put, List.setIfInBounds_toArray, List.set_cons_zero, List.set_cons_succ]
        refine wpAnyH_take (i := 3) (v := undef) rfl (by kernel_rfl) (by kernel_rfl) (by kernel_rfl) (fun _ _ _ h => h) (Or.inr ⟨by rfl, rfl⟩) (by assumption) ?_
        try simp only [List.getElem_toArray, List.getElem_cons_zero, List.getElem_cons_succ, Act.put, List.setIfInBounds_toArray, List.set_cons_zero, List.set_cons_succ]
        refine wpAnyH_take (i := 4) (v := undef) rfl (by kernel_rfl) (by kernel_rfl) (by kernel_rfl) (fun _ _ _ h => h) (Or.inr ⟨by rfl, rfl⟩) (by assumption) ?_
        try simp only [List.getElem_toArray, List.getElem_cons_zero, List.getElem_cons_succ, Act.put, List.setIfInBounds_toArray, List.set_cons_zero, List.set_cons_succ]
        refine wpAnyH_take (i := 5) (v := undef) rfl (by kernel_rfl) (by kernel_rfl) (by kernel_rfl) (fun _ _ _ h => h) (Or.inr ⟨by rfl, rfl⟩) (by assumption) ?_
        try simp only [List.getElem_toArray, List.getElem_cons_zero, List.getElem_cons_succ, Act.put, List.setIfInBounds_toArray, List.set_cons_zero, List.set_cons_succ]
        refine wpAnyH_take (i := 6) (v := ?_) rfl (by kernel_rfl) (by kernel_rfl) (by kernel_rfl) (fun _ _ _ h => h) (Or.inl ⟨by rfl, ?hy6⟩) (by assumption) ?hr6
        case hy6 =>
          intro w hSw
          (try dsimp only at hSw)
          go_simp
          all_goals with_reducible rfl
        try simp only [List.getElem_toArray, List.getElem_cons_zero, List.getElem_cons_succ, Act.put, List.setIfInBounds_toArray, List.set_cons_zero, List.set_cons_succ]
        refine wpAnyH_take (i := 7) (v := ?_) rfl (by kernel_rfl) (by kernel_rfl) (by kernel_rfl) (fun _ _ _ h => h) (Or.inl ⟨by rfl, ?hy7⟩) (by assumption) ?hr7
        case hy7 =>
          intro w hSw
          (try dsimp only at hSw)
          go_simp
          all_goals with_reducible rfl
        try simp only [List.getElem_toArray, List.getElem_cons_zero, List.getElem_cons_succ, Act.put, List.setIfInBounds_toArray, List.set_cons_zero, List.set_cons_succ]
        refine wpAnyH_take (i := 8) (v := ?_) rfl (by kernel_rfl) (by kernel_rfl) (by kernel_rfl) (fun _ _ _ h => h) (Or.inl ⟨by rfl, ?hy8⟩) (by assumption) ?hr8
        case hy8 =>
          intro w hSw
          (try dsimp only at hSw)
          go_simp
          all_goals with_reducible rfl
        try simp only [List.getElem_toArray, List.getElem_cons_zero, List.getElem_cons_succ, Act.put, List.setIfInBounds_toArray, List.set_cons_zero, List.set_cons_succ]
        refine wpAnyH_take (i := 9) (v := ?_) rfl (by kernel_rfl) (by kernel_rfl) (by kernel_rfl) (fun _ _ _ h => h) (Or.inl ⟨by rfl, ?hy9⟩) (by assumption) ?hr9
        case hy9 =>
          intro w hSw
          (try dsimp only at hSw)
          go_simp
          all_goals with_reducible rfl
        try simp only [List.getElem_toArray, List.getElem_cons_zero, List.getElem_cons_succ, Act.put, List.setIfInBounds_toArray, List.set_cons_zero, List.set_cons_succ]
        refine wpAnyH_take (i := 10) (v := ?_) rfl (by kernel_rfl) (by kernel_rfl) (by kernel_rfl) (fun _ _ _ h => h) (Or.inl ⟨by rfl, ?hy10⟩) (by assumption) ?hr10
        case hy10 =>
          intro w hSw
          (try dsimp only at hSw)
          go_simp
          all_goals with_reducible rfl
        try simp only [List.getElem_toArray, List.getElem_cons_zero, List.getElem_cons_succ, Act.put, List.setIfInBounds_toArray, List.set_cons_zero, List.set_cons_succ]
        refine wpAnyH_take (i := 11) (v := ?_) rfl (by kernel_rfl) (by kernel_rfl) (by kernel_rfl) (fun _ _ _ h => h) (Or.inl ⟨by rfl, ?hy11⟩) (by assumption) ?hr11
        case hy11 =>
          intro w hSw
          (try dsimp only at hSw)
          go_simp
          all_goals with_reducible rfl
        try simp only [List.getElem_toArray, List.getElem_cons_zero, List.getElem_cons_succ, Act.put, List.setIfInBounds_toArray, List.set_cons_zero, List.set_cons_succ]
        refine wpAnyH_take (i := 12) (v := ?_) rfl (by kernel_rfl) (by kernel_rfl) (by kernel_rfl) (fun _ _ _ h => h) (Or.inl ⟨by rfl, ?hy12⟩) (by assumption) ?hr12
        case hy12 =>
          intro w hSw
          (try dsimp only at hSw)
          go_simp
          all_goals with_reducible rfl
        try simp only [List.getElem_toArray, List.getElem_cons_zero, List.getElem_cons_succ, Act.put, List.setIfInBounds_toArray, List.set_cons_zero, List.set_cons_succ]
        refine wpAnyH_take (i := 13) (v := ?_) rfl (by kernel_rfl) (by kernel_rfl) (by kernel_rfl) (fun _ _ _ h => h) (Or.inl ⟨by rfl, ?hy13⟩) (by assumption) ?hr13
        case hy13 =>
          intro w hSw
          (try dsimp only at hSw)
          go_simp
          all_goals with_reducible rfl
        try simp only [List.getElem_toArray, List.getElem_cons_zero, List.getElem_cons_succ, Act.put, List.setIfInBounds_toArray, List.set_cons_zero, List.set_cons_succ]
        refine wpAnyH_take (i := 14) (v := ?_) rfl (by kernel_rfl) (by kernel_rfl) (by kernel_rfl) (fun _ _ _ h => h) (Or.inl ⟨by rfl, ?hy14⟩) (by assumption) ?hr14
        case hy14 =>
          intro w hSw
          (try dsimp only at hSw)
          go_simp
          all_goals with_reducible rfl
        try simp only [List.getElem_toArray, List.getElem_cons_zero, List.getElem_cons_succ, Act.put, List.setIfInBounds_toArray, List.set_cons_zero, List.set_cons_succ]
        refine wpAnyH_take (i := 15) (v := ?_) rfl (by kernel_rfl) (by kernel_rfl) (by kernel_rfl) (fun _ _ _ h => h) (Or.inl ⟨by rfl, ?hy15⟩) (by assumption) ?hr15
        case hy15 =>
          intro w hSw
          (try dsimp only at hSw)
          go_simp
          all_goals with_reducible rfl
        try simp only [List.getElem_toArray, List.getElem_cons_zero, List.getElem_cons_succ, Act.put, List.setIfInBounds_toArray, List.set_cons_zero, List.set_cons_succ]
        refine wpAnyH_take (i := 16) (v := ?_) rfl (by kernel_rfl) (by kernel_rfl) (by kernel_rfl) (fun _ _ _ h => h) (Or.inl ⟨by rfl, ?hy16⟩) (by assumption) ?hr16
        case hy16 =>
          intro w hSw
          (try dsimp only at hSw)
          go_simp
          all_goals with_reducible rfl
        try simp only [List.getElem_toArray, List.getElem_cons_zero, List.getElem_cons_succ, Act.put, List.setIfInBounds_toArray, List.set_cons_zero, List.set_cons_succ]
        refine wpAnyH_take (i := 17) (v := ?_) rfl (by kernel_rfl) (by kernel_rfl) (by kernel_rfl) (fun _ _ _ h => h) (Or.inl ⟨by rfl, ?hy17⟩) (by assumption) ?hr17
        case hy17 =>
          intro w hSw
          (try dsimp only at hSw)
          go_simp
          all_goals with_reducible rfl
        try simp only [List.getElem_toArray, List.getElem_cons_zero, List.getElem_cons_succ, Act.put, List.setIfInBounds_toArray, List.set_cons_zero, List.set_cons_succ]
        refine wpAnyH_take (i := 18) (v := ?_) rfl (by kernel_rfl) (by kernel_rfl) (by kernel_rfl) (fun _ _ _ h => h) (Or.inl ⟨by rfl, ?hy18⟩) (by assumption) ?hr18
        case hy18 =>
          intro w hSw
          (try dsimp only at hSw)
          go_simp
          all_goals with_reducible rfl
        try simp only [List.getElem_toArray, List.getElem_cons_zero, List.getElem_cons_succ, Act.put, List.setIfInBounds_toArray, List.set_cons_zero, List.set_cons_succ]
        refine wpAnyH_take (i := 19) (v := ?_) rfl (by kernel_rfl) (by kernel_rfl) (by kernel_rfl) (fun _ _ _ h => h) (Or.inl ⟨by rfl, ?hy19⟩) (by assumption) ?hr19
        case hy19 =>
          intro w hSw
          (try dsimp only at hSw)
          go_simp
          all_goals with_reducible rfl
        try simp only [List.getElem_toArray, List.getElem_cons_zero, List.getElem_cons_succ, Act.put, List.setIfInBounds_toArray, List.set_cons_zero, List.set_cons_succ]
        refine wpAnyH_take (i := 20) (v := ?_) rfl (by kernel_rfl) (by kernel_rfl) (by kernel_rfl) (fun _ _ _ h => h) (Or.inl ⟨by rfl, ?hy20⟩) (by assumption) ?hr20
        case hy20 =>
          intro w hSw
          (try dsimp only at hSw)
          go_simp
          all_goals with_reducible rfl
        try simp only [List.getElem_toArray, List.getElem_cons_zero, List.getElem_cons_succ, Act.put, List.setIfInBounds_toArray, List.set_cons_zero, List.set_cons_succ]
        refine wpAnyH_take (i := 21) (v := ?_) rfl (by kernel_rfl) (by kernel_rfl) (by kernel_rfl) (fun _ _ _ h => h) (Or.inl ⟨by rfl, ?hy21⟩) (by assumption) ?hr21
        case hy21 =>
          intro w hSw
          (try dsimp only at hSw)
          go_simp
          all_goals with_reducible rfl
        try simp only [List.getElem_toArray, List.getElem_cons_zero, List.getElem_cons_succ, Act.put, List.setIfInBounds_toArray, List.set_cons_zero, List.set_cons_succ]
        refine wpAnyH_take (i := 22) (v := ?_) rfl (by kernel_rfl) (by kernel_rfl) (by kernel_rfl) (fun _ _ _ h => h) (Or.inl ⟨by rfl, ?hy22⟩) (by assumption) ?hr22
        case hy22 =>
          intro w hSw
          (try dsimp only at hSw)
          go_simp
          all_goals with_reducible rfl
        try simp only [List.getElem_toArray, List.getElem_cons_zero, List.getElem_cons_succ, Act.put, List.setIfInBounds_toArray, List.set_cons_zero, List.set_cons_succ]
        refine wpAnyH_take (i := 23) (v := ?_) rfl (by kernel_rfl) (by kernel_rfl) (by kernel_rfl) (fun _ _ _ h => h) (Or.inl ⟨by rfl, ?hy23⟩) (by assumption) ?hr23
        case hy23 =>
          intro w hSw
          (try dsimp only at hSw)
          go_simp
          all_goals with_reducible rfl
        try simp only [List.getElem_toArray, List.getElem_cons_zero, List.getElem_cons_succ, Act.put, List.setIfInBounds_toArray, List.set_cons_zero, List.set_cons_succ]
        refine wpAnyH_take (i := 24) (v := ?_) rfl (by kernel_rfl) (by kernel_rfl) (by kernel_rfl) (fun _ _ _ h => h) (Or.inl ⟨by rfl, ?hy24⟩) (by assumption) ?hr24
        case hy24 =>
          intro w hSw
          (try dsimp only at hSw)
          go_simp
          all_goals with_reducible rfl
        try simp only [List.getElem_toArray, List.getElem_cons_zero, List.getElem_cons_succ, Act.put, List.setIfInBounds_toArray, List.set_cons_zero, List.set_cons_succ]
        refine wpAnyH_ready (rs := [25]) (by kernel_rfl) (by simp) ?_
        refine AllReadyH.cons rfl (fun K hK => ?_) AllReadyH.nil
        go_simp
        with_reducible refine (HRC1.out).mono ?_
        rintro e3 w5 ⟨g5, rfl, q5⟩
        try go_wp2_with fail
        refine hK.out _ _ (HC0.out _ _ q5) (fun hHeld => ?_)
        clear hK K
        try simp only [List.getElem_toArray, List.getElem_cons_zero, List.getElem_cons_succ, Act.put, List.setIfInBounds_toArray, List.set_cons_zero, List.set_cons_succ]
        refine wpAnyH_ready (rs := [26]) (by kernel_rfl) (by simp) ?_
        refine AllReadyH.cons rfl (fun K hK => ?_) AllReadyH.nil
        go_simp
        with_reducible refine (HBY1.out _ _ q5).mono ?_
        rintro e3 w' ⟨rfl, rfl⟩
        try go_wp2_with fail
        refine hK.out _ _ (HC0.out _ _ q5) (fun hHeld => ?_)
        clear hK K
        try simp only [List.getElem_toArray, List.getElem_cons_zero, List.getElem_cons_succ, Act.put, List.setIfInBounds_toArray, List.set_cons_zero, List.set_cons_succ]
        refine wpAnyH_take (i := 27) (v := ?_) rfl (by kernel_rfl) (by kernel_rfl) (by kernel_rfl) (fun _ _ _ h => h) (Or.inl ⟨by rfl, ?hy27⟩) (by assumption) ?hr27
        case hy27 =>
          intro w hSw
          (try dsimp only at hSw)
          go_simp
          all_goals with_reducible rfl
        try simp only [List.getElem_toArray, List.getElem_cons_zero, List.getElem_cons_succ, Act.put, List.setIfInBounds_toArray, List.set_cons_zero, List.set_cons_succ]
        refine wpAnyH_take (i := 28) (v := ?_) rfl (by kernel_rfl) (by kernel_rfl) (by kernel_rfl) (fun _ _ _ h => h) (Or.inl ⟨by rfl, ?hy28⟩) (by assumption) ?hr28
        case hy28 =>
          intro w hSw
          (try dsimp only at hSw)
          go_simp
          all_goals with_reducible rfl
        try simp only [List.getElem_toArray, List.getElem_cons_zero, List.getElem_cons_succ, Act.put, List.setIfInBounds_toArray, List.set_cons_zero, List.set_cons_succ]
        refine wpAnyH_take (i := 29) (v := ?_) rfl (by kernel_rfl) (by kernel_rfl) (by kernel_rfl) (fun _ _ _ h => h) (Or.inl ⟨by rfl, ?hy29⟩) (by assumption) ?hr29
        case hy29 =>
          intro w hSw
          (try dsimp only at hSw)
          go_simp
          all_goals with_reducible rfl
        try simp only [List.getElem_toArray, List.getElem_cons_zero, List.getElem_cons_succ, Act.put, List.setIfInBounds_toArray, List.set_cons_zero, List.set_cons_succ]
        refine wpAnyH_take (i := 31) (v := ?_) rfl (by kernel_rfl) (by kernel_rfl) (by kernel_rfl) (fun _ _ _ h => h) (Or.inl ⟨by rfl, ?hy31⟩) (by assumption) ?hr31
        case hy31 =>
          intro w hSw
          (try dsimp only at hSw)
          go_simp
          all_goals with_reducible rfl
        try simp only [List.getElem_toArray, List.getElem_cons_zero, List.getElem_cons_succ, Act.put, List.setIfInBounds_toArray, List.set_cons_zero, List.set_cons_succ]
        refine wpAnyH_take (i := 32) (v := ?_) rfl (by kernel_rfl) (by kernel_rfl) (by kernel_rfl) (fun _ _ _ h => h) (Or.inl ⟨by rfl, ?hy32⟩) (by assumption) ?hr32
        case hy32 =>
          intro w hSw
          (try dsimp only at hSw)
          go_simp
          all_goals with_reducible rfl
        try simp only [List.getElem_toArray, List.getElem_cons_zero, List.getElem_cons_succ, Act.put, List.setIfInBounds_toArray, List.set_cons_zero, List.set_cons_succ]
        refine wpAnyH_take (i := 33) (v := ?_) rfl (by kernel_rfl) (by kernel_rfl) (by kernel_rfl) (fun _ _ _ h => h) (Or.inl ⟨by rfl, ?hy33⟩) (by assumption) ?hr33
        case hy33 =>
          intro w hSw
          (try dsimp only at hSw)
          go_simp
          all_goals with_reducible rfl
        try simp only [List.getElem_toArray, List.getElem_cons_zero, List.getElem_cons_succ, Act.put, List.setIfInBounds_toArray, List.set_cons_zero, List.set_cons_succ]
        refine wpAnyH_ready (rs := [30]) (by kernel_rfl) (by simp) ?_
        refine AllReadyH.cons rfl (fun K hK => ?_) AllReadyH.nil
        go_simp
        with_reducible refine (HLA.out _ _ q5).mono ?_
        rintro e3 w6 ⟨g6, rfl, q6⟩
        try go_wp2_with fail
        refine hK.out _ _ (HC0.out _ _ (q5.join q6)) (fun hHeld => ?_)
        clear hK K
        try simp only [List.getElem_toArray, List.getElem_cons_zero, List.getElem_cons_succ, Act.put, List.setIfInBounds_toArray, List.set_cons_zero, List.set_cons_succ]
        refine wpAnyH_ready (rs := [34]) (by kernel_rfl) (by simp) ?_
        refine AllReadyH.cons rfl (fun K hK => ?_) AllReadyH.nil
        go_simp
        with_reducible refine (HRC2.out _).mono ?_
        rintro e3 w7 ⟨g7, rfl, q7⟩
        try go_wp2_with fail
        refine hK.out _ _ (HC0.out _ _ ((q5.join q6).join q7)) (fun hHeld => ?_)
        clear hK K
        try simp only [List.getElem_toArray, List.getElem_cons_zero, List.getElem_cons_succ, Act.put, List.setIfInBounds_toArray, List.set_cons_zero, List.set_cons_succ]
        refine wpAnyH_ready (rs := [35]) (by kernel_rfl) (by simp) ?_
        refine AllReadyH.cons rfl (fun K hK => ?_) AllReadyH.nil
        go_simp
        with_reducible refine (HBY2.out _ _ _ _ q7 _ q6).mono ?_
        rintro e3 w' ⟨rfl, rfl⟩
        try go_wp2_with fail
        refine hK.out _ _ (HC0.out _ _ ((q5.join q6).join q7)) (fun hHeld => ?_)
        clear hK K
        try simp only [List.getElem_toArray, List.getElem_cons_zero, List.getElem_cons_succ, Act.put, List.setIfInBounds_toArray, List.set_cons_zero, List.set_cons_succ]
        refine wpAnyH_take (i := 36) (v := ?_) rfl (by kernel_rfl) (by kernel_rfl) (by kernel_rfl) (fun _ _ _ h => h) (Or.inl ⟨by rfl, ?hy36⟩) (by assumption) ?hr36
        case hy36 =>
          intro w hSw
          (try dsimp only at hSw)
          go_simp
          all_goals with_reducible rfl
        try simp only [List.getElem_toArray, List.getElem_cons_zero, List.getElem_cons_succ, Act.put, List.setIfInBounds_toArray, List.set_cons_zero, List.set_cons_succ]
        refine wpAnyH_take (i := 37) (v := ?_) rfl (by kernel_rfl) (by kernel_rfl) (by kernel_rfl) (fun _ _ _ h => h) (Or.inl ⟨by rfl, ?hy37⟩) (by assumption) ?hr37
        case hy37 =>
          intro w hSw
          (try dsimp only at hSw)
          go_simp
          all_goals with_reducible rfl
        try simp only [List.getElem_toArray, List.getElem_cons_zero, List.getElem_cons_succ, Act.put, List.setIfInBounds_toArray, List.set_cons_zero, List.set_cons_succ]
        refine wpAnyH_take (i := 38) (v := ?_) rfl (by kernel_rfl) (by kernel_rfl) (by kernel_rfl) (fun _ _ _ h => h) (Or.inl ⟨by rfl, ?hy38⟩) (by assumption) ?hr38
        case hy38 =>
          intro w hSw
          (try dsimp only at hSw)
          go_simp
          all_goals with_reducible rfl
        try simp only [List.getElem_toArray, List.getElem_cons_zero, List.getElem_cons_succ, Act.put, List.setIfInBounds_toArray, List.set_cons_zero, List.set_cons_succ]
        refine wpAnyH_done (by kernel_rfl) ?_ _
        all_goals go_wp2
        all_goals go_ret
        exact ⟨by simp, HFB.out _ _ ((q5.join q6).join q7)⟩
end Go.Proofs.YtbmpjlgfbiakoaaDoor
