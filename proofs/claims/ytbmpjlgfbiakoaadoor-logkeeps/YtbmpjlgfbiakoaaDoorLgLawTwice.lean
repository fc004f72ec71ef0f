/-
  lychlaw10.LogTwice.
-/
import Derived.Test.YtbmpjlgfbiakoaaDoorLgLawMany
namespace Go.Proofs.YtbmpjlgfbiakoaaDoor
open Go.RowKit
open Sm
set_option linter.unusedVariables false

theorem hbytes_some {w : World} {a b : Option Addr} {la lb : List Int} (ha : Row w a la) (hb : Row w b lb) (n m : Nat) (hn : la.length = n) (hm : lb.length = m) (ca cb : Nat) (hne : ¬ (strOfNums la).toList = (strOfNums lb).toList) :
    Calls Tryd.prog 21 #[.slice a n ca, .slice b m cb] w fun e w' => e = .returned (.bool false) ∧ w = w' := by
  subst hm
  subst hn
  have h1 := row_string ha ca
  have h2 := row_string hb cb
  generalize strOfNums la = s at *
  generalize strOfNums lb = t at *
  go_enter Tryd.func21, Tryd.ntmps21
  go_wp2
  go_ret
  exact ⟨by simp [hne], rfl⟩
theorem hbytes_same {w : World} {a b : Option Addr} {la lb : List Int} (ha : Row w a la) (hb : Row w b lb) (n m : Nat) (hn : la.length = n) (hm : lb.length = m) (ca cb : Nat) (he : (strOfNums la).toList = (strOfNums lb).toList) :
    Calls Tryd.prog 21 #[.slice a n ca, .slice b m cb] w fun e w' => e = .returned (.bool true) ∧ w = w' := by
  subst hm
  subst hn
  have h1 := row_string ha ca
  have h2 := row_string hb cb
  generalize strOfNums la = s at *
  generalize strOfNums lb = t at *
  go_enter Tryd.func21, Tryd.ntmps21
  go_wp2
  go_ret
  exact ⟨by simp, rfl⟩
theorem take_u8 {zs : List Int} (h : ∀ n ∈ zs, 0 ≤ n ∧ n ≤ 255) (len i : Nat) : 0 ≤ (zs.take len).getD i 0 ∧ (zs.take len).getD i 0 ≤ 255 := by
  by_cases hi : i < (zs.take len).length
  · have e : (zs.take len).getD i 0 = (zs.take len)[i] := getD_eq hi
    rw [e]; exact h _ (List.mem_of_mem_take (List.getElem_mem hi))
  · have e : (zs.take len).getD i 0 = 0 := by rw [List.getD, List.getElem?_eq_none (by omega)]; rfl
    rw [e]; omega

theorem room_400 : room 7 400 = 1008 := by decide
/-- The last one that stands reads as the last one that was acknowledged. -/
def Stood (ln : Nat) (last : Int) (all : List (List Int)) : Prop :=
  (last = -1 ∧ all = []) ∨ ∃ j : Nat, last = (j : Int) ∧ j < 20 ∧ ∃ x, all.getLast? = some x ∧ (strOfNums x).toList = (strOfNums (rcd j ((ln + j) % 1009))).toList
/-- The loop's own. -/
def Tw (w W : World) (p h pl ln i : Nat) (last : Int) : Prop :=
  ∃ (D : Dk) (B : Int) (all : List (List Int)), D.dead = false ∧ 0 ≤ B ∧ B ≤ i ∧ all.length ≤ i ∧ (∀ x ∈ all, x.length ≤ 1008) ∧ Stood ln last all ∧ Sy w W p h 400 7 D pl B all []

/-- A fall, and what stands behind it. -/
theorem fallen {w W : World} {p h m N : Nat} {D : Dk} {B : Int} {all : List (List Int)} {r : List Int} {L : List (Nat × Obj)} (H : Sd w W p h m N D B all L ∨ Sd w W p h m N D B (all ++ [r]) L) : ∃ all', (all' = all ∨ all' = all ++ [r]) ∧ Sd w W p h m N D B all' L := by
  rcases H with h1 | h1
  · exact ⟨_, Or.inl rfl, h1⟩
  · exact ⟨_, Or.inr rfl, h1⟩
/-- The newest of what Open gave. -/
theorem newest_of {w W : World} {p h m N : Nat} {D : Dk} {pl : Nat} {B : Int} {all got : List (List Int)} {v : Value} {Y L : List (Nat × Obj)} (hRS : RS v got Y) (hE : Ends got all) (H : Sy w W p h m N D pl B all (Y ++ L)) {x : List Int} (hx : all.getLast? = some x) (hxl : x.length ≤ 1000000) :
    ∃ hh cap g gc j, v = .slice (some ⟨hh, 0, none⟩) (j + 1) cap ∧ j < all.length ∧ W.cell? ⟨hh, j, none⟩ = some (.slice (some ⟨g, 0, none⟩) x.length gc) ∧ Row W (some ⟨g, 0, none⟩) x := by
  have hne : all ≠ [] := fun e => by rw [e] at hx; simp at hx
  obtain ⟨hgne, hgl⟩ := ends_last hE hne
  rw [hx] at hgl
  obtain ⟨j, hj⟩ : ∃ j, got.length = j + 1 := ⟨got.length - 1, by have := List.length_pos_iff.mpr hgne; omega⟩
  have hgj : got[j]? = some x := by rw [List.getLast?_eq_getElem?] at hgl; rw [← hgl, hj]; rfl
  obtain ⟨hh, cap, g, gc, cur, ev2, ⟨hc, hm1, hm2⟩, hm3, hok⟩ := rs_at hRS hgj
  refine ⟨hh, cap, g, gc, j, by rw [ev2, hj], by have := hE.1; omega, ?_, ?_⟩
  · exact (cell_of (H.has (x := (hh, .cells hc 22 (0, 0))) (by simp [hm1])) j).trans hm2
  · exact row_has H (cur := cur) (gc := gc) (by simp [hm3]) hok hxl

set_option maxRecDepth 20000 in
set_option maxHeartbeats 4000000 in
theorem twice_any {w : World} {ga : Addr} (hG : Gl w ga) {a : Option Addr} {l : List Int} {n : Nat} (hn : l.length = n) (hr : RowK .u8 w a l) (hu : ∀ i, 0 ≤ l.getD i 0 ∧ l.getD i 0 ≤ 255) (c : Nat) (h20 : n ≤ 20) (ln : Nat) (hln : ln ≤ 65535) (y : Int) :
    Calls Tryd.prog 8 #[.slice a n c, .int .u16 ln, .int .i64 y] w fun e w' => e = .returned (.bool true) ∧ Below w.heap.size w w' := by
  have hK := known_log hG
  have q20 : ¬ (20 : Int) < (n : Int) := by omega
  have HR : Hid (RowK .u8 w a l) := hr
  have HU : Hid (∀ i, 0 ≤ l.getD i 0 ∧ l.getD i 0 ≤ 255) := hu
  have HG : Hid (Gl w ga) := hG
  have wln : IntKind.i64.wrap (ln : Int) = ln := by rw [IntKind.wrap_i64]; omega
  have w1009 : IntKind.i64.wrap 1009 = 1009 := by decide
  clear hr hu hG
  go_enter Tryd.func8, Tryd.ntmps8
  go_wp2_with fail
  refine hK.mono ?_
  rintro e w1 ⟨rfl, K1, h1⟩
  have hN := sd_new (x := 7) (y := 400) (n := 7) (m := 400) (by decide) (by decide) w1
  have HG1 : Hid (Gl w1 ga) := HG.out.on h1
  have HB1 : Hid (Below w.heap.size w w1) := h1.below
  clear hK h1
  go_wp2_with fail
  refine hN.mono ?_
  rintro e w2 ⟨p, rfl, h, H2⟩
  have hO := sd_open H2 HG1.out rfl (by omega) (by omega) (by omega) (by omega)
  clear hN H2
  go_wp2_with fail
  refine hO.mono ?_
  rintro e w3 ⟨pl0, v', rfl, got, Y, hR, hE, H3⟩
  obtain ⟨rfl, rfl⟩ := rs_nil (by rw [ends_nil hE] at hR; exact hR)
  have hRM := sd_room H3.sd
  rw [room_400] at hRM
  have HT0 : Hid (Tw w1 w3 p h pl0 ln 0 (-1)) := ⟨_, 0, [], rfl, by omega, by omega, by simp, by simp, Or.inl ⟨rfl, rfl⟩, H3⟩
  clear hO hR hE H3
  go_wp2_with fail
  refine hRM.mono ?_
  rintro e w' ⟨rfl, rfl⟩
  clear hRM
  go_wp2_with fail
  go_loopw [8, 11, 13] (fun u8 u11 u13 wr => ∃ (i pl : Nat) (last : Int), u8 = .pointer (some ⟨pl, 0, none⟩) ∧ u11 = .int .i64 last ∧ u13 = .int .i64 i ∧ i ≤ n ∧ Tw w1 wr p h pl ln i last) (fun _ _ u _ => n - (intOf u).toNat)
  case atStart => exact ⟨0, pl0, -1, rfl, rfl, rfl, by omega, HT0.out⟩
  case round =>
    obtain ⟨i, pl, last, rfl, rfl, rfl, hi, D, B, all, hD, hB0, hB, hal, hxl, hSt, hS⟩ := hrel
    clear HT0
    by_cases hlt : i < n
    · obtain ⟨b, off, rfl, hcell⟩ := HR.out.at_ (i := i) (by omega)
      have hz := HU.out i
      generalize l.getD i 0 = z at *
      obtain ⟨hz0, hz1⟩ := hz
      obtain ⟨z5, hz5⟩ : ∃ z5 : Nat, z % 5 = (z5 : Int) := ⟨(z % 5).toNat, by omega⟩
      have hz5t : Int.tmod z 5 = (z5 : Int) := by rw [Int.tmod_eq_emod_of_nonneg hz0]; exact hz5
      have wz5 : IntKind.i64.wrap (z5 : Int) = z5 := by rw [IntKind.wrap_i64]; omega
      have c0 : wr.cell? ⟨b, off + i, none⟩ = some (.int .u8 z) := hcell wr (HB1.out.trans (hS.sd.below.mono HB1.out.size))
      obtain ⟨s, hs⟩ : ∃ s : Nat, s = ln + i := ⟨_, rfl⟩
      have hsI : (ln : Int) + (i : Int) = (s : Int) := by omega
      obtain ⟨k, hk⟩ : ∃ k : Nat, k = s % 1009 := ⟨_, rfl⟩
      have hkt : Int.tmod (s : Int) 1009 = (k : Int) := by rw [Int.tmod_eq_emod_of_nonneg (by omega)]; omega
      have hk8 : k ≤ 1008 := by omega
      have ws : IntKind.i64.wrap (s : Int) = s := by rw [IntKind.wrap_i64]; omega
      have wk : IntKind.i64.wrap (k : Int) = k := by rw [IntKind.wrap_i64]; omega
      have hC := sy_cut hS z5 y (by omega)
      have q0 : (i : Int) < (n : Int) := by omega
      have HKE : Hid ((ln + i) % 1009 = k) := by show _ = _; omega
      clear hS hcell hs hk hz5
      go_wp2_with fail
      refine hC.mono ?_
      rintro e w4 ⟨rfl, H4⟩
      have hRC := record_any w4 i (by omega) (by omega) k (by omega)
      clear hC
      go_wp2_with fail
      refine hRC.mono ?_
      rintro e w5 ⟨g5, rfl, q5⟩
      have hAP := sy_append (g := g5) (H4.push q5) HG1.out hD (by omega) (by omega) (by omega) hB0 (by omega) (rcd_length i k) (by rw [room_400]; omega) (beside_of (fz := (0, 0)) (by simp) (rcd_bytes i k) (by rw [rcd_length]; omega)) (rcd_bytes i k)
      clear hRC H4 q5
      go_wp2_with fail
      refine hAP.mono ?_
      rintro e w6 ⟨err, rfl, D', hcs⟩
      clear hAP
      have hxl2 : ∀ x ∈ all ++ [rcd i k], x.length ≤ 1008 := by
        intro x hx
        rcases List.mem_append.mp hx with h9 | h9
        · exact hxl x h9
        · rw [List.mem_singleton.mp h9, rcd_length]; exact hk8
      rcases hcs with ⟨rfl, a1, a2, a3⟩ | ⟨rfl, a1, a2, a3, a4⟩
      · have HT : Hid (Tw w1 w6 p h pl ln (i + 1) (i : Int)) := ⟨D', B + 1, all ++ [rcd i k], a1, by omega, by omega, by simp; omega, hxl2, Or.inr ⟨i, rfl, by omega, _, List.getLast?_concat, by rw [HKE.out]⟩, a3.sub⟩
        clear a3 a2 hSt
        go_wp2_with fail
        go_roundw
        case rel => exact ⟨i + 1, pl, i, rfl, rfl, by go_num, by omega, HT.out⟩
        case measure => simp [intOf]; omega
      · obtain ⟨all', ha', hsd⟩ := fallen a4
        have hP := sd_power hsd.sub
        clear a3 a4 hsd
        go_wp2_with fail
        refine hP.mono ?_
        rintro e w7 ⟨rfl, H7⟩
        have hO := sd_open H7 HG1.out rfl (by omega) (by omega) (by omega) (by omega)
        clear hP H7
        go_wp2_with fail
        refine hO.mono ?_
        rintro e w8 ⟨pl2, v2, rfl, got, Y, hRS, hE, H8⟩
        clear hO
        have hxl' : ∀ x ∈ all', x.length ≤ 1008 := by rcases ha' with rfl | rfl <;> assumption
        have hal' : all'.length ≤ i + 1 := by rcases ha' with e | e <;> rw [e] <;> (try rw [List.length_append, List.length_singleton]) <;> omega
        by_cases hnil : all' = []
        · have hall : all = [] := by rcases ha' with rfl | rfl
                                     · exact hnil
                                     · simp at hnil
          subst hnil
          have hlast : last = -1 := by
            rcases hSt with ⟨h9, _⟩ | ⟨j, _, _, x, h9, _⟩
            · exact h9
            · rw [hall] at h9; simp at h9
          subst hlast
          obtain ⟨rfl, rfl⟩ := rs_nil (by rw [ends_nil hE] at hRS; exact hRS)
          have HT : Hid (Tw w1 w8 p h pl2 ln (i + 1) (-1)) := ⟨_, B + 1, [], rfl, by omega, by omega, by simp, by simp, Or.inl ⟨rfl, rfl⟩, H8.sub (Y := [])⟩
          clear H8 hRS hE hSt ha'
          go_wp2_with fail
          go_roundw
          case rel => exact ⟨i + 1, pl2, -1, rfl, rfl, by go_num, by omega, HT.out⟩
          case measure => simp [intOf]; omega
        · obtain ⟨x, hx⟩ : ∃ x, all'.getLast? = some x := by
            cases h9 : all'.getLast? with
            | none => exact absurd (List.getLast?_eq_none_iff.mp h9) hnil
            | some x => exact ⟨x, rfl⟩
          have hxle : x.length ≤ 1008 := hxl' x (List.mem_of_getLast? hx)
          obtain ⟨hh, cap, g, gc, jj, rfl, hjj, c1, hrow⟩ := newest_of hRS hE H8 hx (by omega)
          obtain ⟨X, hX⟩ : ∃ X, X = x.length := ⟨_, rfl⟩
          rw [← hX] at c1
          have wjj : IntKind.i64.wrap (jj : Int) = jj := by rw [IntKind.wrap_i64]; omega
          have j1 : ((jj + 1 : Nat) : Int) - 1 = (jj : Int) := by omega
          have j2 : ¬ ((jj + 1 : Nat) : Int) = 0 := by omega
          have j3 : (jj : Int) < ((jj + 1 : Nat) : Int) := by omega
          have j3n : jj < jj + 1 := by omega
          have j4 : (((jj + 1 : Nat) : Int) == 0) = false := by simp; omega
          have hS8 : Sy w1 w8 p h 400 7 ⟨false, false, 0, 0⟩ pl2 (B + 1) all' [] := H8.sub (Y := Y)
          have HTW : Hid (∀ V K (la : Int), Mem w8 V K → Stood ln la all' → Tw w1 V p h pl2 ln (i + 1) la) := fun V K la hV hst => ⟨_, B + 1, all', rfl, by omega, by omega, hal', hxl', hst, hS8.join hV⟩
          have HRW : Hid (Row w8 (some ⟨g, 0, none⟩) x) := hrow
          have HXX : Hid (all'.getLast? = some x ∧ X = x.length) := ⟨hx, hX⟩
          generalize hJ1 : jj + 1 = J1 at *
          clear H8 hRS hE hrow hx hS8 hX hJ1 hnil
          have hcase : (∃ j : Nat, last = (j : Int) ∧ j < 20 ∧ ((strOfNums x).toList = (strOfNums (rcd j ((ln + j) % 1009))).toList ∨ x = rcd i k)) ∨ (last = -1 ∧ x = rcd i k) := by
            rcases hSt with ⟨h9, e9⟩ | ⟨j, h9, h10, x0, h11, h12⟩
            · right
              refine ⟨h9, ?_⟩
              rcases ha' with e | e
              · rw [e, e9] at HXX; exact absurd HXX.out.1 (by simp)
              · have := HXX.out.1; rw [e, List.getLast?_concat] at this; exact (Option.some.inj this).symm
            · left
              refine ⟨j, h9, h10, ?_⟩
              rcases ha' with e | e
              · have := HXX.out.1; rw [e, h11] at this; left; rw [← Option.some.inj this]; exact h12
              · have := HXX.out.1; rw [e, List.getLast?_concat] at this; right; exact (Option.some.inj this).symm
          clear hSt ha' hxl hxl2 hxl' hal'
          have HRI : Hid (∀ V, Calls Tryd.prog 19 #[.int .i64 i, .int .i64 k] V fun e W' => ∃ g, e = .returned (.slice (some ⟨g, 0, none⟩) k k) ∧ Mem V W' [(g, .cells (bs (rcd i k)) 5 (0, 0))]) := fun V => record_any V i (by omega) (by omega) k (by omega)
          rcases hcase with ⟨j, rfl, hj20, hxj⟩ | ⟨rfl, hxi⟩
          · obtain ⟨t, ht⟩ : ∃ t : Nat, t = ln + j := ⟨_, rfl⟩
            have htI : (ln : Int) + (j : Int) = (t : Int) := by omega
            obtain ⟨kj, hkj⟩ : ∃ kj : Nat, kj = t % 1009 := ⟨_, rfl⟩
            have hkjt : Int.tmod (t : Int) 1009 = (kj : Int) := by rw [Int.tmod_eq_emod_of_nonneg (by omega)]; omega
            have hkj8 : kj ≤ 1008 := by omega
            have wt : IntKind.i64.wrap (t : Int) = t := by rw [IntKind.wrap_i64]; omega
            have wkj : IntKind.i64.wrap (kj : Int) = kj := by rw [IntKind.wrap_i64]; omega
            have HKJ : Hid ((ln + j) % 1009 = kj) := by show _ = _; omega
            rw [show (ln + j) % 1009 = kj by omega] at hxj
            clear ht hkj
            have hRJ := record_any w8 j (by omega) (by omega) kj (by omega)
            have p0 : (0 : Int) ≤ (j : Int) := by omega
            have p1 : ¬ (j : Int) < 0 := by omega
            have p2 : ((j : Int) < 0) = False := eq_false p1
            by_cases hold : (strOfNums x).toList = (strOfNums (rcd j kj)).toList
            · have HBY : Hid (∀ V g9, Mem w8 V [(g9, .cells (bs (rcd j kj)) 5 (0, 0))] → Calls Tryd.prog 21 #[.slice (some ⟨g, 0, none⟩) X gc, .slice (some ⟨g9, 0, none⟩) kj kj] V fun e W' => e = .returned (.bool true) ∧ V = W') := fun V g9 hV =>
                hbytes_same (hV.row HRW.out) (hV.own 0 rfl (rcd_bytes j kj) (by rw [rcd_length]; omega)) X kj HXX.out.2.symm (rcd_length j kj) gc kj hold
              have HST : Hid (Stood ln (j : Int) all') := Or.inr ⟨j, rfl, hj20, x, HXX.out.1, by rw [HKJ.out]; exact hold⟩
              clear hxj hold
              go_wp2_with fail
              refine hRJ.mono ?_
              rintro e w9 ⟨g9, rfl, q9⟩
              go_wp2_with fail
              refine (HBY.out _ _ q9).mono ?_
              rintro e w' ⟨rfl, rfl⟩
              have HT : Hid (Tw w1 w9 p h pl2 ln (i + 1) (j : Int)) := HTW.out _ _ _ q9 HST.out
              clear hRJ
              go_wp2_with fail
              go_roundw
              case rel => exact ⟨i + 1, pl2, j, rfl, rfl, by go_num, by omega, HT.out⟩
              case measure => simp [intOf]; omega
            · have hxi : x = rcd i k := hxj.resolve_left hold
              have HBY : Hid (∀ V g9, Mem w8 V [(g9, .cells (bs (rcd j kj)) 5 (0, 0))] → Calls Tryd.prog 21 #[.slice (some ⟨g, 0, none⟩) X gc, .slice (some ⟨g9, 0, none⟩) kj kj] V fun e W' => e = .returned (.bool false) ∧ V = W') := fun V g9 hV =>
                hbytes_some (hV.row HRW.out) (hV.own 0 rfl (rcd_bytes j kj) (by rw [rcd_length]; omega)) X kj HXX.out.2.symm (rcd_length j kj) gc kj hold
              have HBI : Hid (∀ V K V2 g9, Mem w8 V K → Mem V V2 [(g9, .cells (bs (rcd i k)) 5 (0, 0))] → Calls Tryd.prog 21 #[.slice (some ⟨g, 0, none⟩) X gc, .slice (some ⟨g9, 0, none⟩) k k] V2 fun e W' => e = .returned (.bool true) ∧ V2 = W') := fun V K V2 g9 hV h2 =>
                hbytes_same (h2.row (hV.row HRW.out)) (h2.own 0 rfl (rcd_bytes i k) (by rw [rcd_length]; omega)) X k HXX.out.2.symm (rcd_length i k) gc k (by rw [hxi])
              have HST : Hid (Stood ln (i : Int) all') := Or.inr ⟨i, rfl, by omega, x, HXX.out.1, by rw [HKE.out, hxi]⟩
              clear hxj hold hxi
              go_wp2_with fail
              refine hRJ.mono ?_
              rintro e w9 ⟨g9, rfl, q9⟩
              go_wp2_with fail
              refine (HBY.out _ _ q9).mono ?_
              rintro e w' ⟨rfl, rfl⟩
              clear hRJ
              go_wp2_with fail
              refine (HRI.out _).mono ?_
              rintro e w10 ⟨g10, rfl, q10⟩
              go_wp2_with fail
              refine (HBI.out _ _ _ _ q9 q10).mono ?_
              rintro e w' ⟨rfl, rfl⟩
              have HT : Hid (Tw w1 w10 p h pl2 ln (i + 1) (i : Int)) := HTW.out _ _ _ (q9.join q10) HST.out
              go_wp2_with fail
              go_roundw
              case rel => exact ⟨i + 1, pl2, i, rfl, rfl, by go_num, by omega, HT.out⟩
              case measure => simp [intOf]; omega
          · have HBI : Hid (∀ V2 g9, Mem w8 V2 [(g9, .cells (bs (rcd i k)) 5 (0, 0))] → Calls Tryd.prog 21 #[.slice (some ⟨g, 0, none⟩) X gc, .slice (some ⟨g9, 0, none⟩) k k] V2 fun e W' => e = .returned (.bool true) ∧ V2 = W') := fun V2 g9 h2 =>
              hbytes_same (h2.row HRW.out) (h2.own 0 rfl (rcd_bytes i k) (by rw [rcd_length]; omega)) X k HXX.out.2.symm (rcd_length i k) gc k (by rw [hxi])
            have HST : Hid (Stood ln (i : Int) all') := Or.inr ⟨i, rfl, by omega, x, HXX.out.1, by rw [HKE.out, hxi]⟩
            clear hxi
            go_wp2_with fail
            refine (HRI.out _).mono ?_
            rintro e w10 ⟨g10, rfl, q10⟩
            go_wp2_with fail
            refine (HBI.out _ _ q10).mono ?_
            rintro e w' ⟨rfl, rfl⟩
            have HT : Hid (Tw w1 w10 p h pl2 ln (i + 1) (i : Int)) := HTW.out _ _ _ q10 HST.out
            go_wp2_with fail
            go_roundw
            case rel => exact ⟨i + 1, pl2, i, rfl, rfl, by go_num, by omega, HT.out⟩
            case measure => simp [intOf]; omega
    · have : i = n := by omega
      subst this
      have HB7 : Hid (Below w.heap.size w wr) := HB1.out.trans (hS.sd.below.mono HB1.out.size)
      clear hS hSt
      go_wp2
      go_ret
      exact ⟨rfl, HB7.out⟩
theorem twice_long {w : World} {ga : Addr} (hG : Gl w ga) (a : Option Addr) (n c : Nat) (hn : 20 < n) (x y : Int) :
    Calls Tryd.prog 8 #[.slice a n c, .int .u16 x, .int .i64 y] w fun e w' => e = .returned (.bool true) ∧ Below w.heap.size w w' := by
  have hK := known_log hG
  have q : (20 : Int) < (n : Int) := by omega
  go_enter Tryd.func8, Tryd.ntmps8
  go_wp2_with fail
  refine hK.mono ?_
  rintro e w1 ⟨rfl, K, h1⟩
  go_wp2
  go_ret
  exact ⟨rfl, h1.below⟩
end Go.Proofs.YtbmpjlgfbiakoaaDoor
