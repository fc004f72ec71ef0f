/-
  Which settings may be: which addresses a tenant owns (ValidOwns).
-/
import Derived.Test.YtnddbklbgddblaaDoorPa48
import Derived.Test.YtnddbklbgddblaaDoorPa38
import Derived.Test.YtnddbklbgddblaaDoorPa03
namespace Go.Proofs.YtnddbklbgddblaaDoor
open Go.RowKit
open Va
set_option linter.unusedVariables false
set_option linter.unusedSimpArgs false
set_option maxRecDepth 20000


theorem lgt_sm {t : Ten} (h : Lgt t) : TSm t := ⟨by have := h.1; omega, by have := h.2.1; omega, by have := h.2.2.1; omega, by have := h.2.2.2; omega⟩
set_option maxHeartbeats 16000000 in
theorem owns14_law {w : World} {v : Value} {t : Ten} (hV : Vs w) (h : TV w v t) (ip k : Int) (hk0 : -9223372036854775808 ≤ k) (hk1 : k ≤ 9223372036854775807) :
    Calls Tryd.prog 4 #[v, .int .u32 ip, .int .i64 k] w fun e w' => e = .returned (.bool true) ∧ Below w.heap.size w w' := by
  obtain ⟨tl, pa, sa, qa, pc, sc, qc, rfl, hx⟩ := h.tb
  obtain ⟨g, hg⟩ : ∃ g, w.heap.size = g := ⟨_, rfl⟩
  have HM0 : Hid (Mem w (w.alloc (.cells tl.toArray 39)) [(g, .cells tl.toArray 39 (0, 0))]) := (Mem.nil w).push1 hg.symm
  obtain ⟨A, hA⟩ : ∃ A, tl.toArray = A := ⟨_, rfl⟩
  have i33 : (Tryd.prog.info? 39).map (·.size) = some A.size := by rw [← hA]; exact i33_of hx.len
  have j33 : (Tryd.prog.info? 39).map (·.size) = some tl.length := by rw [hx.len]; kernel_rfl
  have HT : Hid (∀ X, Mem w X [(g, .cells A 39 (0, 0))] → X.heap[g]? = some (.cells A 39 (0, 0)) ∧ TV X (.agg A) t ∧ X.rangeAt g 0 tl ∧ Vs X) := by
    intro X hX
    have hk := hX.get 0 rfl
    refine ⟨hk, by rw [← hA]; exact (hx.later hX.below).tv, fun j u hj => ?_, hV.below hX.below⟩
    rw [Nat.zero_add]
    exact cell_tl (by rw [hA]; exact hk) hj
  have HKK : Hid (-9223372036854775808 ≤ k ∧ k ≤ 9223372036854775807) := ⟨hk0, hk1⟩
  have HAA : Hid (tl.toArray = A) := hA
  rw [hA] at HM0 ⊢
  clear hV h hx hA hk0 hk1
  go_enter Tryd.func4, Tryd.ntmps4
  go_upto_region 1 with fail
  refine wp_letter (fun X => Mem w X [(g, .cells A 39 (0, 0))]) (by exact HM0.out) ?_
  intro V hM
  try simp only [hg]
  clear HM0 hg
  have C := known14_any (HT.out V hM).2.2.2
  have HM : Hid (Mem w V [(g, .cells A 39 (0, 0))]) := hM
  clear hM
  go_wp2_with fail
  refine C.mono ?_
  rintro _ V1 ⟨rfl, hb⟩
  have HM1 : Hid (Mem w V1 [(g, .cells A 39 (0, 0))]) := HM.out.after hb
  clear hb C HM
  obtain ⟨k1, hTV, -, -⟩ := HT.out V1 HM1.out
  have C := light_any hTV
  clear hTV
  by_cases hL : Lgt t
  rotate_left
  · rw [decide_eq_false hL] at C
    go_wp2_with (refine wpList_load_row rfl 39 (.tmp 3) (by with_reducible rfl) g (by first | rfl | simp [Act.eval]) 39 A (0, 0) _ k1 Tryd.underlying39 rfl i33 ?_)
    refine C.mono ?_
    rintro _ V2 ⟨rfl, hb⟩
    have HB : Hid (Below w.heap.size w V2) := HM1.out.below.trans (hb.mono HM1.out.below.size)
    clear hb C HM1 k1 HT HKK
    go_wp2_with fail
    go_ret
    exact ⟨rfl, HB.out⟩
  rw [decide_eq_true hL] at C
  have HSM : Hid (TSm t) := lgt_sm hL
  have HLN : Hid ((t.pool ++ snd' t.stat).length ≤ 600) := by have := hL.2.1; have := hL.2.2.1; show _ ≤ _; rw [List.length_append]; simp only [snd', List.length_map]; omega
  clear hL
  go_wp2_with (refine wpList_load_row rfl 39 (.tmp 3) (by with_reducible rfl) g (by first | rfl | simp [Act.eval]) 39 A (0, 0) _ k1 Tryd.underlying39 rfl i33 ?_)
  refine C.mono ?_
  rintro _ V2 ⟨rfl, hb⟩
  have HM2 : Hid (Mem w V2 [(g, .cells A 39 (0, 0))]) := HM1.out.after hb
  clear hb C HM1 k1
  obtain ⟨k1, hTV, -, -⟩ := HT.out V2 HM2.out
  have C := rowned_any hTV HSM.out
  clear hTV
  obtain ⟨L, hL⟩ : ∃ L, t.pool ++ snd' t.stat = L := ⟨_, rfl⟩
  rw [hL] at C HLN
  clear hL
  go_wp2_with (refine wpList_load_row rfl 39 (.tmp 3) (by with_reducible rfl) g (by first | rfl | simp [Act.eval]) 39 A (0, 0) _ k1 Tryd.underlying39 rfl i33 ?_)
  refine C.mono ?_
  rintro _ V3 ⟨u, rfl, hrw, hb⟩
  have HM3 : Hid (Mem w V3 [(g, .cells A 39 (0, 0))]) := HM2.out.after hb
  obtain ⟨la, lc, rfl, hlc, hlb, hcell⟩ := rw_u hrw
  have HC : Hid (∀ j, j < L.length → ∃ b' off', la = some ⟨b', off', none⟩ ∧ V3.cell? ⟨b', off' + j, none⟩ = some (.int .u32 (L.getD j 0))) := fun j hj => by obtain ⟨b', off', h1, h2⟩ := hcell j hj; exact ⟨b', off', h1, h2 V3 (Below.refl _ _)⟩
  clear hb C HM2 k1 hrw hcell
  have HLn : Hid (L.length ≤ 600) := HLN.out
  have HX : Hid (∀ y X, Below V3.heap.size V3 X → X.rangeAt g 0 tl ∧ (Calls Tryd.prog 18 #[.agg tl.toArray, .int .u32 y] X fun e w' => e = .returned (.bool (owns t y)) ∧ Below V3.heap.size V3 w') ∧ (Calls Tryd.prog 19 #[.agg tl.toArray, .int .u32 y] X fun e w' => e = .returned (.bool (owns t y)) ∧ Below V3.heap.size V3 w')) := by
    intro y X hX
    obtain ⟨-, q2, q3, -⟩ := HT.out X (HM3.out.after hX)
    rw [← HAA.out] at q2
    exact ⟨q3, (owns_any q2 HSM.out y).mono (fun e w' hh => ⟨hh.1, hX.trans (hh.2.mono hX.size)⟩), (rowns_any q2 HSM.out y).mono (fun e w' hh => ⟨hh.1, hX.trans (hh.2.mono hX.size)⟩)⟩
  have HB3 : Hid (Below w.heap.size w V3) := HM3.out.below
  clear HT HSM HLN HM3 HAA
  generalize hn : L.length = n at *
  clear hn
  by_cases qn : n = 0
  · have e1 : decide (0 < n) = false := decide_eq_false (by omega)
    have e2 : decide ((0 : Int) < (n : Int)) = false := decide_eq_false (by omega)
    subst qn
    clear HC HLn
    obtain ⟨y, hy⟩ : ∃ y, ip = y := ⟨_, rfl⟩
    have HY := fun X hX => HX.out y X hX
    rw [hy]
    clear HX hy
    go_upto_region 8 with fail
    refine wp_region_held_drew (S := fun X => X.rangeAt g 0 tl) (by kernel_rfl) (HY _ (Below.refl _ _).drew).1 (fun hHeld => ?_)
    refine wpAnyH_take (i := 0) (v := _) rfl (by kernel_rfl) (by kernel_rfl) (by kernel_rfl) (fun _ _ _ h => h) (yieldsIf_load_mid (by rfl) _ _ rfl _ _ rfl _ _ ?qs0 Tryd.underlying39 rfl j33) (by assumption) ?qr0
    case qs0 =>
      intro w hSw
      (try dsimp only at hSw)
      go_split_ands
      assumption
    try simp only [List.getElem_toArray, List.getElem_cons_zero, List.getElem_cons_succ, Act.put, List.setIfInBounds_toArray, List.set_cons_zero, List.set_cons_succ]
    refine wpAnyH_take (i := 1) (v := ?_) rfl (by kernel_rfl) (by kernel_rfl) (by kernel_rfl) (fun _ _ _ h => h) (Or.inl ⟨by rfl, ?qy1⟩) (by assumption) ?qr1
    case qy1 =>
      intro w hSw
      (try dsimp only at hSw)
      go_simp
      all_goals with_reducible rfl
    try simp only [List.getElem_toArray, List.getElem_cons_zero, List.getElem_cons_succ, Act.put, List.setIfInBounds_toArray, List.set_cons_zero, List.set_cons_succ]
    refine wpAnyH_take (i := 3) (v := _) rfl (by kernel_rfl) (by kernel_rfl) (by kernel_rfl) (fun _ _ _ h => h) (yieldsIf_load_mid (by rfl) _ _ rfl _ _ rfl _ _ ?qs3 Tryd.underlying39 rfl j33) (by assumption) ?qr3
    case qs3 =>
      intro w hSw
      (try dsimp only at hSw)
      go_split_ands
      assumption
    try simp only [List.getElem_toArray, List.getElem_cons_zero, List.getElem_cons_succ, Act.put, List.setIfInBounds_toArray, List.set_cons_zero, List.set_cons_succ]
    refine wpAnyH_take (i := 4) (v := ?_) rfl (by kernel_rfl) (by kernel_rfl) (by kernel_rfl) (fun _ _ _ h => h) (Or.inl ⟨by rfl, ?qy4⟩) (by assumption) ?qr4
    case qy4 =>
      intro w hSw
      (try dsimp only at hSw)
      go_simp
      all_goals with_reducible rfl
    try simp only [List.getElem_toArray, List.getElem_cons_zero, List.getElem_cons_succ, Act.put, List.setIfInBounds_toArray, List.set_cons_zero, List.set_cons_succ]
    refine wpAnyH_ready (rs := [2]) (by kernel_rfl) (by simp) ?_
    refine AllReadyH.cons rfl (fun K hK => ?_) AllReadyH.nil
    go_simp
    with_reducible refine ((HY _ (by first | exact Below.refl _ _ | exact (Below.refl _ _).drew)).2.1).mono ?_
    rintro _ X1 ⟨rfl, hb1⟩
    try go_wp2_with fail
    refine hK.out _ _ (HY X1 hb1).1 (fun hHeld => ?_)
    clear hK K
    try simp only [List.getElem_toArray, List.getElem_cons_zero, List.getElem_cons_succ, Act.put, List.setIfInBounds_toArray, List.set_cons_zero, List.set_cons_succ]
    refine wpAnyH_ready (rs := [5]) (by kernel_rfl) (by simp) ?_
    refine AllReadyH.cons rfl (fun K hK => ?_) AllReadyH.nil
    go_simp
    with_reducible refine ((HY X1 hb1).2.2).mono ?_
    rintro _ X2 ⟨rfl, hb2⟩
    try go_wp2_with fail
    refine hK.out _ _ (HY X2 hb2).1 (fun hHeld => ?_)
    clear hK K
    try simp only [List.getElem_toArray, List.getElem_cons_zero, List.getElem_cons_succ, Act.put, List.setIfInBounds_toArray, List.set_cons_zero, List.set_cons_succ]
    refine wpAnyH_take (i := 6) (v := ?_) rfl (by kernel_rfl) (by kernel_rfl) (by kernel_rfl) (fun _ _ _ h => h) (Or.inl ⟨by rfl, ?qy6⟩) (by assumption) ?qr6
    case qy6 =>
      intro w hSw
      (try dsimp only at hSw)
      go_simp
      all_goals with_reducible rfl
    try simp only [List.getElem_toArray, List.getElem_cons_zero, List.getElem_cons_succ, Act.put, List.setIfInBounds_toArray, List.set_cons_zero, List.set_cons_succ]
    refine wpAnyH_take (i := 7) (v := ?_) rfl (by kernel_rfl) (by kernel_rfl) (by kernel_rfl) (fun _ _ _ h => h) (Or.inl ⟨by rfl, ?qy7⟩) (by assumption) ?qr7
    case qy7 =>
      intro w hSw
      (try dsimp only at hSw)
      go_simp
      all_goals with_reducible rfl
    try simp only [List.getElem_toArray, List.getElem_cons_zero, List.getElem_cons_succ, Act.put, List.setIfInBounds_toArray, List.set_cons_zero, List.set_cons_succ]
    refine wpAnyH_done (by kernel_rfl) ?_ _
    go_wp2_with fail
    go_ret
    exact ⟨by simp, HB3.out.trans (hb2.mono HB3.out.size)⟩
  have e1 : decide (0 < n) = true := decide_eq_true (by omega)
  have hn1 : 0 < n := by omega
  have hn2 : (0 : Int) < (n : Int) := by omega
  have e3 : decide ((0 : Int) < (n : Int)) = true := decide_eq_true hn2
  obtain ⟨m, hm⟩ : ∃ m, Int.tmod k 2 = m := ⟨_, rfl⟩
  by_cases qm : m = 0
  rotate_left
  · have e2 : (m == 0) = false := by simp [qm]
    clear HC HLn qm
    obtain ⟨y, hy⟩ : ∃ y, ip = y := ⟨_, rfl⟩
    have HY := fun X hX => HX.out y X hX
    rw [hy]
    clear HX hy
    go_upto_region 8 with fail
    refine wp_region_held_drew (S := fun X => X.rangeAt g 0 tl) (by kernel_rfl) (HY _ (Below.refl _ _).drew).1 (fun hHeld => ?_)
    refine wpAnyH_take (i := 0) (v := _) rfl (by kernel_rfl) (by kernel_rfl) (by kernel_rfl) (fun _ _ _ h => h) (yieldsIf_load_mid (by rfl) _ _ rfl _ _ rfl _ _ ?zs0 Tryd.underlying39 rfl j33) (by assumption) ?zr0
    case zs0 =>
      intro w hSw
      (try dsimp only at hSw)
      go_split_ands
      assumption
    try simp only [List.getElem_toArray, List.getElem_cons_zero, List.getElem_cons_succ, Act.put, List.setIfInBounds_toArray, List.set_cons_zero, List.set_cons_succ]
    refine wpAnyH_take (i := 1) (v := ?_) rfl (by kernel_rfl) (by kernel_rfl) (by kernel_rfl) (fun _ _ _ h => h) (Or.inl ⟨by rfl, ?zy1⟩) (by assumption) ?zr1
    case zy1 =>
      intro w hSw
      (try dsimp only at hSw)
      go_simp
      all_goals with_reducible rfl
    try simp only [List.getElem_toArray, List.getElem_cons_zero, List.getElem_cons_succ, Act.put, List.setIfInBounds_toArray, List.set_cons_zero, List.set_cons_succ]
    refine wpAnyH_take (i := 3) (v := _) rfl (by kernel_rfl) (by kernel_rfl) (by kernel_rfl) (fun _ _ _ h => h) (yieldsIf_load_mid (by rfl) _ _ rfl _ _ rfl _ _ ?zs3 Tryd.underlying39 rfl j33) (by assumption) ?zr3
    case zs3 =>
      intro w hSw
      (try dsimp only at hSw)
      go_split_ands
      assumption
    try simp only [List.getElem_toArray, List.getElem_cons_zero, List.getElem_cons_succ, Act.put, List.setIfInBounds_toArray, List.set_cons_zero, List.set_cons_succ]
    refine wpAnyH_take (i := 4) (v := ?_) rfl (by kernel_rfl) (by kernel_rfl) (by kernel_rfl) (fun _ _ _ h => h) (Or.inl ⟨by rfl, ?zy4⟩) (by assumption) ?zr4
    case zy4 =>
      intro w hSw
      (try dsimp only at hSw)
      go_simp
      all_goals with_reducible rfl
    try simp only [List.getElem_toArray, List.getElem_cons_zero, List.getElem_cons_succ, Act.put, List.setIfInBounds_toArray, List.set_cons_zero, List.set_cons_succ]
    refine wpAnyH_ready (rs := [2]) (by kernel_rfl) (by simp) ?_
    refine AllReadyH.cons rfl (fun K hK => ?_) AllReadyH.nil
    go_simp
    with_reducible refine ((HY _ (by first | exact Below.refl _ _ | exact (Below.refl _ _).drew)).2.1).mono ?_
    rintro _ X1 ⟨rfl, hb1⟩
    try go_wp2_with fail
    refine hK.out _ _ (HY X1 hb1).1 (fun hHeld => ?_)
    clear hK K
    try simp only [List.getElem_toArray, List.getElem_cons_zero, List.getElem_cons_succ, Act.put, List.setIfInBounds_toArray, List.set_cons_zero, List.set_cons_succ]
    refine wpAnyH_ready (rs := [5]) (by kernel_rfl) (by simp) ?_
    refine AllReadyH.cons rfl (fun K hK => ?_) AllReadyH.nil
    go_simp
    with_reducible refine ((HY X1 hb1).2.2).mono ?_
    rintro _ X2 ⟨rfl, hb2⟩
    try go_wp2_with fail
    refine hK.out _ _ (HY X2 hb2).1 (fun hHeld => ?_)
    clear hK K
    try simp only [List.getElem_toArray, List.getElem_cons_zero, List.getElem_cons_succ, Act.put, List.setIfInBounds_toArray, List.set_cons_zero, List.set_cons_succ]
    refine wpAnyH_take (i := 6) (v := ?_) rfl (by kernel_rfl) (by kernel_rfl) (by kernel_rfl) (fun _ _ _ h => h) (Or.inl ⟨by rfl, ?zy6⟩) (by assumption) ?zr6
    case zy6 =>
      intro w hSw
      (try dsimp only at hSw)
      go_simp
      all_goals with_reducible rfl
    try simp only [List.getElem_toArray, List.getElem_cons_zero, List.getElem_cons_succ, Act.put, List.setIfInBounds_toArray, List.set_cons_zero, List.set_cons_succ]
    refine wpAnyH_take (i := 7) (v := ?_) rfl (by kernel_rfl) (by kernel_rfl) (by kernel_rfl) (fun _ _ _ h => h) (Or.inl ⟨by rfl, ?zy7⟩) (by assumption) ?zr7
    case zy7 =>
      intro w hSw
      (try dsimp only at hSw)
      go_simp
      all_goals with_reducible rfl
    try simp only [List.getElem_toArray, List.getElem_cons_zero, List.getElem_cons_succ, Act.put, List.setIfInBounds_toArray, List.set_cons_zero, List.set_cons_succ]
    refine wpAnyH_done (by kernel_rfl) ?_ _
    go_wp2_with fail
    go_ret
    exact ⟨by simp, HB3.out.trans (hb2.mono HB3.out.size)⟩
  have e2 : (m == 0) = true := by simp [qm]
  have CP := place_any k (n : Int) V3 HKK.out.1 HKK.out.2 hn2 (by have := HLn.out; omega)
  obtain ⟨hp0, hp1⟩ := plc_range k (n : Int) hn2
  obtain ⟨P, hP⟩ : ∃ P : Nat, plc k (n : Int) = P := ⟨(plc k (n : Int)).toNat, by omega⟩
  rw [hP] at CP hp0 hp1
  obtain ⟨b', off', rfl, d0⟩ := HC.out P (by omega)
  obtain ⟨y, hy⟩ : ∃ y, L.getD P 0 = y := ⟨_, rfl⟩
  rw [hy] at d0
  have HY := fun X hX => HX.out y X hX
  clear HC HLn HX hy hP qm
  go_wp2_with fail
  refine CP.mono ?_
  rintro _ _ ⟨rfl, rfl⟩
  go_upto_region 8 with fail
  refine wp_region_held_drew (S := fun X => X.rangeAt g 0 tl) (by kernel_rfl) (HY _ (Below.refl _ _).drew).1 (fun hHeld => ?_)
  refine wpAnyH_take (i := 0) (v := _) rfl (by kernel_rfl) (by kernel_rfl) (by kernel_rfl) (fun _ _ _ h => h) (yieldsIf_load_mid (by rfl) _ _ rfl _ _ rfl _ _ ?ys0 Tryd.underlying39 rfl j33) (by assumption) ?yr0
  case ys0 =>
    intro w hSw
    (try dsimp only at hSw)
    go_split_ands
    assumption
  try simp only [List.getElem_toArray, List.getElem_cons_zero, List.getElem_cons_succ, Act.put, List.setIfInBounds_toArray, List.set_cons_zero, List.set_cons_succ]
  refine wpAnyH_take (i := 1) (v := ?_) rfl (by kernel_rfl) (by kernel_rfl) (by kernel_rfl) (fun _ _ _ h => h) (Or.inl ⟨by rfl, ?yy1⟩) (by assumption) ?yr1
  case yy1 =>
    intro w hSw
    (try dsimp only at hSw)
    go_simp
    all_goals with_reducible rfl
  try simp only [List.getElem_toArray, List.getElem_cons_zero, List.getElem_cons_succ, Act.put, List.setIfInBounds_toArray, List.set_cons_zero, List.set_cons_succ]
  refine wpAnyH_take (i := 3) (v := _) rfl (by kernel_rfl) (by kernel_rfl) (by kernel_rfl) (fun _ _ _ h => h) (yieldsIf_load_mid (by rfl) _ _ rfl _ _ rfl _ _ ?ys3 Tryd.underlying39 rfl j33) (by assumption) ?yr3
  case ys3 =>
    intro w hSw
    (try dsimp only at hSw)
    go_split_ands
    assumption
  try simp only [List.getElem_toArray, List.getElem_cons_zero, List.getElem_cons_succ, Act.put, List.setIfInBounds_toArray, List.set_cons_zero, List.set_cons_succ]
  refine wpAnyH_take (i := 4) (v := ?_) rfl (by kernel_rfl) (by kernel_rfl) (by kernel_rfl) (fun _ _ _ h => h) (Or.inl ⟨by rfl, ?yy4⟩) (by assumption) ?yr4
  case yy4 =>
    intro w hSw
    (try dsimp only at hSw)
    go_simp
    all_goals with_reducible rfl
  try simp only [List.getElem_toArray, List.getElem_cons_zero, List.getElem_cons_succ, Act.put, List.setIfInBounds_toArray, List.set_cons_zero, List.set_cons_succ]
  refine wpAnyH_ready (rs := [2]) (by kernel_rfl) (by simp) ?_
  refine AllReadyH.cons rfl (fun K hK => ?_) AllReadyH.nil
  go_simp
  with_reducible refine ((HY _ (by first | exact Below.refl _ _ | exact (Below.refl _ _).drew)).2.1).mono ?_
  rintro _ X1 ⟨rfl, hb1⟩
  try go_wp2_with fail
  refine hK.out _ _ (HY X1 hb1).1 (fun hHeld => ?_)
  clear hK K
  try simp only [List.getElem_toArray, List.getElem_cons_zero, List.getElem_cons_succ, Act.put, List.setIfInBounds_toArray, List.set_cons_zero, List.set_cons_succ]
  refine wpAnyH_ready (rs := [5]) (by kernel_rfl) (by simp) ?_
  refine AllReadyH.cons rfl (fun K hK => ?_) AllReadyH.nil
  go_simp
  with_reducible refine ((HY X1 hb1).2.2).mono ?_
  rintro _ X2 ⟨rfl, hb2⟩
  try go_wp2_with fail
  refine hK.out _ _ (HY X2 hb2).1 (fun hHeld => ?_)
  clear hK K
  try simp only [List.getElem_toArray, List.getElem_cons_zero, List.getElem_cons_succ, Act.put, List.setIfInBounds_toArray, List.set_cons_zero, List.set_cons_succ]
  refine wpAnyH_take (i := 6) (v := ?_) rfl (by kernel_rfl) (by kernel_rfl) (by kernel_rfl) (fun _ _ _ h => h) (Or.inl ⟨by rfl, ?yy6⟩) (by assumption) ?yr6
  case yy6 =>
    intro w hSw
    (try dsimp only at hSw)
    go_simp
    all_goals with_reducible rfl
  try simp only [List.getElem_toArray, List.getElem_cons_zero, List.getElem_cons_succ, Act.put, List.setIfInBounds_toArray, List.set_cons_zero, List.set_cons_succ]
  refine wpAnyH_take (i := 7) (v := ?_) rfl (by kernel_rfl) (by kernel_rfl) (by kernel_rfl) (fun _ _ _ h => h) (Or.inl ⟨by rfl, ?yy7⟩) (by assumption) ?yr7
  case yy7 =>
    intro w hSw
    (try dsimp only at hSw)
    go_simp
    all_goals with_reducible rfl
  try simp only [List.getElem_toArray, List.getElem_cons_zero, List.getElem_cons_succ, Act.put, List.setIfInBounds_toArray, List.set_cons_zero, List.set_cons_succ]
  refine wpAnyH_done (by kernel_rfl) ?_ _
  go_wp2_with fail
  go_ret
  exact ⟨by simp, HB3.out.trans (hb2.mono HB3.out.size)⟩
end Go.Proofs.YtnddbklbgddblaaDoor

