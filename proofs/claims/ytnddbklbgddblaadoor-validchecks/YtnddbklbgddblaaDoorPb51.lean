/-
  Which settings may be: any settings, held against the document's own answers (ValidChecks).
-/
import Derived.Test.YtnddbklbgddblaaDoorPb50
import Derived.Test.YtnddbklbgddblaaDoorPb43
namespace Go.Proofs.YtnddbklbgddblaaDoor
open Go.RowKit
open Va
set_option linter.unusedVariables false
set_option linter.unusedSimpArgs false
set_option maxRecDepth 20000

set_option maxHeartbeats 16000000 in
theorem checks14_law {w : World} {v : Value} {c : Cgf} (hV : Vs w) (h : CV w v c) (h0 : ∀ t ∈ c.ten, 0 ≤ t.vni) :
    Calls Tryd.prog 3 #[v] w fun e w' => e = .returned (.bool true) ∧ Below w.heap.size w w' := by
  obtain ⟨cl, ta, tp, rfl, hx⟩ := h.tb
  obtain ⟨g, hg⟩ : ∃ g, w.heap.size = g := ⟨_, rfl⟩
  have HM0 : Hid (Mem w (w.alloc (.cells cl.toArray 28)) [(g, .cells cl.toArray 28 (0, 0))]) := (Mem.nil w).push1 hg.symm
  obtain ⟨a', c', e, hle, hcb, hp⟩ := hx.ts.parts
  simp only [Value.slice.injEq] at e
  obtain ⟨rfl, -, rfl⟩ := e
  obtain ⟨A, hA⟩ : ∃ A, cl.toArray = A := ⟨_, rfl⟩
  have i29 : (Tryd.prog.info? 28).map (·.size) = some A.size := by rw [← hA]; exact i29_of hx.len
  have j29 : (Tryd.prog.info? 28).map (·.size) = some cl.length := by rw [hx.len]; kernel_rfl
  have HT : Hid (∀ X, Mem w X [(g, .cells A 28 (0, 0))] → X.heap[g]? = some (.cells A 28 (0, 0)) ∧ CV X (.agg cl.toArray) c ∧ X.rangeAt g 0 cl ∧ X.cell? ⟨g, 28, none⟩ = some (.slice ta c.ten.length tp) ∧ TSV X (.slice ta c.ten.length tp) c.ten ∧ Vs X) := by
    intro X hX
    have hk := hX.get 0 rfl
    have hk2 : X.heap[g]? = some (.cells cl.toArray 28 (0, 0)) := by rw [hA]; exact hk
    refine ⟨hk, (hx.later hX.below).cv, fun j u hj => ?_, cell_tl hk2 hx.ten, (hx.later hX.below).ts, hV.below hX.below⟩
    rw [Nat.zero_add]
    exact cell_tl hk2 hj
  have HP : Hid (∀ k, k < c.ten.length → ∃ b off x, ta = some ⟨b, off, none⟩ ∧ x.length = 33 ∧ ∀ X, Below w.heap.size w X → X.rangeAt b (off + k * 33) x ∧ TV X (.agg x.toArray) (c.ten.getD k ten0) ∧ X.cell? ⟨b, off + k * 33, none⟩ = some (.string (c.ten.getD k ten0).name) ∧ X.cell? ⟨b, off + k * 33 + 1, none⟩ = some (.int .u32 (c.ten.getD k ten0).vni)) := by
    intro k hk
    obtain ⟨b, off, x, h1, h2, h3, h4⟩ := hp k hk
    refine ⟨b, off, x, h1, h2, fun X hX => ?_⟩
    obtain ⟨r1, r2⟩ := h4 X hX
    obtain ⟨ol, _, _, _, _, _, _, ex, ho⟩ := r2.tb
    have ex2 : x = ol := by simpa using ex
    refine ⟨r1, r2, ?_, r1 1 _ (by rw [ex2]; exact ho.vni)⟩
    have := r1 0 _ (by rw [ex2]; exact ho.name)
    rwa [Nat.add_zero] at this
  have HLS : Hid (Lgts c.ten 20 → c.ten.length ≤ 20 ∧ ∀ t ∈ c.ten, TSm t) := by
    intro hL
    refine ⟨hL.1, fun t ht => ?_⟩
    obtain ⟨i, hi, e⟩ := List.mem_iff_getElem.mp ht
    have := hL.2 i hi
    rw [show c.ten.getD i ten0 = t by rw [← e]; simp [List.getD, List.getElem?_eq_getElem hi]] at this
    exact lgt_sm this
  have H0 : Hid (∀ t ∈ c.ten, 0 ≤ t.vni) := h0
  have HAA : Hid (cl.toArray = A) := hA
  rw [hA] at HM0 ⊢
  clear hV h hx hA hp h0
  go_enter Tryd.func3, Tryd.ntmps3
  go_upto_region 1 with fail
  refine wp_letter (fun X => Mem w X [(g, .cells A 28 (0, 0))]) (by exact HM0.out) ?_
  intro V hM
  try simp only [hg]
  clear HM0 hg
  have C := known14_any (HT.out V hM).2.2.2.2.2
  have HM : Hid (Mem w V [(g, .cells A 28 (0, 0))]) := hM
  clear hM
  go_wp2_with fail
  refine C.mono ?_
  rintro _ V1 ⟨rfl, hb⟩
  have HM1 : Hid (Mem w V1 [(g, .cells A 28 (0, 0))]) := HM.out.after hb
  clear hb C HM
  obtain ⟨-, -, -, c28, hts, -⟩ := HT.out V1 HM1.out
  have C := lights_any hts 20 (by omega)
  clear hts
  by_cases hL : Lgts c.ten 20
  rotate_left
  · rw [decide_eq_false hL] at C
    clear HT HP HLS H0 HAA hL
    generalize c.ten.length = N at *
    go_wp2_with fail
    refine C.mono ?_
    rintro _ V2 ⟨rfl, hb⟩
    have HB : Hid (Below w.heap.size w V2) := HM1.out.below.trans (hb.mono HM1.out.below.size)
    clear hb C HM1 c28
    go_wp2_with fail
    go_ret
    exact ⟨rfl, HB.out⟩
  rw [decide_eq_true hL] at C
  obtain ⟨hN, hsm⟩ := HLS.out hL
  have HSM : Hid (∀ t ∈ c.ten, TSm t) := hsm
  have HSI : Hid (∀ i, i < c.ten.length → TSm (c.ten.getD i ten0) ∧ 0 ≤ (c.ten.getD i ten0).vni) := fun i hi => by
    have hmem : (c.ten.getD i ten0) ∈ c.ten := by simp [List.getD, List.getElem?_eq_getElem hi]
    exact ⟨hsm _ hmem, H0.out _ hmem⟩
  clear hL HLS
  have HCC : Hid (∀ X, Mem w X [(g, .cells A 28 (0, 0))] → (Calls Tryd.prog 11 #[.agg cl.toArray] X fun e V => e = .returned (.int .i64 (chk c)) ∧ Below X.heap.size X V) ∧ (Calls Tryd.prog 12 #[.agg cl.toArray] X fun e V => e = .returned (.int .i64 (chk c)) ∧ Below X.heap.size X V)) := by
    intro X hX
    obtain ⟨-, q2, -, -, -, q6⟩ := HT.out X hX
    exact ⟨check_any q6 q2 (by omega) HSM.out, rcheck_any q6 q2 (by omega) HSM.out H0.out⟩
  generalize c.ten.length = N at *
  go_wp2_with fail
  refine C.mono ?_
  rintro _ V2 ⟨rfl, hb⟩
  have HM2 : Hid (Mem w V2 [(g, .cells A 28 (0, 0))]) := HM1.out.after hb
  clear hb C HM1 c28
  have HX : Hid (∀ X, Below V2.heap.size V2 X → X.rangeAt g 0 cl ∧ (Calls Tryd.prog 11 #[.agg cl.toArray] X fun e V => e = .returned (.int .i64 (chk c)) ∧ Below V2.heap.size V2 V) ∧ (Calls Tryd.prog 12 #[.agg cl.toArray] X fun e V => e = .returned (.int .i64 (chk c)) ∧ Below V2.heap.size V2 V)) := by
    intro X hX
    have hM := HM2.out.after hX
    obtain ⟨-, -, q3, -⟩ := HT.out X hM
    obtain ⟨r1, r2⟩ := HCC.out X hM
    exact ⟨q3, r1.mono (fun e V hh => ⟨hh.1, hX.trans (hh.2.mono hX.size)⟩), r2.mono (fun e V hh => ⟨hh.1, hX.trans (hh.2.mono hX.size)⟩)⟩
  clear HCC HSM H0
  generalize chk c = R at *
  go_upto_region 5 with fail
  go_cut [14] from 4 (fun u14 X => u14 = .bool false ∧ Hid (Mem w X [(g, .cells A 28 (0, 0))]))
  case first =>
    clear HSI HT HP HAA
    refine wp_region_held_drew (S := fun X => X.rangeAt g 0 cl) (by kernel_rfl) (HX.out _ (Below.refl _ _).drew).1 (fun hHeld => ?_)
    refine wpAnyH_take (i := 0) (v := _) rfl (by kernel_rfl) (by kernel_rfl) (by kernel_rfl) (fun _ _ _ h => h) (yieldsIf_load_mid (by rfl) _ _ rfl _ _ rfl _ _ ?qs0 Tryd.underlying28 rfl j29) (by assumption) ?qr0
    case qs0 =>
      intro w hSw
      (try dsimp only at hSw)
      go_split_ands
      assumption
    try simp only [List.getElem_toArray, List.getElem_cons_zero, List.getElem_cons_succ, Act.put, List.setIfInBounds_toArray, List.set_cons_zero, List.set_cons_succ]
    refine wpAnyH_take (i := 2) (v := _) rfl (by kernel_rfl) (by kernel_rfl) (by kernel_rfl) (fun _ _ _ h => h) (yieldsIf_load_mid (by rfl) _ _ rfl _ _ rfl _ _ ?qs2 Tryd.underlying28 rfl j29) (by assumption) ?qr2
    case qs2 =>
      intro w hSw
      (try dsimp only at hSw)
      go_split_ands
      assumption
    try simp only [List.getElem_toArray, List.getElem_cons_zero, List.getElem_cons_succ, Act.put, List.setIfInBounds_toArray, List.set_cons_zero, List.set_cons_succ]
    refine wpAnyH_ready (rs := [1]) (by kernel_rfl) (by simp) ?_
    refine AllReadyH.cons rfl (fun K hK => ?_) AllReadyH.nil
    go_simp
    with_reducible refine ((HX.out _ (by first | exact Below.refl _ _ | exact (Below.refl _ _).drew)).2.1).mono ?_
    rintro _ X1 ⟨rfl, hb1⟩
    try go_wp2_with fail
    refine hK.out _ _ (HX.out X1 hb1).1 (fun hHeld => ?_)
    clear hK K
    try simp only [List.getElem_toArray, List.getElem_cons_zero, List.getElem_cons_succ, Act.put, List.setIfInBounds_toArray, List.set_cons_zero, List.set_cons_succ]
    refine wpAnyH_ready (rs := [3]) (by kernel_rfl) (by simp) ?_
    refine AllReadyH.cons rfl (fun K hK => ?_) AllReadyH.nil
    go_simp
    with_reducible refine ((HX.out X1 hb1).2.2).mono ?_
    rintro _ X2 ⟨rfl, hb2⟩
    try go_wp2_with fail
    refine hK.out _ _ (HX.out X2 hb2).1 (fun hHeld => ?_)
    clear hK K
    try simp only [List.getElem_toArray, List.getElem_cons_zero, List.getElem_cons_succ, Act.put, List.setIfInBounds_toArray, List.set_cons_zero, List.set_cons_succ]
    refine wpAnyH_take (i := 4) (v := ?_) rfl (by kernel_rfl) (by kernel_rfl) (by kernel_rfl) (fun _ _ _ h => h) (Or.inl ⟨by rfl, ?qy4⟩) (by assumption) ?qr4
    case qy4 =>
      intro w hSw
      (try dsimp only at hSw)
      go_simp
      all_goals with_reducible rfl
    try simp only [List.getElem_toArray, List.getElem_cons_zero, List.getElem_cons_succ, Act.put, List.setIfInBounds_toArray, List.set_cons_zero, List.set_cons_succ]
    refine wpAnyH_done (by kernel_rfl) ?_ _
    have HF : Hid (Mem w X2 [(g, .cells A 28 (0, 0))]) := HM2.out.after hb2
    clear HM2 hb1 hb2 HX
    go_wp2_with fail
    go_meet
    case rel => exact ⟨by simp, HF⟩
  case rest =>
  obtain ⟨rfl, HM3⟩ := hcut
  clear HX HM2
  obtain ⟨-, -, -, c28, -, -⟩ := HT.out wc HM3.out
  go_wp2_with fail
  go_loopw [3] (fun u3 w' => ∃ i : Nat, i ≤ N ∧ u3 = .int .i64 i ∧ Hid (Mem w w' [(g, .cells A 28 (0, 0))])) (fun u3 w' => N - (intOf u3).toNat)
  case atStart => exact ⟨0, Nat.zero_le _, rfl, HM3⟩
  case round =>
  obtain ⟨i, hi, rfl, HR⟩ := hrel
  clear c28
  obtain ⟨-, -, -, c28, -, -⟩ := HT.out wr HR.out
  by_cases hlt : i < N
  rotate_left
  · have h1 : ¬ ((i : Int) < N) := by omega
    have HB : Hid (Below w.heap.size w wr) := HR.out.below
    clear HT HP HSI HM3 HR
    go_wp2_with fail
    go_ret
    exact ⟨rfl, HB.out⟩
  have h1 : (i : Int) < N := by omega
  obtain ⟨b, off, x, rfl, hsz, hX⟩ := HP.out i hlt
  have j33 : (Tryd.prog.info? 39).map (·.size) = some x.length := by rw [hsz]; kernel_rfl
  have HY : Hid (∀ X, Below wr.heap.size wr X → X.cell? ⟨g, 28, none⟩ = some (.slice (some ⟨b, off, none⟩) N tp) ∧ X.rangeAt b (off + i * 33) x) := by
    intro X hb
    have hM := HR.out.after hb
    exact ⟨(HT.out X hM).2.2.2.1, (hX X hM.below).1⟩
  have HC : Hid (∀ X, Below wr.heap.size wr X → (Calls Tryd.prog 13 #[.agg x.toArray] X fun e V => e = .returned (.int .i64 (tchk (c.ten.getD i ten0))) ∧ Below wr.heap.size wr V) ∧ (Calls Tryd.prog 14 #[.agg x.toArray] X fun e V => e = .returned (.int .i64 (tchk (c.ten.getD i ten0))) ∧ Below wr.heap.size wr V)) := by
    intro X hb
    have hM := HR.out.after hb
    have q2 := (hX X hM.below).2.1
    have q6 := (HT.out X hM).2.2.2.2.2
    obtain ⟨z1, z2⟩ := HSI.out i hlt
    exact ⟨(tenant14_any q6 q2 z1).mono (fun e V hh => ⟨hh.1, hb.trans (hh.2.mono hb.size)⟩), (rtenant14_any q6 q2 z1 z2).mono (fun e V hh => ⟨hh.1, hb.trans (hh.2.mono hb.size)⟩)⟩
  have HMR : Hid (Mem w wr [(g, .cells A 28 (0, 0))]) := HR.out
  clear hX hsz HT HP HSI HM3 HR
  generalize tchk (c.ten.getD i ten0) = E at *
  go_upto_region 10 with fail
  refine wp_region_held_drew (S := fun X => X.cell? ⟨g, 28, none⟩ = some (.slice (some ⟨b, off, none⟩) N tp) ∧ X.rangeAt b (off + i * 33) x) (by kernel_rfl) (HY.out _ (Below.refl _ _).drew) (fun hHeld => ?_)
  refine wpAnyH_take (i := 0) (v := ?_) rfl (by kernel_rfl) (by kernel_rfl) (by kernel_rfl) (fun _ _ _ h => h) (Or.inl ⟨by rfl, ?zy0⟩) (by assumption) ?zr0
  case zy0 =>
    intro w hSw
    (try dsimp only at hSw)
    go_simp
    all_goals with_reducible rfl
  try simp only [List.getElem_toArray, List.getElem_cons_zero, List.getElem_cons_succ, Act.put, List.setIfInBounds_toArray, List.set_cons_zero, List.set_cons_succ]
  refine wpAnyH_take (i := 1) (v := ?_) rfl (by kernel_rfl) (by kernel_rfl) (by kernel_rfl) (fun _ _ _ h => h) (Or.inl ⟨by rfl, ?zy1⟩) (by assumption) ?zr1
  case zy1 =>
    intro w hSw
    (try dsimp only at hSw)
    go_simp
    all_goals with_reducible rfl
  try simp only [List.getElem_toArray, List.getElem_cons_zero, List.getElem_cons_succ, Act.put, List.setIfInBounds_toArray, List.set_cons_zero, List.set_cons_succ]
  refine wpAnyH_take (i := 2) (v := ?_) rfl (by kernel_rfl) (by kernel_rfl) (by kernel_rfl) (fun _ _ _ h => h) (Or.inl ⟨by rfl, ?zy2⟩) (by assumption) ?zr2
  case zy2 =>
    intro w hSw
    (try dsimp only at hSw)
    go_simp
    all_goals with_reducible rfl
  try simp only [List.getElem_toArray, List.getElem_cons_zero, List.getElem_cons_succ, Act.put, List.setIfInBounds_toArray, List.set_cons_zero, List.set_cons_succ]
  refine wpAnyH_take (i := 3) (v := ?_) rfl (by kernel_rfl) (by kernel_rfl) (by kernel_rfl) (fun _ _ _ h => h) (Or.inl ⟨by rfl, ?zy3⟩) (by assumption) ?zr3
  case zy3 =>
    intro w hSw
    (try dsimp only at hSw)
    go_simp
    all_goals with_reducible rfl
  try simp only [List.getElem_toArray, List.getElem_cons_zero, List.getElem_cons_succ, Act.put, List.setIfInBounds_toArray, List.set_cons_zero, List.set_cons_succ]
  refine wpAnyH_take (i := 4) (v := _) rfl (by kernel_rfl) (by kernel_rfl) (by kernel_rfl) (fun _ _ _ h => h) (yieldsIf_load_mid (by rfl) _ _ rfl _ _ rfl _ _ ?zs4 Tryd.underlying39 rfl j33) (by assumption) ?zr4
  case zs4 =>
    intro w hSw
    (try dsimp only at hSw)
    go_split_ands
    assumption
  try simp only [List.getElem_toArray, List.getElem_cons_zero, List.getElem_cons_succ, Act.put, List.setIfInBounds_toArray, List.set_cons_zero, List.set_cons_succ]
  refine wpAnyH_take (i := 6) (v := ?_) rfl (by kernel_rfl) (by kernel_rfl) (by kernel_rfl) (fun _ _ _ h => h) (Or.inl ⟨by rfl, ?zy6⟩) (by assumption) ?zr6
  case zy6 =>
    intro w hSw
    (try dsimp only at hSw)
    go_simp
    all_goals with_reducible rfl
  try simp only [List.getElem_toArray, List.getElem_cons_zero, List.getElem_cons_succ, Act.put, List.setIfInBounds_toArray, List.set_cons_zero, List.set_cons_succ]
  refine wpAnyH_take (i := 7) (v := ?_) rfl (by kernel_rfl) (by kernel_rfl) (by kernel_rfl) (fun _ _ _ h => h) (Or.inl ⟨by rfl, ?zy7⟩) (by assumption) ?zr7
  case zy7 =>
    intro w hSw
    (try dsimp only at hSw)
    go_simp
    all_goals with_reducible rfl
  try simp only [List.getElem_toArray, List.getElem_cons_zero, List.getElem_cons_succ, Act.put, List.setIfInBounds_toArray, List.set_cons_zero, List.set_cons_succ]
  refine wpAnyH_take (i := 8) (v := ?_) rfl (by kernel_rfl) (by kernel_rfl) (by kernel_rfl) (fun _ _ _ h => h) (Or.inl ⟨by rfl, ?zy8⟩) (by assumption) ?zr8
  case zy8 =>
    intro w hSw
    (try dsimp only at hSw)
    go_simp
    all_goals with_reducible rfl
  try simp only [List.getElem_toArray, List.getElem_cons_zero, List.getElem_cons_succ, Act.put, List.setIfInBounds_toArray, List.set_cons_zero, List.set_cons_succ]
  refine wpAnyH_take (i := 9) (v := ?_) rfl (by kernel_rfl) (by kernel_rfl) (by kernel_rfl) (fun _ _ _ h => h) (Or.inl ⟨by rfl, ?zy9⟩) (by assumption) ?zr9
  case zy9 =>
    intro w hSw
    (try dsimp only at hSw)
    go_simp
    all_goals with_reducible rfl
  try simp only [List.getElem_toArray, List.getElem_cons_zero, List.getElem_cons_succ, Act.put, List.setIfInBounds_toArray, List.set_cons_zero, List.set_cons_succ]
  refine wpAnyH_take (i := 10) (v := _) rfl (by kernel_rfl) (by kernel_rfl) (by kernel_rfl) (fun _ _ _ h => h) (yieldsIf_load_mid (by rfl) _ _ rfl _ _ rfl _ _ ?zs10 Tryd.underlying39 rfl j33) (by assumption) ?zr10
  case zs10 =>
    intro w hSw
    (try dsimp only at hSw)
    go_split_ands
    assumption
  try simp only [List.getElem_toArray, List.getElem_cons_zero, List.getElem_cons_succ, Act.put, List.setIfInBounds_toArray, List.set_cons_zero, List.set_cons_succ]
  refine wpAnyH_ready (rs := [5]) (by kernel_rfl) (by simp) ?_
  refine AllReadyH.cons rfl (fun K hK => ?_) AllReadyH.nil
  go_simp
  with_reducible refine ((HC.out _ (by first | exact Below.refl _ _ | exact (Below.refl _ _).drew)).1).mono ?_
  rintro _ X1 ⟨rfl, hb1⟩
  try go_wp2_with fail
  refine hK.out _ _ (HY.out X1 hb1) (fun hHeld => ?_)
  clear hK K
  try simp only [List.getElem_toArray, List.getElem_cons_zero, List.getElem_cons_succ, Act.put, List.setIfInBounds_toArray, List.set_cons_zero, List.set_cons_succ]
  refine wpAnyH_ready (rs := [11]) (by kernel_rfl) (by simp) ?_
  refine AllReadyH.cons rfl (fun K hK => ?_) AllReadyH.nil
  go_simp
  with_reducible refine ((HC.out X1 hb1).2).mono ?_
  rintro _ X2 ⟨rfl, hb2⟩
  try go_wp2_with fail
  refine hK.out _ _ (HY.out X2 hb2) (fun hHeld => ?_)
  clear hK K
  try simp only [List.getElem_toArray, List.getElem_cons_zero, List.getElem_cons_succ, Act.put, List.setIfInBounds_toArray, List.set_cons_zero, List.set_cons_succ]
  refine wpAnyH_take (i := 12) (v := ?_) rfl (by kernel_rfl) (by kernel_rfl) (by kernel_rfl) (fun _ _ _ h => h) (Or.inl ⟨by rfl, ?zy12⟩) (by assumption) ?zr12
  case zy12 =>
    intro w hSw
    (try dsimp only at hSw)
    go_simp
    all_goals with_reducible rfl
  try simp only [List.getElem_toArray, List.getElem_cons_zero, List.getElem_cons_succ, Act.put, List.setIfInBounds_toArray, List.set_cons_zero, List.set_cons_succ]
  refine wpAnyH_done (by kernel_rfl) ?_ _
  have HF : Hid (Mem w X2 [(g, .cells A 28 (0, 0))]) := HMR.out.after hb2
  clear HMR hb1 hb2 HY HC c28
  go_wp2_with fail
  go_roundw
  case rel => exact ⟨i + 1, by omega, by go_num, HF⟩
  case measure => simp [intOf]; omega
end Go.Proofs.YtnddbklbgddblaaDoor

