/-
  Ports: the document's own: Has, Hold.
-/
import Derived.Test.YtkbjiackjefkkaaDoorPoRef
import Derived.BigQuiet
import Derived.Deep.RegionHeld3
namespace Go.Proofs.YtkbjiackjefkkaaDoor
open Go.RowKit
open Sm
open Po
set_option linter.unusedVariables false
set_option linter.unusedSimpArgs false
set_option maxRecDepth 20000

namespace Po
set_option maxHeartbeats 4000000 in
theorem rhas17_any {W : World} {p : Nat} {v : Value} {xs : List Mk} (hp : W.cell? ⟨p, 0, none⟩ = some v) (hv : Rw W 3 v (mx xs)) (pr a b : Int) :
    Calls Tryd.prog 19 #[.pointer (some ⟨p, 0, none⟩), .int .u8 pr, .agg #[.int .u32 a, .int .u16 b]] W fun e W' => e = .returned (.bool (decide ((pr, a, b) ∈ xs))) ∧ Below W.heap.size W W' := by
  have HC : Hid (∀ V, Below W.heap.size W V → Calls Tryd.prog 23 #[.pointer (some ⟨p, 0, none⟩), .int .u8 pr, .agg #[.int .u32 a, .int .u16 b]] V fun e W' => e = .returned (.int .i64 (fnd (pr, a, b) xs 0)) ∧ Below V.heap.size V W') := fun V hV => rfind17_any (by rw [hV.cell (p := ⟨p, 0, none⟩) (cell_lt hp)]; exact hp) (hv.below mx_ne hV (Nat.le_refl _)) pr a b
  have hm := fnd_mem (m := (pr, a, b)) xs 0
  generalize fnd (pr, a, b) xs 0 = R at *
  generalize decide ((pr, a, b) ∈ xs) = D at *
  have HD : Hid (decide (0 ≤ R) = D) := hm
  obtain ⟨g, hg⟩ : ∃ g, W.heap.size = g := ⟨_, rfl⟩
  have HM0 : Hid (Mem W (W.alloc (.cells #[.int .u32 a, .int .u16 b] 35)) [(g, .cells #[.int .u32 a, .int .u16 b] 35 (0, 0))]) := (Mem.nil W).push1 hg.symm
  clear hp hv hm
  go_enter Tryd.func19, Tryd.ntmps19
  go_upto_region 1 with fail
  refine wp_letter (fun X => Mem W X [(g, .cells #[.int .u32 a, .int .u16 b] 35 (0, 0))]) (by exact HM0.out) ?_
  intro V0 hM0
  try simp only [hg]
  have q0 : V0.cell? ⟨g, 0, none⟩ = some (.int .u32 a) := hM0.cell 0 rfl 0
  have q1 : V0.cell? ⟨g, 1, none⟩ = some (.int .u16 b) := hM0.cell 0 rfl 1
  have C := HC.out V0 hM0.below
  have HB : Hid (Below W.heap.size W V0) := hM0.below
  clear HM0 hM0 HC hg
  go_wp2_with fail
  refine C.mono ?_
  rintro e V1 ⟨rfl, hb⟩
  have HB1 : Hid (Below W.heap.size W V1) := HB.out.trans (hb.mono HB.out.size)
  clear C hb HB q0 q1
  go_wp2_with fail
  go_ret
  exact ⟨by rw [← HD.out]; rfl, HB1.out⟩
/-- The document's ports: their box, and their list. -/
def RPs (xs : List Mk) (p : Nat) (B : List (Nat × Obj)) : Prop := ∃ v C, SlB 40 3 v xs.length (mx xs).flatten C ∧ B = (p, .cells #[v] 30 (0, 0)) :: C
theorem infoMk : (Tryd.prog.info? 40).map (fun i => (i.zero, i.size, i.bytes)) = some (some (.agg (mc (0, 0, 0)).toArray), 3, 12) := by kernel_rfl
theorem RPs.cell {w V : World} {xs : List Mk} {p : Nat} {B L : List (Nat × Obj)} (h : RPs xs p B) (hM : Mem w V (B ++ L)) : ∃ v, V.cell? ⟨p, 0, none⟩ = some v ∧ Rw V 3 v (mx xs) := by
  obtain ⟨v, C, h1, rfl⟩ := h
  have e : (mx xs).length = xs.length := by simp [mx]
  rw [← e] at h1
  exact ⟨v, hM.cell 0 rfl 0, h1.rw mx_len hM.sub⟩
set_option maxHeartbeats 8000000 in
theorem rhold17_any {w W : World} {p : Nat} {xs : List Mk} {B L : List (Nat × Obj)} (h : RPs xs p B) (hM : Mem w W (B ++ L)) (hn : xs.length ≤ 100000) (pr a b : Int) :
    Calls Tryd.prog 14 #[.pointer (some ⟨p, 0, none⟩), .int .u8 pr, .agg #[.int .u32 a, .int .u16 b]] W fun e W' => e = .returned (.int .i64 (if (pr, a, b) ∈ xs then 121 else 0)) ∧ ∃ B', RPs (if (pr, a, b) ∈ xs then xs else xs ++ [(pr, a, b)]) p B' ∧ Mem w W' (B' ++ L) := by
  obtain ⟨vv, hcv, hrv⟩ := h.cell hM
  have HC : Hid (∀ V, Below W.heap.size W V → Calls Tryd.prog 19 #[.pointer (some ⟨p, 0, none⟩), .int .u8 pr, .agg #[.int .u32 a, .int .u16 b]] V fun e W' => e = .returned (.bool (decide ((pr, a, b) ∈ xs))) ∧ Below V.heap.size V W') := fun V hV => rhas17_any (by rw [hV.cell (p := ⟨p, 0, none⟩) (cell_lt hcv)]; exact hcv) (hrv.below mx_ne hV (Nat.le_refl _)) pr a b
  obtain ⟨g, hg⟩ : ∃ g, W.heap.size = g := ⟨_, rfl⟩
  have HM0 : Hid (Mem w (W.alloc (.cells #[.int .u32 a, .int .u16 b] 35)) ((B ++ L) ++ [(g, .cells #[.int .u32 a, .int .u16 b] 35 (0, 0))])) := hM.push g _ hg.symm
  have HB0 : Hid (Below W.heap.size W (W.alloc (.cells #[.int .u32 a, .int .u16 b] 35))) := (Below.refl _ _).alloc (Nat.le_refl _) _
  have HR : Hid (RPs xs p B) := h
  clear h hM hcv hrv
  by_cases hin : (pr, a, b) ∈ xs
  · simp only [hin, decide_true, if_true] at HC ⊢
    go_enter Tryd.func14, Tryd.ntmps14
    go_upto_region 1 with fail
    refine wp_letter (fun X => Mem w X ((B ++ L) ++ [(g, .cells #[.int .u32 a, .int .u16 b] 35 (0, 0))]) ∧ Below W.heap.size W X) (by exact ⟨HM0.out, HB0.out⟩) ?_
    rintro V0 ⟨hM0, hB0⟩
    try simp only [hg]
    have hM0' := hM0.perm List.perm_append_comm
    have q0 : V0.cell? ⟨g, 0, none⟩ = some (.int .u32 a) := hM0'.cell 0 rfl 0
    have q1 : V0.cell? ⟨g, 1, none⟩ = some (.int .u16 b) := hM0'.cell 0 rfl 1
    have C := HC.out V0 hB0
    have HM1 : Hid (Mem w V0 (B ++ L)) := hM0'.sub
    clear HM0 hM0 HC hg hM0' hB0 HB0 hin
    go_wp2_with fail
    refine C.mono ?_
    rintro e V1 ⟨rfl, hb⟩
    have HQ : Hid (Mem w V1 (B ++ L)) := HM1.out.after hb
    clear C hb HM1 q0 q1
    go_wp2_with fail
    go_ret
    exact ⟨rfl, B, HR.out, HQ.out⟩
  · simp only [hin, decide_false, if_false] at HC ⊢
    go_enter Tryd.func14, Tryd.ntmps14
    go_upto_region 1 with fail
    refine wp_letter (fun X => Mem w X ((B ++ L) ++ [(g, .cells #[.int .u32 a, .int .u16 b] 35 (0, 0))]) ∧ Below W.heap.size W X) (by exact ⟨HM0.out, HB0.out⟩) ?_
    rintro V0 ⟨hM0, hB0⟩
    try simp only [hg]
    have hM0' := hM0.perm List.perm_append_comm
    have q0 : V0.cell? ⟨g, 0, none⟩ = some (.int .u32 a) := hM0'.cell 0 rfl 0
    have q1 : V0.cell? ⟨g, 1, none⟩ = some (.int .u16 b) := hM0'.cell 0 rfl 1
    have C := HC.out V0 hB0
    have HM1 : Hid (Mem w V0 ((g, .cells #[.int .u32 a, .int .u16 b] 35 (0, 0)) :: (B ++ L))) := hM0'
    clear HM0 hM0 HC hg hM0' hB0 HB0 hin
    go_wp2_with fail
    refine C.mono ?_
    rintro e V1 ⟨rfl, hb⟩
    have hM1 := HM1.out.after hb
    clear C hb HM1 q0 q1
    obtain ⟨v, C, hs, rfl⟩ := HR.out
    clear HR
    have HS : Hid (∀ V, Below V1.heap.size V1 V → V.cell? ⟨g, 0, none⟩ = some (.int .u32 a) ∧ V.cell? ⟨g, 1, none⟩ = some (.int .u16 b)) := fun V hV => ⟨(hM1.after hV).cell 0 rfl 0, (hM1.after hV).cell 0 rfl 1⟩
    have hb1 : Below V1.heap.size V1 V1.drew := (Below.refl _ _).drew
    have p1 : V1.cell? ⟨p, 0, none⟩ = some v := hM1.cell 1 rfl 0
    have hb2 : Below V1.heap.size V1 (V1.alloc (.cells #[.int .u8 pr, .int .u32 a, .int .u16 b] 40)).drew := ((Below.refl _ _).alloc (Nat.le_refl _) _).drew
    have hM3 := hM1.after hb2
    have p2 : (V1.alloc (.cells #[.int .u8 pr, .int .u32 a, .int .u16 b] 40)).cell? ⟨p, 0, none⟩ = some v := hM3.cell 1 rfl 0
    obtain ⟨v', V4, C', hrun, hM4, hs4⟩ := slb_append (ty := 28) (V := (V1.alloc (.cells #[.int .u8 pr, .int .u32 a, .int .u16 b] 40)).drew) Tryd.underlying28 infoMk (by kernel_rfl) (by decide) hs (hM3.perm (show List.Perm ((g, .cells #[.int .u32 a, .int .u16 b] 35 (0, 0)) :: (p, .cells #[v] 30 (0, 0)) :: C ++ L) (C ++ ((g, .cells #[.int .u32 a, .int .u16 b] 35 (0, 0)) :: (p, .cells #[v] 30 (0, 0)) :: L)) by
      classical
      rw [List.perm_iff_count]
      intro q
      simp only [List.cons_append, List.count_append, List.count_cons]
      omega)) ⟨V1.heap.size, 0, none⟩ 1 1 (mc (pr, a, b)) rfl (fun j u hj => by
        rw [Addr.add_mid, Nat.zero_add]
        have e := World.cell?_alloc_new V1 (mc (pr, a, b)).toArray 40 j
        refine Eq.trans e ?_
        simpa using hj) (by intro u hu; simp only [mc, List.mem_cons, List.not_mem_nil, or_false] at hu; rcases hu with rfl | rfl | rfl <;> rfl) (by unfold maxLen; omega) (by omega)
    obtain ⟨qa, qc, rfl, -, -⟩ := hs4.slice
    have hM5 := hM4.perm (show List.Perm (C' ++ ((g, .cells #[.int .u32 a, .int .u16 b] 35 (0, 0)) :: (p, .cells #[v] 30 (0, 0)) :: L)) ((p, .cells #[v] 30 (0, 0)) :: (g, .cells #[.int .u32 a, .int .u16 b] 35 (0, 0)) :: (C' ++ L)) by
      classical
      rw [List.perm_iff_count]
      intro q
      simp only [List.count_append, List.count_cons]
      omega)
    have hM6 := hM5.set 0 rfl 0 (.slice qa (xs.length + 1) qc)
    have c4 : V4.cell? ⟨p, 0, none⟩ = some v := hM5.cell 0 rfl 0
    have f4 : V4.frozen? ⟨p, 0, none⟩ = false := hM5.free 0 rfl 0
    have d0 : V4.cell? ⟨g, 0, none⟩ = some (.int .u32 a) := hM5.cell 1 rfl 0
    have d1 : V4.cell? ⟨g, 1, none⟩ = some (.int .u16 b) := hM5.cell 1 rfl 1
    have e0 : (V4.setCell ⟨p, 0, none⟩ (.slice qa (xs.length + 1) qc)).cell? ⟨g, 0, none⟩ = some (.int .u32 a) := hM6.cell 1 rfl 0
    have e1 : (V4.setCell ⟨p, 0, none⟩ (.slice qa (xs.length + 1) qc)).cell? ⟨g, 1, none⟩ = some (.int .u16 b) := hM6.cell 1 rfl 1
    have HQ : Hid (∃ B', RPs (xs ++ [(pr, a, b)]) p B' ∧ Mem w (V4.setCell ⟨p, 0, none⟩ (.slice qa (xs.length + 1) qc)) (B' ++ L)) := by
      refine ⟨_, ⟨.slice qa (xs.length + 1) qc, C', ?_, rfl⟩, ?_⟩
      · have e : (xs ++ [(pr, a, b)]).length = xs.length + 1 := by simp
        have e' : (mx (xs ++ [(pr, a, b)])).flatten = (mx xs).flatten ++ mc (pr, a, b) := by simp [mx]
        rw [e, e']
        exact hs4
      · exact (hM6.perm (List.Perm.swap _ _ _)).sub
    clear hM1 hM3 hM4 hM5 hM6 hs hs4 hn
    go_upto_region 3 with fail
    refine wp_region_held_drew (S := fun V => V.cell? ⟨g, 0, none⟩ = some (.int .u32 a) ∧ V.cell? ⟨g, 1, none⟩ = some (.int .u16 b)) (by kernel_rfl) (HS.out _ hb1) (fun hHeld => ?_)
    refine wpAnyH_take (i := 0) (v := ?_) rfl (by kernel_rfl) (by kernel_rfl) (by kernel_rfl) (fun _ _ _ h => h) (Or.inl ⟨by rfl, ?aay0⟩) (by assumption) ?aar0
    case aay0 =>
      intro w hSw
      (try dsimp only at hSw)
      go_simp
      all_goals with_reducible rfl
    try simp only [List.getElem_toArray, List.getElem_cons_zero, List.getElem_cons_succ, Act.put, List.setIfInBounds_toArray, List.set_cons_zero, List.set_cons_succ]
    refine wpAnyH_take (i := 1) (v := ?_) rfl (by kernel_rfl) (by kernel_rfl) (by kernel_rfl) (fun _ _ _ h => h) (Or.inl ⟨by rfl, ?aay1⟩) (by assumption) ?aar1
    case aay1 =>
      intro w hSw
      (try dsimp only at hSw)
      go_simp
      all_goals with_reducible rfl
    try simp only [List.getElem_toArray, List.getElem_cons_zero, List.getElem_cons_succ, Act.put, List.setIfInBounds_toArray, List.set_cons_zero, List.set_cons_succ]
    refine wpAnyH_take (i := 2) (v := ?_) rfl (by kernel_rfl) (by kernel_rfl) (by kernel_rfl) (fun _ _ _ h => h) (Or.inl ⟨by rfl, ?aay2⟩) (by assumption) ?aar2
    case aay2 =>
      intro w hSw
      (try dsimp only at hSw)
      go_simp
      all_goals with_reducible rfl
    try simp only [List.getElem_toArray, List.getElem_cons_zero, List.getElem_cons_succ, Act.put, List.setIfInBounds_toArray, List.set_cons_zero, List.set_cons_succ]
    refine wpAnyH_take (i := 3) (v := ?_) rfl (by kernel_rfl) (by kernel_rfl) (by kernel_rfl) (fun _ _ _ h => h) (Or.inl ⟨by rfl, ?aay3⟩) (by assumption) ?aar3
    case aay3 =>
      intro w hSw
      (try dsimp only at hSw)
      go_simp
      all_goals with_reducible rfl
    try simp only [List.getElem_toArray, List.getElem_cons_zero, List.getElem_cons_succ, Act.put, List.setIfInBounds_toArray, List.set_cons_zero, List.set_cons_succ]
    refine wpAnyH_take (i := 5) (v := ?_) rfl (by kernel_rfl) (by kernel_rfl) (by kernel_rfl) (fun _ _ _ h => h) (Or.inl ⟨by rfl, ?aay5⟩) (by assumption) ?aar5
    case aay5 =>
      intro w hSw
      (try dsimp only at hSw)
      go_simp
      all_goals with_reducible rfl
    try simp only [List.getElem_toArray, List.getElem_cons_zero, List.getElem_cons_succ, Act.put, List.setIfInBounds_toArray, List.set_cons_zero, List.set_cons_succ]
    refine wpAnyH_take (i := 6) (v := ?_) rfl (by kernel_rfl) (by kernel_rfl) (by kernel_rfl) (fun _ _ _ h => h) (Or.inl ⟨by rfl, ?aay6⟩) (by assumption) ?aar6
    case aay6 =>
      intro w hSw
      (try dsimp only at hSw)
      go_simp
      all_goals with_reducible rfl
    try simp only [List.getElem_toArray, List.getElem_cons_zero, List.getElem_cons_succ, Act.put, List.setIfInBounds_toArray, List.set_cons_zero, List.set_cons_succ]
    refine wpAnyH_take (i := 7) (v := ?_) rfl (by kernel_rfl) (by kernel_rfl) (by kernel_rfl) (fun _ _ _ h => h) (Or.inl ⟨by rfl, ?aay7⟩) (by assumption) ?aar7
    case aay7 =>
      intro w hSw
      (try dsimp only at hSw)
      go_simp
      all_goals with_reducible rfl
    try simp only [List.getElem_toArray, List.getElem_cons_zero, List.getElem_cons_succ, Act.put, List.setIfInBounds_toArray, List.set_cons_zero, List.set_cons_succ]
    refine wpAnyH_ready (rs := [4, 8]) (by kernel_rfl) (by simp) ?_
    refine AllReadyH.cons rfl (fun KK hK => ?_) (AllReadyH.cons rfl (fun KK hK => ?_) AllReadyH.nil)
    · go_simp
      refine hK.out _ _ (by first | exact HS.out _ hb1 | exact HS.out _ hb2 | exact ⟨d0, d1⟩ | exact ⟨e0, e1⟩) (fun hHeld => ?_)
      clear hK KK
      try simp only [List.getElem_toArray, List.getElem_cons_zero, List.getElem_cons_succ, Act.put, List.setIfInBounds_toArray, List.set_cons_zero, List.set_cons_succ]
      refine wpAnyH_ready (rs := [8]) (by kernel_rfl) (by simp) ?_
      refine AllReadyH.cons rfl (fun KK hK => ?_) AllReadyH.nil
      go_simp
      refine hK.out _ _ (by first | exact HS.out _ hb1 | exact HS.out _ hb2 | exact ⟨d0, d1⟩ | exact ⟨e0, e1⟩) (fun hHeld => ?_)
      clear hK KK
      try simp only [List.getElem_toArray, List.getElem_cons_zero, List.getElem_cons_succ, Act.put, List.setIfInBounds_toArray, List.set_cons_zero, List.set_cons_succ]
      refine wpAnyH_ready (rs := [9]) (by kernel_rfl) (by simp) ?_
      refine AllReadyH.cons rfl (fun KK hK => ?_) AllReadyH.nil
      refine step_app (ty := 28) rfl (.tmp 15) (.tmp 19) 28 28 rfl (by simp [Act.eval]) (by simp [Act.eval]) hrun rfl ?_
      refine hK.out _ _ (by first | exact HS.out _ hb1 | exact HS.out _ hb2 | exact ⟨d0, d1⟩ | exact ⟨e0, e1⟩) (fun hHeld => ?_)
      clear hK KK
      try simp only [List.getElem_toArray, List.getElem_cons_zero, List.getElem_cons_succ, Act.put, List.setIfInBounds_toArray, List.set_cons_zero, List.set_cons_succ]
      refine wpAnyH_take (i := 10) (v := ?_) rfl (by kernel_rfl) (by kernel_rfl) (by kernel_rfl) (fun _ _ _ h => h) (Or.inl ⟨by rfl, ?abzy10⟩) (by assumption) ?abzr10
      case abzy10 =>
        intro w hSw
        (try dsimp only at hSw)
        go_simp
        all_goals with_reducible rfl
      try simp only [List.getElem_toArray, List.getElem_cons_zero, List.getElem_cons_succ, Act.put, List.setIfInBounds_toArray, List.set_cons_zero, List.set_cons_succ]
      refine wpAnyH_take (i := 11) (v := ?_) rfl (by kernel_rfl) (by kernel_rfl) (by kernel_rfl) (fun _ _ _ h => h) (Or.inl ⟨by rfl, ?abzy11⟩) (by assumption) ?abzr11
      case abzy11 =>
        intro w hSw
        (try dsimp only at hSw)
        go_simp
        all_goals with_reducible rfl
      try simp only [List.getElem_toArray, List.getElem_cons_zero, List.getElem_cons_succ, Act.put, List.setIfInBounds_toArray, List.set_cons_zero, List.set_cons_succ]
      refine wpAnyH_ready (rs := [12]) (by kernel_rfl) (by simp) ?_
      refine AllReadyH.cons rfl (fun KK hK => ?_) AllReadyH.nil
      go_simp
      refine hK.out _ _ (by first | exact HS.out _ hb1 | exact HS.out _ hb2 | exact ⟨d0, d1⟩ | exact ⟨e0, e1⟩) (fun hHeld => ?_)
      clear hK KK
      try simp only [List.getElem_toArray, List.getElem_cons_zero, List.getElem_cons_succ, Act.put, List.setIfInBounds_toArray, List.set_cons_zero, List.set_cons_succ]
      refine wpAnyH_done (by kernel_rfl) ?_ _
      go_wp2_with fail
      go_ret
      exact ⟨rfl, HQ.out⟩
    · go_simp
      refine hK.out _ _ (by first | exact HS.out _ hb1 | exact HS.out _ hb2 | exact ⟨d0, d1⟩ | exact ⟨e0, e1⟩) (fun hHeld => ?_)
      clear hK KK
      try simp only [List.getElem_toArray, List.getElem_cons_zero, List.getElem_cons_succ, Act.put, List.setIfInBounds_toArray, List.set_cons_zero, List.set_cons_succ]
      refine wpAnyH_ready (rs := [4]) (by kernel_rfl) (by simp) ?_
      refine AllReadyH.cons rfl (fun KK hK => ?_) AllReadyH.nil
      go_simp
      refine hK.out _ _ (by first | exact HS.out _ hb1 | exact HS.out _ hb2 | exact ⟨d0, d1⟩ | exact ⟨e0, e1⟩) (fun hHeld => ?_)
      clear hK KK
      try simp only [List.getElem_toArray, List.getElem_cons_zero, List.getElem_cons_succ, Act.put, List.setIfInBounds_toArray, List.set_cons_zero, List.set_cons_succ]
      refine wpAnyH_ready (rs := [9]) (by kernel_rfl) (by simp) ?_
      refine AllReadyH.cons rfl (fun KK hK => ?_) AllReadyH.nil
      refine step_app (ty := 28) rfl (.tmp 15) (.tmp 19) 28 28 rfl (by simp [Act.eval]) (by simp [Act.eval]) hrun rfl ?_
      refine hK.out _ _ (by first | exact HS.out _ hb1 | exact HS.out _ hb2 | exact ⟨d0, d1⟩ | exact ⟨e0, e1⟩) (fun hHeld => ?_)
      clear hK KK
      try simp only [List.getElem_toArray, List.getElem_cons_zero, List.getElem_cons_succ, Act.put, List.setIfInBounds_toArray, List.set_cons_zero, List.set_cons_succ]
      refine wpAnyH_take (i := 10) (v := ?_) rfl (by kernel_rfl) (by kernel_rfl) (by kernel_rfl) (fun _ _ _ h => h) (Or.inl ⟨by rfl, ?aczy10⟩) (by assumption) ?aczr10
      case aczy10 =>
        intro w hSw
        (try dsimp only at hSw)
        go_simp
        all_goals with_reducible rfl
      try simp only [List.getElem_toArray, List.getElem_cons_zero, List.getElem_cons_succ, Act.put, List.setIfInBounds_toArray, List.set_cons_zero, List.set_cons_succ]
      refine wpAnyH_take (i := 11) (v := ?_) rfl (by kernel_rfl) (by kernel_rfl) (by kernel_rfl) (fun _ _ _ h => h) (Or.inl ⟨by rfl, ?aczy11⟩) (by assumption) ?aczr11
      case aczy11 =>
        intro w hSw
        (try dsimp only at hSw)
        go_simp
        all_goals with_reducible rfl
      try simp only [List.getElem_toArray, List.getElem_cons_zero, List.getElem_cons_succ, Act.put, List.setIfInBounds_toArray, List.set_cons_zero, List.set_cons_succ]
      refine wpAnyH_ready (rs := [12]) (by kernel_rfl) (by simp) ?_
      refine AllReadyH.cons rfl (fun KK hK => ?_) AllReadyH.nil
      go_simp
      refine hK.out _ _ (by first | exact HS.out _ hb1 | exact HS.out _ hb2 | exact ⟨d0, d1⟩ | exact ⟨e0, e1⟩) (fun hHeld => ?_)
      clear hK KK
      try simp only [List.getElem_toArray, List.getElem_cons_zero, List.getElem_cons_succ, Act.put, List.setIfInBounds_toArray, List.set_cons_zero, List.set_cons_succ]
      refine wpAnyH_done (by kernel_rfl) ?_ _
      go_wp2_with fail
      go_ret
      exact ⟨rfl, HQ.out⟩

end Po
end Go.Proofs.YtkbjiackjefkkaaDoor
