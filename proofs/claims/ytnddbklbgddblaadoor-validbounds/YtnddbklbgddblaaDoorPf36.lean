/-
  Which settings may be: what is asked of a tenant, question by question.
  Settings as text: the program's reader: the value of a word.
-/
import Derived.Test.YtnddbklbgddblaaDoorPf35
import Derived.Shelf.Abstract
import Derived.Laws.EntriesVeiled
namespace Go.Proofs.YtnddbklbgddblaaDoor
open Go.RowKit
open Va
open Ad (nam)
set_option linter.unusedVariables false
set_option linter.unusedSimpArgs false
set_option maxRecDepth 20000

set_option maxHeartbeats 2000000 in
theorem tq3 {W : World} {g : Nat} {t : Ten} (hv : Vs W) (h : TBo W g t) (hm : TSm t) : Ask W 50 #[.pointer (some ⟨g, 0, none⟩)] (nam t.name.data.toList) := by
  refine ⟨enters_of Tryd.func50 (by kernel_rfl) rfl, fun V hV => ?_⟩
  obtain ⟨tl, pa, sa, qa, pc, sc, qc, hg, hx⟩ := h.later hV
  have c0 := cell_tl hg hx.name
  have C := name_any (hv.below hV) t.name (by have := hm.1; omega)
  clear h hm hg hx hv
  simp only [List.append_toArray, List.cons_append, List.nil_append, Array.empty_append]
  generalize nam t.name.data.toList = B at *
  generalize t.name = s at *
  go_enter Tryd.func50, Tryd.ntmps50
  go_wp2_with fail
  refine C.mono ?_
  rintro _ X ⟨rfl, hb⟩
  go_wp2_with fail
  go_ret
  exact ⟨rfl, hb⟩
set_option maxHeartbeats 2000000 in
theorem tq4 {W : World} {g : Nat} {t : Ten} (h : TBo W g t) (hm : TSm t) : Ask W 52 #[.pointer (some ⟨g, 0, none⟩)] (wi t.vni 1 16777215) := by
  refine ⟨enters_of Tryd.func52 (by kernel_rfl) rfl, fun V hV => ?_⟩
  obtain ⟨tl, pa, sa, qa, pc, sc, qc, hg, hx⟩ := h.later hV
  have c0 := cell_tl hg hx.vni
  have C := within_u32 V t.vni 1 16777215
  clear h hm hg hx
  simp only [List.append_toArray, List.cons_append, List.nil_append, Array.empty_append]
  generalize wi t.vni 1 16777215 = B at *
  generalize t.vni = x at *
  go_enter Tryd.func52, Tryd.ntmps52
  go_wp2_with fail
  refine C.mono ?_
  rintro _ X ⟨rfl, rfl⟩
  go_wp2_with fail
  go_ret
  exact ⟨rfl, Below.refl _ _⟩
set_option maxHeartbeats 2000000 in
theorem tq5 {W : World} {g : Nat} {t : Ten} (h : TBo W g t) (hm : TSm t) : Ask W 54 #[.pointer (some ⟨g, 0, none⟩)] (decide ((t.pool.length : Int) ≤ 8)) := by
  refine ⟨enters_of Tryd.func54 (by kernel_rfl) rfl, fun V hV => ?_⟩
  obtain ⟨tl, pa, sa, qa, pc, sc, qc, hg, hx⟩ := h.later hV
  have c0 := cell_tl hg hx.pool
  clear h hm hg hx
  simp only [List.append_toArray, List.cons_append, List.nil_append, Array.empty_append]
  generalize t.pool.length = n at *
  go_enter Tryd.func54, Tryd.ntmps54
  go_wp2_with fail
  go_ret
  exact ⟨rfl, Below.refl _ _⟩
set_option maxHeartbeats 2000000 in
theorem tq6 {W : World} {g : Nat} {t : Ten} (h : TBo W g t) (hm : TSm t) : Ask W 55 #[.pointer (some ⟨g, 0, none⟩)] (unl t.pool) := by
  refine ⟨enters_of Tryd.func55 (by kernel_rfl) rfl, fun V hV => ?_⟩
  obtain ⟨tl, pa, sa, qa, pc, sc, qc, hg, hx⟩ := h.later hV
  have c0 := cell_tl hg hx.pool
  have C := unlike_any hx.rp hm.2.1
  clear h hm hg hx
  simp only [List.append_toArray, List.cons_append, List.nil_append, Array.empty_append]
  generalize unl t.pool = B at *
  generalize t.pool.length = n at *
  go_enter Tryd.func55, Tryd.ntmps55
  go_wp2_with fail
  refine C.mono ?_
  rintro _ X ⟨rfl, rfl⟩
  go_wp2_with fail
  go_ret
  exact ⟨rfl, Below.refl _ _⟩
set_option maxHeartbeats 2000000 in
theorem tq7 {W : World} {g : Nat} {t : Ten} (h : TBo W g t) (hm : TSm t) : Ask W 57 #[.pointer (some ⟨g, 0, none⟩)] (wi t.lo 1 t.hi) := by
  refine ⟨enters_of Tryd.func57 (by kernel_rfl) rfl, fun V hV => ?_⟩
  obtain ⟨tl, pa, sa, qa, pc, sc, qc, hg, hx⟩ := h.later hV
  have c0 := cell_tl hg hx.lo
  have c1 := cell_tl hg hx.hi
  have C := within_u16 V t.lo 1 t.hi
  clear h hm hg hx
  simp only [List.append_toArray, List.cons_append, List.nil_append, Array.empty_append]
  generalize wi t.lo 1 t.hi = B at *
  generalize t.lo = x at *
  generalize t.hi = y at *
  go_enter Tryd.func57, Tryd.ntmps57
  go_wp2_with fail
  refine C.mono ?_
  rintro _ X ⟨rfl, rfl⟩
  go_wp2_with fail
  go_ret
  exact ⟨rfl, Below.refl _ _⟩
set_option maxHeartbeats 2000000 in
theorem tq8 {W : World} {g : Nat} {t : Ten} (h : TBo W g t) (hm : TSm t) : Ask W 59 #[.pointer (some ⟨g, 0, none⟩)] (wi t.filter 0 2) := by
  refine ⟨enters_of Tryd.func59 (by kernel_rfl) rfl, fun V hV => ?_⟩
  obtain ⟨tl, pa, sa, qa, pc, sc, qc, hg, hx⟩ := h.later hV
  have c0 := cell_tl hg hx.filter
  have C := within_int V t.filter 0 2
  clear h hm hg hx
  simp only [List.append_toArray, List.cons_append, List.nil_append, Array.empty_append]
  generalize wi t.filter 0 2 = B at *
  generalize t.filter = x at *
  go_enter Tryd.func59, Tryd.ntmps59
  go_wp2_with fail
  refine C.mono ?_
  rintro _ X ⟨rfl, rfl⟩
  go_wp2_with fail
  go_ret
  exact ⟨rfl, Below.refl _ _⟩
set_option maxHeartbeats 2000000 in
theorem tq9 {W : World} {g : Nat} {t : Ten} (h : TBo W g t) (hm : TSm t) : Ask W 61 #[.pointer (some ⟨g, 0, none⟩)] (decide ((t.stat.length : Int) ≤ 16)) := by
  refine ⟨enters_of Tryd.func61 (by kernel_rfl) rfl, fun V hV => ?_⟩
  obtain ⟨tl, pa, sa, qa, pc, sc, qc, hg, hx⟩ := h.later hV
  have c0 := cell_tl hg hx.stat
  clear h hm hg hx
  simp only [List.append_toArray, List.cons_append, List.nil_append, Array.empty_append]
  generalize t.stat.length = n at *
  go_enter Tryd.func61, Tryd.ntmps61
  go_wp2_with fail
  go_ret
  exact ⟨rfl, Below.refl _ _⟩
set_option maxHeartbeats 2000000 in
theorem tq10 {W : World} {g : Nat} {t : Ten} (h : TBo W g t) (hm : TSm t) : Ask W 62 #[.pointer (some ⟨g, 0, none⟩)] (decide ((t.twi.length : Int) ≤ 16)) := by
  refine ⟨enters_of Tryd.func62 (by kernel_rfl) rfl, fun V hV => ?_⟩
  obtain ⟨tl, pa, sa, qa, pc, sc, qc, hg, hx⟩ := h.later hV
  have c0 := cell_tl hg hx.twi
  clear h hm hg hx
  simp only [List.append_toArray, List.cons_append, List.nil_append, Array.empty_append]
  generalize t.twi.length = n at *
  go_enter Tryd.func62, Tryd.ntmps62
  go_wp2_with fail
  go_ret
  exact ⟨rfl, Below.refl _ _⟩
set_option maxHeartbeats 2000000 in
theorem tq11 {W : World} {g : Nat} {t : Ten} (h : TBo W g t) (hm : TSm t) : Ask W 63 #[.pointer (some ⟨g, 0, none⟩)] (unl (fst' t.stat) && unl (snd' t.stat)) := by
  refine ⟨enters_of Tryd.func63 (by kernel_rfl) rfl, fun V hV => ?_⟩
  obtain ⟨tl, pa, sa, qa, pc, sc, qc, hg, hx⟩ := h.later hV
  have c0 := cell_tl hg hx.stat
  have C := firsts_any hx.rs hm.2.2.1
  have H2 : Hid (∀ X, Below V.heap.size V X → X.cell? ⟨g, 27, none⟩ = some (.slice sa t.stat.length sc) ∧ Calls Tryd.prog 65 #[.slice sa t.stat.length sc] X fun e w' => ∃ u, e = .returned u ∧ Rw w' 1 u (ux (snd' t.stat)) ∧ Below X.heap.size X w') := fun X hX => ⟨by rw [hX.cell (p := ⟨g, 27, none⟩) (cell_lt c0)]; exact c0, seconds_any (hx.later hX).rs hm.2.2.1⟩
  have HL : Hid (t.stat.length ≤ 1000000) := hm.2.2.1
  have hl1 : (fst' t.stat).length = t.stat.length := by simp [fst']
  have hl2 : (snd' t.stat).length = t.stat.length := by simp [snd']
  clear h hm hg hx
  simp only [List.append_toArray, List.cons_append, List.nil_append, Array.empty_append]
  obtain ⟨B1, hB1⟩ : ∃ B, unl (fst' t.stat) = B := ⟨_, rfl⟩
  rw [hB1]
  generalize fst' t.stat = L1 at *
  generalize snd' t.stat = L2 at *
  generalize t.stat.length = n at *
  go_enter Tryd.func63, Tryd.ntmps63
  go_wp2_with fail
  refine C.mono ?_
  rintro _ X ⟨u, rfl, hr, hb⟩
  have C1 := unlike_any hr (by rw [hl1]; exact HL.out)
  obtain ⟨k1, C2⟩ := H2.out X hb
  have HB : Hid (Below V.heap.size V X) := hb
  clear C hr hb H2 c0
  rw [hB1] at C1
  clear hB1
  cases B1 with
  | false =>
    go_wp2_with fail
    refine C1.mono ?_
    rintro _ _ ⟨rfl, rfl⟩
    go_wp2_with fail
    go_ret
    exact ⟨rfl, HB.out⟩
  | true =>
    go_wp2_with fail
    refine C1.mono ?_
    rintro _ _ ⟨rfl, rfl⟩
    go_wp2_with fail
    refine C2.mono ?_
    rintro _ X2 ⟨u2, rfl, hr2, hb2⟩
    have C3 := unlike_any hr2 (by rw [hl2]; exact HL.out)
    clear C2 C1 hr2
    have HB2 : Hid (Below V.heap.size V X2) := HB.out.trans (hb2.mono HB.out.size)
    clear hb2 HB
    go_wp2_with fail
    refine C3.mono ?_
    rintro _ _ ⟨rfl, rfl⟩
    go_wp2_with fail
    go_ret
    exact ⟨by simp, HB2.out⟩
set_option maxHeartbeats 2000000 in
theorem tq12 {W : World} {g : Nat} {t : Ten} (h : TBo W g t) (hm : TSm t) : Ask W 66 #[.pointer (some ⟨g, 0, none⟩)] (unl (fst' t.twi) && unl (snd' t.twi)) := by
  refine ⟨enters_of Tryd.func66 (by kernel_rfl) rfl, fun V hV => ?_⟩
  obtain ⟨tl, pa, sa, qa, pc, sc, qc, hg, hx⟩ := h.later hV
  have c0 := cell_tl hg hx.twi
  have C := firsts_any hx.rq hm.2.2.2
  have H2 : Hid (∀ X, Below V.heap.size V X → X.cell? ⟨g, 28, none⟩ = some (.slice qa t.twi.length qc) ∧ Calls Tryd.prog 65 #[.slice qa t.twi.length qc] X fun e w' => ∃ u, e = .returned u ∧ Rw w' 1 u (ux (snd' t.twi)) ∧ Below X.heap.size X w') := fun X hX => ⟨by rw [hX.cell (p := ⟨g, 28, none⟩) (cell_lt c0)]; exact c0, seconds_any (hx.later hX).rq hm.2.2.2⟩
  have HL : Hid (t.twi.length ≤ 1000000) := hm.2.2.2
  have hl1 : (fst' t.twi).length = t.twi.length := by simp [fst']
  have hl2 : (snd' t.twi).length = t.twi.length := by simp [snd']
  clear h hm hg hx
  simp only [List.append_toArray, List.cons_append, List.nil_append, Array.empty_append]
  obtain ⟨B1, hB1⟩ : ∃ B, unl (fst' t.twi) = B := ⟨_, rfl⟩
  rw [hB1]
  generalize fst' t.twi = L1 at *
  generalize snd' t.twi = L2 at *
  generalize t.twi.length = n at *
  go_enter Tryd.func66, Tryd.ntmps66
  go_wp2_with fail
  refine C.mono ?_
  rintro _ X ⟨u, rfl, hr, hb⟩
  have C1 := unlike_any hr (by rw [hl1]; exact HL.out)
  obtain ⟨k1, C2⟩ := H2.out X hb
  have HB : Hid (Below V.heap.size V X) := hb
  clear C hr hb H2 c0
  rw [hB1] at C1
  clear hB1
  cases B1 with
  | false =>
    go_wp2_with fail
    refine C1.mono ?_
    rintro _ _ ⟨rfl, rfl⟩
    go_wp2_with fail
    go_ret
    exact ⟨rfl, HB.out⟩
  | true =>
    go_wp2_with fail
    refine C1.mono ?_
    rintro _ _ ⟨rfl, rfl⟩
    go_wp2_with fail
    refine C2.mono ?_
    rintro _ X2 ⟨u2, rfl, hr2, hb2⟩
    have C3 := unlike_any hr2 (by rw [hl2]; exact HL.out)
    clear C2 C1 hr2
    have HB2 : Hid (Below V.heap.size V X2) := HB.out.trans (hb2.mono HB.out.size)
    clear hb2 HB
    go_wp2_with fail
    refine C3.mono ?_
    rintro _ _ ⟨rfl, rfl⟩
    go_wp2_with fail
    go_ret
    exact ⟨by simp, HB2.out⟩
set_option maxHeartbeats 2000000 in
theorem tp1 {W : World} {g : Nat} {t : Ten} (h : TBo W g t) (hm : TSm t) : PrU W 47 #[.pointer (some ⟨g, 0, none⟩)] (hs t.pool) := by
  refine ⟨enters_of Tryd.func47 (by kernel_rfl) rfl, fun x V hV => ?_⟩
  obtain ⟨tl, pa, sa, qa, pc, sc, qc, hg, hx⟩ := h.later hV
  have c0 := cell_tl hg hx.pool
  have C := contains_u hx.rp hm.2.1 x
  clear h hm hg hx
  simp only [List.append_toArray, List.cons_append, List.nil_append, Array.empty_append]
  generalize hs t.pool x = B at *
  generalize t.pool.length = n at *
  go_enter Tryd.func47, Tryd.ntmps47
  go_wp2_with fail
  refine C.mono ?_
  rintro _ X ⟨rfl, rfl⟩
  go_wp2_with fail
  go_ret
  exact ⟨rfl, Below.refl _ _⟩
set_option maxHeartbeats 2000000 in
theorem tp2 {W : World} {g : Nat} {t : Ten} (h : TBo W g t) (hm : TSm t) : PrU W 49 #[.pointer (some ⟨g, 0, none⟩)] (owns t) := by
  refine ⟨enters_of Tryd.func49 (by kernel_rfl) rfl, fun x V hV => ?_⟩
  obtain ⟨tl, pa, sa, qa, pc, sc, qc, hg, hx⟩ := h.later hV
  have C := owns_any hx.tv hm x
  have i33 := i33_of hx.len
  clear h hm hx
  simp only [List.append_toArray, List.cons_append, List.nil_append, Array.empty_append]
  generalize owns t x = B at *
  generalize tl.toArray = A at *
  go_enter Tryd.func49, Tryd.ntmps49
  go_wp2_with (refine wpList_load_row rfl 39 (.tmp 1) (by with_reducible rfl) g (by first | rfl | simp [Act.eval]) 39 A (0, 0) _ hg Tryd.underlying39 rfl i33 ?_)
  refine C.mono ?_
  rintro _ X ⟨rfl, hb⟩
  go_wp2_with fail
  go_ret
  exact ⟨rfl, hb⟩
set_option maxHeartbeats 2000000 in
theorem tq13 {W : World} {g : Nat} {t : Ten} (h : TBo W g t) (hm : TSm t) {g1 : Nat} (hc : W.cell? ⟨g1, 0, none⟩ = some (.func (.func 47) #[] #[.pointer (some ⟨g, 0, none⟩)])) : Ask W 67 #[.pointer (some ⟨g, 0, none⟩), .pointer (some ⟨g1, 0, none⟩)] ((snd' t.stat).any (hs t.pool)) := by
  refine ⟨enters_of Tryd.func67 (by kernel_rfl) rfl, fun V hV => ?_⟩
  obtain ⟨tl, pa, sa, qa, pc, sc, qc, hg, hx⟩ := h.later hV
  have c0 := cell_tl hg hx.stat
  have c1 : V.cell? ⟨g1, 0, none⟩ = some (.func (.func 47) #[] #[.pointer (some ⟨g, 0, none⟩)]) := by rw [hV.cell (p := ⟨g1, 0, none⟩) (cell_lt hc)]; exact hc
  have C : ∀ X, Below V.heap.size V X → Calls Tryd.prog 65 #[.slice sa t.stat.length sc] X fun e w' => ∃ u, e = .returned u ∧ Rw w' 1 u (ux (snd' t.stat)) ∧ Below V.heap.size V w' := fun X hb => by
    refine (seconds_any (hx.later hb).rs hm.2.2.1).mono ?_
    rintro _ Y ⟨u, h1, h2, h3⟩
    exact ⟨u, h1, h2, hb.trans (h3.mono hb.size)⟩
  have HS : Hid (∀ X, Below V.heap.size V X → X.cell? ⟨g, 27, none⟩ = some (.slice sa t.stat.length sc) ∧ X.cell? ⟨g1, 0, none⟩ = some (.func (.func 47) #[] #[.pointer (some ⟨g, 0, none⟩)])) := fun X hX => ⟨by rw [hX.cell (p := ⟨g, 27, none⟩) (cell_lt c0)]; exact c0, by rw [hX.cell (p := ⟨g1, 0, none⟩) (cell_lt c1)]; exact c1⟩
  have hl : (snd' t.stat).length ≤ 1000000 := by simp [snd']; exact hm.2.2.1
  have H2 : Hid (∀ X u, Below V.heap.size V X → Rw X 1 u (ux (snd' t.stat)) → Calls Tryd.prog 68 #[u, .func (.func 47) #[] #[.pointer (some ⟨g, 0, none⟩)]] X fun e w' => e = .returned (.bool ((snd' t.stat).any (hs t.pool))) ∧ Below V.heap.size V w') := fun X u hX hr => (containsf_u hr hl (tp1 (h.later (hV.trans (hX.mono hV.size))) hm)).mono (fun e w' hh => ⟨hh.1, hX.trans (hh.2.mono hX.size)⟩)
  clear h hm hg hx hc hl hV
  simp only [List.append_toArray, List.cons_append, List.nil_append, Array.empty_append]
  generalize (snd' t.stat).any (hs t.pool) = B at *
  generalize snd' t.stat = L1 at *
  generalize t.stat.length = n at *
  go_enter Tryd.func67, Tryd.ntmps67
  go_upto_region 1 with fail
  refine wp_region_held_drew (S := fun X => X.cell? ⟨g, 27, none⟩ = some (.slice sa n sc) ∧ X.cell? ⟨g1, 0, none⟩ = some (.func (.func 47) #[] #[.pointer (some ⟨g, 0, none⟩)])) (by kernel_rfl) (HS.out _ (by first | exact Below.refl _ _ | exact (Below.refl _ _).drew)) (fun hHeld => ?_)
  refine wpAnyH_take (i := 0) (v := ?_) rfl (by kernel_rfl) (by kernel_rfl) (by kernel_rfl) (fun _ _ _ h => h) (Or.inl ⟨by rfl, ?qy0⟩) (by assumption) ?qr0
  case qy0 =>
    intro w hSw
    (try dsimp only at hSw)
    go_simp
    all_goals with_reducible rfl
  try simp only [List.getElem_toArray, List.getElem_cons_zero, List.getElem_cons_succ, Act.put, List.setIfInBounds_toArray, List.set_cons_zero, List.set_cons_succ]
  refine wpAnyH_take (i := 1) (v := ?_) rfl (by kernel_rfl) (by kernel_rfl) (by kernel_rfl) (fun _ _ _ h => h) (Or.inl ⟨by rfl, ?qy1⟩) (by assumption) ?qr1
  case qy1 =>
    intro w hSw
    (try dsimp only at hSw)
    go_simp
    all_goals with_reducible rfl
  try simp only [List.getElem_toArray, List.getElem_cons_zero, List.getElem_cons_succ, Act.put, List.setIfInBounds_toArray, List.set_cons_zero, List.set_cons_succ]
  refine wpAnyH_take (i := 3) (v := ?_) rfl (by kernel_rfl) (by kernel_rfl) (by kernel_rfl) (fun _ _ _ h => h) (Or.inl ⟨by rfl, ?qy3⟩) (by assumption) ?qr3
  case qy3 =>
    intro w hSw
    (try dsimp only at hSw)
    go_simp
    all_goals with_reducible rfl
  try simp only [List.getElem_toArray, List.getElem_cons_zero, List.getElem_cons_succ, Act.put, List.setIfInBounds_toArray, List.set_cons_zero, List.set_cons_succ]
  refine wpAnyH_ready (rs := [2]) (by kernel_rfl) (by simp) ?_
  refine AllReadyH.cons rfl (fun K hK => ?_) AllReadyH.nil
  go_simp
  with_reducible refine (C _ (by first | exact Below.refl _ _ | exact (Below.refl _ _).drew)).mono ?_
  rintro _ X ⟨u, rfl, hr, hb⟩
  try go_wp2_with fail
  refine hK.out _ _ (HS.out X hb) (fun hHeld => ?_)
  clear hK K
  try simp only [List.getElem_toArray, List.getElem_cons_zero, List.getElem_cons_succ, Act.put, List.setIfInBounds_toArray, List.set_cons_zero, List.set_cons_succ]
  refine wpAnyH_ready (rs := [4]) (by kernel_rfl) (by simp) ?_
  refine AllReadyH.cons rfl (fun K hK => ?_) AllReadyH.nil
  go_simp
  with_reducible refine (H2.out X u hb hr).mono ?_
  rintro _ X2 ⟨rfl, hb2⟩
  try go_wp2_with fail
  refine hK.out _ _ (HS.out X2 hb2) (fun hHeld => ?_)
  clear hK K
  try simp only [List.getElem_toArray, List.getElem_cons_zero, List.getElem_cons_succ, Act.put, List.setIfInBounds_toArray, List.set_cons_zero, List.set_cons_succ]
  refine wpAnyH_take (i := 5) (v := ?_) rfl (by kernel_rfl) (by kernel_rfl) (by kernel_rfl) (fun _ _ _ h => h) (Or.inl ⟨by rfl, ?qy5⟩) (by assumption) ?qr5
  case qy5 =>
    intro w hSw
    (try dsimp only at hSw)
    go_simp
    all_goals with_reducible rfl
  try simp only [List.getElem_toArray, List.getElem_cons_zero, List.getElem_cons_succ, Act.put, List.setIfInBounds_toArray, List.set_cons_zero, List.set_cons_succ]
  refine wpAnyH_done (by kernel_rfl) ?_ _
  go_wp2_with fail
  go_ret
  exact ⟨rfl, hb2⟩
set_option maxHeartbeats 2000000 in
theorem tq14 {W : World} {g : Nat} {t : Ten} (h : TBo W g t) (hm : TSm t) {g1 : Nat} (hc : W.cell? ⟨g1, 0, none⟩ = some (.func (.func 49) #[] #[.pointer (some ⟨g, 0, none⟩)])) : Ask W 69 #[.pointer (some ⟨g, 0, none⟩), .pointer (some ⟨g1, 0, none⟩)] ((fst' t.twi).any (owns t)) := by
  refine ⟨enters_of Tryd.func69 (by kernel_rfl) rfl, fun V hV => ?_⟩
  obtain ⟨tl, pa, sa, qa, pc, sc, qc, hg, hx⟩ := h.later hV
  have c0 := cell_tl hg hx.twi
  have c1 : V.cell? ⟨g1, 0, none⟩ = some (.func (.func 49) #[] #[.pointer (some ⟨g, 0, none⟩)]) := by rw [hV.cell (p := ⟨g1, 0, none⟩) (cell_lt hc)]; exact hc
  have C : ∀ X, Below V.heap.size V X → Calls Tryd.prog 64 #[.slice qa t.twi.length qc] X fun e w' => ∃ u, e = .returned u ∧ Rw w' 1 u (ux (fst' t.twi)) ∧ Below V.heap.size V w' := fun X hb => by
    refine (firsts_any (hx.later hb).rq hm.2.2.2).mono ?_
    rintro _ Y ⟨u, h1, h2, h3⟩
    exact ⟨u, h1, h2, hb.trans (h3.mono hb.size)⟩
  have HS : Hid (∀ X, Below V.heap.size V X → X.cell? ⟨g, 28, none⟩ = some (.slice qa t.twi.length qc) ∧ X.cell? ⟨g1, 0, none⟩ = some (.func (.func 49) #[] #[.pointer (some ⟨g, 0, none⟩)])) := fun X hX => ⟨by rw [hX.cell (p := ⟨g, 28, none⟩) (cell_lt c0)]; exact c0, by rw [hX.cell (p := ⟨g1, 0, none⟩) (cell_lt c1)]; exact c1⟩
  have hl : (fst' t.twi).length ≤ 1000000 := by simp [fst']; exact hm.2.2.2
  have H2 : Hid (∀ X u, Below V.heap.size V X → Rw X 1 u (ux (fst' t.twi)) → Calls Tryd.prog 68 #[u, .func (.func 49) #[] #[.pointer (some ⟨g, 0, none⟩)]] X fun e w' => e = .returned (.bool ((fst' t.twi).any (owns t))) ∧ Below V.heap.size V w') := fun X u hX hr => (containsf_u hr hl (tp2 (h.later (hV.trans (hX.mono hV.size))) hm)).mono (fun e w' hh => ⟨hh.1, hX.trans (hh.2.mono hX.size)⟩)
  clear h hm hg hx hc hl hV
  simp only [List.append_toArray, List.cons_append, List.nil_append, Array.empty_append]
  generalize (fst' t.twi).any (owns t) = B at *
  generalize fst' t.twi = L1 at *
  generalize t.twi.length = n at *
  go_enter Tryd.func69, Tryd.ntmps69
  go_upto_region 1 with fail
  refine wp_region_held_drew (S := fun X => X.cell? ⟨g, 28, none⟩ = some (.slice qa n qc) ∧ X.cell? ⟨g1, 0, none⟩ = some (.func (.func 49) #[] #[.pointer (some ⟨g, 0, none⟩)])) (by kernel_rfl) (HS.out _ (by first | exact Below.refl _ _ | exact (Below.refl _ _).drew)) (fun hHeld => ?_)
  refine wpAnyH_take (i := 0) (v := ?_) rfl (by kernel_rfl) (by kernel_rfl) (by kernel_rfl) (fun _ _ _ h => h) (Or.inl ⟨by rfl, ?qy0⟩) (by assumption) ?qr0
  case qy0 =>
    intro w hSw
    (try dsimp only at hSw)
    go_simp
    all_goals with_reducible rfl
  try simp only [List.getElem_toArray, List.getElem_cons_zero, List.getElem_cons_succ, Act.put, List.setIfInBounds_toArray, List.set_cons_zero, List.set_cons_succ]
  refine wpAnyH_take (i := 1) (v := ?_) rfl (by kernel_rfl) (by kernel_rfl) (by kernel_rfl) (fun _ _ _ h => h) (Or.inl ⟨by rfl, ?qy1⟩) (by assumption) ?qr1
  case qy1 =>
    intro w hSw
    (try dsimp only at hSw)
    go_simp
    all_goals with_reducible rfl
  try simp only [List.getElem_toArray, List.getElem_cons_zero, List.getElem_cons_succ, Act.put, List.setIfInBounds_toArray, List.set_cons_zero, List.set_cons_succ]
  refine wpAnyH_take (i := 3) (v := ?_) rfl (by kernel_rfl) (by kernel_rfl) (by kernel_rfl) (fun _ _ _ h => h) (Or.inl ⟨by rfl, ?qy3⟩) (by assumption) ?qr3
  case qy3 =>
    intro w hSw
    (try dsimp only at hSw)
    go_simp
    all_goals with_reducible rfl
  try simp only [List.getElem_toArray, List.getElem_cons_zero, List.getElem_cons_succ, Act.put, List.setIfInBounds_toArray, List.set_cons_zero, List.set_cons_succ]
  refine wpAnyH_ready (rs := [2]) (by kernel_rfl) (by simp) ?_
  refine AllReadyH.cons rfl (fun K hK => ?_) AllReadyH.nil
  go_simp
  with_reducible refine (C _ (by first | exact Below.refl _ _ | exact (Below.refl _ _).drew)).mono ?_
  rintro _ X ⟨u, rfl, hr, hb⟩
  try go_wp2_with fail
  refine hK.out _ _ (HS.out X hb) (fun hHeld => ?_)
  clear hK K
  try simp only [List.getElem_toArray, List.getElem_cons_zero, List.getElem_cons_succ, Act.put, List.setIfInBounds_toArray, List.set_cons_zero, List.set_cons_succ]
  refine wpAnyH_ready (rs := [4]) (by kernel_rfl) (by simp) ?_
  refine AllReadyH.cons rfl (fun K hK => ?_) AllReadyH.nil
  go_simp
  with_reducible refine (H2.out X u hb hr).mono ?_
  rintro _ X2 ⟨rfl, hb2⟩
  try go_wp2_with fail
  refine hK.out _ _ (HS.out X2 hb2) (fun hHeld => ?_)
  clear hK K
  try simp only [List.getElem_toArray, List.getElem_cons_zero, List.getElem_cons_succ, Act.put, List.setIfInBounds_toArray, List.set_cons_zero, List.set_cons_succ]
  refine wpAnyH_take (i := 5) (v := ?_) rfl (by kernel_rfl) (by kernel_rfl) (by kernel_rfl) (fun _ _ _ h => h) (Or.inl ⟨by rfl, ?qy5⟩) (by assumption) ?qr5
  case qy5 =>
    intro w hSw
    (try dsimp only at hSw)
    go_simp
    all_goals with_reducible rfl
  try simp only [List.getElem_toArray, List.getElem_cons_zero, List.getElem_cons_succ, Act.put, List.setIfInBounds_toArray, List.set_cons_zero, List.set_cons_succ]
  refine wpAnyH_done (by kernel_rfl) ?_ _
  go_wp2_with fail
  go_ret
  exact ⟨rfl, hb2⟩
set_option maxHeartbeats 2000000 in
theorem tq15 {W : World} {g : Nat} {t : Ten} (h : TBo W g t) (hm : TSm t) : Ask W 70 #[.pointer (some ⟨g, 0, none⟩)] (wi t.sess 1 256) := by
  refine ⟨enters_of Tryd.func70 (by kernel_rfl) rfl, fun V hV => ?_⟩
  obtain ⟨tl, pa, sa, qa, pc, sc, qc, hg, hx⟩ := h.later hV
  have c0 := cell_tl hg hx.sess
  have C := within_int V t.sess 1 256
  clear h hm hg hx
  simp only [List.append_toArray, List.cons_append, List.nil_append, Array.empty_append]
  generalize wi t.sess 1 256 = B at *
  generalize t.sess = x at *
  go_enter Tryd.func70, Tryd.ntmps70
  go_wp2_with fail
  refine C.mono ?_
  rintro _ X ⟨rfl, rfl⟩
  go_wp2_with fail
  go_ret
  exact ⟨rfl, Below.refl _ _⟩
set_option maxHeartbeats 2000000 in
theorem tq16 {W : World} {g : Nat} {t : Ten} (h : TBo W g t) (hm : TSm t) : Ask W 71 #[.pointer (some ⟨g, 0, none⟩)] (wi t.queue 1 64) := by
  refine ⟨enters_of Tryd.func71 (by kernel_rfl) rfl, fun V hV => ?_⟩
  obtain ⟨tl, pa, sa, qa, pc, sc, qc, hg, hx⟩ := h.later hV
  have c0 := cell_tl hg hx.queue
  have C := within_int V t.queue 1 64
  clear h hm hg hx
  simp only [List.append_toArray, List.cons_append, List.nil_append, Array.empty_append]
  generalize wi t.queue 1 64 = B at *
  generalize t.queue = x at *
  go_enter Tryd.func71, Tryd.ntmps71
  go_wp2_with fail
  refine C.mono ?_
  rintro _ X ⟨rfl, rfl⟩
  go_wp2_with fail
  go_ret
  exact ⟨rfl, Below.refl _ _⟩
set_option maxHeartbeats 2000000 in
theorem tq18 {W : World} {g : Nat} {t : Ten} (h : TBo W g t) (hm : TSm t) : Ask W 73 #[.pointer (some ⟨g, 0, none⟩)] (wi t.burst 1 1000000) := by
  refine ⟨enters_of Tryd.func73 (by kernel_rfl) rfl, fun V hV => ?_⟩
  obtain ⟨tl, pa, sa, qa, pc, sc, qc, hg, hx⟩ := h.later hV
  have c0 := cell_tl hg hx.burst
  have C := within_u32 V t.burst 1 1000000
  clear h hm hg hx
  simp only [List.append_toArray, List.cons_append, List.nil_append, Array.empty_append]
  generalize wi t.burst 1 1000000 = B at *
  generalize t.burst = x at *
  go_enter Tryd.func73, Tryd.ntmps73
  go_wp2_with fail
  refine C.mono ?_
  rintro _ X ⟨rfl, rfl⟩
  go_wp2_with fail
  go_ret
  exact ⟨rfl, Below.refl _ _⟩
set_option maxHeartbeats 2000000 in
theorem tq17 {W : World} {g : Nat} {t : Ten} (h : TBo W g t) (hm : TSm t) : Ask W 72 #[.pointer (some ⟨g, 0, none⟩)] (decide (t.rate ≤ 1000000)) := by
  refine ⟨enters_of Tryd.func72 (by kernel_rfl) rfl, fun V hV => ?_⟩
  obtain ⟨tl, pa, sa, qa, pc, sc, qc, hg, hx⟩ := h.later hV
  have c0 := cell_tl hg hx.rate
  clear h hm hg hx
  simp only [List.append_toArray, List.cons_append, List.nil_append, Array.empty_append]
  generalize t.rate = n at *
  go_enter Tryd.func72, Tryd.ntmps72
  go_wp2_with fail
  go_ret
  exact ⟨rfl, Below.refl _ _⟩
set_option maxHeartbeats 2000000 in
theorem tq19 {W : World} {g : Nat} {t : Ten} (h : TBo W g t) (hm : TSm t) : Ask W 74 #[.pointer (some ⟨g, 0, none⟩)] (t.vtep != 0) := by
  refine ⟨enters_of Tryd.func74 (by kernel_rfl) rfl, fun V hV => ?_⟩
  obtain ⟨tl, pa, sa, qa, pc, sc, qc, hg, hx⟩ := h.later hV
  have c0 := cell_tl hg hx.vtep
  clear h hm hg hx
  simp only [List.append_toArray, List.cons_append, List.nil_append, Array.empty_append]
  generalize t.vtep = n at *
  go_enter Tryd.func74, Tryd.ntmps74
  go_wp2_with fail
  go_ret
  exact ⟨rfl, Below.refl _ _⟩
end Go.Proofs.YtnddbklbgddblaaDoor

namespace Go.Proofs.YtnddbklbgddblaaDoor
open Go.RowKit
open Cf
open La
open Ad
set_option linter.unusedVariables false
set_option linter.unusedSimpArgs false
set_option maxRecDepth 20000

end Go.Proofs.YtnddbklbgddblaaDoor

