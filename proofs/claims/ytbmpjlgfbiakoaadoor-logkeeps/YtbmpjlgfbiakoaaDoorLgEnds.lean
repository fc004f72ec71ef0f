/-
  The statements' own row of all records: one more behind it; lychlaw10.ends.
-/
import Derived.Test.YtbmpjlgfbiakoaaDoorLgLawTwice
namespace Go.Proofs.YtbmpjlgfbiakoaaDoor
open Go.RowKit
open Sm
set_option linter.unusedVariables false

theorem perm_out {α : Type} (P1 P2 P3 G : α) (M X Y L K : List α) : (P1 :: P2 :: (M ++ (P3 :: (X ++ ((Y ++ (G :: L)) ++ K))))).Perm (Y ++ (G :: (P1 :: P2 :: (M ++ (P3 :: (X ++ (L ++ K))))))) := by
  classical
  refine List.perm_iff_count.mpr fun a => ?_
  simp only [List.count_append, List.count_cons]
  omega
theorem perm_in {α : Type} (P1 P2 P3 T : α) (M X Y L K : List α) : (Y ++ ((P1 :: P2 :: (M ++ (P3 :: (X ++ (L ++ K))))) ++ [T])).Perm (P1 :: P2 :: (M ++ (P3 :: (X ++ ((Y ++ L) ++ (K ++ [T])))))) := by
  classical
  refine List.perm_iff_count.mpr fun a => ?_
  simp only [List.count_append, List.count_cons, List.count_nil]
  omega
/-- One record more behind the row of all. -/
theorem Sy.more {w W : World} {p h m N : Nat} {D : Dk} {pl : Nat} {B : Int} {all : List (List Int)} {v : Value} {bl : List (List Int)} {Y L : List (Nat × Obj)} {g : Nat} {r : List Int} (hE : RS v bl Y) (H : Sy w W p h m N D pl B all (Y ++ ((g, .cells (bs r) 5 (0, 0)) :: L))) (hl : bl.length ≤ 1000) (hr : IsBytes r) (ty : TypeId) :
    ∃ a' c' Y' W', (Builtin.append_ #[33, 33] ty #[v, .slice (some ⟨W.heap.size, 0, none⟩) 1 1]).run Tryd.prog (W.alloc (.cells #[.slice (some ⟨g, 0, none⟩) r.length r.length] 22)) = .ok (.slice a' (bl.length + 1) c') W' ∧ RS (.slice a' (bl.length + 1) c') (bl ++ [r]) Y' ∧ Sy w W' p h m N D pl B all (Y' ++ L) := by
  obtain ⟨hc, ks, v0, X, K, h1, h2, h3, h4⟩ := H.at_
  have hk : (Bk.mk g r.length (bs r) r).Ok (Bk.mk g r.length (bs r) r).b.length := ⟨Nat.le_refl _, by simp, by show List.take _ (List.map _ _) = _; exact List.take_of_length_le (by simp), rfl, hr⟩
  have hM := (h1.st.mem.perm (perm_out _ _ _ _ _ _ _ _ _)).alloc (.cells #[.slice (some ⟨g, 0, none⟩) r.length r.length] 22 (0, 0))
  rw [List.append_assoc, List.cons_append] at hM
  obtain ⟨a', c', Y', W', e1, e2, e3⟩ := rs_append (k := Bk.mk g r.length (bs r) r) hE hM hk hl (ad := ⟨W.heap.size, 0, none⟩) (by
    have := ((Mem.nil W).push1 (o := .cells #[.slice (some ⟨g, 0, none⟩) r.length r.length] 22) rfl).cell 0 rfl 0
    exact this) ty
  refine ⟨a', c', Y', W', e1, e2, hc, ks, v0, X, K ++ [(W.heap.size, .cells #[.slice (some ⟨g, 0, none⟩) r.length r.length] 22 (0, 0))], h1.on ⟨?_, h1.st.heads, h1.st.ok⟩, h2, h3, h4⟩
  exact e3.perm (perm_in _ _ _ _ _ _ _ _ _)

/-- A row of rows, as its readers see it. -/
def Rws (W : World) (v : Value) (bl : List (List Int)) : Prop :=
  ∃ a c, v = .slice a bl.length c ∧ ∀ i r, bl[i]? = some r → ∃ b g gc, a = some ⟨b, 0, none⟩ ∧ W.cell? ⟨b, i, none⟩ = some (.slice (some ⟨g, 0, none⟩) r.length gc) ∧ Row W (some ⟨g, 0, none⟩) r
theorem rws_of {W : World} {v : Value} {bl : List (List Int)} {Y : List (Nat × Obj)} (h : RS v bl Y) (hY : ∀ x ∈ Y, W.heap[x.1]? = some x.2) (hb : ∀ r ∈ bl, r.length ≤ 1000000) : Rws W v bl := by
  obtain ⟨a, c, e⟩ := h.shape
  refine ⟨a, c, e, fun i r hi => ?_⟩
  obtain ⟨hh, cap, g, gc, cur, ev2, ⟨hc, hm1, hm2⟩, hm3, hok⟩ := rs_at h hi
  rw [e] at ev2
  injection ev2 with e1 e2 e3
  refine ⟨hh, g, gc, e1, (cell_of (hY _ hm1) i).trans hm2, row_of_bk (cur := cur) (gc := gc) hok (hY _ hm3) (by have := hb r (List.mem_of_getElem? hi); omega)⟩

set_option maxRecDepth 20000 in
set_option maxHeartbeats 2000000 in
theorem ends_any {W : World} {v1 v2 : Value} {got all : List (List Int)} (h1 : Rws W v1 got) (h2 : Rws W v2 all) (hl1 : got.length ≤ 1000000) (hl2 : all.length ≤ 1000000) :
    Calls Tryd.prog 23 #[v1, v2] W fun e W' => ∃ b : Bool, e = .returned (.bool b) ∧ (Ends got all → b = true) ∧ Mem W W' [] := by
  obtain ⟨a1, c1, rfl, r1⟩ := h1
  obtain ⟨a2, c2, rfl, r2⟩ := h2
  obtain ⟨n1, hn1⟩ : ∃ n1, n1 = got.length := ⟨_, rfl⟩
  obtain ⟨n2, hn2⟩ : ∃ n2, n2 = all.length := ⟨_, rfl⟩
  have HN : Hid (n1 = got.length ∧ n2 = all.length) := ⟨hn1, hn2⟩
  have HR1 : Hid (∀ i r, got[i]? = some r → ∃ b g gc, a1 = some ⟨b, 0, none⟩ ∧ W.cell? ⟨b, i, none⟩ = some (.slice (some ⟨g, 0, none⟩) r.length gc) ∧ Row W (some ⟨g, 0, none⟩) r) := r1
  have HR2 : Hid (∀ i r, all[i]? = some r → ∃ b g gc, a2 = some ⟨b, 0, none⟩ ∧ W.cell? ⟨b, i, none⟩ = some (.slice (some ⟨g, 0, none⟩) r.length gc) ∧ Row W (some ⟨g, 0, none⟩) r) := r2
  have HM0 : Hid (Mem W W []) := Mem.nil W
  rw [← hn1, ← hn2]
  rw [← hn1] at hl1
  rw [← hn2] at hl2
  clear r1 r2 hn1 hn2
  by_cases hgt : n2 < n1
  · have q : (n2 : Int) < (n1 : Int) := by omega
    have HF : Hid (¬ Ends got all) := fun h => by have := h.1; have := HN.out; omega
    go_enter Tryd.func23, Tryd.ntmps23
    go_wp2
    go_ret
    exact ⟨false, by simp, fun h => absurd h HF.out, HM0.out⟩
  · have q : ¬ (n2 : Int) < (n1 : Int) := by omega
    by_cases hnil : n1 = 0 ∧ 0 < n2
    · obtain ⟨hz, hp⟩ := hnil
      have q2 : (0 : Int) < (n2 : Int) := by omega
      have HF : Hid (¬ Ends got all) := fun h => by
        have e9 := HN.out
        have : all = [] := h.2.1 (List.length_eq_zero_iff.mp (by omega))
        rw [this] at e9; simp at e9; omega
      subst hz
      go_enter Tryd.func23, Tryd.ntmps23
      go_wp2
      all_goals first | (exfalso; omega) | (go_ret; first | exact ⟨false, by simp, fun h => absurd h HF.out, HM0.out⟩ | exact Or.inl ⟨by simp, HF.out, HM0.out⟩)
    · obtain ⟨d, hd⟩ : ∃ d : Nat, (n2 : Int) - (n1 : Int) = (d : Int) := ⟨n2 - n1, by omega⟩
      have wd : IntKind.i64.wrap (d : Int) = d := by rw [IntKind.wrap_i64]; omega
      have HQ : Hid (Ends got all → ∀ i, i < n1 → got[i]? = all[d + i]?) := fun h i hi => by
        have e9 := HN.out
        have e3 := h.2.2
        rw [show all.length - got.length = d by omega] at e3
        rw [e3, List.getElem?_drop]
      have HD : Hid (n1 + d = n2) := by show _ = _; omega
      by_cases hz : n1 = 0
      · have hz2 : n2 = 0 := by omega
        subst hz
        subst hz2
        go_enter Tryd.func23, Tryd.ntmps23
        go_wp2
        go_loopw [5] (fun u wr => u = .int .i64 0 ∧ Mem W wr []) (fun _ _ => 0)
        case atStart => exact ⟨rfl, HM0.out⟩
        case round =>
          obtain ⟨rfl, hM⟩ := hrel
          have HM : Hid (Mem W wr []) := hM
          clear hM
          go_wp2
          go_ret
          exact ⟨true, by simp, fun _ => rfl, HM.out⟩
      · have qz : ¬ (n1 : Int) = 0 := by omega
        have qzb : ((n1 : Int) == 0) = false := by simpa using qz
        go_enter Tryd.func23, Tryd.ntmps23
        go_wp2
        go_loopw [5] (fun u wr => ∃ i : Nat, u = .int .i64 i ∧ i ≤ n1 ∧ Mem W wr []) (fun u _ => n1 - (intOf u).toNat)
        case atStart => exact ⟨0, rfl, by omega, HM0.out⟩
        case round =>
          obtain ⟨i, rfl, hi, hM⟩ := hrel
          by_cases hlt : i < n1
          · obtain ⟨x, hx⟩ : ∃ x, got[i]? = some x := ⟨_, List.getElem?_eq_getElem (by have := HN.out; omega)⟩
            obtain ⟨z, hz9⟩ : ∃ z, all[d + i]? = some z := ⟨_, List.getElem?_eq_getElem (by have := HN.out; have := HD.out; omega)⟩
            obtain ⟨b1, g1, gc1, rfl, hc1, hr1⟩ := HR1.out i x hx
            obtain ⟨b2, g2, gc2, rfl, hc2, hr2⟩ := HR2.out (d + i) z hz9
            have HX : Hid (got[i]? = some x ∧ all[d + i]? = some z) := ⟨hx, hz9⟩
            have hMd : Mem W wr.drew [] := hM.drew
            have k1 : wr.cell? ⟨b1, i, none⟩ = some (.slice (some ⟨g1, 0, none⟩) x.length gc1) := (hM.old (cell_lt hc1)).trans hc1
            have k2 : wr.cell? ⟨b2, d + i, none⟩ = some (.slice (some ⟨g2, 0, none⟩) z.length gc2) := (hM.old (cell_lt hc2)).trans hc2
            obtain ⟨di, hdi⟩ : ∃ di, di = d + i := ⟨_, rfl⟩
            rw [← hdi] at k2
            have hdiI : (d : Int) + (i : Int) = (di : Int) := by omega
            have wdi : IntKind.i64.wrap (di : Int) = di := by rw [IntKind.wrap_i64]; omega
            have j0 : (i : Int) < (n1 : Int) := by omega
            have j1 : (di : Int) < (n2 : Int) := by omega
            have j1n : di < n2 := by omega
            have HMD : Hid (Mem W wr.drew []) := hMd
            have HBY : Hid ((∃ b : Bool, (x = z → b = true) ∧ Calls Tryd.prog 21 #[.slice (some ⟨g1, 0, none⟩) x.length gc1, .slice (some ⟨g2, 0, none⟩) z.length gc2] wr.drew fun e W' => e = .returned (.bool b) ∧ wr.drew = W')) := by
              by_cases he : (strOfNums x).toList = (strOfNums z).toList
              · exact ⟨true, fun _ => rfl, hbytes_same (hMd.row hr1) (hMd.row hr2) _ _ rfl rfl gc1 gc2 he⟩
              · exact ⟨false, fun e => absurd (by rw [e]) he, hbytes_some (hMd.row hr1) (hMd.row hr2) _ _ rfl rfl gc1 gc2 he⟩
            obtain ⟨bb, hbb, hBy⟩ := HBY.out
            have HBB : Hid (x = z → bb = true) := hbb
            have HB : Hid (Calls Tryd.prog 21 #[.slice (some ⟨g1, 0, none⟩) x.length gc1, .slice (some ⟨g2, 0, none⟩) z.length gc2] wr.drew fun e W' => e = .returned (.bool bb) ∧ wr.drew = W') := hBy
            clear HBY hBy hbb hr1 hr2 hc1 hc2 hx hz9 hMd hM hdi
            generalize x.length = lx at *
            generalize z.length = lz at *
            cases bb
            · have HNE : Hid (¬ Ends got all) := fun h => by
                have e9 := HQ.out h i hlt
                rw [HX.out.1, HX.out.2] at e9
                exact absurd (HBB.out (Option.some.inj e9)) (by simp)
              go_wp2_with fail
              go_region_held3 (fun w' => w'.cell? ⟨b1, i, none⟩ = some (.slice (some ⟨g1, 0, none⟩) lx gc1) ∧ w'.cell? ⟨b2, di, none⟩ = some (.slice (some ⟨g2, 0, none⟩) lz gc2)) (first | go_keep | assumption)
                (first | (go_at_call 21; with_reducible refine HB.out.mono ?_; rintro e3 w3 ⟨rfl, rfl⟩))
              go_wp2
              go_ret
              exact ⟨false, by simp, fun h => absurd h HNE.out, HMD.out⟩
            · go_wp2_with fail
              go_region_held3 (fun w' => w'.cell? ⟨b1, i, none⟩ = some (.slice (some ⟨g1, 0, none⟩) lx gc1) ∧ w'.cell? ⟨b2, di, none⟩ = some (.slice (some ⟨g2, 0, none⟩) lz gc2)) (first | go_keep | assumption)
                (first | (go_at_call 21; with_reducible refine HB.out.mono ?_; rintro e3 w3 ⟨rfl, rfl⟩))
              go_wp2_with fail
              go_roundw
              case rel => exact ⟨i + 1, by go_num, by omega, HMD.out⟩
              case measure => simp [intOf]; omega
          · have : i = n1 := by omega
            subst this
            have HM : Hid (Mem W wr []) := hM
            clear hM
            go_wp2
            go_ret
            exact ⟨true, by simp, fun _ => rfl, HM.out⟩
end Go.Proofs.YtbmpjlgfbiakoaaDoor
