/-
  Settings as bytes: the document's own OpenChange: a change that puts a tenant.
  A slice of bytes that comes in.
-/
import Derived.Test.YtngegdamcfmonaaGreatM39
import Derived.Test.YtngegdamcfmonaaGreatM37
namespace Go.Proofs.YtngegdamcfmonaaGreat
open Go.RowKit
open Sm
open Cf
set_option linter.unusedVariables false
set_option linter.unusedSimpArgs false
set_option maxRecDepth 20000

theorem owb_rw' {V : World} {T : TypeId} {sz : Nat} {v : Value} {xs : List (List Value)} {B : List (Nat × Obj)} (hx : ∀ x ∈ xs, x.length = sz) (h : OwB T sz v xs.length xs.flatten B) (hB : ∀ p ∈ B, V.heap[p.1]? = some p.2) : Rw V sz v xs := by
  rcases h.2 with ⟨rfl, e, rfl⟩ | ⟨g, cap, cur, rfl, rfl, h1, h2, h3, h4⟩
  · have : xs = [] := List.eq_nil_of_length_eq_zero e
    subst this
    exact ⟨none, 0, rfl, Nat.le_refl _, by omega, fun _ => rfl, Or.inl rfl⟩
  · have hg := hB _ (List.mem_cons_self ..)
    refine ⟨some ⟨g, 0, none⟩, cap, rfl, h1, by simpa [maxLen] using h2, nofun, Or.inr ⟨g, 0, rfl, fun i hi j u hj => ?_⟩⟩
    have h5 := flat_at xs i j u hx hj
    rw [← h4] at h5
    have hc : V.cell? ⟨g, 0 + i * sz + j, none⟩ = cur[0 + i * sz + j]? := by
      unfold World.cell?
      simp [hg]
    rw [hc, Nat.zero_add]
    rw [List.getElem?_take] at h5
    split at h5
    · rw [← Array.getElem?_toList]; exact h5
    · cases h5
theorem hvs_put {w V : World} {t : Ten} {p s q : Value} {B1 B2 B3 : List (Nat × Obj)} (hl : TLen t) (h1 : OwB 22 1 p t.pool.length (ux t.pool).flatten B1) (h2 : OwB 142 2 s t.stat.length (px t.stat).flatten B2) (h3 : OwB 142 2 q t.twi.length (px t.twi).flatten B3) (hM : Mem w V (B3 ++ (B2 ++ B1))) :
    HVs w.heap.size V (.agg (hc ⟨true, t.name, t⟩ p s q).toArray) ⟨true, t.name, t⟩ := by
  intro V' hV
  have hA : ∀ x ∈ B3 ++ (B2 ++ B1), V'.heap[x.1]? = some x.2 := fun x hx => (hV _ (hM.low x hx) (hM.lt hx)).trans (hM.at_ x hx)
  refine ⟨hl, p, s, q, rfl, owb_rw' (fun x hx => ?_) (by simpa [ux] using h1) (fun x hx => hA x (by simp [hx])), owb_rw' (fun x hx => ?_) (by simpa [px] using h2) (fun x hx => hA x (by simp [hx])), owb_rw' (fun x hx => ?_) (by simpa [px] using h3) (fun x hx => hA x (by simp [hx]))⟩
  · simp only [ux, List.mem_map] at hx; obtain ⟨y, -, rfl⟩ := hx; rfl
  · simp only [px, List.mem_map] at hx; obtain ⟨y, -, rfl⟩ := hx; rfl
  · simp only [px, List.mem_map] at hx; obtain ⟨y, -, rfl⟩ := hx; rfl
set_option maxHeartbeats 8000000 in
theorem roch_put {w : World} {a : Option Addr} {l : List Int} {c : Nat} (hS : Sl w a l c) (hl : l.length ≤ 1000000) (D1 : (nx 1 (some l)).isNone = false) (D2 : num (tk 1 (some l)) = 1) :
    Calls Tryz.prog 24 #[.slice a l.length c] w (OCP w (whole (rt (nx 1 (some l))).2 ⟨true, (rt (nx 1 (some l))).1.name, (rt (nx 1 (some l))).1⟩)) := by
  obtain ⟨g, hg⟩ : ∃ g, w.heap.size = g := ⟨_, rfl⟩
  have hM0 : Mem w (w.alloc (.cells hz0 35)) [(g, .cells hz0 35 (0, 0))] := (Mem.nil w).push g _ hg.symm
  have hR0 := (rd_new (a := a) (l := l) (c := c) (g := g + 1) hM0 (by simp; omega)).add (.cells hz0 35 (0, 0)) (g := g + 2) (by simp; omega)
  have C := rn_any hR0 hS 1 (by omega) hl
  rw [D2] at C
  generalize nx 1 (some l) = σ at C D1 ⊢
  have hbt := build_H
  have HS : Hid (Sl w a l c) := hS
  clear hM0 hR0 hS D2
  go_enter Tryz.func24, Tryz.ntmps24
  go_wp2_with fail
  refine C.mono ?_
  rintro e V2 ⟨rfl, hR⟩
  have C2 := rten_any hR HS.out hl
  obtain ⟨i, hi, hm, -⟩ := hR
  have cb := hm.cell 0 rfl 2
  simp only [List.getElem?_toArray, List.getElem?_cons_succ, List.getElem?_cons_zero] at cb
  rw [D1] at cb
  clear hm C
  generalize (rt σ).1 = t at *
  go_wp2_with fail
  refine C2.mono ?_
  rintro e V3 ⟨v, rfl, B, hR, htl, p, s, q, B1, B2, B3, rfl, rfl, k1, k2, k3⟩
  clear C2 cb hi
  have HO : Hid (TLen t ∧ p.oneCell' = true ∧ s.oneCell' = true ∧ q.oneCell' = true) := ⟨htl, owb_one k1, owb_one k2, owb_one k3⟩
  have HV0 : ∀ V, Mem w V (B3 ++ (B2 ++ B1)) → Hid (HVs w.heap.size V (.agg (hc ⟨true, t.name, t⟩ p s q).toArray) ⟨true, t.name, t⟩) := fun V hM => hvs_put htl k1 k2 k3 hM
  generalize B3 ++ (B2 ++ B1) = B at hR HV0
  clear k1 k2 k3 htl
  have R0 : Rd w V3 (g + 1) a l c (rt σ).2 ((g + 2, .cells hz0 35 (0, 0)) :: (g, .cells hz0 35 (0, 0)) :: B) := hR.perm List.perm_append_comm
  have cv : ∃ u, V3.cell? ⟨g + 2, 0, none⟩ = some u := by
    obtain ⟨i, -, hm, -⟩ := R0
    exact ⟨_, (hm.cell 1 rfl 0).trans rfl⟩
  obtain ⟨u, cv⟩ := cv
  have fv : ∀ j, V3.frozen? ⟨g + 2, j, none⟩ = false := by obtain ⟨i, -, hm, -⟩ := R0; exact hm.free 1 rfl
  have R1 := R0.set 0 rfl 0 (.bool true)
  have R2 := Rd.setCells (tc t p s q) 2 _ _ R1
  have th : (V3.setCell ⟨g + 2, 0, none⟩ (.bool true)).there (g + 2) 2 (tc t p s q).toArray.size := tc_there R1 2 _ (by rw [List.size_toArray, tc_len HO.out.1, Array.size_setIfInBounds]; decide)
  have e2 : stL ((hz0).setIfInBounds 0 (.bool true)) 2 (tc t p s q) = (hc ⟨true, ByteArray.empty, t⟩ p s q).toArray := by
    have := stL_mid [] (tc t p s q) (tc ten0 nilV nilV nilV) [.bool true, .string ByteArray.empty] (by rw [tc_len HO.out.1, tc_len ten0_len])
    rw [List.append_nil, List.append_nil] at this
    exact this
  rw [e2] at R2
  have it : (Tryz.prog.info? 33).map (·.size) = some (tc t p s q).toArray.size := by rw [List.size_toArray, tc_len HO.out.1]; kernel_rfl
  have io : (tc t p s q).toArray.all (·.oneCell') = true := tc_one3 t HO.out.2.1 HO.out.2.2.1 HO.out.2.2.2
  obtain ⟨T, hT⟩ : ∃ T, (tc t p s q).toArray = T := ⟨_, rfl⟩
  have HN : Hid (Rd w ((V3.setCell ⟨g + 2, 0, none⟩ (.bool true)).setCells (g + 2) 2 T.toList) (g + 1) a l c (rt σ).2 ((g + 2, .cells (hc ⟨true, ByteArray.empty, t⟩ p s q).toArray 35 (0, 0)) :: (g, .cells hz0 35 (0, 0)) :: B)) := by rw [← hT]; exact R2
  clear hR R0 R1 R2 e2
  rw [hT] at th it io ⊢
  go_upto_region 9 with (refine wpList_store_mid rfl 33 (.tmp 31) (.tmp 29) (by with_reducible rfl) (g + 2) 2 T (by first | rfl | simp [Act.eval]) (by first | rfl | simp [Act.eval]) th it io ?_)
  refine wp_letter (fun V => Rd w V (g + 1) a l c (rt σ).2 ((g + 2, Obj.cells (hc ⟨true, ByteArray.empty, t⟩ p s q).toArray 35 (0, 0)) :: (g, Obj.cells hz0 35 (0, 0)) :: B)) (by exact HN.out) ?_
  intro V4 hR
  clear HN cv fv th it io hT
  have c2 : V4.cell? ⟨g + 2, 2, none⟩ = some (.string t.name) := by
    obtain ⟨i, -, hm, -⟩ := hR
    exact (hm.cell 1 rfl 2).trans rfl
  have c1 : V4.cell? ⟨g + 2, 1, none⟩ = some (.string ByteArray.empty) := by
    obtain ⟨i, -, hm, -⟩ := hR
    exact (hm.cell 1 rfl 1).trans rfl
  have fv : ∀ j, V4.frozen? ⟨g + 2, j, none⟩ = false := by obtain ⟨i, -, hm, -⟩ := hR; exact hm.free 1 rfl
  obtain ⟨A, hA⟩ : ∃ A, (hc ⟨true, t.name, t⟩ p s q).toArray = A := ⟨_, rfl⟩
  have hsz : A.size = 35 := by rw [← hA, List.size_toArray]; simp only [hc, List.length_cons, tc_len HO.out.1]
  have hone : A.all (·.oneCell') = true := by rw [← hA]; exact hc_one3 _ HO.out.2.1 HO.out.2.2.1 HO.out.2.2.2
  have HN : Hid (Rd w (V4.setCell ⟨g + 2, 1, none⟩ (.string t.name)) (g + 1) a l c (rt σ).2 ((g + 2, .cells A 35 (0, 0)) :: (g, .cells hz0 35 (0, 0)) :: B)) := by
    rw [← hA]; exact hR.set 0 rfl 1 (.string t.name)
  rw [hA] at HV0
  clear hR hA HO
  go_upto_region 10 with fail
  refine wp_letter (fun V => Rd w V (g + 1) a l c (rt σ).2 ((g + 2, Obj.cells A 35 (0, 0)) :: (g, Obj.cells hz0 35 (0, 0)) :: B)) (by exact HN.out) ?_
  intro V4 hR
  clear HN c1 c2 fv
  have i35 : (Tryz.prog.info? 35).map (·.size) = some A.size := by rw [hsz]; kernel_rfl
  generalize (rt σ).2 = σ2 at *
  obtain ⟨i, hi, hm, hr⟩ := hR
  have cb := hm.cell 0 rfl 2
  have ci := hm.cell 0 rfl 1
  simp only [List.getElem?_toArray, List.getElem?_cons_succ, List.getElem?_cons_zero] at cb ci
  have hg3 := hm.get 2 rfl
  have hk3 := hm.get 1 rfl
  have hM4 := hm.wrote 2 rfl (wrote_setRow V4 g hz0 hz0 _ hg3)
  have hM5 := hm.wrote 2 rfl (wrote_setRow V4 g hz0 A _ hg3)
  have hgz := hM4.get 2 rfl
  have hgA := hM5.get 2 rfl
  have hz := hM4.below
  have hzA := hM5.below
  have HV := HV0 _ hM5.sub.sub.sub
  clear hm hM4 hM5 HV0
  cases σ2 with
  | none =>
    go_wp2_with (refine wpList_store_row rfl 35 (.tmp 2) (.tmp 49) (by with_reducible rfl) g hz0 (by simp [Act.eval]) (by simp [Act.eval]; rfl) 35 hz0 hg3 (by kernel_rfl) rfl (by kernel_rfl) ?_)
    refine bodyPost_ret (v := .tuple #[.agg hz0, .int .i64 70]) ?_ rfl ⟨hz, rfl⟩
    exact results_two' (p := 2) (q := 3) (ty := 35) rfl _ _ g hz0 rfl (run_loadVar_row _ _ 35 35 _ (0, 0) _ hgz Tryz.underlying35 rfl (by kernel_rfl))
  | some r =>
    have er := hr r rfl
    cases r with
    | cons b r =>
      have hne : ¬ ((i : Int) = (l.length : Int)) := by
        intro e
        have : l.length ≤ i := by omega
        rw [List.drop_eq_nil_of_le this] at er
        cases er
      clear er hr
      go_wp2_with (refine wpList_store_row rfl 35 (.tmp 2) (.tmp 49) (by with_reducible rfl) g hz0 (by simp [Act.eval]) (by simp [Act.eval]; rfl) 35 hz0 hg3 (by kernel_rfl) rfl (by kernel_rfl) ?_)
      refine bodyPost_ret (v := .tuple #[.agg hz0, .int .i64 70]) ?_ rfl ⟨hz, rfl⟩
      exact results_two' (p := 2) (q := 3) (ty := 35) rfl _ _ g hz0 rfl (run_loadVar_row _ _ 35 35 _ (0, 0) _ hgz Tryz.underlying35 rfl (by kernel_rfl))
    | nil =>
      have he : i = l.length := by
        have := congrArg List.length er
        rw [List.length_drop, List.length_nil] at this
        omega
      subst he
      clear er hr
      go_wp2_with (first | (refine wpList_load_row rfl 35 (.tmp 5) (by with_reducible rfl) (g + 2) (by first | rfl | simp [Act.eval]) 35 A (0, 0) _ hk3 Tryz.underlying35 rfl i35 ?_) | (refine wpList_store_row rfl 35 (.tmp 2) (.tmp 50) (by with_reducible rfl) g A (by first | rfl | simp [Act.eval]) (by first | rfl | simp [Act.eval]) 35 hz0 hg3 i35 (by rw [hsz]; rfl) hone ?_))
      refine bodyPost_ret (v := .tuple #[.agg A, .int .i64 0]) ?_ rfl ⟨hzA, ⟨_, rfl, HV.out⟩⟩
      exact results_two' (p := 2) (q := 3) (ty := 35) rfl _ _ g A rfl (run_loadVar_row _ _ 35 35 _ (0, 0) _ hgA Tryz.underlying35 rfl i35)
end Go.Proofs.YtngegdamcfmonaaGreat

namespace Go.Proofs.YtngegdamcfmonaaGreat
open Go.ChangeShapes Go.WideShapes Go.ChangeAt Go.RowKit Go.Joins
open Sm
open Cf
set_option linter.unusedVariables false
set_option maxRecDepth 100000

section
variable {H : Type} {enc : TypeId × Value → H} {W : World} {base : Nat} {held : Bool}
/-- Bytes that come in. -/
theorem open_sl {r : Reach} {b0 : Nat} {v : Value} {d : DataW H} {p : List MemPlace} (hv : Value.okWide Tryz.prog W r b0 40 v) (h : DataW.Trod enc Tryz.prog W base (fun _ => true) held 40 v d p) :
    ∃ a len cap l, v = .slice a len cap ∧ (len ≤ 140737488351232 → l.length = len ∧ Sl W a l cap) := by
  obtain ⟨a, len, cap, rfl⟩ := okWide_slice Tryz.underlying40 hv
  obtain ⟨fuel, hf⟩ := h
  rcases open_ints Tryz.underlying40 Tryz.underlying5 (by kernel_rfl) hf with ⟨hcs, _⟩ | ⟨x, l, c, zs, hcs, _, hl, hm, hz, _, hcell, hwz⟩
  · simp [Value.cells] at hcs
    obtain ⟨rfl, rfl, rfl⟩ := hcs
    exact ⟨none, 0, 0, [], rfl, fun _ => ⟨rfl, row_nil W, Nat.le_refl _, by omega, fun _ => rfl⟩⟩
  · simp [Value.cells] at hcs
    obtain ⟨rfl, rfl, rfl⟩ := hcs
    refine ⟨some x, len, cap, zs.take len, rfl, fun h2 => ?_⟩
    obtain ⟨hrow, hlen⟩ := row_of hl (by simpa using hz) hcell (fun n hn => bounds_u8 (hwz n hn)) h2
    exact ⟨hlen, hrow, by rw [hlen]; exact hl, by simpa [maxLen] using hm, nofun⟩
end
end Go.Proofs.YtngegdamcfmonaaGreat

