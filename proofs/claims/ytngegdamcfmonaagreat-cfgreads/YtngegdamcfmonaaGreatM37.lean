/-
  Settings as bytes: the document's own OpenTenant.
  Settings as bytes: the program's Config and OpenConfig, at all settings and all bytes.
-/
import Derived.Test.YtngegdamcfmonaaGreatM35
import Derived.Test.YtngegdamcfmonaaGreatM21
import Derived.Test.YtngegdamcfmonaaGreatM32
import Derived.Test.YtngegdamcfmonaaGreatM30
import Derived.Deep.MidRow
import Derived.Test.YtngegdamcfmonaaGreatM34
namespace Go.Proofs.YtngegdamcfmonaaGreat
open Go.RowKit
open Sm
open Cf
set_option linter.unusedVariables false
set_option linter.unusedSimpArgs false
set_option maxRecDepth 20000

theorem flat_at {α : Type} {sz : Nat} : ∀ (xs : List (List α)) (i j : Nat) (u : α), (∀ x ∈ xs, x.length = sz) → (xs.getD i [])[j]? = some u → xs.flatten[i * sz + j]? = some u
  | [], i, j, u, _, h => by simp [List.getD] at h
  | x :: xs, 0, j, u, hx, h => by
    rw [Nat.zero_mul, Nat.zero_add, List.flatten_cons]
    have h' : x[j]? = some u := h
    obtain ⟨hj, -⟩ := List.getElem?_eq_some_iff.mp h'
    rw [List.getElem?_append_left hj]; exact h'
  | x :: xs, i + 1, j, u, hx, h => by
    have h' : (xs.getD i [])[j]? = some u := by simpa [List.getD] using h
    have e := hx x (List.mem_cons_self ..)
    rw [List.flatten_cons, List.getElem?_append_right (by rw [e, Nat.succ_mul]; omega), show (i + 1) * sz + j - x.length = i * sz + j by rw [e, Nat.succ_mul]; omega]
    exact flat_at xs i j u (fun y hy => hx y (List.mem_cons_of_mem _ hy)) h'
theorem owb_rw {w V : World} {T : TypeId} {sz : Nat} {v : Value} {xs : List (List Value)} {B L : List (Nat × Obj)} (hx : ∀ x ∈ xs, x.length = sz) (h : OwB T sz v xs.length xs.flatten B) (hM : Mem w V (B ++ L)) : Rw V sz v xs := by
  rcases h.2 with ⟨rfl, e, rfl⟩ | ⟨g, cap, cur, rfl, rfl, h1, h2, h3, h4⟩
  · have : xs = [] := List.eq_nil_of_length_eq_zero e
    subst this
    exact ⟨none, 0, rfl, Nat.le_refl _, by omega, fun _ => rfl, Or.inl rfl⟩
  · refine ⟨some ⟨g, 0, none⟩, cap, rfl, h1, by simpa [maxLen] using h2, nofun, Or.inr ⟨g, 0, rfl, fun i hi j u hj => ?_⟩⟩
    have h5 := flat_at xs i j u hx hj
    rw [← h4] at h5
    rw [hM.cell 0 rfl, Nat.zero_add]
    rw [List.getElem?_take] at h5
    split at h5
    · rw [← Array.getElem?_toList]; exact h5
    · cases h5
theorem tbk_tv {w V : World} {v : Value} {t : Ten} {B L : List (Nat × Obj)} (h : TBk v t B) (hM : Mem w V (B ++ L)) : TV V v t := by
  obtain ⟨hl, p, s, q, B1, B2, B3, rfl, rfl, h1, h2, h3⟩ := h
  have e3 : Mem w V (B3 ++ (B2 ++ (B1 ++ L))) := by simpa only [List.append_assoc] using hM
  have e2 : Mem w V (B2 ++ (B1 ++ L)) := e3.subl (List.sublist_append_right _ _)
  have e1 : Mem w V (B1 ++ L) := e2.subl (List.sublist_append_right _ _)
  refine ⟨hl, p, s, q, rfl, owb_rw (fun x hx => ?_) (by simpa [ux] using h1) e1, owb_rw (fun x hx => ?_) (by simpa [px] using h2) e2, owb_rw (fun x hx => ?_) (by simpa [px] using h3) e3⟩
  · simp only [ux, List.mem_map] at hx; obtain ⟨y, -, rfl⟩ := hx; rfl
  · simp only [px, List.mem_map] at hx; obtain ⟨y, -, rfl⟩ := hx; rfl
  · simp only [px, List.mem_map] at hx; obtain ⟨y, -, rfl⟩ := hx; rfl
/-- A reader that has read nothing. -/
theorem rd_new {w V : World} {a : Option Addr} {l : List Int} {c g : Nat} {K : List (Nat × Obj)} (h : Mem w V K) (hg : g = V.heap.size) : Rd w (V.alloc (.cells #[.slice a l.length c, .int .i64 0, .bool false] 95 (0, 0))) g a l c (some l) K :=
  ⟨0, Nat.zero_le _, (h.push g _ hg).perm List.perm_append_comm, fun r e => by cases e; rfl⟩

theorem tbk_agg {v : Value} {t : Ten} {B : List (Nat × Obj)} (h : TBk v t B) : ∃ A, v = .agg A ∧ A.size = 33 ∧ A.all (·.oneCell') = true := by
  obtain ⟨hl, p, s, q, B1, B2, B3, rfl, rfl, h1, h2, h3⟩ := h
  exact ⟨_, rfl, by rw [List.size_toArray, tc_len hl], tc_one3 t (owb_one h1) (owb_one h2) (owb_one h3)⟩
set_option maxHeartbeats 8000000 in
theorem rotn_any {w : World} {a : Option Addr} {l : List Int} {c : Nat} (hS : Sl w a l c) (hl : l.length ≤ 1000000) :
    Calls Tryz.prog 22 #[.slice a l.length c] w fun e w' => Below w.heap.size w w' ∧ match tdec l with
      | none => e = .returned (.tuple #[.agg tz, .int .i64 0, .int .i64 70])
      | some (t, l') => ∃ v, e = .returned (.tuple #[v, .int .i64 ((l.length : Int) - l'.length), .int .i64 0]) ∧ TV w' v t := by
  obtain ⟨g, hg⟩ : ∃ g, w.heap.size = g := ⟨_, rfl⟩
  have hM0 : Mem w (w.alloc (.cells tz 33)) [(g, .cells tz 33 (0, 0))] := (Mem.nil w).push g _ hg.symm
  have hR0 := rd_new (a := a) (l := l) (c := c) (g := g + 1) hM0 (by simp; omega)
  have C := rten_any hR0 hS hl
  have D := tdec_rt l
  obtain ⟨R, hR⟩ : ∃ R, tdec l = R := ⟨_, rfl⟩
  rw [hR] at D ⊢
  clear hM0 hR0 hS hR
  go_enter Tryz.func22, Tryz.ntmps22
  go_wp2_with fail
  refine C.mono ?_
  rintro e V1 ⟨v, rfl, B, hR, hT⟩
  obtain ⟨A, rfl, hsz, hone⟩ := tbk_agg hT
  obtain ⟨k, hk⟩ : ∃ k, V1.heap.size = k := ⟨_, rfl⟩
  have hi33 : (Tryz.prog.info? 33).map (·.size) = some A.size := by rw [hsz]; kernel_rfl
  have HT : Hid (TBk (.agg A) (rt (some l)).1 B) := hT
  have hk1 : (V1.alloc (.cells tz 33)).heap[k]? = some (.cells tz 33 (0, 0)) := (hR.add (.cells tz 33 (0, 0)) hk.symm).mem.get 0 rfl
  have hR1 := hR.add (.cells A 33 (0, 0)) hk.symm
  have e1 : (V1.alloc (.cells tz 33)).setRow k A = V1.alloc (.cells A 33) := by
    rw [← hk]; exact World.setRow_alloc_new V1 tz A 33
  rw [← e1] at hR1
  have HR1 : Hid (Rd w ((V1.alloc (.cells tz 33)).setRow k A) (g + 1) a l c (rt (some l)).2 ((k, .cells A 33 (0, 0)) :: (B ++ [(g, .cells tz 33 (0, 0))]))) := hR1
  clear C hR hT hR1 e1
  go_upto_region 3 with (refine wpList_store_row rfl 33 (.tmp 6) (.tmp 11) (by with_reducible rfl) k A (by simp [Act.eval]) (by simp [Act.eval]) 33 tz hk1 hi33 (by rw [hsz]; rfl) hone ?_)
  refine wp_letter (fun V => Rd w V (g + 1) a l c (rt (some l)).2 ((k, Obj.cells A 33 (0, 0)) :: (B ++ [(g, Obj.cells tz 33 (0, 0))]))) (by exact HR1.out) ?_
  intro V2 hR2
  clear HR1 hk1 hk
  obtain ⟨i, hi, hm, hr⟩ := hR2
  have cb := hm.cell 0 rfl 2
  have ci := hm.cell 0 rfl 1
  simp only [List.getElem?_toArray, List.getElem?_cons_succ, List.getElem?_cons_zero] at cb ci
  have hm2 := hm.perm (L' := (g, .cells tz 33 (0, 0)) :: (g + 1, .cells #[.slice a l.length c, .int .i64 i, .bool (rt (some l)).2.isNone] 95 (0, 0)) :: (k, .cells A 33 (0, 0)) :: B) (by
    rw [← List.cons_append, ← List.cons_append]
    exact List.perm_append_comm)
  have hg3 := hm2.get 0 rfl
  have hk3 := hm2.get 2 rfl
  rcases D with ⟨rfl, e2⟩ | ⟨t, r, rfl, e2, e3⟩
  · rw [e2] at cb
    have hM4 := hm2.wrote 0 rfl (wrote_setRow V2 g tz tz _ hg3)
    have hbt := build_T
    clear hm HT
    go_wp2_with (refine wpList_store_row rfl 33 (.tmp 2) (.tmp 16) (by with_reducible rfl) g tz (by simp [Act.eval]) (by simp [Act.eval]; rfl) 33 tz hg3 (by kernel_rfl) rfl (by kernel_rfl) ?_)
    refine bodyPost_ret (v := .tuple #[.agg tz, .int .i64 0, .int .i64 70]) ?_ rfl ⟨hg ▸ hM4.below, rfl⟩
    exact results_three (p := 2) (q := 3) (r := 4) (ty := 33) rfl _ _ g tz rfl (run_loadVar_row _ _ 33 33 _ (0, 0) _ (hM4.get 0 rfl) Tryz.underlying33 rfl (by kernel_rfl))
  · rw [e2] at cb
    obtain ⟨tl, rfl⟩ : ∃ tl : List Value, A = tl.toArray := ⟨A.toList, rfl⟩
    have hri : (i : Int) = (l.length : Int) - r.length := by
      rw [hr r e2, List.length_drop]; omega
    generalize hni : (l.length : Int) - r.length = n at *
    have KS : ∀ V X, Mem w V ((g, X) :: (g + 1, .cells #[.slice a l.length c, .int .i64 i, .bool (rt (some l)).2.isNone] 95 (0, 0)) :: (k, .cells tl.toArray 33 (0, 0)) :: B) → V.rangeAt k 0 tl ∧ V.cell? ⟨g + 1, 1, none⟩ = some (.int .i64 n) := by
      intro V X hV
      refine ⟨fun j u hj => ?_, ?_⟩
      · rw [hV.cell 2 rfl, Nat.zero_add]; simpa using hj
      · rw [hV.cell 1 rfl, ← hri]; rfl
    have hg4 := hm2.drew.get 0 rfl
    have hM4 := hm2.drew.wrote 0 rfl (wrote_setRow V2.drew g tz tl.toArray _ hg4)
    have s1 := KS _ _ hm2.drew
    have s2 := KS _ _ hM4
    have hst := storeCells_row V2.drew g tz tl.toArray _ hg4 (by rw [hsz]; rfl) hone
    have HV : Hid (TV (V2.drew.setRow g tl.toArray) (.agg tl.toArray) t) := by
      have := HT.out
      rw [e3] at this
      exact tbk_tv (L := []) this (by rw [List.append_nil]; exact hM4.sub.sub.sub)
    have i33 : (Tryz.prog.info? 33).map (·.size) = some tl.length := by rw [hi33, List.size_toArray]
    have HM4 := hM4
    clear hm HT hr e2 e3 hm2 KS
    go_upto_region 5 with fail
    refine wp_region_held_drew (S := fun V => V.rangeAt k 0 tl ∧ V.cell? ⟨g + 1, 1, none⟩ = some (.int .i64 n)) (by kernel_rfl) s1 (fun hHeld => ?_)
    refine wpAnyH_take (i := 0) (v := _) rfl (by kernel_rfl) (by kernel_rfl) (by kernel_rfl) (fun _ _ _ h => h) (yieldsIf_load_mid (by rfl) _ _ rfl _ _ rfl _ _ ?qs0 Tryz.underlying33 rfl i33) (by assumption) ?qr0
    case qs0 =>
      intro w hSw
      (try dsimp only at hSw)
      go_split_ands
      assumption
    try simp only [List.getElem_toArray, List.getElem_cons_zero, List.getElem_cons_succ, Act.put, List.setIfInBounds_toArray, List.set_cons_zero, List.set_cons_succ]
    refine wpAnyH_take (i := 1) (v := ?_) rfl (by kernel_rfl) (by kernel_rfl) (by kernel_rfl) (fun _ _ _ h => h) (Or.inl ⟨by rfl, ?qy1⟩) (by assumption) ?qr1
    case qy1 =>
      intro w hSw
      (try dsimp only at hSw)
      go_simp
      all_goals with_reducible rfl
    try simp only [List.getElem_toArray, List.getElem_cons_zero, List.getElem_cons_succ, Act.put, List.setIfInBounds_toArray, List.set_cons_zero, List.set_cons_succ]
    refine wpAnyH_take (i := 2) (v := ?_) rfl (by kernel_rfl) (by kernel_rfl) (by kernel_rfl) (fun _ _ _ h => h) (Or.inl ⟨by rfl, ?qy2⟩) (by assumption) ?qr2
    case qy2 =>
      intro w hSw
      (try dsimp only at hSw)
      go_simp
      all_goals with_reducible rfl
    try simp only [List.getElem_toArray, List.getElem_cons_zero, List.getElem_cons_succ, Act.put, List.setIfInBounds_toArray, List.set_cons_zero, List.set_cons_succ]
    refine wpAnyH_take (i := 3) (v := ?_) rfl (by kernel_rfl) (by kernel_rfl) (by kernel_rfl) (fun _ _ _ h => h) (Or.inl ⟨by rfl, ?qy3⟩) (by assumption) ?qr3
    case qy3 =>
      intro w hSw
      (try dsimp only at hSw)
      go_simp
      all_goals with_reducible rfl
    try simp only [List.getElem_toArray, List.getElem_cons_zero, List.getElem_cons_succ, Act.put, List.setIfInBounds_toArray, List.set_cons_zero, List.set_cons_succ]
    refine wpAnyH_take (i := 4) (v := ?_) rfl (by kernel_rfl) (by kernel_rfl) (by kernel_rfl) (fun _ _ _ h => h) (Or.inl ⟨by rfl, ?qy4⟩) (by assumption) ?qr4
    case qy4 =>
      intro w hSw
      (try dsimp only at hSw)
      go_simp
      all_goals with_reducible rfl
    try simp only [List.getElem_toArray, List.getElem_cons_zero, List.getElem_cons_succ, Act.put, List.setIfInBounds_toArray, List.set_cons_zero, List.set_cons_succ]
    refine wpAnyH_ready (rs := [5]) (by kernel_rfl) (by simp) ?_
    refine AllReadyH.cons rfl (fun K hK => ?_) AllReadyH.nil
    go_simp
    refine hK.out _ _ s2 (fun hHeld => ?_)
    clear hK K
    try simp only [List.getElem_toArray, List.getElem_cons_zero, List.getElem_cons_succ, Act.put, List.setIfInBounds_toArray, List.set_cons_zero, List.set_cons_succ]
    refine wpAnyH_take (i := 6) (v := ?_) rfl (by kernel_rfl) (by kernel_rfl) (by kernel_rfl) (fun _ _ _ h => h) (Or.inl ⟨by rfl, ?qy6⟩) (by assumption) ?qr6
    case qy6 =>
      intro w hSw
      (try dsimp only at hSw)
      go_simp
      all_goals with_reducible rfl
    try simp only [List.getElem_toArray, List.getElem_cons_zero, List.getElem_cons_succ, Act.put, List.setIfInBounds_toArray, List.set_cons_zero, List.set_cons_succ]
    refine wpAnyH_take (i := 7) (v := ?_) rfl (by kernel_rfl) (by kernel_rfl) (by kernel_rfl) (fun _ _ _ h => h) (Or.inl ⟨by rfl, ?qy7⟩) (by assumption) ?qr7
    case qy7 =>
      intro w hSw
      (try dsimp only at hSw)
      go_simp
      all_goals with_reducible rfl
    try simp only [List.getElem_toArray, List.getElem_cons_zero, List.getElem_cons_succ, Act.put, List.setIfInBounds_toArray, List.set_cons_zero, List.set_cons_succ]
    refine wpAnyH_done (by kernel_rfl) ?_ _
    go_wp2_with fail
    refine bodyPost_ret (v := .tuple #[.agg tl.toArray, .int .i64 n, .int .i64 0]) ?_ rfl ⟨hg ▸ hM4.below, ⟨_, rfl, HV.out⟩⟩
    exact results_three (p := 2) (q := 3) (r := 4) (ty := 33) rfl _ _ g tl.toArray rfl (run_loadVar_row _ _ 33 33 _ (0, 0) _ (hM4.get 0 rfl) Tryz.underlying33 rfl hi33)
end Go.Proofs.YtngegdamcfmonaaGreat

namespace Go.Proofs.YtngegdamcfmonaaGreat
open Go.RowKit
open Sm
open Cf
set_option linter.unusedVariables false
set_option maxRecDepth 20000

/-- A slice of tenants. -/
def TSV (V : World) (v : Value) (ts : List Ten) : Prop := ∃ zs : List Tv, zs.map Prod.fst = ts ∧ Rw V 33 v (zs.map zc) ∧ ∀ z ∈ zs, TLen z.1 ∧ Rws V z
/-- A value that is settings. -/
def CV (V : World) (v : Value) (c : Cgf) : Prop := CLen c ∧ ∃ u, v = .agg (cc c u).toArray ∧ TSV V u c.ten
theorem zc_ne {zs : List Tv} : ∀ x ∈ zs.map zc, x ≠ [] := by
  intro x hx
  obtain ⟨z, -, rfl⟩ := List.mem_map.mp hx
  simp [zc, tc]
theorem Rws.below {V V' : World} {z : Tv} (h : Rws V z) {B : Nat} (hb : Below B V V') (hB : V.heap.size ≤ B) : Rws V' z := ⟨h.1.below ux_ne hb hB, h.2.1.below px_ne hb hB, h.2.2.below px_ne hb hB⟩
theorem TSV.at_ {w V : World} {v : Value} {ts : List Ten} (h : TSV w v ts) {B : Nat} (hb : Below B w V) (hB : w.heap.size ≤ B) : TSV V v ts := by
  obtain ⟨zs, h1, h2, h3⟩ := h
  exact ⟨zs, h1, h2.below zc_ne hb hB, fun z hz => ⟨(h3 z hz).1, (h3 z hz).2.below hb hB⟩⟩
theorem CV.at_ {w V : World} {v : Value} {c : Cgf} (h : CV w v c) {B : Nat} (hb : Below B w V) (hB : w.heap.size ≤ B) : CV V v c := by
  obtain ⟨h1, u, h2, h3⟩ := h
  exact ⟨h1, u, h2, h3.at_ hb hB⟩
theorem TSV.one {w : World} {v : Value} {ts : List Ten} (h : TSV w v ts) : v.oneCell' = true := by
  obtain ⟨zs, -, h, -⟩ := h
  exact rw_slice h
theorem cc_one (c : Cgf) {v : Value} (h : v.oneCell' = true) : (cc c v).toArray.all (·.oneCell') = true := by
  apply all_oneCell_toArray
  intro u hu
  simp only [cc, List.mem_cons, List.mem_append, List.mem_map, List.not_mem_nil, or_false] at hu
  rcases hu with rfl | ⟨x, _, rfl⟩ | ⟨x, _, rfl⟩ | ⟨x, _, rfl⟩ | ⟨x, _, rfl⟩ | rfl | rfl <;> first | rfl | exact h
/-- Tenants of the call's own. -/
theorem tsv_own {w V : World} {h : Nat} {zs : List Tz} {K : List (Nat × Obj)} (hok : ∀ z ∈ zs, tok z) (hl : zs.length ≤ 255) (hM : Mem w V (tbk h zs ++ K)) : TSV V (lv h (zs.map tcs)) (zs.map Prod.fst) := by
  have ec : ∀ z : Tz, zc (z.1, lv z.2.1 (ux z.1.pool), lv z.2.2.1 (px z.1.stat), lv z.2.2.2 (px z.1.twi)) = tcs z := fun z => rfl
  refine ⟨zs.map (fun z => (z.1, lv z.2.1 (ux z.1.pool), lv z.2.2.1 (px z.1.stat), lv z.2.2.2 (px z.1.twi))), by simp [Function.comp_def], ?_, ?_⟩
  · have e2 : (zs.map (fun z : Tz => (z.1, lv z.2.1 (ux z.1.pool), lv z.2.2.1 (px z.1.stat), lv z.2.2.2 (px z.1.twi)))).map zc = zs.map tcs := by
      rw [List.map_map]; rfl
    rw [e2]
    by_cases h0 : zs = []
    · subst h0; exact ⟨none, 0, rfl, Nat.le_refl _, by omega, fun _ => rfl, Or.inl rfl⟩
    · have hne : zs.map tcs ≠ [] := fun e => h0 (List.map_eq_nil_iff.mp e)
      rw [tbk_ne h0] at hM
      rw [lv_one hne]
      refine ⟨_, _, rfl, Nat.le_refl _, by rw [List.length_map]; omega, (fun e => by cases e), Or.inr ⟨h, 0, rfl, fun i hi j u hj => ?_⟩⟩
      rw [List.length_map] at hi
      obtain ⟨A, z, B, rfl, hA⟩ := pick zs i hi
      have ex : ((A ++ z :: B).map tcs).getD i [] = tcs z := by subst hA; simp [List.getD]
      rw [ex] at hj
      have hcell := hM.cell 0 rfl (0 + i * 33 + j)
      rw [hcell]
      have := get_mid (A.flatMap tcs) (tcs z) (B.flatMap tcs) j u hj
      rw [tcs_len (fun z hz => hok z (List.mem_append_left _ hz)), hA] at this
      rw [show (A ++ z :: B).flatMap tcs = A.flatMap tcs ++ (tcs z ++ B.flatMap tcs) by simp, Nat.zero_add]
      exact this
  · intro y hy
    obtain ⟨z, hz, rfl⟩ := List.mem_map.mp hy
    have ho := hok z hz
    refine ⟨ho.1, ?_⟩
    obtain ⟨A, B, rfl⟩ := List.append_of_mem hz
    rw [tbk_ne (by simp)] at hM
    have hM2 : Mem w V (lb z.2.1 22 (ux z.1.pool) ++ (lb z.2.2.1 142 (px z.1.stat) ++ (lb z.2.2.2 142 (px z.1.twi) ++ (A.flatMap tbs ++ (B.flatMap tbs ++ K))))) := (show Mem w V ((A ++ z :: B).flatMap tbs ++ K) from hM.sub).perm (by
      classical
      rw [List.perm_iff_count]
      intro q
      simp only [List.flatMap_append, List.flatMap_cons, tbs, List.count_append]
      omega)
    exact ⟨rw_own_U _ _ hM2 ho.2.1, rw_own_P _ _ hM2.dropA ho.2.2.1, rw_own_P _ _ hM2.dropA.dropA ho.2.2.2⟩
theorem IC_box {w : World} {c : Cgf} {u : Value} {zs : List Tv} (hi : CIn c) (ht : ∀ t ∈ c.ten, TIn t) (hz : zs.map Prod.fst = c.ten) (hr : Rw w 33 u (zs.map zc)) (hq : ∀ z ∈ zs, TLen z.1 ∧ Rws w z) {g : Nat} {pre post : List Value} {T : TypeId} {K : List (Nat × Obj)} (hm : (g, .cells (pre ++ (cc c u ++ post)).toArray T (0, 0)) ∈ K) :
    ∀ V, Mem w V K → IC c (u, zs) V g pre.length := by
  intro V hV
  refine ⟨hi, fun j v hj => ?_, hz, hV.rw' hr zc_ne, fun z h => ⟨ht _ (by rw [← hz]; exact List.mem_map_of_mem h), (hq z h).2.below hV.below (Nat.le_refl _)⟩⟩
  rw [mem_box hV hm]
  exact get_mid _ _ _ j v hj
def cenc (c : Cgf) : List Int := spC.enc c
set_option maxHeartbeats 4000000 in
theorem cfgConfig_any {w : World} {v : Value} {c : Cgf} (h : CV w v c) (hi : CIn c) (ht : ∀ t ∈ c.ten, TIn t) (hb : (cenc c).length ≤ 1000000000) :
    Calls Tryz.prog 13 #[v] w fun e w' => ∃ u, e = .returned u ∧ Out w w' u (cenc c) [] := by
  obtain ⟨-, u, rfl, zs, h1, h2, h3⟩ := h
  have hM0 : Mem w (w.alloc (.cells (cc c u).toArray 28)) [(w.heap.size, .cells (cc c u).toArray 28 (0, 0))] := (Mem.nil w).push1 rfl
  have C := config_any hM0
  obtain ⟨g, hg⟩ : ∃ g, w.heap.size = g := ⟨_, rfl⟩
  rw [hg] at C
  have HI := fun K (hm : (g, Obj.cells ([] ++ (cc c u ++ [])).toArray 28 (0, 0)) ∈ K) => IC_box (w := w) hi ht h1 h2 h3 hm
  simp only [List.nil_append, List.append_nil, List.length_nil] at HI
  have HII : Hid (∀ K, (g, Obj.cells (cc c u).toArray 28 (0, 0)) ∈ K → ∀ V, Mem w V K → IC c (u, zs) V g 0) := HI
  clear HI hM0 h1 h2 h3 hi ht
  generalize cc c u = tl at C HII
  go_enter Tryz.func13, Tryz.ntmps13
  go_wp2_with fail
  refine C.mono ?_
  rintro e V ⟨⟨k1, k2, k3, c1, c2, c3⟩, E, rfl, hM, hF⟩
  have CW := hF.wr (E ++ [(g, .cells tl.toArray 28 (0, 0))]) (fun q hq => List.mem_append_left _ hq) c (u, zs) g 0 (HII.out _ (by simp)) (.slice none 0 0) [] V (Out.nil hM) (by simpa [cenc] using hb)
  have eg : ∀ args V, (callFunc k1 args).run Tryz.prog V = .ok (.enter k1 args) V := hF.ew
  have hfd : ∀ V, (Instr.field 71 (.agg #[.func (.func k1) #[] c1, .func (.func k2) #[] c2, .func (.func k3) #[] c3]) 0).run Tryz.prog V = .ok (.func (.func k1) #[] c1) V := fun V => by kernel_rfl
  simp only at CW
  simp only [Fv.val]
  clear hF HII C hM
  go_wp2_with fail
  refine CW.mono ?_
  rintro e V2 ⟨u, rfl, hO⟩
  go_wp2_with fail
  go_ret
  refine ⟨u, rfl, ?_⟩
  rw [List.nil_append] at hO
  have hdrop : ∀ K, Out w V2 u (spC.enc c) K → Out w V2 u (spC.enc c) [] := by
    intro K
    induction K with
    | nil => exact id
    | cons p K ih => exact fun h => ih h.drop
  exact hdrop _ hO
/-- Settings that stand on blocks from n on. -/
def CVs (n : Nat) (V : World) (v : Value) (c : Cgf) : Prop := ∀ w1 V' : World, w1.heap.size ≤ n → Below w1.heap.size w1 V' → (∀ b, n ≤ b → b < V.heap.size → V'.heap[b]? = V.heap[b]?) → CV V' v c
theorem Mem.move {w V w1 V' : World} {L : List (Nat × Obj)} (h : Mem w V L) (h1 : w1.heap.size ≤ w.heap.size) (hb : Below w1.heap.size w1 V') (ha : ∀ b, w.heap.size ≤ b → b < V.heap.size → V'.heap[b]? = V.heap[b]?) : Mem w1 V' L :=
  ⟨hb, fun p hp => Nat.le_trans h1 (h.low p hp), fun p hp => (ha _ (h.low p hp) (h.lt hp)).trans (h.at_ p hp), h.apart⟩
theorem fin_C {w : World} {g0 : Nat} {z0 : Array Value} : ∀ x g rb z V K, (g0, Obj.cells z0 28 (0, 0)) ∈ K → JC w x g 28 [] [] V ((rb, .cells z 28 (0, 0)) :: K) → ∃ tl, V.heap[g]? = some (.cells tl 28 (0, 0)) ∧ tl.size = 29 ∧ tl.all (·.oneCell') = true ∧ V.heap[rb]? = some (.cells z 28 (0, 0)) ∧ Mem w (V.setRow rb tl) ((rb, .cells tl 28 (0, 0)) :: K) ∧ ∀ B, CVs w.heap.size ((V.setRow rb tl).setRow g0 B) (.agg tl) x := by
  rintro t g rb z V K hK ⟨hlen, hbd, h, zs, hz, hok, hM2⟩
  simp only [List.nil_append, List.append_nil] at hM2
  have hzl : zs.length ≤ 255 := by rw [← hz, List.length_map] at hbd; exact hbd
  have hone := cc_one t (v := lv h (zs.map tcs)) (by cases zs <;> rfl)
  obtain ⟨tl, htl⟩ : ∃ tl, (cc t (lv h (zs.map tcs))).toArray = tl := ⟨_, rfl⟩
  rw [htl] at hM2 hone
  have hM3 : Mem w V ((rb, .cells z 28 (0, 0)) :: (g, .cells tl 28 (0, 0)) :: (tbk h zs ++ K)) := hM2.perm (by
    classical
    rw [List.perm_iff_count]
    intro q
    simp only [List.count_append, List.count_cons]
    omega)
  have hg3 := hM3.get 0 rfl
  have hM4 : Mem w (V.setRow rb tl) ((rb, .cells tl 28 (0, 0)) :: (g, .cells tl 28 (0, 0)) :: (tbk h zs ++ K)) := hM3.wrote 0 rfl (wrote_setRow V rb z _ _ hg3)
  refine ⟨tl, hM2.get 0 rfl, by rw [← htl, List.size_toArray]; exact cc_len hlen _, hone, hg3, hM4.subl ?_, fun B w1 V' h1 hb ha => ⟨hlen, _, by rw [← htl], ?_⟩⟩
  · exact List.Sublist.cons_cons _ (List.Sublist.cons _ (List.sublist_append_right _ _))
  · rw [← hz]
    obtain ⟨K1, K2, rfl⟩ := List.append_of_mem hK
    have hM5 : Mem w (V.setRow rb tl) ((g0, .cells z0 28 (0, 0)) :: (tbk h zs ++ (K1 ++ K2))) := (show Mem w (V.setRow rb tl) (tbk h zs ++ (K1 ++ (g0, .cells z0 28 (0, 0)) :: K2)) from hM4.sub.sub).perm (by
      classical
      rw [List.perm_iff_count]
      intro q
      simp only [List.count_append, List.count_cons]
      omega)
    exact tsv_own hok hzl ((hM5.wrote 0 rfl (wrote_setRow _ g0 z0 B _ (hM5.get 0 rfl))).sub.move h1 hb ha)
theorem JC_mem {w : World} {x : Cgf} {g : Nat} {V : World} {K : List (Nat × Obj)} {T : TypeId} {pre post : List Value} (h : JC w x g T pre post V K) : Mem w V K := by
  obtain ⟨h1, h2, h, zs, h3, h4, h5⟩ := h
  exact h5.sub.dropA
theorem JC_zero {w V : World} {g : Nat} {T : TypeId} {K : List (Nat × Obj)} (h : Mem w V ((g, .cells cz T (0, 0)) :: K)) : JC w cfg0 g T [] [] V K :=
  ⟨cfg0_len, by decide, 0, [], rfl, (by simp), h⟩
/-- Settings that all bytes are. -/
def cdec (l : List Int) : Option Cgf := match spC.dec l cfg0 with | some (x, []) => some x | _ => none
/-- What OpenConfig answers. -/
def OPC (w : World) (r : Option Cgf) (e : Ending) (w' : World) : Prop := Below w.heap.size w w' ∧ match r with
  | none => e = .returned (.tuple #[.agg cz, .int .i64 70])
  | some h => ∃ v, e = .returned (.tuple #[v, .int .i64 0]) ∧ CVs w.heap.size w' v h
theorem CV.row {w : World} {v : Value} {c : Cgf} (h : CV w v c) : ∃ tl : Array Value, v = .agg tl ∧ tl.size = 29 ∧ tl.all (·.oneCell') = true := by
  obtain ⟨h1, u, rfl, h2⟩ := h
  exact ⟨_, rfl, by rw [List.size_toArray]; exact cc_len h1 _, cc_one c h2.one⟩
set_option maxHeartbeats 8000000 in
theorem openConfig_any {w : World} {a : Option Addr} {l : List Int} {c : Nat} (hS : Sl w a l c) :
    Calls Tryz.prog 19 #[.slice a l.length c] w (OPC w (cdec l)) := by
  obtain ⟨g, hg⟩ : ∃ g, w.heap.size = g := ⟨_, rfl⟩
  have hM0 : Mem w (w.alloc (.cells cz 28)) ((g, .cells cz 28 (0, 0)) :: []) := (Mem.nil w).push1 hg.symm
  have hCW := fun {f : Fv} {E : List (Nat × Obj)} {V : World} (hM : Mem w V (E ++ [(g, .cells cz 28 (0, 0))])) (hF : Fw w E IC JC f spC) => whole_C (I := IC) (Q := fun x V v => ∃ tl, v = .agg tl ∧ tl.size = 29 ∧ tl.all (·.oneCell') = true ∧ ∀ B, CVs w.heap.size (V.setRow g B) v x) hM hF.er hF.rd hS cfg0 (fun g V K h => JC_zero h) (fun x V K h => JC_mem h) (fun x g' rb z V K hs h => by
    obtain ⟨tl, h1, h2, h3, h4, h5, h6⟩ := fin_C (g0 := g) (z0 := cz) x g' rb z V K (hs _ (by simp)) h
    exact ⟨tl, h1, h2, h3, h4, h5, tl, rfl, h2, h3, h6⟩)
  obtain ⟨R, hR⟩ : ∃ R, cdec l = R := ⟨_, rfl⟩
  have HCW : Hid (∀ (k1 k2 k3 : Nat) (c1' c2 c3 : Array Value) (E : List (Nat × Obj)) (V : World), Mem w V (E ++ [(g, .cells cz 28 (0, 0))]) → Fw w E IC JC ⟨k1, k2, k3, c1', c2, c3⟩ spC →
          Calls Tryz.prog 38 #[.agg #[.func (.func k1) #[] c1', .func (.func k2) #[] c2, .func (.func k3) #[] c3], .slice a l.length c] V fun e W' => ∃ (tl : Array Value) (er : Int), e = .returned (.tuple #[.agg tl, .int .i64 er]) ∧ tl.size = 29 ∧ tl.all (·.oneCell') = true ∧ Mem w W' (E ++ [(g, .cells cz 28 (0, 0))]) ∧
            (Below w.heap.size w (W'.setRow g tl) → OPC w R (.returned (.tuple #[.agg tl, .int .i64 er])) (W'.setRow g tl))) := by
    intro k1 k2 k3 c1' c2 c3 E V hM hF
    have h := hCW hM hF
    have hzo : (cz : Array Value).all (·.oneCell') = true := by kernel_rfl
    rw [← hR]
    unfold cdec
    cases hd : spC.dec l cfg0 with
    | none =>
      rw [hd] at h
      exact h.mono (fun e W' h => ⟨cz, 70, h.2, rfl, hzo, h.1, fun hb => ⟨hb, rfl⟩⟩)
    | some x =>
      obtain ⟨s, l'⟩ := x
      rw [hd] at h
      cases l' with
      | nil =>
        refine h.mono ?_
        rintro e W' ⟨h1, v, h2, tl, rfl, h4, h5, h6⟩
        exact ⟨tl, 0, h2, h4, h5, h1, fun hb => ⟨hb, _, rfl, h6 tl⟩⟩
      | cons x xs => exact h.mono (fun e W' h => ⟨cz, 70, h.2, rfl, hzo, h.1, fun hb => ⟨hb, rfl⟩⟩)
  rw [hR]
  have C := config_any hM0
  clear hCW hS hR
  generalize l.length = n at *
  go_enter Tryz.func19, Tryz.ntmps19
  go_upto_region 1 with fail
  refine wp_letter (fun V => V = w.alloc (.cells cz 28)) rfl ?_
  rintro V0 rfl
  clear hM0
  go_wp2_with fail
  refine C.mono ?_
  rintro e V ⟨⟨k1, k2, k3, q1, q2, q3⟩, E, rfl, hM, hF⟩
  simp only [Fv.val]
  have CW := HCW.out _ _ _ _ _ _ _ _ hM hF
  clear HCW C hM hF
  go_wp2_with fail
  refine CW.mono ?_
  rintro e V2 ⟨tl, er, rfl, hs1, hs2, hM2, hP⟩
  have hM3 : Mem w V2 ((g, .cells cz 28 (0, 0)) :: E) := hM2.perm List.perm_append_comm
  have hg3 := hM3.get 0 rfl
  have hM4 : Mem w (V2.setRow g tl) ((g, .cells tl 28 (0, 0)) :: E) := hM3.wrote 0 rfl (wrote_setRow V2 g _ _ _ hg3)
  have hi29 : (Tryz.prog.info? 28).map (·.size) = some tl.size := by rw [hs1]; kernel_rfl
  have HP : Hid (OPC w R (.returned (.tuple #[.agg tl, .int .i64 er])) (V2.setRow g tl)) := hP hM4.below
  clear CW hP hM2 hM3
  go_wp2_with (refine wpList_store_row rfl 28 (.tmp 2) (.tmp 7) (by with_reducible rfl) g tl (by first | rfl | simp [Act.eval]) (by first | rfl | simp [Act.eval]) 28 cz hg3 hi29 (by rw [hs1]; rfl) hs2 ?_)
  refine bodyPost_ret (v := .tuple #[.agg tl, .int .i64 er]) ?_ rfl HP.out
  exact results_two' (p := 2) (q := 3) (ty := 28) rfl _ _ g _ rfl (run_loadVar_row _ _ 28 28 _ (0, 0) _ (hM4.get 0 rfl) Tryz.underlying28 rfl hi29)
end Go.Proofs.YtngegdamcfmonaaGreat

