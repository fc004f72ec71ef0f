/-
  Settings as bytes: the program's OpenTenant, at all bytes.
-/
import Derived.Test.YtngegdamcfmonaaGreatM31
namespace Go.Proofs.YtngegdamcfmonaaGreat
open Go.RowKit
open Sm
open Cf
set_option linter.unusedVariables false
set_option maxRecDepth 20000

theorem rw_own_U {w V : World} {K : List (Nat × Obj)} (l : List Int) (hp : Nat) (h : Mem w V (lb hp 22 (ux l) ++ K)) (hl : l.length ≤ 255) : Rw V 1 (lv hp (ux l)) (ux l) := by
  have hlen : (ux l).length = l.length := by simp [ux]
  by_cases h0 : l = []
  · subst h0; exact ⟨none, 0, rfl, Nat.le_refl _, by omega, fun _ => rfl, Or.inl rfl⟩
  · have hne : ux l ≠ [] := by simpa [ux] using h0
    rw [lb_one hne] at h
    rw [lv_one hne]
    refine ⟨_, _, rfl, Nat.le_refl _, by omega, (fun e => by cases e), Or.inr ⟨hp, 0, rfl, fun i hi j u hj => ?_⟩⟩
    obtain ⟨x, hx⟩ : ∃ x, l[i]? = some x := ⟨_, List.getElem?_eq_getElem (by omega)⟩
    have ex : (ux l).getD i [] = [.int .u32 x] := by simp [ux, List.getD, hx]
    rw [ex] at hj
    rw [h.cell 0 rfl, flat_TU l i x hx]
    have := get_mid (ux (l.take i)).flatten [.int .u32 x] (ux (l.drop (i + 1))).flatten j u hj
    rw [flatl_TU, List.length_take, Nat.min_eq_left (by omega)] at this
    rw [Nat.zero_add]; exact this
theorem rw_own_P {w V : World} {K : List (Nat × Obj)} (l : List (Int × Int)) (hp : Nat) (h : Mem w V (lb hp 142 (px l) ++ K)) (hl : l.length ≤ 255) : Rw V 2 (lv hp (px l)) (px l) := by
  have hlen : (px l).length = l.length := by simp [px]
  by_cases h0 : l = []
  · subst h0; exact ⟨none, 0, rfl, Nat.le_refl _, by omega, fun _ => rfl, Or.inl rfl⟩
  · have hne : px l ≠ [] := by simpa [px] using h0
    rw [lb_one hne] at h
    rw [lv_one hne]
    refine ⟨_, _, rfl, Nat.le_refl _, by omega, (fun e => by cases e), Or.inr ⟨hp, 0, rfl, fun i hi j u hj => ?_⟩⟩
    obtain ⟨x, hx⟩ : ∃ x, l[i]? = some x := ⟨_, List.getElem?_eq_getElem (by omega)⟩
    have ex : (px l).getD i [] = [.int .u32 x.1, .int .u32 x.2] := by simp [px, List.getD, hx]
    rw [ex] at hj
    rw [h.cell 0 rfl, flat_TP l i x hx]
    have := get_mid (px (l.take i)).flatten [.int .u32 x.1, .int .u32 x.2] (px (l.drop (i + 1))).flatten j u hj
    rw [flatl_TP, List.length_take, Nat.min_eq_left (by omega)] at this
    rw [Nat.zero_add]; exact this
theorem tc_one (t : Ten) (hp hs hq : Nat) (x y z : List (List Value)) : (tc t (lv hp x) (lv hs y) (lv hq z)).toArray.all (·.oneCell') = true := by
  have ho : ∀ h xs, (lv h xs).oneCell' = true := by intro h xs; cases xs <;> rfl
  apply all_oneCell_toArray
  intro v hv
  simp only [tc, List.mem_cons, List.mem_append, List.mem_map, List.not_mem_nil, or_false] at hv
  rcases hv with rfl | rfl | ⟨x, _, rfl⟩ | rfl | ⟨x, _, rfl⟩ | ⟨x, _, rfl⟩ | rfl | rfl | rfl | rfl | rfl | rfl | rfl | rfl | rfl | rfl <;> first | rfl | exact ho _ _
theorem perm4 {α : Type} (d b c a : α) (l : List α) : (c :: b :: d :: a :: l).Perm (c :: b :: d :: a :: l) := List.Perm.refl _
/-- A tenant that bytes begin with, and those behind. -/
def tdec (l : List Int) : Option (Ten × List Int) := spT.dec l ten0
abbrev tz : Array Value := (tc ten0 nilV nilV nilV).toArray
theorem JT_zero {w V : World} {g : Nat} {T : TypeId} {K : List (Nat × Obj)} (h : Mem w V ((g, .cells tz T (0, 0)) :: K)) : JT w ten0 g T [] [] V K :=
  ⟨ten0_len, ⟨by decide, by decide, by decide⟩, 0, 0, 0, h⟩
theorem build_T (V : World) : (Instr.build 33 #[]).run Tryz.prog V = .ok (.agg tz) V := by kernel_rfl
theorem sizeT : (Tryz.prog.info? 33).map (·.size) = some 33 := by kernel_rfl

theorem results_two' {fn : Func} {p q : Tmp} {ty : TypeId} (h : fn.results = #[.cell p ty, .tmp q]) (tmps : Array Value) (w : World) (g : Nat) (cs : Array Value)
    (hp : tmps.getD p undef = .pointer (some ⟨g, 0, none⟩)) (hl : (loadVar ty ⟨g, 0, none⟩).run Tryz.prog w = .ok (.agg cs) w) :
    (results fn tmps).run Tryz.prog w = .ok (.tuple #[.agg cs, tmps.getD q undef]) w := by
  have hp' : tmps[p]?.getD undef = .pointer (some ⟨g, 0, none⟩) := by simpa using hp
  simp [results, h, hp', asAddr, hl]
theorem results_three {fn : Func} {p q r : Tmp} {ty : TypeId} (h : fn.results = #[.cell p ty, .tmp q, .tmp r]) (tmps : Array Value) (w : World) (g : Nat) (cs : Array Value)
    (hp : tmps.getD p undef = .pointer (some ⟨g, 0, none⟩)) (hl : (loadVar ty ⟨g, 0, none⟩).run Tryz.prog w = .ok (.agg cs) w) :
    (results fn tmps).run Tryz.prog w = .ok (.tuple #[.agg cs, tmps.getD q undef, tmps.getD r undef]) w := by
  have hp' : tmps[p]?.getD undef = .pointer (some ⟨g, 0, none⟩) := by simpa using hp
  simp [results, h, hp', asAddr, hl]
set_option maxHeartbeats 8000000 in
theorem openTenant_any {w : World} {a : Option Addr} {l : List Int} {c : Nat} (hS : Sl w a l c) (hl : l.length ≤ 1000000) :
    Calls Tryz.prog 21 #[.slice a l.length c] w fun e w' => Below w.heap.size w w' ∧ match tdec l with
      | none => e = .returned (.tuple #[.agg tz, .int .i64 0, .int .i64 70])
      | some (t, l') => ∃ v, e = .returned (.tuple #[v, .int .i64 ((l.length : Int) - l'.length), .int .i64 0]) ∧ TV w' v t := by
  have hM0 : Mem w ((w.alloc (.cells tz 33)).alloc (.cells tz 33)) [(w.heap.size + 1, .cells tz 33 (0, 0)), (w.heap.size, .cells tz 33 (0, 0))] := two_blocks' w _ _
  have C := tenant_any hM0
  obtain ⟨g, hg⟩ : ∃ g, w.heap.size = g := ⟨_, rfl⟩
  rw [hg] at C
  obtain ⟨R, hR⟩ : ∃ R, tdec l = R := ⟨_, rfl⟩
  rw [hR]
  clear hM0
  go_enter Tryz.func21, Tryz.ntmps21
  go_upto_region 2 with (refine wpList_store_row rfl 33 (.tmp 5) (.tmp 8) (by with_reducible rfl) (w.heap.size + 1) tz (by simp [Act.eval]) (by simp [Act.eval]; rfl) 33 tz (heap_alloc2_new _ _ _) (by kernel_rfl) rfl (by kernel_rfl) ?_)
  refine wp_letter (fun V => V = (w.alloc (.cells tz 33)).alloc (.cells tz 33)) (by
    have := World.setRow_alloc_new (w.alloc (.cells tz 33)) tz tz 33
    rw [show (w.alloc (.cells tz 33)).heap.size = w.heap.size + 1 by simp] at this
    exact this) ?_
  rintro V0 rfl
  go_wp2_with fail
  refine C.mono ?_
  rintro e V ⟨⟨k1, k2, k3, c1, c2, c3⟩, E, rfl, hM, hF⟩
  have hM1 : Mem w V ((g + 1, .cells tz 33 (0, 0)) :: (E ++ [(g, .cells tz 33 (0, 0))])) := hM.perm (List.perm_middle (l₁ := E))
  have CR := hF.rd (E ++ [(g, .cells tz 33 (0, 0))]) (fun q hq => List.mem_append_left _ hq) ten0 (g + 1) 33 [] [] a l c V (JT_zero hM1) hS
  have eg : ∀ args V, (callFunc k2 args).run Tryz.prog V = .ok (.enter k2 args) V := hF.er
  have hfd : ∀ V, (Instr.field 79 (.agg #[.func (.func k1) #[] c1, .func (.func k2) #[] c2, .func (.func k3) #[] c3]) 1).run Tryz.prog V = .ok (.func (.func k2) #[] c2) V := fun V => by kernel_rfl
  simp only [List.length_nil] at CR
  simp only [tdec] at hR
  rw [hR] at CR
  simp only [Fv.val]
  clear hF C hM hM1 hS hR
  generalize hll : l.length = n at *
  cases R with
  | none =>
    go_wp2_with fail
    refine CR.mono ?_
    rintro e V2 ⟨rfl, hM2⟩
    have hM3 : Mem w V2 ((g, .cells tz 33 (0, 0)) :: E) := hM2.perm List.perm_append_comm
    have hg3 := hM3.get 0 rfl
    have hM4 : Mem w (V2.setRow g tz) ((g, .cells tz 33 (0, 0)) :: E) := hM3.wrote 0 rfl (wrote_setRow V2 g tz tz _ hg3)
    have hbt := build_T
    go_wp2_with (refine wpList_store_row rfl 33 (.tmp 2) (.tmp 18) (by with_reducible rfl) g tz (by simp [Act.eval]) (by simp [Act.eval]; rfl) 33 tz hg3 (by kernel_rfl) rfl (by kernel_rfl) ?_)
    refine bodyPost_ret (v := .tuple #[.agg tz, .int .i64 0, .int .i64 70]) ?_ rfl ⟨hg ▸ hM4.below, rfl⟩
    exact results_three (p := 2) (q := 3) (r := 4) (ty := 33) rfl _ _ g tz rfl (run_loadVar_row _ _ 33 33 _ (0, 0) _ (hM4.get 0 rfl) Tryz.underlying33 rfl (by kernel_rfl))
  | some x =>
    obtain ⟨t, l'⟩ := x
    go_wp2_with fail
    refine CR.mono ?_
    rintro e V2 ⟨a2, c2', rfl, hS2, hJ⟩
    obtain ⟨hlen, hbd, hp, hs, hq, hM2⟩ := hJ
    simp only [List.nil_append, List.append_nil] at hM2
    have hone := tc_one t hp hs hq (ux t.pool) (px t.stat) (px t.twi)
    obtain ⟨tl, htl⟩ : ∃ tl, (tc t (lv hp (ux t.pool)) (lv hs (px t.stat)) (lv hq (px t.twi))).toArray = tl := ⟨_, rfl⟩
    rw [htl] at hM2 hone
    have hg5 := hM2.get 0 rfl
    have hsz : tl.size = 33 := by rw [← htl, List.size_toArray]; exact tc_len hlen _ _ _
    have hi33 : (Tryz.prog.info? 33).map (·.size) = some tl.size := by rw [hsz]; kernel_rfl
    have hM3 : Mem w V2 ((g, .cells tz 33 (0, 0)) :: (g + 1, .cells tl 33 (0, 0)) :: (lb hp 22 (ux t.pool) ++ (lb hs 142 (px t.stat) ++ (lb hq 142 (px t.twi) ++ E)))) := hM2.perm (by
      rw [← List.append_assoc, ← List.append_assoc, ← List.append_assoc, ← List.cons_append]
      refine List.Perm.trans List.perm_append_comm ?_
      rw [List.append_assoc, List.append_assoc]
      exact List.Perm.refl _)
    have hg3 := hM3.get 0 rfl
    have hM4 : Mem w (V2.setRow g tl) ((g, .cells tl 33 (0, 0)) :: (g + 1, .cells tl 33 (0, 0)) :: (lb hp 22 (ux t.pool) ++ (lb hs 142 (px t.stat) ++ (lb hq 142 (px t.twi) ++ E)))) := hM3.wrote 0 rfl (wrote_setRow V2 g tz _ _ hg3)
    have HT : Hid (TV (V2.setRow g tl) (.agg tl) t) :=
      ⟨hlen, _, _, _, by rw [← htl], rw_own_U _ _ hM4.sub.sub hbd.1, rw_own_P _ _ hM4.sub.sub.dropA hbd.2.1, rw_own_P _ _ hM4.sub.sub.dropA.dropA hbd.2.2⟩
    have hl2 : IntKind.i64.wrap ((n : Int) - l'.length) = (n : Int) - l'.length := wrap64n (by have := hS2.row.len; omega) (by omega)
    clear CR hM2 hM3 hS2 htl
    go_wp2_with (first | (refine wpList_load_row rfl 33 (.tmp 5) (by with_reducible rfl) (g + 1) (by simp [Act.eval]) 33 tl (0, 0) _ hg5 Tryz.underlying33 rfl hi33 ?_) | (refine wpList_store_row rfl 33 (.tmp 2) (.tmp 19) (by with_reducible rfl) g tl (by simp [Act.eval]) (by simp [Act.eval]) 33 tz hg3 hi33 (by rw [hsz]; rfl) hone ?_))
    refine bodyPost_ret (v := .tuple #[.agg tl, .int .i64 ((n : Int) - l'.length), .int .i64 0]) ?_ rfl ⟨hg ▸ hM4.below, ⟨_, rfl, HT.out⟩⟩
    exact results_three (p := 2) (q := 3) (r := 4) (ty := 33) rfl _ _ g tl rfl (run_loadVar_row _ _ 33 33 _ (0, 0) _ (hM4.get 0 rfl) Tryz.underlying33 rfl hi33)
end Go.Proofs.YtngegdamcfmonaaGreat

