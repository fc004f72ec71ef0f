/-
  Settings as bytes: the program's OpenChange, at all bytes.
  Settings as bytes: the fields of settings, each as the program makes it.
-/
import Derived.Test.YtngegdamcfmonaaGreatM38
import Derived.Test.YtngegdamcfmonaaGreatM41
namespace Go.Proofs.YtngegdamcfmonaaGreat
open Go.RowKit
open Sm
open Cf
set_option linter.unusedVariables false
set_option maxRecDepth 20000

/-- All but the first byte. -/
theorem sl_tail {a : Option Addr} {b : Int} {r : List Int} {c : Nat} {w : World} (hS : Sl w a (b :: r) c) : ∃ a1 c1, (∀ V, (Instr.slice 40 (.slice a (b :: r).length c) (some (.int .i64 1)) none none).run Tryz.prog V = .ok (.slice a1 r.length c1) V) ∧ Sl w a1 r c1 := by
  have hc := hS.le
  simp only [List.length_cons] at hc
  have hb := hS.big
  rcases hS.row.cells with e | ⟨b0, off, rfl, hcl⟩
  · simp at e
  · have hsz : ∀ V, (sizeOf (Tryz.prog.elem 40)).run Tryz.prog V = .ok 1 V := fun V => by kernel_rfl
    have hrun : ∀ V, (Instr.slice 40 (.slice (some ⟨b0, off, none⟩) (b :: r).length c) (some (.int .i64 1)) none none).run Tryz.prog V = .ok (sliced (some ⟨b0, off, none⟩) 1 (b :: r).length c 1) V := by
      intro V
      rw [run_slice_l (P := Tryz.prog) V 40 (some ⟨b0, off, none⟩) (b :: r).length c (by kernel_rfl) .i64 1 (by omega) (by simp only [List.length_cons]; omega), hsz]
      rfl
    by_cases h1 : c = 1
    · obtain rfl : r = [] := List.eq_nil_of_length_eq_zero (by omega)
      subst h1
      exact ⟨some ⟨b0, off, none⟩, 0, fun V => by rw [hrun]; rfl, ⟨row_empty w _, by simp, by omega, fun e => by cases e⟩⟩
    · refine ⟨some ⟨b0, off + 1, none⟩, c - 1, fun V => by rw [hrun]; simp [sliced, Addr.add, h1], ⟨?_, by omega, by omega, fun e => by cases e⟩⟩
      have := hS.row.part 1 r.length (by simp only [List.length_cons]; omega)
      simpa using this
/-- A change that all bytes are. -/
def hdec : List Int → Option Chg
  | [] => none
  | b :: r => if b = 0 then (match spN.dec r ByteArray.empty with | some (s, []) => some ⟨false, s, ten0⟩ | _ => none)
    else if b = 1 then (match tdec r with | some (t, []) => some ⟨true, t.name, t⟩ | _ => none) else none
theorem step_store_row {ops : Array Oper} {o : Oper} {a : Act} {w : World} {K : Act → World → Prop} {Q : Exit → Act → World → Prop} {E : Prop} (hgd : o.guard = none) (ty : TypeId) (x y : Operand) (ho : o.op = .store ty x y)
    (g : Nat) (cells : Array Value) (hx : a.eval x = .pointer (some ⟨g, 0, none⟩)) (hy : a.eval y = .agg cells)
    (t : TypeId) (old : Array Value) (hg : w.heap[g]? = some (.cells old t (0, 0))) (hi : (Tryz.prog.info? ty).map (·.size) = some cells.size)
    (hold : old.size = cells.size) (h1 : cells.all (·.oneCell') = true) (h : K (a.put o.dst undef) (w.setRow g cells)) :
    if Region.wanted o (yielded ops a.tmps) = true then Oper.wp Tryz.prog o a w K Q else E := by
  have hw : Region.wanted o (yielded ops a.tmps) = true := by simp [Region.wanted, hgd]
  rw [if_pos hw]
  exact wp_store_row ty x y ho g cells hx hy t old hg hi hold h1 h
theorem storeCells_row (V : World) (g : Nat) (old tl : Array Value) (t : TypeId) (hg : V.heap[g]? = some (.cells old t (0, 0))) (hs : old.size = tl.size) (h1 : tl.all (·.oneCell') = true) : (storeCells ⟨g, 0, none⟩ tl.toList).run Tryz.prog V = .ok () (V.setRow g tl) := by
  have := run_storeCells_at Tryz.prog g 0 t tl.toList 0 old V hg (by simp; omega) (fun u hu => by
    rw [Array.all_eq_true_iff_forall_mem] at h1
    exact h1 u (by simpa using hu))
  simp only [Nat.add_zero, List.take_zero, List.nil_append, Nat.zero_add, Array.length_toList] at this
  rw [List.drop_of_length_le (by simp; omega), List.append_nil] at this
  simpa using this
theorem fin_H {w : World} : ∀ x g rb z V K, JH w x g 35 [] [] V ((rb, .cells z 35 (0, 0)) :: K) → ∃ tl, V.heap[g]? = some (.cells tl 35 (0, 0)) ∧ tl.size = 35 ∧ tl.all (·.oneCell') = true ∧ V.heap[rb]? = some (.cells z 35 (0, 0)) ∧ Mem w (V.setRow rb tl) ((rb, .cells tl 35 (0, 0)) :: K) ∧ Value.agg tl = .agg (hc ⟨false, x, ten0⟩ nilV nilV nilV).toArray := by
  intro x g rb z V K h
  have h' : Mem w V ((g, .cells (hc ⟨false, x, ten0⟩ nilV nilV nilV).toArray 35 (0, 0)) :: (rb, .cells z 35 (0, 0)) :: K) := by
    have h2 : Mem w V _ := h
    simpa only [List.nil_append, List.append_nil] using h2
  exact ⟨_, h'.get 0 rfl, rfl, (by kernel_rfl), h'.get 1 rfl, h'.sub.wrote 0 rfl (wrote_setRow V rb z _ _ (h'.get 1 rfl)), rfl⟩
theorem fin_T {w : World} : ∀ x g rb z V K, JT w x g 33 [] [] V ((rb, .cells z 33 (0, 0)) :: K) → ∃ tl, V.heap[g]? = some (.cells tl 33 (0, 0)) ∧ tl.size = 33 ∧ tl.all (·.oneCell') = true ∧ V.heap[rb]? = some (.cells z 33 (0, 0)) ∧ Mem w (V.setRow rb tl) ((rb, .cells tl 33 (0, 0)) :: K) ∧ TV (V.setRow rb tl) (.agg tl) x := by
  rintro t g rb z V K ⟨hlen, hbd, hp, hs, hq, hM2⟩
  simp only [List.nil_append, List.append_nil] at hM2
  have hone := tc_one t hp hs hq (ux t.pool) (px t.stat) (px t.twi)
  obtain ⟨tl, htl⟩ : ∃ tl, (tc t (lv hp (ux t.pool)) (lv hs (px t.stat)) (lv hq (px t.twi))).toArray = tl := ⟨_, rfl⟩
  rw [htl] at hM2 hone
  have hM3 : Mem w V ((rb, .cells z 33 (0, 0)) :: (g, .cells tl 33 (0, 0)) :: (lb hp 22 (ux t.pool) ++ (lb hs 142 (px t.stat) ++ (lb hq 142 (px t.twi) ++ K)))) := hM2.perm (by
    classical
    rw [List.perm_iff_count]
    intro q
    simp only [List.count_append, List.count_cons]
    omega)
  have hg3 := hM3.get 0 rfl
  have hM4 : Mem w (V.setRow rb tl) ((rb, .cells tl 33 (0, 0)) :: (g, .cells tl 33 (0, 0)) :: (lb hp 22 (ux t.pool) ++ (lb hs 142 (px t.stat) ++ (lb hq 142 (px t.twi) ++ K)))) := hM3.wrote 0 rfl (wrote_setRow V rb z _ _ hg3)
  refine ⟨tl, hM2.get 0 rfl, by rw [← htl, List.size_toArray]; exact tc_len hlen _ _ _, hone, hg3, hM4.subl ?_, ⟨hlen, _, _, _, by rw [← htl], rw_own_U _ _ hM4.sub.sub hbd.1, rw_own_P _ _ hM4.sub.sub.dropA hbd.2.1, rw_own_P _ _ hM4.sub.sub.dropA.dropA hbd.2.2⟩⟩
  refine List.Sublist.cons_cons _ (List.Sublist.cons _ ?_)
  exact (List.sublist_append_right _ _).trans ((List.sublist_append_right _ _).trans (List.sublist_append_right _ _))
theorem st_newA (V : World) (A tl : Array Value) (hA : A.size = 33) (hs : tl.size = 33) (h1 : tl.all (·.oneCell') = true) : (storeCells ⟨V.heap.size, 0, none⟩ tl.toList).run Tryz.prog (V.alloc (.cells A 33)) = .ok () (V.alloc (.cells tl 33)) :=
  run_storeCells_new V 33 _ tl (by rw [hs]; kernel_rfl) (by rw [hs, hA]) h1
theorem st_lit (V : World) (tl : Array Value) (hs : tl.size = 33) (h1 : tl.all (·.oneCell') = true) : (storeCells ⟨V.heap.size, 0, none⟩ tl.toList).run Tryz.prog (V.alloc (.cells #[.string ⟨#[]⟩, .int .u32 0, .int .u8 0, .int .u8 0, .int .u8 0, .int .u8 0, .int .u8 0, .int .u8 0, .int .u8 0, .int .u8 0, .int .u32 0, .int .u8 0, .int .u8 0, .int .u8 0, .int .u8 0, .int .u8 0, .int .u8 0, .int .u8 0, .int .u8 0, .int .u8 0, .int .u8 0, .int .u8 0, .int .u8 0, .slice none 0 0, .int .u16 0, .int .u16 0, .int .i64 0, .slice none 0 0, .slice none 0 0, .int .i64 0, .int .i64 0, .int .u32 0, .int .u32 0] 33)) = .ok () (V.alloc (.cells tl 33)) := st_newA V _ tl rfl hs h1
theorem rw_one {V : World} {n : Nat} {p : Value} {xs : List (List Value)} (h : Rw V n p xs) : p.oneCell' = true := by
  obtain ⟨a, c, rfl, _⟩ := h; rfl
theorem tc_one2 (t : Ten) {p s q : Value} (h1 : p.oneCell' = true) (h2 : s.oneCell' = true) (h3 : q.oneCell' = true) : (tc t p s q).toArray.all (·.oneCell') = true := by
  apply all_oneCell_toArray
  intro v hv
  simp only [tc, List.mem_cons, List.mem_append, List.mem_map, List.not_mem_nil, or_false] at hv
  rcases hv with rfl | rfl | ⟨x, _, rfl⟩ | rfl | ⟨x, _, rfl⟩ | ⟨x, _, rfl⟩ | rfl | rfl | rfl | rfl | rfl | rfl | rfl | rfl | rfl | rfl <;> first | rfl | assumption
theorem build_put (t : Ten) (h : TLen t) (p s q : Value) (x : ByteArray) (V : World) : (Instr.build 35 #[(0, .bool true), (1, .string x), (2, .agg (tc t p s q).toArray)]).run Tryz.prog V = .ok (.agg (hc ⟨true, x, t⟩ p s q).toArray) V := by
  obtain ⟨n, vn, key, vt, vm, ho, po, lo, hi, fi, st, tw, se, qu, ra, bu⟩ := t
  obtain ⟨h1, h2, h3⟩ := h
  obtain ⟨a, b, c, d, f, g, x, y, rfl⟩ := eight8 h1
  obtain ⟨a1, b1, c1, d1, f1, g1, rfl⟩ := six6 h2
  obtain ⟨a2, b2, c2, d2, f2, g2, rfl⟩ := six6 h3
  kernel_rfl
theorem JT_mem {w : World} {x : Ten} {g : Nat} {V : World} {K : List (Nat × Obj)} {T : TypeId} {pre post : List Value} (h : JT w x g T pre post V K) : Mem w V K := by
  obtain ⟨h1, h2, hp, hs, hq, h3⟩ := h
  exact h3.sub.dropA.dropA.dropA
theorem build_H (V : World) : (Instr.build 35 #[]).run Tryz.prog V = .ok (.agg hz0) V := by kernel_rfl
theorem sizeH : (Tryz.prog.info? 35).map (·.size) = some 35 := by kernel_rfl
theorem hz0_one : (hz0 : Array Value).all (·.oneCell') = true := by kernel_rfl
/-- What OpenChange answers. -/
def OCP (w : World) (r : Option Chg) (e : Ending) (w' : World) : Prop := Below w.heap.size w w' ∧ match r with
  | none => e = .returned (.tuple #[.agg hz0, .int .i64 70])
  | some h => ∃ v, e = .returned (.tuple #[v, .int .i64 0]) ∧ HV w' v h
set_option maxHeartbeats 8000000 in
theorem openChange_no {w : World} {a : Option Addr} {l : List Int} {c : Nat} (hS : Sl w a l c) (hne : l.head? ≠ some 1) :
    Calls Tryz.prog 23 #[.slice a l.length c] w (OCP w (hdec l)) := by
  obtain ⟨g, hg⟩ : ∃ g, w.heap.size = g := ⟨_, rfl⟩
  have hM0 : Mem w (w.alloc (.cells hz0 35)) [(g, .cells hz0 35 (0, 0))] := (Mem.nil w).push1 hg.symm
  have hbt := build_H
  have hsz : (Tryz.prog.info? 35).map (·.size) = some (hz0 : Array Value).size := by kernel_rfl
  have hone := hz0_one
  have fail1 : ∀ V, Mem w V [(g, .cells hz0 35 (0, 0))] → V.heap[g]? = some (.cells hz0 35 (0, 0)) ∧ Mem w (V.setRow g hz0) [(g, .cells hz0 35 (0, 0))] := fun V hV => ⟨hV.get 0 rfl, hV.wrote 0 rfl (wrote_setRow V g _ _ _ (hV.get 0 rfl))⟩
  cases l with
  | nil =>
    obtain ⟨g0, hM1⟩ := fail1 _ hM0
    simp only [hdec]
    clear fail1 hM0
    go_enter Tryz.func23, Tryz.ntmps23
    go_wp2_with (refine wpList_store_row rfl 35 (.tmp 2) (.tmp 9) (by with_reducible rfl) g hz0 rfl rfl 35 hz0 g0 hsz rfl hone ?_)
    refine bodyPost_ret (v := .tuple #[.agg hz0, .int .i64 70]) ?_ rfl ⟨hM1.below, rfl⟩
    exact results_two' (p := 2) (q := 3) (ty := 35) rfl _ _ g _ rfl (run_loadVar_row _ _ 35 35 _ (0, 0) _ (hM1.get 0 rfl) Tryz.underlying35 rfl hsz)
  | cons b r =>
    obtain ⟨a1, c1, hsl, hS1⟩ := sl_tail hS
    have hbb : 0 ≤ b ∧ b ≤ 255 := by have := hS.row.bytes 0; simpa using this
    have hl := hS.row.len
    simp only [List.length_cons] at hl
    have hc0 : ∃ b0 off, a = some ⟨b0, off, none⟩ ∧ ∀ V, Below w.heap.size w V → V.cell? ⟨b0, off, none⟩ = some (.int .u8 b) := by
      rcases hS.row.cells with e | ⟨b0, off, e, hc⟩
      · simp at e
      · refine ⟨b0, off, e, fun V hV => ?_⟩
        have h1 := hc 0 (by simp)
        rw [hV.cell (p := ⟨b0, off, none⟩) (cell_lt h1)]
        simpa using h1
    obtain ⟨b0, off, rfl, hc0⟩ := hc0
    have hn : ((b :: r).length : Int) = (r.length : Int) + 1 := by simp
    generalize (b :: r).length = n at *
    have hn0 : ¬ ((n : Int) = 0) := by omega
    have hn1 : (0 : Int) < n := by omega
    have hn2 : 0 < n := by omega
    have hn3 : ¬ (n = 0) := by omega
    have hn4 : ((n : Int) == 0) = false := by simp; omega
    clear hn
    by_cases hb0 : b = 0
    · subst hb0
      have hCW := fun {f : Fv} {E : List (Nat × Obj)} {V : World} (hM : Mem w V (E ++ [(g, .cells hz0 35 (0, 0))])) (hF : Fd w E IH JH f spN) => whole_H (I := IH) (Q := fun x V v => v = .agg (hc ⟨false, x, ten0⟩ nilV nilV nilV).toArray) hM hF.er hF.rd hS1 ByteArray.empty (fun g V K h => by show Mem w V _; simpa only [List.nil_append, List.append_nil] using h) (fun x V K h => Mem.sub h) (fun x g rb z V K _ h => fin_H x g rb z V K h)
      obtain ⟨tl, er, hres, HCW⟩ : ∃ tl er, ((hdec (0 :: r) = none ∧ tl = hz0 ∧ er = 70) ∨ (∃ s, hdec (0 :: r) = some ⟨false, s, ten0⟩ ∧ tl = (hc ⟨false, s, ten0⟩ nilV nilV nilV).toArray ∧ er = 0)) ∧ Hid (∀ (k1 k2 k3 : Nat) (c1' c2 c3 : Array Value) (E : List (Nat × Obj)) (V : World), Mem w V (E ++ [(g, .cells hz0 35 (0, 0))]) → Fd w E IH JH ⟨k1, k2, k3, c1', c2, c3⟩ spN →
          Calls Tryz.prog 43 #[.agg #[.func (.func k1) #[] c1', .func (.func k2) #[] c2, .func (.func k3) #[] c3], .slice a1 r.length c1] V fun e W' => e = .returned (.tuple #[.agg tl, .int .i64 er]) ∧ Mem w W' (E ++ [(g, .cells hz0 35 (0, 0))])) := by
        cases hd : spN.dec r ByteArray.empty with
        | none =>
          refine ⟨hz0, 70, Or.inl ⟨by simp [hdec, hd], rfl, rfl⟩, fun k1 k2 k3 c1' c2 c3 E V hM hF => ?_⟩
          have := hCW hM hF
          rw [hd] at this
          exact this.mono (fun e W' h => ⟨h.2, h.1⟩)
        | some x =>
          obtain ⟨s, l'⟩ := x
          cases l' with
          | nil =>
            refine ⟨_, 0, Or.inr ⟨s, by simp [hdec, hd], rfl, rfl⟩, fun k1 k2 k3 c1' c2 c3 E V hM hF => ?_⟩
            have := hCW hM hF
            rw [hd] at this
            refine this.mono ?_
            rintro e W' ⟨h1, v, h2, rfl⟩
            exact ⟨h2, h1⟩
          | cons x xs =>
            refine ⟨hz0, 70, Or.inl ⟨by simp [hdec, hd], rfl, rfl⟩, fun k1 k2 k3 c1' c2 c3 E V hM hF => ?_⟩
            have := hCW hM hF
            rw [hd] at this
            exact this.mono (fun e W' h => ⟨h.2, h.1⟩)
      have htl : tl.size = 35 ∧ tl.all (·.oneCell') = true := by
        rcases hres with ⟨-, rfl, -⟩ | ⟨s, -, rfl, -⟩
        · exact ⟨rfl, hone⟩
        · exact ⟨rfl, by kernel_rfl⟩
      obtain ⟨htl, hto⟩ := htl
      have FIN : Hid (∀ V', Below w.heap.size w V' → OCP w (hdec (0 :: r)) (.returned (.tuple #[.agg tl, .int .i64 er])) V') := by
        intro V' hV'
        refine ⟨hV', ?_⟩
        rcases hres with ⟨e1, rfl, rfl⟩ | ⟨s, e1, rfl, rfl⟩
        · rw [e1]
        · rw [e1]
          refine ⟨_, rfl, ten0_len, nilV, nilV, nilV, rfl, ⟨none, 0, rfl, Nat.le_refl _, by omega, fun _ => rfl, Or.inl rfl⟩, ⟨none, 0, rfl, Nat.le_refl _, by omega, fun _ => rfl, Or.inl rfl⟩, ⟨none, 0, rfl, Nat.le_refl _, by omega, fun _ => rfl, Or.inl rfl⟩⟩
      obtain ⟨R, hR⟩ : ∃ R, hdec (0 :: r) = R := ⟨_, rfl⟩
      rw [hR] at FIN ⊢
      have hi35 : (Tryz.prog.info? 35).map (·.size) = some tl.size := by rw [htl]; kernel_rfl
      clear hCW hres hR fail1 hS hS1
      go_enter Tryz.func23, Tryz.ntmps23
      go_upto_region 1 with fail
      refine wp_letter (fun V => Mem w V [(g, .cells hz0 35 (0, 0))]) hM0 ?_
      intro V0 hV0
      have d0 := hc0 _ hV0.below
      have C := changeName_any hV0.drew
      clear hM0 hc0 hV0
      go_upto_region 5 with fail
      go_region_held3 (fun _ => True) (trivial)
        (first | (go_at_call 34; refine C.mono ?_; rintro e V ⟨⟨k1, k2, k3, q1, q2, q3⟩, E, rfl, hM, hF⟩; simp only [Fv.val]) | (go_at_call 43; refine (HCW.out _ _ _ _ _ _ _ _ hM hF).mono ?_; rintro e V2 ⟨rfl, hM2⟩; have hg2 := storeCells_row V2 g hz0 tl _ ((hM2.perm List.perm_append_comm).get 0 rfl) (by rw [htl]; rfl) hto))
      have hM3 : Mem w (V2.setRow g tl) ((g, .cells tl 35 (0, 0)) :: E) := (hM2.perm List.perm_append_comm).wrote 0 rfl (wrote_setRow V2 g _ _ _ ((hM2.perm List.perm_append_comm).get 0 rfl))
      clear C HCW hM2 hF hM
      go_wp2_with fail
      refine bodyPost_ret (v := .tuple #[.agg tl, .int .i64 er]) ?_ rfl (FIN.out _ hM3.below)
      exact results_two' (p := 2) (q := 3) (ty := 35) rfl _ _ g _ rfl (run_loadVar_row _ _ 35 35 _ (0, 0) _ (hM3.get 0 rfl) Tryz.underlying35 rfl hi35)
    · have hb1 : ¬ b = 1 := fun e => hne (by rw [e]; rfl)
      have hd : hdec (b :: r) = none := by simp [hdec, hb0, hb1]
      rw [hd]
      have e0 : (b == 0) = false := by simpa using hb0
      have e1 : (b == 1) = false := by simpa using hb1
      clear hS hS1 hsl hd
      go_enter Tryz.func23, Tryz.ntmps23
      go_upto_region 1 with fail
      refine wp_letter (fun V => Mem w V [(g, .cells hz0 35 (0, 0))]) hM0 ?_
      intro V0 hV0
      have d0 := hc0 _ hV0.below
      obtain ⟨g0, hM1⟩ := fail1 _ hV0
      clear hM0 hc0 hV0 fail1
      go_wp2_with (refine wpList_store_row rfl 35 (.tmp 2) (.tmp 38) (by with_reducible rfl) g hz0 rfl rfl 35 hz0 g0 hsz rfl hone ?_)
      refine bodyPost_ret (v := .tuple #[.agg hz0, .int .i64 70]) ?_ rfl ⟨hM1.below, rfl⟩
      exact results_two' (p := 2) (q := 3) (ty := 35) rfl _ _ g _ rfl (run_loadVar_row _ _ 35 35 _ (0, 0) _ (hM1.get 0 rfl) Tryz.underlying35 rfl hsz)
end Go.Proofs.YtngegdamcfmonaaGreat

namespace Go.Proofs.YtngegdamcfmonaaGreat
open Go.RowKit
open Sm
open Cf
set_option linter.unusedVariables false
set_option maxRecDepth 20000

theorem acc_CIp (V : World) (g off : Nat) : Calls Tryz.prog 52 #[.pointer (some ⟨g, off, none⟩)] V fun e V' => e = .returned (.pointer (some ⟨g, off + 0, none⟩)) ∧ V = V' := by
  go_enter Tryz.func52, Tryz.ntmps52
  go_wp2
  go_ret
  exact ⟨rfl, rfl⟩
theorem acc_CMac (V : World) (g off : Nat) : Calls Tryz.prog 54 #[.pointer (some ⟨g, off, none⟩)] V fun e V' => e = .returned (.slice (some ⟨g, off + 1, none⟩) 6 6) ∧ V = V' := by
  go_enter Tryz.func54, Tryz.ntmps54
  go_wp2
  go_ret
  exact ⟨rfl, rfl⟩
theorem acc_COut (V : World) (g off : Nat) : Calls Tryz.prog 55 #[.pointer (some ⟨g, off, none⟩)] V fun e V' => e = .returned (.slice (some ⟨g, off + 7, none⟩) 6 6) ∧ V = V' := by
  go_enter Tryz.func55, Tryz.ntmps55
  go_wp2
  go_ret
  exact ⟨rfl, rfl⟩
theorem acc_CNext (V : World) (g off : Nat) : Calls Tryz.prog 56 #[.pointer (some ⟨g, off, none⟩)] V fun e V' => e = .returned (.slice (some ⟨g, off + 13, none⟩) 6 6) ∧ V = V' := by
  go_enter Tryz.func56, Tryz.ntmps56
  go_wp2
  go_ret
  exact ⟨rfl, rfl⟩
theorem acc_CKey (V : World) (g off : Nat) : Calls Tryz.prog 57 #[.pointer (some ⟨g, off, none⟩)] V fun e V' => e = .returned (.slice (some ⟨g, off + 19, none⟩) 8 8) ∧ V = V' := by
  go_enter Tryz.func57, Tryz.ntmps57
  go_wp2
  go_ret
  exact ⟨rfl, rfl⟩
theorem acc_CDrain (V : World) (g off : Nat) : Calls Tryz.prog 58 #[.pointer (some ⟨g, off, none⟩)] V fun e V' => e = .returned (.pointer (some ⟨g, off + 27, none⟩)) ∧ V = V' := by
  go_enter Tryz.func58, Tryz.ntmps58
  go_wp2
  go_ret
  exact ⟨rfl, rfl⟩
theorem acc_CCnt (V : World) (g off : Nat) : Calls Tryz.prog 49 #[.pointer (some ⟨g, off, none⟩)] V fun e V' => e = .returned (.pointer (some ⟨g, off + 28, none⟩)) ∧ V = V' := by
  go_enter Tryz.func49, Tryz.ntmps49
  go_wp2
  go_ret
  exact ⟨rfl, rfl⟩
def spCIp : Sp Cgf := spNum 4 (fun t => t.ip) (fun t y => { t with ip := y })
theorem c_CIp {w V : World} {p : Nat × Obj} {E L : List (Nat × Obj)} (h : Mem w V (p :: (E ++ L))) :
    Calls Tryz.prog 51 #[.int .i64 4, .func (.func 52) #[] #[]] V fun e V' => ∃ f E', e = .returned f.val ∧ Mem w V' (p :: (E' ++ L)) ∧ Sub E E' ∧ Fw w E' IC JC f spCIp := by
  refine (mk_num_CU h 4 52).mono ?_
  rintro e V' ⟨bs, bo, rfl, hM⟩
  exact ⟨_, _ :: _ :: E, rfl, swap_front2 hM, fun q hq => List.mem_cons_of_mem _ (List.mem_cons_of_mem _ hq), (fd_num_CU bs bo 4 52 0 (by omega) fits32 _ _ (List.mem_cons_self ..) (List.mem_cons_of_mem _ (List.mem_cons_self ..)) (enters_of Tryz.func52 (by kernel_rfl) rfl) acc_CIp (fun t r V g off h => h.cell 0 (cget h.1.len (by rintro ip a b c d f g a1 b1 c1 d1 f1 g1 a2 b2 c2 d2 f2 g2 k1 k2 k3 k4 k5 k6 k7 k8 dr te rfl; rfl))) (lens_C 0 (by omega) (fun t => .int .u32 t.ip) (fun y => .int .u32 y) (fun t y => { t with ip := y }) (fun t p h => cget h (by rintro ip a b c d f g a1 b1 c1 d1 f1 g1 a2 b2 c2 d2 f2 g2 k1 k2 k3 k4 k5 k6 k7 k8 dr te rfl; rfl)) (fun t y p h => cset h (by rintro ip a b c d f g a1 b1 c1 d1 f1 g1 a2 b2 c2 d2 f2 g2 k1 k2 k3 k4 k5 k6 k7 k8 dr te rfl; rfl)) (fun t y h => ⟨h.mac, h.omac, h.nmac, h.key⟩) (fun t y => rfl))).fw⟩
def spCMac : Sp Cgf := spOct 6 (fun t => t.mac) (fun t y => { t with mac := y })
theorem c_CMac {w V : World} {p : Nat × Obj} {E L : List (Nat × Obj)} (h : Mem w V (p :: (E ++ L))) :
    Calls Tryz.prog 53 #[.func (.func 54) #[] #[]] V fun e V' => ∃ f E', e = .returned f.val ∧ Mem w V' (p :: (E' ++ L)) ∧ Sub E E' ∧ Fw w E' IC JC f spCMac := by
  refine (mk_Oct_C h 54).mono ?_
  rintro e V' ⟨bo, rfl, hM⟩
  refine ⟨_, _ :: E, rfl, swap_front hM, fun q hq => List.mem_cons_of_mem _ hq, (fd_Oct_C bo 6 54 1 (by omega) (by omega) _ _ (List.mem_cons_self ..) (enters_of Tryz.func54 (by kernel_rfl) rfl) acc_CMac (fun t r V g off h => ⟨h.1.len.mac, h.row 1 t.mac h.1.mac (by rw [h.1.len.mac]; omega) (.int .u32 t.ip :: ([])) (t.omac.map (Value.int .u8) ++ (t.nmac.map (Value.int .u8) ++ (t.key.map (Value.int .u8) ++ ([.int .u32 t.drain, r.1])))) rfl (by simp [cc])⟩) ?_).fw⟩
  exact lens_CO 1 6 (fun t y => { t with mac := y }) (fun t p h => ⟨(.int .u32 t.ip :: ([])), t.mac.map (Value.int .u8), (t.omac.map (Value.int .u8) ++ (t.nmac.map (Value.int .u8) ++ (t.key.map (Value.int .u8) ++ ([.int .u32 t.drain, p])))), rfl, (by rw [List.length_map]; exact h.mac), (by simp [cc]), fun y => (by simp [cc])⟩) (fun t y hy h => ⟨hy, h.omac, h.nmac, h.key⟩) (fun t y => rfl)
def spCOut : Sp Cgf := spOct 6 (fun t => t.omac) (fun t y => { t with omac := y })
theorem c_COut {w V : World} {p : Nat × Obj} {E L : List (Nat × Obj)} (h : Mem w V (p :: (E ++ L))) :
    Calls Tryz.prog 53 #[.func (.func 55) #[] #[]] V fun e V' => ∃ f E', e = .returned f.val ∧ Mem w V' (p :: (E' ++ L)) ∧ Sub E E' ∧ Fw w E' IC JC f spCOut := by
  refine (mk_Oct_C h 55).mono ?_
  rintro e V' ⟨bo, rfl, hM⟩
  refine ⟨_, _ :: E, rfl, swap_front hM, fun q hq => List.mem_cons_of_mem _ hq, (fd_Oct_C bo 6 55 7 (by omega) (by omega) _ _ (List.mem_cons_self ..) (enters_of Tryz.func55 (by kernel_rfl) rfl) acc_COut (fun t r V g off h => ⟨h.1.len.omac, h.row 7 t.omac h.1.omac (by rw [h.1.len.omac]; omega) (.int .u32 t.ip :: (t.mac.map (Value.int .u8) ++ [])) (t.nmac.map (Value.int .u8) ++ (t.key.map (Value.int .u8) ++ ([.int .u32 t.drain, r.1]))) (by simp [h.1.len.mac]) (by simp [cc])⟩) ?_).fw⟩
  exact lens_CO 7 6 (fun t y => { t with omac := y }) (fun t p h => ⟨(.int .u32 t.ip :: (t.mac.map (Value.int .u8) ++ [])), t.omac.map (Value.int .u8), (t.nmac.map (Value.int .u8) ++ (t.key.map (Value.int .u8) ++ ([.int .u32 t.drain, p]))), (by simp [h.mac]), (by rw [List.length_map]; exact h.omac), (by simp [cc]), fun y => (by simp [cc])⟩) (fun t y hy h => ⟨h.mac, hy, h.nmac, h.key⟩) (fun t y => rfl)
def spCNext : Sp Cgf := spOct 6 (fun t => t.nmac) (fun t y => { t with nmac := y })
theorem c_CNext {w V : World} {p : Nat × Obj} {E L : List (Nat × Obj)} (h : Mem w V (p :: (E ++ L))) :
    Calls Tryz.prog 53 #[.func (.func 56) #[] #[]] V fun e V' => ∃ f E', e = .returned f.val ∧ Mem w V' (p :: (E' ++ L)) ∧ Sub E E' ∧ Fw w E' IC JC f spCNext := by
  refine (mk_Oct_C h 56).mono ?_
  rintro e V' ⟨bo, rfl, hM⟩
  refine ⟨_, _ :: E, rfl, swap_front hM, fun q hq => List.mem_cons_of_mem _ hq, (fd_Oct_C bo 6 56 13 (by omega) (by omega) _ _ (List.mem_cons_self ..) (enters_of Tryz.func56 (by kernel_rfl) rfl) acc_CNext (fun t r V g off h => ⟨h.1.len.nmac, h.row 13 t.nmac h.1.nmac (by rw [h.1.len.nmac]; omega) (.int .u32 t.ip :: (t.mac.map (Value.int .u8) ++ t.omac.map (Value.int .u8) ++ [])) (t.key.map (Value.int .u8) ++ ([.int .u32 t.drain, r.1])) (by simp [h.1.len.mac, h.1.len.omac]) (by simp [cc])⟩) ?_).fw⟩
  exact lens_CO 13 6 (fun t y => { t with nmac := y }) (fun t p h => ⟨(.int .u32 t.ip :: (t.mac.map (Value.int .u8) ++ t.omac.map (Value.int .u8) ++ [])), t.nmac.map (Value.int .u8), (t.key.map (Value.int .u8) ++ ([.int .u32 t.drain, p])), (by simp [h.mac, h.omac]), (by rw [List.length_map]; exact h.nmac), (by simp [cc]), fun y => (by simp [cc])⟩) (fun t y hy h => ⟨h.mac, h.omac, hy, h.key⟩) (fun t y => rfl)
def spCKey : Sp Cgf := spOct 8 (fun t => t.key) (fun t y => { t with key := y })
theorem c_CKey {w V : World} {p : Nat × Obj} {E L : List (Nat × Obj)} (h : Mem w V (p :: (E ++ L))) :
    Calls Tryz.prog 53 #[.func (.func 57) #[] #[]] V fun e V' => ∃ f E', e = .returned f.val ∧ Mem w V' (p :: (E' ++ L)) ∧ Sub E E' ∧ Fw w E' IC JC f spCKey := by
  refine (mk_Oct_C h 57).mono ?_
  rintro e V' ⟨bo, rfl, hM⟩
  refine ⟨_, _ :: E, rfl, swap_front hM, fun q hq => List.mem_cons_of_mem _ hq, (fd_Oct_C bo 8 57 19 (by omega) (by omega) _ _ (List.mem_cons_self ..) (enters_of Tryz.func57 (by kernel_rfl) rfl) acc_CKey (fun t r V g off h => ⟨h.1.len.key, h.row 19 t.key h.1.key (by rw [h.1.len.key]; omega) (.int .u32 t.ip :: (t.mac.map (Value.int .u8) ++ t.omac.map (Value.int .u8) ++ t.nmac.map (Value.int .u8) ++ [])) ([.int .u32 t.drain, r.1]) (by simp [h.1.len.mac, h.1.len.omac, h.1.len.nmac]) (by simp [cc])⟩) ?_).fw⟩
  exact lens_CO 19 8 (fun t y => { t with key := y }) (fun t p h => ⟨(.int .u32 t.ip :: (t.mac.map (Value.int .u8) ++ t.omac.map (Value.int .u8) ++ t.nmac.map (Value.int .u8) ++ [])), t.key.map (Value.int .u8), ([.int .u32 t.drain, p]), (by simp [h.mac, h.omac, h.nmac]), (by rw [List.length_map]; exact h.key), (by simp [cc]), fun y => (by simp [cc])⟩) (fun t y hy h => ⟨h.mac, h.omac, h.nmac, hy⟩) (fun t y => rfl)
def spCDrain : Sp Cgf := spNum 4 (fun t => t.drain) (fun t y => { t with drain := y })
theorem c_CDrain {w V : World} {p : Nat × Obj} {E L : List (Nat × Obj)} (h : Mem w V (p :: (E ++ L))) :
    Calls Tryz.prog 51 #[.int .i64 4, .func (.func 58) #[] #[]] V fun e V' => ∃ f E', e = .returned f.val ∧ Mem w V' (p :: (E' ++ L)) ∧ Sub E E' ∧ Fw w E' IC JC f spCDrain := by
  refine (mk_num_CU h 4 58).mono ?_
  rintro e V' ⟨bs, bo, rfl, hM⟩
  exact ⟨_, _ :: _ :: E, rfl, swap_front2 hM, fun q hq => List.mem_cons_of_mem _ (List.mem_cons_of_mem _ hq), (fd_num_CU bs bo 4 58 27 (by omega) fits32 _ _ (List.mem_cons_self ..) (List.mem_cons_of_mem _ (List.mem_cons_self ..)) (enters_of Tryz.func58 (by kernel_rfl) rfl) acc_CDrain (fun t r V g off h => h.cell 27 (cget h.1.len (by rintro ip a b c d f g a1 b1 c1 d1 f1 g1 a2 b2 c2 d2 f2 g2 k1 k2 k3 k4 k5 k6 k7 k8 dr te rfl; rfl))) (lens_C 27 (by omega) (fun t => .int .u32 t.drain) (fun y => .int .u32 y) (fun t y => { t with drain := y }) (fun t p h => cget h (by rintro ip a b c d f g a1 b1 c1 d1 f1 g1 a2 b2 c2 d2 f2 g2 k1 k2 k3 k4 k5 k6 k7 k8 dr te rfl; rfl)) (fun t y p h => cset h (by rintro ip a b c d f g a1 b1 c1 d1 f1 g1 a2 b2 c2 d2 f2 g2 k1 k2 k3 k4 k5 k6 k7 k8 dr te rfl; rfl)) (fun t y h => ⟨h.mac, h.omac, h.nmac, h.key⟩) (fun t y => rfl))).fw⟩
def spCCnt : Sp Cgf := spCnt (fun t => t.ten.length) set_ten
theorem c_CCnt {w V : World} {p : Nat × Obj} {E L : List (Nat × Obj)} (h : Mem w V (p :: (E ++ L))) :
    Calls Tryz.prog 59 #[.func (.func 49) #[] #[]] V fun e V' => ∃ f E', e = .returned f.val ∧ Mem w V' (p :: (E' ++ L)) ∧ Sub E E' ∧ Fw w E' IC JC f spCCnt := by
  refine (mk_Cnt_CT h 49).mono ?_
  rintro e V' ⟨bo, rfl, hM⟩
  refine ⟨_, _ :: E, rfl, swap_front hM, fun q hq => List.mem_cons_of_mem _ hq, (fd_Cnt_CT bo 49 28 _ _ (List.mem_cons_self ..) (enters_of Tryz.func49 (by kernel_rfl) rfl) acc_CCnt (fun r => r.1) (fun t r V g off h => ⟨?_, h.cell 28 (cget h.1.len (by rintro ip a b c d f g a1 b1 c1 d1 f1 g1 a2 b2 c2 d2 f2 g2 k1 k2 k3 k4 k5 k6 k7 k8 dr te rfl; rfl))⟩) lens_Cten).fw⟩
  obtain ⟨a, c, e, h1, h2, h3, -⟩ := h.2.2.2.1
  have hl : (r.2.map zc).length = t.ten.length := by rw [List.length_map, ← h.2.2.1, List.length_map]
  rw [hl] at e h1
  exact ⟨a, c, e, h1, h2, h3⟩
theorem c_CItm {w V : World} {p : Nat × Obj} {E L : List (Nat × Obj)} (h : Mem w V (p :: (E ++ L))) (fi : Fv) (hfi : Fd w E IT JT fi spT) :
    Calls Tryz.prog 60 #[.func (.func 49) #[] #[], fi.val] V fun e V' => ∃ f E', e = .returned f.val ∧ Mem w V' (p :: (E' ++ L)) ∧ Sub E E' ∧ Fw w E' IC JC f spTenants := by
  refine (mk_Itm_CT h 49 fi).mono ?_
  rintro e V' ⟨bo, bi, rfl, hM⟩
  exact ⟨_, _ :: _ :: E, rfl, swap_front2 hM, fun q hq => List.mem_cons_of_mem _ (List.mem_cons_of_mem _ hq), fw_Itm_CT bo bi 49 fi (hfi.more (fun q hq => List.mem_cons_of_mem _ (List.mem_cons_of_mem _ hq))) (List.mem_cons_self ..) (List.mem_cons_of_mem _ (List.mem_cons_self ..)) (enters_of Tryz.func49 (by kernel_rfl) rfl) acc_CCnt⟩
theorem c_tenant {w V : World} {p : Nat × Obj} {E L : List (Nat × Obj)} (h : Mem w V (p :: (E ++ L))) :
    Calls Tryz.prog 33 #[] V fun e V' => ∃ f E', e = .returned f.val ∧ Mem w V' (p :: (E' ++ L)) ∧ Sub E E' ∧ Fd w E' IT JT f spT := by
  refine (tenant_any h).mono ?_
  rintro e V' ⟨f, A, rfl, hM, hF⟩
  exact ⟨f, A ++ E, rfl, swap_app hM, fun q hq => List.mem_append_right _ hq, hF.more (fun q hq => List.mem_append_left _ hq)⟩
/-- The fields of settings, in their order. -/
def csp : List (Sp Cgf) := [spCIp, spCMac, spCOut, spCNext, spCKey, spCDrain, spCCnt, spTenants]
def spC : Sp Cgf := spAll csp
end Go.Proofs.YtngegdamcfmonaaGreat

