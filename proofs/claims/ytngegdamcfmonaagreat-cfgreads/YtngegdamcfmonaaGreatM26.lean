/-
  Settings as bytes: addresses and pairs: the program's address() and pair().
-/
import Derived.Test.YtngegdamcfmonaaGreatM25
import Derived.Test.YtngegdamcfmonaaGreatM20
import Derived.Test.YtngegdamcfmonaaGreatM21
namespace Go.Proofs.YtngegdamcfmonaaGreat
open Go.RowKit
open Sm
open Cf
set_option linter.unusedVariables false
set_option maxRecDepth 20000

def spU : Sp Int := spNum 4 id (fun _ y => y)
def spA : Sp (Int × Int) := spNum 4 Prod.fst (fun x y => (y, x.2))
def spB : Sp (Int × Int) := spNum 4 Prod.snd (fun x y => (x.1, y))
def spP : Sp (Int × Int) := spAll [spA, spB]
theorem fits32 : ∀ q, 0 ≤ q → q < 256 ^ 4 → IntKind.u32.wrap q = q := fun q h0 h1 => wraps_u32 q h0 (by omega)
theorem spU_eq (x y : Int) : spU.eq x y = decide (x = y) := rfl
theorem spP_eq (x y : Int × Int) : spP.eq x y = decide (x = y) := by
  obtain ⟨a, b⟩ := x
  obtain ⟨c, d⟩ := y
  simp only [spP, spAll, spA, spB, spNum, List.length_cons, List.length_nil]
  by_cases h : (a, b) = (c, d)
  · rw [decide_eq_true h]
    apply decide_eq_true
    intro i hi
    simp only [Prod.mk.injEq] at h
    match i, hi with
    | 0, _ => simp [h.1]
    | 1, _ => simp [h.2]
  · rw [decide_eq_false h]
    apply decide_eq_false
    intro hc
    apply h
    have h0 := hc 0 (by omega)
    have h1 := hc 1 (by omega)
    simp at h0 h1
    rw [h0, h1]
theorem acc_address (V : World) (g off : Nat) : Calls Tryz.prog 147 #[.pointer (some ⟨g, off, none⟩)] V fun e V' => e = .returned (.pointer (some ⟨g, off + 0, none⟩)) ∧ V = V' := by
  go_enter Tryz.func147, Tryz.ntmps147
  go_wp2
  go_ret
  exact ⟨rfl, rfl⟩
theorem acc_pair1 (V : World) (g off : Nat) : Calls Tryz.prog 155 #[.pointer (some ⟨g, off, none⟩)] V fun e V' => e = .returned (.pointer (some ⟨g, off + 0, none⟩)) ∧ V = V' := by
  go_enter Tryz.func155, Tryz.ntmps155
  go_wp2
  go_ret
  exact ⟨rfl, rfl⟩
theorem acc_pair2 (V : World) (g off : Nat) : Calls Tryz.prog 156 #[.pointer (some ⟨g, off, none⟩)] V fun e V' => e = .returned (.pointer (some ⟨g, off + 1, none⟩)) ∧ V = V' := by
  go_enter Tryz.func156, Tryz.ntmps156
  go_wp2
  go_ret
  exact ⟨rfl, rfl⟩
theorem get_mid (pre mid post : List Value) (o : Nat) (v : Value) (h : mid[o]? = some v) : (pre ++ (mid ++ post)).toArray[pre.length + o]? = some v := by
  have ho := (List.getElem?_eq_some_iff.mp h).1
  simp only [List.getElem?_toArray]
  rw [List.getElem?_append_right (by omega), List.getElem?_append_left (by omega), Nat.add_sub_cancel_left]
  exact h
theorem set_mid (pre mid post : List Value) (o : Nat) (v : Value) (h : o < mid.length) : (pre ++ (mid ++ post)).toArray.setIfInBounds (pre.length + o) v = (pre ++ (mid.set o v ++ post)).toArray := by
  simp only [List.setIfInBounds_toArray]
  rw [List.set_append_right _ _ (by omega), List.set_append_left _ _ (by omega), Nat.add_sub_cancel_left]
/-- What is stored into the result's own block. -/
theorem Mem.put3 {w V : World} {M : List (Nat × Obj)} {rb : Nat} {a b c : Value} {t : TypeId} (h : Mem w V ((rb, .cells #[a, b, c] t (0, 0)) :: M)) (x y z : Value) :
    Mem w (((V.setCell ⟨rb, 0, none⟩ x).setCell ⟨rb, 1, none⟩ y).setCell ⟨rb, 2, none⟩ z) ((rb, .cells #[x, y, z] t (0, 0)) :: M) := by
  have h1 := h.set 0 rfl 0 x
  have h2 := Mem.set h1 0 rfl 1 y
  exact Mem.set h2 0 rfl 2 z
theorem lens_U {w : World} : ∀ x g T pre post V K, JU w x g T pre post V K → ∃ A M, Lens w JU 0 x g T pre post V K M A ∧ A[pre.length + 0]? = some (.int .u32 (id x)) ∧
      ∀ y V', Mem w V' ((g, .cells (A.setIfInBounds (pre.length + 0) (.int .u32 y)) T (0, 0)) :: M) → JU w y g T pre post V' K := by
  intro x g T pre post V K h
  refine ⟨_, K, ⟨h, Sub.refl _, fun V' h => h⟩, get_mid _ _ _ 0 _ rfl, fun y V' hV => ?_⟩
  rw [set_mid _ _ _ 0 _ (by simp)] at hV
  exact hV
set_option maxHeartbeats 2000000 in
theorem address_any {w W : World} {L : List (Nat × Obj)} (h : Mem w W L) :
    Calls Tryz.prog 86 #[] W fun e W' => ∃ f E, e = .returned f.val ∧ Mem w W' (E ++ L) ∧ Fd w E IU JU f spU := by
  have h0 : Mem w (W.alloc (.cells #[.nilFunc, .nilFunc, .nilFunc] 148)) ((W.heap.size, .cells #[.nilFunc, .nilFunc, .nilFunc] 148 (0, 0)) :: L) := (h.push W.heap.size _ rfl).perm List.perm_append_comm
  have C := mk_num_UU h0 4 147
  obtain ⟨rb, hrb⟩ : ∃ rb, W.heap.size = rb := ⟨_, rfl⟩
  rw [hrb] at C
  go_enter Tryz.func86, Tryz.ntmps86
  go_wp2_with fail
  refine C.mono ?_
  rintro e V ⟨bs, bo, rfl, hM⟩
  have hM2 : Mem w V ((rb, .cells #[.nilFunc, .nilFunc, .nilFunc] 148 (0, 0)) :: ((bs, .cells #[.int .i64 4] 3 (0, 0)) :: (bo, .cells #[.func (.func 147) #[] #[]] 173 (0, 0)) :: L)) := hM.perm (by
    refine List.Perm.trans ?_ (List.perm_middle (l₁ := [_, _]))
    exact List.Perm.refl _)
  have HF : Hid (Fd w ([(rb, .cells (fvNum_UU bs bo).cells.toArray 148 (0, 0)), (bs, .cells #[.int .i64 4] 3 (0, 0)), (bo, .cells #[.func (.func 147) #[] #[]] 173 (0, 0))]) IU JU (fvNum_UU bs bo) spU) :=
    fd_num_UU bs bo 4 147 0 (by omega) fits32 id (fun _ y => y) (by simp) (by simp) (enters_of Tryz.func147 (by kernel_rfl) rfl) acc_address (fun x r V g off h => h) lens_U
  clear C h0 hM h
  generalize fvNum_UU bs bo = f at HF
  obtain ⟨k1, k2, k3, c1, c2, c3⟩ := f
  have hM3 := hM2.put3 (.func (.func k1) #[] c1) (.func (.func k2) #[] c2) (.func (.func k3) #[] c3)
  have e0 : V.cell? ⟨rb, 0, none⟩ = some .nilFunc := hM2.cell 0 rfl 0
  have e1 : V.cell? ⟨rb, 1, none⟩ = some .nilFunc := hM2.cell 0 rfl 1
  have e2 : V.cell? ⟨rb, 2, none⟩ = some .nilFunc := hM2.cell 0 rfl 2
  have e3 := hM2.free 0 rfl
  clear hM2
  simp only [Fv.val]
  go_wp2_with fail
  refine bodyPost_ret (v := .agg #[.func (.func k1) #[] c1, .func (.func k2) #[] c2, .func (.func k3) #[] c3]) ?_ rfl ⟨⟨k1, k2, k3, c1, c2, c3⟩, [_, _, _], rfl, hM3, HF.out⟩
  exact results_cell_row (p := 0) (ty := 148) rfl _ _ rb 148 _ (0, 0) _ rfl (hM3.get 0 rfl) Tryz.underlying148 rfl (by kernel_rfl)
theorem lens_A {w : World} : ∀ x g T pre post V K, JP w x g T pre post V K → ∃ A M, Lens w JP 0 x g T pre post V K M A ∧ A[pre.length + 0]? = some (.int .u32 x.1) ∧
      ∀ y V', Mem w V' ((g, .cells (A.setIfInBounds (pre.length + 0) (.int .u32 y)) T (0, 0)) :: M) → JP w (y, x.2) g T pre post V' K := by
  intro x g T pre post V K h
  refine ⟨_, K, ⟨h, Sub.refl _, fun V' h => h⟩, get_mid _ _ _ 0 _ rfl, fun y V' hV => ?_⟩
  rw [set_mid _ _ _ 0 _ (by simp)] at hV
  exact hV
theorem lens_B {w : World} : ∀ x g T pre post V K, JP w x g T pre post V K → ∃ A M, Lens w JP 1 x g T pre post V K M A ∧ A[pre.length + 1]? = some (.int .u32 x.2) ∧
      ∀ y V', Mem w V' ((g, .cells (A.setIfInBounds (pre.length + 1) (.int .u32 y)) T (0, 0)) :: M) → JP w (x.1, y) g T pre post V' K := by
  intro x g T pre post V K h
  refine ⟨_, K, ⟨h, Sub.refl _, fun V' h => h⟩, get_mid _ _ _ 1 _ rfl, fun y V' hV => ?_⟩
  rw [set_mid _ _ _ 1 _ (by simp)] at hV
  exact hV
set_option maxHeartbeats 4000000 in
theorem pair_any {w W : World} {L : List (Nat × Obj)} (h : Mem w W L) :
    Calls Tryz.prog 88 #[] W fun e W' => ∃ f E, e = .returned f.val ∧ Mem w W' (E ++ L) ∧ Fd w E IP JP f spP := by
  have h0 : Mem w (W.alloc (.cells #[.nilFunc, .nilFunc, .nilFunc] 155)) ((W.heap.size, .cells #[.nilFunc, .nilFunc, .nilFunc] 155 (0, 0)) :: L) := (h.push W.heap.size _ rfl).perm List.perm_append_comm
  have C := mk_num_PU h0 4 155
  obtain ⟨rb, hrb⟩ : ∃ rb, W.heap.size = rb := ⟨_, rfl⟩
  rw [hrb] at C
  go_enter Tryz.func88, Tryz.ntmps88
  go_wp2_with fail
  refine C.mono ?_
  rintro e V ⟨bs, bo, rfl, hM⟩
  have C2 := mk_num_PU hM 4 156
  clear C hM h0 h
  go_wp2_with fail
  refine C2.mono ?_
  rintro e V2 ⟨bs2, bo2, rfl, hM2⟩
  obtain ⟨f1, hf1⟩ : ∃ f1, fvNum_PU bs bo = f1 := ⟨_, rfl⟩
  obtain ⟨f2, hf2⟩ : ∃ f2, fvNum_PU bs2 bo2 = f2 := ⟨_, rfl⟩
  obtain ⟨lb, hlb⟩ : ∃ lb, V2.heap.size = lb := ⟨_, rfl⟩
  have hM3 : Mem w (V2.alloc (.cells ([f1, f2].flatMap Fv.cells).toArray 155)) ((lb, .cells ([f1, f2].flatMap Fv.cells).toArray 155 (0, 0)) :: (bs2, .cells #[.int .i64 4] 3 (0, 0)) :: (bo2, .cells #[.func (.func 156) #[] #[]] 179 (0, 0)) :: (bs, .cells #[.int .i64 4] 3 (0, 0)) :: (bo, .cells #[.func (.func 155) #[] #[]] 179 (0, 0)) :: (rb, .cells #[.nilFunc, .nilFunc, .nilFunc] 155 (0, 0)) :: L) :=
    (hM2.push lb _ hlb.symm).perm List.perm_append_comm
  have C3 := mk_all_P hM3 lb 2
  rw [hf1, hf2]
  clear C2 hM2 hM3
  obtain ⟨k1, k2, k3, c1, c2, c3⟩ := f1
  obtain ⟨q1, q2, q3, d1, d2, d3⟩ := f2
  simp only [Fv.val]
  simp only [List.flatMap_cons, List.flatMap_nil, Fv.cells, List.cons_append, List.nil_append, List.append_nil] at C3
  go_wp2_with fail
  refine C3.mono ?_
  rintro e V3 ⟨cb, rfl, hM⟩
  obtain ⟨E, hE⟩ : ∃ E : List (Nat × Obj), E = [(cb, .cells #[.slice (some ⟨lb, 0, none⟩) 2 2] 180 (0, 0)), (lb, .cells #[.func (.func k1) #[] c1, .func (.func k2) #[] c2, .func (.func k3) #[] c3, .func (.func q1) #[] d1, .func (.func q2) #[] d2, .func (.func q3) #[] d3] 155 (0, 0)),
    (bs2, .cells #[.int .i64 4] 3 (0, 0)), (bo2, .cells #[.func (.func 156) #[] #[]] 179 (0, 0)), (bs, .cells #[.int .i64 4] 3 (0, 0)), (bo, .cells #[.func (.func 155) #[] #[]] 179 (0, 0))] := ⟨_, rfl⟩
  have hM2 : Mem w V3 ((rb, .cells #[.nilFunc, .nilFunc, .nilFunc] 155 (0, 0)) :: (E ++ L)) := hM.perm (by
    rw [hE]
    exact List.perm_middle (l₁ := [_, _, _, _, _, _]))
  have HF : Hid (Fd w E IP JP (fvAll_P cb) spP) := by
    refine fd_all_P cb lb 2 [⟨k1, k2, k3, c1, c2, c3⟩, ⟨q1, q2, q3, d1, d2, d3⟩] [spA, spB] rfl (by omega) (by rw [hE]; simp) (by rw [hE]; simp [Fv.cells]) ?_ (fun x g T pre post V V' K h hB => Mem.after h hB) (fun x g T pre post V K h => Mem.sub h)
    rw [← hf1, ← hf2]
    refine FdAll.cons ?_ (FdAll.cons ?_ FdAll.nil)
    · exact fd_num_PU bs bo 4 155 0 (by omega) fits32 Prod.fst (fun x y => (y, x.2)) (by rw [hE]; simp) (by rw [hE]; simp) (enters_of Tryz.func155 (by kernel_rfl) rfl) acc_pair1 (fun x r V g off h => h.1) lens_A
    · exact fd_num_PU bs2 bo2 4 156 1 (by omega) fits32 Prod.snd (fun x y => (x.1, y)) (by rw [hE]; simp) (by rw [hE]; simp) (enters_of Tryz.func156 (by kernel_rfl) rfl) acc_pair2 (fun x r V g off h => h.2) lens_B
  clear C3 hM hE hf1 hf2
  generalize fvAll_P cb = f at HF
  obtain ⟨m1, m2, m3, n1, n2, n3⟩ := f
  have hM3 := hM2.put3 (.func (.func m1) #[] n1) (.func (.func m2) #[] n2) (.func (.func m3) #[] n3)
  have e0 : V3.cell? ⟨rb, 0, none⟩ = some .nilFunc := hM2.cell 0 rfl 0
  have e1 : V3.cell? ⟨rb, 1, none⟩ = some .nilFunc := hM2.cell 0 rfl 1
  have e2 : V3.cell? ⟨rb, 2, none⟩ = some .nilFunc := hM2.cell 0 rfl 2
  have e3 := hM2.free 0 rfl
  clear hM2
  simp only [Fv.val]
  go_wp2_with fail
  refine bodyPost_ret (v := .agg #[.func (.func m1) #[] n1, .func (.func m2) #[] n2, .func (.func m3) #[] n3]) ?_ rfl ⟨⟨m1, m2, m3, n1, n2, n3⟩, _ :: E, rfl, hM3, HF.out.more (fun q hq => List.mem_cons_of_mem _ hq)⟩
  exact results_cell_row (p := 0) (ty := 155) rfl _ _ rb 155 _ (0, 0) _ rfl (hM3.get 0 rfl) Tryz.underlying155 rfl (by kernel_rfl)
end Go.Proofs.YtngegdamcfmonaaGreat

