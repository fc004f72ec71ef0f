/-
  Settings as text: the program's reader: the value of a word.
  What lychhelp.Told tells of no error and of a place error.
-/
import Derived.Test.YtneciccdiledfaaGreatDoorMx36
import Derived.Shelf.Abstract
import Derived.Laws.EntriesVeiled
import Derived.BigQuiet
set_option linter.unusedVariables false
set_option linter.unusedSimpArgs false
set_option maxRecDepth 20000
namespace Go.Proofs.YtneciccdiledfaaGreatDoor
open Go.RowKit
open Cf
open La
open Ad
def Tells {α : Type} (w : World) (K : List (Nat × Obj)) (k : Nat) (caps : Array Value) (f : List UInt8 → Option α) (enc : ByteArray → Value) : Prop :=
 ∀ (s : ByteArray) (V : World), s.size ≤ 32768 → Mem w V K → Calls Tryz.prog k (#[.string s] ++ caps) V fun e V' => e = .returned (.tuple #[enc s, .int .i64 (le (f s.data.toList))]) ∧ Below V.heap.size V V'
theorem vnx_nil {α : Type} (f : List UInt8 → Option α) {σ : Sg} (hb : σ.bad = none) (he : σ.ws = []) : (vnx f σ).bad = some σ.fin := by
 have e : (nxt σ).bad = some σ.fin := by unfold nxt; rw [he]; simp [Sg.fail, hb]
 unfold vnx; split
 ·exact e
 ·exact fail_bad e
theorem vnx_yes {α : Type} {f : List UInt8 → Option α} {σ : Sg} {x : Wd} {r : List Wd} (hb : σ.bad = none) (he : σ.ws = x :: r) (hf : (f x.1.data.toList).isSome = true) : vnx f σ = ⟨r, σ.fin, none⟩ ∧ (La.wd σ).1 = x.1 := by
 have hwd : La.wd σ = x := by unfold La.wd; rw [he]
 have hnx : nxt σ = ⟨r, σ.fin, none⟩ := by unfold nxt; rw [he, hb]
 refine ⟨?_, by rw [hwd]⟩
 unfold vnx wt; rw [hwd, if_pos hf, hnx]
theorem vnx_no {α : Type} {f : List UInt8 → Option α} {σ : Sg} {x : Wd} {r : List Wd} (hb : σ.bad = none) (he : σ.ws = x :: r) (hf : (f x.1.data.toList).isSome = false) : (vnx f σ).bad = some x.2 := by
 have hwd : La.wd σ = x := by unfold La.wd; rw [he]
 have hnx : nxt σ = ⟨r, σ.fin, none⟩ := by unfold nxt; rw [he, hb]
 unfold vnx wt; rw [hwd, if_neg (by simp [hf]), hnx]; rfl
set_option maxHeartbeats 2000000 in
theorem value_U {α : Type} {w V : World} {g : Nat} {post : List Value} {T : TypeId} {σ : Sg} {W K : List (Nat × Obj)} (h : LnS w V g post T σ W K) {k : Nat} {caps : Array Value} (hk : Ent k) (f : List UInt8 → Option α) (enc : ByteArray → Value) (hf : Tells w (K ++ W) k caps f enc) :
  Calls Tryz.prog 73 #[.pointer (some ⟨g, 0, none⟩), .func (.func k) #[] caps] V (VP w (vnx f σ) fun e V' => e = .returned (enc (La.wd σ).1) ∧ LnS w V' g post T (vnx f σ) W K) := by
 have hb0 := h.1
 cases hws : σ.ws with
 | nil =>
  have hm := vnx_nil f hb0 hws
  have C := take_no h hws
  clear h hf
  go_enter Tryz.func73, Tryz.ntmps73
  go_wp2_with fail
  refine C.mono ?_
  rintro e V' ⟨g', rfl, hM⟩
  exact ⟨rfl, Or.inr ⟨_, hm, g', rfl, hM⟩⟩
 | cons x r =>
  have hxs : x.1.size ≤ 32768 := h.2.1 x (by rw [hws]; exact List.mem_cons_self ..)
  have C := take_yes h hws
  have eo : ∀ args V, (callFunc k args).run Tryz.prog V = .ok (.enter k args) V := hk
  have HF : Hid (Tells w (K ++ W) k caps f enc) := hf
  obtain ⟨x1, x2⟩ := x
  cases hfx : (f x1.data.toList).isSome with
  | true =>
   obtain ⟨hm, hw⟩ := vnx_yes (f := f) hb0 hws hfx
   rw [hm, hw]
   have HE : Hid (le (f x1.data.toList) = 0) := by unfold le; rw [hfx]; rfl
   simp only at hxs C ⊢
   obtain ⟨EN, hEN⟩ : ∃ EN, enc x1 = EN := ⟨_, rfl⟩
   rw [hEN]
   have HEN : Hid (enc x1 = EN) := hEN
   clear h hf hm hw hfx hws hk hEN
   go_enter Tryz.func73, Tryz.ntmps73
   go_wp2_with fail
   refine C.mono ?_
   rintro e V' ⟨rfl, hL⟩
   have HL : Hid (LnS w V' g post T ⟨r, σ.fin, none⟩ W K) := hL
   have CF := HF.out x1 (V'.alloc (.cells #[.string x1, .int .i64 x2] 149)) hxs (hL.mem.after ((Below.refl _ _).alloc (Nat.le_refl _) _))
   rw [HE.out, HEN.out] at CF
   clear hL C HF
   go_wp2_with (go_at_fn k; refine CF.mono ?_; rintro e V2 ⟨rfl, hb2⟩)
   go_ret
   exact Or.inl ⟨rfl, rfl, (LnS.after HL.out ((Below.refl _ _).alloc (Nat.le_refl _) _)).after hb2⟩
  | false =>
   have hm := vnx_no (f := f) hb0 hws hfx
   have HE : Hid (le (f x1.data.toList) = 60) := by unfold le; rw [hfx]; rfl
   simp only at hxs C hm ⊢
   clear h hf hfx hws hk
   go_enter Tryz.func73, Tryz.ntmps73
   go_wp2_with fail
   refine C.mono ?_
   rintro e V' ⟨rfl, hL⟩
   have HL : Hid (LnS w V' g post T ⟨r, σ.fin, none⟩ W K) := hL
   have CF := HF.out x1 (V'.alloc (.cells #[.string x1, .int .i64 x2] 149)) hxs (hL.mem.after ((Below.refl _ _).alloc (Nat.le_refl _) _))
   rw [HE.out] at CF
   obtain ⟨EN, hEN⟩ : ∃ EN, enc x1 = EN := ⟨_, rfl⟩
   rw [hEN] at CF
   have HP : Hid (Mem w (V'.alloc (.cells #[.string x1, .int .i64 x2] 149)) ((V'.heap.size, .cells #[.string x1, .int .i64 x2] 149) :: (K ++ W))) := hL.mem.front _ rfl
   clear hL C HF hEN HL
   go_upto_region 3 with (go_at_fn k; refine CF.mono ?_; rintro e V2 ⟨rfl, hb2⟩)
   have hM2 := HP.out.after hb2
   have d1 : V2.cell? ⟨V'.heap.size, 1, none⟩ = some (.int .i64 x2) := hM2.cell 0 rfl 1
   have CG := fail_any hM2 x2
   clear hM2 HP hb2 CF
   go_wp2_with fail
   refine CG.mono ?_
   rintro e V3 ⟨g', rfl, hM⟩
   exact ⟨rfl, Or.inr ⟨_, hm, g', rfl, hM⟩⟩
set_option maxHeartbeats 2000000 in
theorem value_I {α : Type} {w V : World} {g : Nat} {post : List Value} {T : TypeId} {σ : Sg} {W K : List (Nat × Obj)} (h : LnS w V g post T σ W K) {k : Nat} {caps : Array Value} (hk : Ent k) (f : List UInt8 → Option α) (enc : ByteArray → Value) (hf : Tells w (K ++ W) k caps f enc) :
  Calls Tryz.prog 105 #[.pointer (some ⟨g, 0, none⟩), .func (.func k) #[] caps] V (VP w (vnx f σ) fun e V' => e = .returned (enc (La.wd σ).1) ∧ LnS w V' g post T (vnx f σ) W K) := by
 have hb0 := h.1
 cases hws : σ.ws with
 | nil =>
  have hm := vnx_nil f hb0 hws
  have C := take_no h hws
  clear h hf
  go_enter Tryz.func105, Tryz.ntmps105
  go_wp2_with fail
  refine C.mono ?_
  rintro e V' ⟨g', rfl, hM⟩
  exact ⟨rfl, Or.inr ⟨_, hm, g', rfl, hM⟩⟩
 | cons x r =>
  have hxs : x.1.size ≤ 32768 := h.2.1 x (by rw [hws]; exact List.mem_cons_self ..)
  have C := take_yes h hws
  have eo : ∀ args V, (callFunc k args).run Tryz.prog V = .ok (.enter k args) V := hk
  have HF : Hid (Tells w (K ++ W) k caps f enc) := hf
  obtain ⟨x1, x2⟩ := x
  cases hfx : (f x1.data.toList).isSome with
  | true =>
   obtain ⟨hm, hw⟩ := vnx_yes (f := f) hb0 hws hfx
   rw [hm, hw]
   have HE : Hid (le (f x1.data.toList) = 0) := by unfold le; rw [hfx]; rfl
   simp only at hxs C ⊢
   obtain ⟨EN, hEN⟩ : ∃ EN, enc x1 = EN := ⟨_, rfl⟩
   rw [hEN]
   have HEN : Hid (enc x1 = EN) := hEN
   clear h hf hm hw hfx hws hk hEN
   go_enter Tryz.func105, Tryz.ntmps105
   go_wp2_with fail
   refine C.mono ?_
   rintro e V' ⟨rfl, hL⟩
   have HL : Hid (LnS w V' g post T ⟨r, σ.fin, none⟩ W K) := hL
   have CF := HF.out x1 (V'.alloc (.cells #[.string x1, .int .i64 x2] 149)) hxs (hL.mem.after ((Below.refl _ _).alloc (Nat.le_refl _) _))
   rw [HE.out, HEN.out] at CF
   clear hL C HF
   go_wp2_with (go_at_fn k; refine CF.mono ?_; rintro e V2 ⟨rfl, hb2⟩)
   go_ret
   exact Or.inl ⟨rfl, rfl, (LnS.after HL.out ((Below.refl _ _).alloc (Nat.le_refl _) _)).after hb2⟩
  | false =>
   have hm := vnx_no (f := f) hb0 hws hfx
   have HE : Hid (le (f x1.data.toList) = 60) := by unfold le; rw [hfx]; rfl
   simp only at hxs C hm ⊢
   clear h hf hfx hws hk
   go_enter Tryz.func105, Tryz.ntmps105
   go_wp2_with fail
   refine C.mono ?_
   rintro e V' ⟨rfl, hL⟩
   have HL : Hid (LnS w V' g post T ⟨r, σ.fin, none⟩ W K) := hL
   have CF := HF.out x1 (V'.alloc (.cells #[.string x1, .int .i64 x2] 149)) hxs (hL.mem.after ((Below.refl _ _).alloc (Nat.le_refl _) _))
   rw [HE.out] at CF
   obtain ⟨EN, hEN⟩ : ∃ EN, enc x1 = EN := ⟨_, rfl⟩
   rw [hEN] at CF
   have HP : Hid (Mem w (V'.alloc (.cells #[.string x1, .int .i64 x2] 149)) ((V'.heap.size, .cells #[.string x1, .int .i64 x2] 149) :: (K ++ W))) := hL.mem.front _ rfl
   clear hL C HF hEN HL
   go_upto_region 3 with (go_at_fn k; refine CF.mono ?_; rintro e V2 ⟨rfl, hb2⟩)
   have hM2 := HP.out.after hb2
   have d1 : V2.cell? ⟨V'.heap.size, 1, none⟩ = some (.int .i64 x2) := hM2.cell 0 rfl 1
   have CG := fail_any hM2 x2
   clear hM2 HP hb2 CF
   go_wp2_with fail
   refine CG.mono ?_
   rintro e V3 ⟨g', rfl, hM⟩
   exact ⟨rfl, Or.inr ⟨_, hm, g', rfl, hM⟩⟩
set_option maxHeartbeats 2000000 in
theorem value_S {α : Type} {w V : World} {g : Nat} {post : List Value} {T : TypeId} {σ : Sg} {W K : List (Nat × Obj)} (h : LnS w V g post T σ W K) {k : Nat} {caps : Array Value} (hk : Ent k) (f : List UInt8 → Option α) (enc : ByteArray → Value) (hf : Tells w (K ++ W) k caps f enc) :
  Calls Tryz.prog 103 #[.pointer (some ⟨g, 0, none⟩), .func (.func k) #[] caps] V (VP w (vnx f σ) fun e V' => e = .returned (enc (La.wd σ).1) ∧ LnS w V' g post T (vnx f σ) W K) := by
 have hb0 := h.1
 cases hws : σ.ws with
 | nil =>
  have hm := vnx_nil f hb0 hws
  have C := take_no h hws
  clear h hf
  go_enter Tryz.func103, Tryz.ntmps103
  go_wp2_with fail
  refine C.mono ?_
  rintro e V' ⟨g', rfl, hM⟩
  exact ⟨rfl, Or.inr ⟨_, hm, g', rfl, hM⟩⟩
 | cons x r =>
  have hxs : x.1.size ≤ 32768 := h.2.1 x (by rw [hws]; exact List.mem_cons_self ..)
  have C := take_yes h hws
  have eo : ∀ args V, (callFunc k args).run Tryz.prog V = .ok (.enter k args) V := hk
  have HF : Hid (Tells w (K ++ W) k caps f enc) := hf
  obtain ⟨x1, x2⟩ := x
  cases hfx : (f x1.data.toList).isSome with
  | true =>
   obtain ⟨hm, hw⟩ := vnx_yes (f := f) hb0 hws hfx
   rw [hm, hw]
   have HE : Hid (le (f x1.data.toList) = 0) := by unfold le; rw [hfx]; rfl
   simp only at hxs C ⊢
   obtain ⟨EN, hEN⟩ : ∃ EN, enc x1 = EN := ⟨_, rfl⟩
   rw [hEN]
   have HEN : Hid (enc x1 = EN) := hEN
   clear h hf hm hw hfx hws hk hEN
   go_enter Tryz.func103, Tryz.ntmps103
   go_wp2_with fail
   refine C.mono ?_
   rintro e V' ⟨rfl, hL⟩
   have HL : Hid (LnS w V' g post T ⟨r, σ.fin, none⟩ W K) := hL
   have CF := HF.out x1 (V'.alloc (.cells #[.string x1, .int .i64 x2] 149)) hxs (hL.mem.after ((Below.refl _ _).alloc (Nat.le_refl _) _))
   rw [HE.out, HEN.out] at CF
   clear hL C HF
   go_wp2_with (go_at_fn k; refine CF.mono ?_; rintro e V2 ⟨rfl, hb2⟩)
   go_ret
   exact Or.inl ⟨rfl, rfl, (LnS.after HL.out ((Below.refl _ _).alloc (Nat.le_refl _) _)).after hb2⟩
  | false =>
   have hm := vnx_no (f := f) hb0 hws hfx
   have HE : Hid (le (f x1.data.toList) = 60) := by unfold le; rw [hfx]; rfl
   simp only at hxs C hm ⊢
   clear h hf hfx hws hk
   go_enter Tryz.func103, Tryz.ntmps103
   go_wp2_with fail
   refine C.mono ?_
   rintro e V' ⟨rfl, hL⟩
   have HL : Hid (LnS w V' g post T ⟨r, σ.fin, none⟩ W K) := hL
   have CF := HF.out x1 (V'.alloc (.cells #[.string x1, .int .i64 x2] 149)) hxs (hL.mem.after ((Below.refl _ _).alloc (Nat.le_refl _) _))
   rw [HE.out] at CF
   obtain ⟨EN, hEN⟩ : ∃ EN, enc x1 = EN := ⟨_, rfl⟩
   rw [hEN] at CF
   have HP : Hid (Mem w (V'.alloc (.cells #[.string x1, .int .i64 x2] 149)) ((V'.heap.size, .cells #[.string x1, .int .i64 x2] 149) :: (K ++ W))) := hL.mem.front _ rfl
   clear hL C HF hEN HL
   go_upto_region 3 with (go_at_fn k; refine CF.mono ?_; rintro e V2 ⟨rfl, hb2⟩)
   have hM2 := HP.out.after hb2
   have d1 : V2.cell? ⟨V'.heap.size, 1, none⟩ = some (.int .i64 x2) := hM2.cell 0 rfl 1
   have CG := fail_any hM2 x2
   clear hM2 HP hb2 CF
   go_wp2_with fail
   refine CG.mono ?_
   rintro e V3 ⟨g', rfl, hM⟩
   exact ⟨rfl, Or.inr ⟨_, hm, g', rfl, hM⟩⟩
end Go.Proofs.YtneciccdiledfaaGreatDoor
namespace Go.Proofs.YtneciccdiledfaaGreatDoor
open Go.RowKit
def Ey (w : World) : Prop := w.cell? ⟨0, 0, none⟩ = some (.iface 154 (.agg #[.pointer (some ⟨8, 31, none⟩)]))
theorem Ey.below {w w' : World} (h : Ey w) (hb : Below w.heap.size w w') : Ey w' := (hb.cell (cell_in h)).trans h
theorem told_nil (w : World) : Calls Tryz.prog 11 #[.nilIface] w fun e w' => e = .returned (.tuple #[.int .i64 0, .int .i64 0]) ∧ w = w' := by
 go_enter Tryz.func11, Tryz.ntmps11
 go_wp2
 go_ret2
 exact ⟨rfl, rfl⟩
set_option maxHeartbeats 2000000 in
theorem told_as {w V : World} {g a gb : Nat} (hgb : V.heap.size = gb) (hE : Ey w) (h : Mem w V [(g, .cells #[.int .i64 a, .int .i64 60] 64)]) : Calls Tryz.prog 21 #[.iface 58 (.pointer (some ⟨g, 0, none⟩)), .iface 61 (.pointer (some ⟨gb, 0, none⟩))] (V.alloc (.cells #[.pointer none] 58)) fun e V' => e = .returned (.bool true) ∧ V'.cell? ⟨gb, 0, none⟩ = some (.pointer (some ⟨g, 0, none⟩)) ∧ V'.cell? ⟨g, 0, none⟩ = some (.int .i64 a) ∧ V'.cell? ⟨g, 1, none⟩ = some (.int .i64 60) ∧ Below V.heap.size V V' := by
 have hM0 : Mem w (V.alloc (.cells #[.pointer none] 58)) [(gb, .cells #[.pointer none] 58), (g, .cells #[.int .i64 a, .int .i64 60] 64)] := h.front _ hgb.symm
 have hMV : Mem V (V.alloc (.cells #[.pointer none] 58)) [(gb, .cells #[.pointer none] 58)] := (Mem.nil V).front _ hgb.symm
 obtain ⟨V0, hV0⟩ : ∃ V0, V.alloc (.cells #[.pointer none] 58) = V0 := ⟨_, rfl⟩
 rw [hV0] at hM0 hMV ⊢
 refine (pas_hit g ⟨gb, 0, none⟩ (.pointer none) V0 (hE.below hM0.below) (hM0.cell 0 rfl 0) (hM0.free 0 rfl 0)).mono ?_
 intro e V' hh
 obtain ⟨he, hV'⟩ := hh
 have b4 : ∀ (o1 o2 o3 o4 : Obj), Below V0.heap.size V0 ((((V0.alloc o1).alloc o2).alloc o3).alloc o4) := fun o1 o2 o3 o4 => ((((Below.refl _ V0).alloc (Nat.le_refl _) o1).alloc (by simp) o2).alloc (by simp <;> omega) o3).alloc (by simp <;> omega) o4
 have key : ∀ (X : World), Below V0.heap.size V0 X → (X.setCell ⟨gb, 0, none⟩ (.pointer (some ⟨g, 0, none⟩))).cell? ⟨gb, 0, none⟩ = some (.pointer (some ⟨g, 0, none⟩)) ∧ (X.setCell ⟨gb, 0, none⟩ (.pointer (some ⟨g, 0, none⟩))).cell? ⟨g, 0, none⟩ = some (.int .i64 a) ∧ (X.setCell ⟨gb, 0, none⟩ (.pointer (some ⟨g, 0, none⟩))).cell? ⟨g, 1, none⟩ = some (.int .i64 60) ∧ Below V.heap.size V (X.setCell ⟨gb, 0, none⟩ (.pointer (some ⟨g, 0, none⟩))) := by
  intro X hX
  have hM1 := (hM0.after hX).set 0 rfl 0 (.pointer (some ⟨g, 0, none⟩))
  have hM2 := (hMV.after hX).set 0 rfl 0 (.pointer (some ⟨g, 0, none⟩))
  exact ⟨hM1.cell 0 rfl 0, hM1.cell 1 rfl 0, hM1.cell 1 rfl 1, hM2.below⟩
 rw [hV']
 exact ⟨he, key _ (b4 _ _ _ _)⟩
set_option maxHeartbeats 2000000 in
theorem told_place {w V : World} {g a : Nat} (hE : Ey w) (h : Mem w V [(g, .cells #[.int .i64 a, .int .i64 60] 64)]) : Calls Tryz.prog 11 #[.iface 58 (.pointer (some ⟨g, 0, none⟩))] V fun e V' => e = .returned (.tuple #[.int .i64 a, .int .i64 60]) ∧ Below V.heap.size V V' := by
 have C := told_as (V := V) rfl hE h
 clear h hE
 go_enter Tryz.func11, Tryz.ntmps11
 go_wp2_with fail
 refine C.mono ?_
 rintro e V' ⟨rfl, c0, c1, c2, hb⟩
 have HB : Hid (Below V.heap.size V V') := hb
 clear C hb
 go_upto_region 5 with fail
 go_quiet (fail)
 go_wp2_with fail
 go_ret2
 exact ⟨rfl, below_drewN' HB.out _⟩
end Go.Proofs.YtneciccdiledfaaGreatDoor
