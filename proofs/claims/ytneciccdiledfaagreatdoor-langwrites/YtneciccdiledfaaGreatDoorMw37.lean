/-
  Settings as text: the program's reader: the value of a word, of six or eight bytes.
  Settings as text: the program's reader: by what a word's value is told: addr's functions, numbers up to a bound, names, filters.
-/
import Derived.Test.YtneciccdiledfaaGreatDoorMw36
namespace Go.Proofs.YtneciccdiledfaaGreatDoor
open Go.RowKit
open Cf
open La
open Ad
set_option linter.unusedVariables false
set_option linter.unusedSimpArgs false
set_option maxRecDepth 20000
theorem Tells.less {α : Type} {w : World} {p : Nat × Obj} {K : List (Nat × Obj)} {k : Nat} {caps : Array Value} {f : List UInt8 → Option α} {enc : ByteArray → Value} (h : Tells w K k caps f enc) : Tells w (p :: K) k caps f enc := fun s V hs hM => h s V hs hM.sub
set_option maxHeartbeats 4000000 in
theorem value_M {α : Type} {w V : World} {g : Nat} {post : List Value} {T : TypeId} {σ : Sg} {W K : List (Nat × Obj)} (h : LnS w V g post T σ W K) {k : Nat} {caps : Array Value} (hk : Ent k) (f : List UInt8 → Option α) (enc : ByteArray → Value) (henc : ∀ s, ∃ l : List Int, l.length = 6 ∧ enc s = .agg (ab l)) (hf : Tells w (K ++ W) k caps f enc) :
    Calls Tryz.prog 75 #[.pointer (some ⟨g, 0, none⟩), .func (.func k) #[] caps] V (VP w (vnx f σ) fun e V' => e = .returned (enc (La.wd σ).1) ∧ LnS w V' g post T (vnx f σ) W K) := by
  have hb0 := h.1
  obtain ⟨g0, hg0⟩ : ∃ g0, V.heap.size = g0 := ⟨_, rfl⟩
  have h0 := h.push (.cells #[.int .u8 0, .int .u8 0, .int .u8 0, .int .u8 0, .int .u8 0, .int .u8 0] 25 (0, 0)) hg0.symm
  have hf0 : Tells w (((g0, Obj.cells #[.int .u8 0, .int .u8 0, .int .u8 0, .int .u8 0, .int .u8 0, .int .u8 0] 25 (0, 0)) :: K) ++ W) k caps f enc := hf.less
  cases hws : σ.ws with
  | nil =>
    have hm := vnx_nil f hb0 hws
    have C := take_no h0 hws
    clear h hf h0 hf0 henc
    go_enter Tryz.func75, Tryz.ntmps75
    go_wp2_with fail
    refine C.mono ?_
    rintro e V' ⟨g', rfl, hM⟩
    exact ⟨rfl, Or.inr ⟨_, hm, g', rfl, hM⟩⟩
  | cons x r =>
    have hxs : x.1.size ≤ 32768 := h.2.1 x (by rw [hws]; exact List.mem_cons_self ..)
    have C := take_yes h0 hws
    have eo : ∀ args V, (callFunc k args).run Tryz.prog V = .ok (.enter k args) V := hk
    have HF : Hid (Tells w (((g0, Obj.cells #[.int .u8 0, .int .u8 0, .int .u8 0, .int .u8 0, .int .u8 0, .int .u8 0] 25 (0, 0)) :: K) ++ W) k caps f enc) := hf0
    obtain ⟨x1, x2⟩ := x
    obtain ⟨l, hl, hen⟩ := henc x1
    obtain ⟨y1, y2, y3, y4, y5, y6, rfl⟩ := six hl
    cases hfx : (f x1.data.toList).isSome with
    | true =>
      obtain ⟨hm, hw⟩ := vnx_yes (f := f) hb0 hws hfx
      rw [hm, hw]
      have HE : Hid (le (f x1.data.toList) = 0) := by unfold le; rw [hfx]; rfl
      simp only at hxs C ⊢
      rw [hen]
      have HEN : Hid (enc x1 = .agg #[.int .u8 y1, .int .u8 y2, .int .u8 y3, .int .u8 y4, .int .u8 y5, .int .u8 y6]) := hen
      have HG : Hid (V.heap.size = g0) := hg0
      clear h hf hm hw hfx hws hk hen henc hl h0 hf0
      go_enter Tryz.func75, Tryz.ntmps75
      go_wp2_with fail
      refine C.mono ?_
      rintro e V' ⟨rfl, hL⟩
      have HL : Hid (LnS w V' g post T ⟨r, σ.fin, none⟩ W ((g0, Obj.cells #[.int .u8 0, .int .u8 0, .int .u8 0, .int .u8 0, .int .u8 0, .int .u8 0] 25 (0, 0)) :: K)) := hL
      have CF := HF.out x1 (V'.alloc (.cells #[.string x1, .int .i64 x2] 149 (0, 0))) hxs (hL.mem.after ((Below.refl _ _).alloc (Nat.le_refl _) _))
      rw [HE.out, HEN.out] at CF
      clear hL C HF
      go_upto_region 5 with (go_at_fn k; refine CF.mono ?_; rintro e V2 ⟨rfl, hb2⟩)
      obtain ⟨gb, hgb⟩ : ∃ gb, V2.heap.size = gb := ⟨_, rfl⟩
      obtain ⟨q1, q2, v, q3, q4⟩ := (LnS.after HL.out ((Below.refl _ _).alloc (Nat.le_refl _) (.cells #[.string x1, .int .i64 x2] 149 (0, 0)))).after hb2
      have HQ : Hid ((∀ x ∈ r, x.1.size ≤ 32768) ∧ WIn W v r) := ⟨q2, q3⟩
      refine wp_letter (fun X => Mem w X ((gb, .cells #[.int .u8 y1, .int .u8 y2, .int .u8 y3, .int .u8 y4, .int .u8 y5, .int .u8 y6] 25 (0, 0)) :: (g0, .cells #[.int .u8 0, .int .u8 0, .int .u8 0, .int .u8 0, .int .u8 0, .int .u8 0] 25 (0, 0)) :: (g, .cells (v :: .int .i64 σ.fin :: post).toArray T (0, 0)) :: (K ++ W))) ((q4.front _ hgb.symm).perm (List.Perm.cons _ (List.Perm.swap _ _ _))) ?_
      intro V3 hM
      have HM3 : Hid (Mem w V3 ((gb, .cells #[.int .u8 y1, .int .u8 y2, .int .u8 y3, .int .u8 y4, .int .u8 y5, .int .u8 y6] 25 (0, 0)) :: (g0, .cells #[.int .u8 0, .int .u8 0, .int .u8 0, .int .u8 0, .int .u8 0, .int .u8 0] 25 (0, 0)) :: (g, .cells (v :: .int .i64 σ.fin :: post).toArray T (0, 0)) :: (K ++ W))) := hM
      try simp only [hgb]
      try simp only [HG.out]
      have e0 : V3.cell? ⟨gb, 0, none⟩ = some (.int .u8 y1) := hM.cell 0 rfl 0
      have e1 : V3.cell? ⟨gb, 1, none⟩ = some (.int .u8 y2) := hM.cell 0 rfl 1
      have e2 : V3.cell? ⟨gb, 2, none⟩ = some (.int .u8 y3) := hM.cell 0 rfl 2
      have e3 : V3.cell? ⟨gb, 3, none⟩ = some (.int .u8 y4) := hM.cell 0 rfl 3
      have e4 : V3.cell? ⟨gb, 4, none⟩ = some (.int .u8 y5) := hM.cell 0 rfl 4
      have e5 : V3.cell? ⟨gb, 5, none⟩ = some (.int .u8 y6) := hM.cell 0 rfl 5
      have f0 : V3.cell? ⟨g0, 0, none⟩ = some (.int .u8 0) := hM.cell 1 rfl 0
      have f1 : V3.cell? ⟨g0, 1, none⟩ = some (.int .u8 0) := hM.cell 1 rfl 1
      have f2 : V3.cell? ⟨g0, 2, none⟩ = some (.int .u8 0) := hM.cell 1 rfl 2
      have f3 : V3.cell? ⟨g0, 3, none⟩ = some (.int .u8 0) := hM.cell 1 rfl 3
      have f4 : V3.cell? ⟨g0, 4, none⟩ = some (.int .u8 0) := hM.cell 1 rfl 4
      have f5 : V3.cell? ⟨g0, 5, none⟩ = some (.int .u8 0) := hM.cell 1 rfl 5
      have hfr := hM.free 1 rfl
      clear hM q1 q2 q3 q4 hgb HL CF hb2 hg0
      go_wp2_with fail
      refine post_let (fun X => Mem w X ((gb, .cells #[.int .u8 y1, .int .u8 y2, .int .u8 y3, .int .u8 y4, .int .u8 y5, .int .u8 y6] 25 (0, 0)) :: (g0, .cells #[.int .u8 y1, .int .u8 y2, .int .u8 y3, .int .u8 y4, .int .u8 y5, .int .u8 y6] 25 (0, 0)) :: (g, .cells (v :: .int .i64 σ.fin :: post).toArray T (0, 0)) :: (K ++ W))) (((((((HM3.out.set 1 rfl 0 _).set 1 rfl 1 _).set 1 rfl 2 _).set 1 rfl 3 _).set 1 rfl 4 _).set 1 rfl 5 _)) ?_
      intro V4 hM
      have k0 : V4.cell? ⟨g0, 0, none⟩ = some (.int .u8 y1) := hM.cell 1 rfl 0
      have k1 : V4.cell? ⟨g0, 1, none⟩ = some (.int .u8 y2) := hM.cell 1 rfl 1
      have k2 : V4.cell? ⟨g0, 2, none⟩ = some (.int .u8 y3) := hM.cell 1 rfl 2
      have k3 : V4.cell? ⟨g0, 3, none⟩ = some (.int .u8 y4) := hM.cell 1 rfl 3
      have k4 : V4.cell? ⟨g0, 4, none⟩ = some (.int .u8 y5) := hM.cell 1 rfl 4
      have k5 : V4.cell? ⟨g0, 5, none⟩ = some (.int .u8 y6) := hM.cell 1 rfl 5
      exact bodyPost_ret (v := .agg #[.int .u8 y1, .int .u8 y2, .int .u8 y3, .int .u8 y4, .int .u8 y5, .int .u8 y6]) (by simp [results, Tryz.results75, go_sem, k0, k1, k2, k3, k4, k5]) rfl (Or.inl ⟨rfl, rfl, rfl, HQ.out.1, _, HQ.out.2, hM.sub.sub⟩)
    | false =>
      have hm := vnx_no (f := f) hb0 hws hfx
      have HE : Hid (le (f x1.data.toList) = 60) := by unfold le; rw [hfx]; rfl
      simp only at hxs C hm ⊢
      have HEN : Hid (enc x1 = .agg #[.int .u8 y1, .int .u8 y2, .int .u8 y3, .int .u8 y4, .int .u8 y5, .int .u8 y6]) := hen
      clear h hf hfx hws hk hen henc hl h0 hf0
      go_enter Tryz.func75, Tryz.ntmps75
      go_wp2_with fail
      refine C.mono ?_
      rintro e V' ⟨rfl, hL⟩
      have CF := HF.out x1 (V'.alloc (.cells #[.string x1, .int .i64 x2] 149 (0, 0))) hxs (hL.mem.after ((Below.refl _ _).alloc (Nat.le_refl _) _))
      rw [HE.out, HEN.out] at CF
      have HP : Hid (Mem w (V'.alloc (.cells #[.string x1, .int .i64 x2] 149 (0, 0))) ((V'.heap.size, .cells #[.string x1, .int .i64 x2] 149 (0, 0)) :: (K ++ W))) := (hL.mem.sub).front _ rfl
      clear hL C HF
      go_upto_region 3 with (go_at_fn k; refine CF.mono ?_; rintro e V2 ⟨rfl, hb2⟩)
      have hM2 := HP.out.after hb2
      refine wp_letter (fun X => Mem w X ((V'.heap.size, .cells #[.string x1, .int .i64 x2] 149 (0, 0)) :: (K ++ W))) (hM2.after ((Below.refl _ _).alloc (Nat.le_refl _) _)) ?_
      intro V3 hM3
      have d1 : V3.cell? ⟨V'.heap.size, 1, none⟩ = some (.int .i64 x2) := hM3.cell 0 rfl 1
      have CG := fail_any hM3 x2
      clear hM2 HP hb2 CF hM3
      go_wp2_with fail
      refine CG.mono ?_
      rintro e V3 ⟨g', rfl, hM⟩
      exact ⟨rfl, Or.inr ⟨_, hm, g', rfl, hM⟩⟩
set_option maxHeartbeats 4000000 in
theorem value_K {α : Type} {w V : World} {g : Nat} {post : List Value} {T : TypeId} {σ : Sg} {W K : List (Nat × Obj)} (h : LnS w V g post T σ W K) {k : Nat} {caps : Array Value} (hk : Ent k) (f : List UInt8 → Option α) (enc : ByteArray → Value) (henc : ∀ s, ∃ l : List Int, l.length = 8 ∧ enc s = .agg (ab l)) (hf : Tells w (K ++ W) k caps f enc) :
    Calls Tryz.prog 77 #[.pointer (some ⟨g, 0, none⟩), .func (.func k) #[] caps] V (VP w (vnx f σ) fun e V' => e = .returned (enc (La.wd σ).1) ∧ LnS w V' g post T (vnx f σ) W K) := by
  have hb0 := h.1
  obtain ⟨g0, hg0⟩ : ∃ g0, V.heap.size = g0 := ⟨_, rfl⟩
  have h0 := h.push (.cells #[.int .u8 0, .int .u8 0, .int .u8 0, .int .u8 0, .int .u8 0, .int .u8 0, .int .u8 0, .int .u8 0] 26 (0, 0)) hg0.symm
  have hf0 : Tells w (((g0, Obj.cells #[.int .u8 0, .int .u8 0, .int .u8 0, .int .u8 0, .int .u8 0, .int .u8 0, .int .u8 0, .int .u8 0] 26 (0, 0)) :: K) ++ W) k caps f enc := hf.less
  cases hws : σ.ws with
  | nil =>
    have hm := vnx_nil f hb0 hws
    have C := take_no h0 hws
    clear h hf h0 hf0 henc
    go_enter Tryz.func77, Tryz.ntmps77
    go_wp2_with fail
    refine C.mono ?_
    rintro e V' ⟨g', rfl, hM⟩
    exact ⟨rfl, Or.inr ⟨_, hm, g', rfl, hM⟩⟩
  | cons x r =>
    have hxs : x.1.size ≤ 32768 := h.2.1 x (by rw [hws]; exact List.mem_cons_self ..)
    have C := take_yes h0 hws
    have eo : ∀ args V, (callFunc k args).run Tryz.prog V = .ok (.enter k args) V := hk
    have HF : Hid (Tells w (((g0, Obj.cells #[.int .u8 0, .int .u8 0, .int .u8 0, .int .u8 0, .int .u8 0, .int .u8 0, .int .u8 0, .int .u8 0] 26 (0, 0)) :: K) ++ W) k caps f enc) := hf0
    obtain ⟨x1, x2⟩ := x
    obtain ⟨l, hl, hen⟩ := henc x1
    obtain ⟨y1, y2, y3, y4, y5, y6, y7, y8, rfl⟩ := eight hl
    cases hfx : (f x1.data.toList).isSome with
    | true =>
      obtain ⟨hm, hw⟩ := vnx_yes (f := f) hb0 hws hfx
      rw [hm, hw]
      have HE : Hid (le (f x1.data.toList) = 0) := by unfold le; rw [hfx]; rfl
      simp only at hxs C ⊢
      rw [hen]
      have HEN : Hid (enc x1 = .agg #[.int .u8 y1, .int .u8 y2, .int .u8 y3, .int .u8 y4, .int .u8 y5, .int .u8 y6, .int .u8 y7, .int .u8 y8]) := hen
      have HG : Hid (V.heap.size = g0) := hg0
      clear h hf hm hw hfx hws hk hen henc hl h0 hf0
      go_enter Tryz.func77, Tryz.ntmps77
      go_wp2_with fail
      refine C.mono ?_
      rintro e V' ⟨rfl, hL⟩
      have HL : Hid (LnS w V' g post T ⟨r, σ.fin, none⟩ W ((g0, Obj.cells #[.int .u8 0, .int .u8 0, .int .u8 0, .int .u8 0, .int .u8 0, .int .u8 0, .int .u8 0, .int .u8 0] 26 (0, 0)) :: K)) := hL
      have CF := HF.out x1 (V'.alloc (.cells #[.string x1, .int .i64 x2] 149 (0, 0))) hxs (hL.mem.after ((Below.refl _ _).alloc (Nat.le_refl _) _))
      rw [HE.out, HEN.out] at CF
      clear hL C HF
      go_upto_region 5 with (go_at_fn k; refine CF.mono ?_; rintro e V2 ⟨rfl, hb2⟩)
      obtain ⟨gb, hgb⟩ : ∃ gb, V2.heap.size = gb := ⟨_, rfl⟩
      obtain ⟨q1, q2, v, q3, q4⟩ := (LnS.after HL.out ((Below.refl _ _).alloc (Nat.le_refl _) (.cells #[.string x1, .int .i64 x2] 149 (0, 0)))).after hb2
      have HQ : Hid ((∀ x ∈ r, x.1.size ≤ 32768) ∧ WIn W v r) := ⟨q2, q3⟩
      refine wp_letter (fun X => Mem w X ((gb, .cells #[.int .u8 y1, .int .u8 y2, .int .u8 y3, .int .u8 y4, .int .u8 y5, .int .u8 y6, .int .u8 y7, .int .u8 y8] 26 (0, 0)) :: (g0, .cells #[.int .u8 0, .int .u8 0, .int .u8 0, .int .u8 0, .int .u8 0, .int .u8 0, .int .u8 0, .int .u8 0] 26 (0, 0)) :: (g, .cells (v :: .int .i64 σ.fin :: post).toArray T (0, 0)) :: (K ++ W))) ((q4.front _ hgb.symm).perm (List.Perm.cons _ (List.Perm.swap _ _ _))) ?_
      intro V3 hM
      have HM3 : Hid (Mem w V3 ((gb, .cells #[.int .u8 y1, .int .u8 y2, .int .u8 y3, .int .u8 y4, .int .u8 y5, .int .u8 y6, .int .u8 y7, .int .u8 y8] 26 (0, 0)) :: (g0, .cells #[.int .u8 0, .int .u8 0, .int .u8 0, .int .u8 0, .int .u8 0, .int .u8 0, .int .u8 0, .int .u8 0] 26 (0, 0)) :: (g, .cells (v :: .int .i64 σ.fin :: post).toArray T (0, 0)) :: (K ++ W))) := hM
      try simp only [hgb]
      try simp only [HG.out]
      have e0 : V3.cell? ⟨gb, 0, none⟩ = some (.int .u8 y1) := hM.cell 0 rfl 0
      have e1 : V3.cell? ⟨gb, 1, none⟩ = some (.int .u8 y2) := hM.cell 0 rfl 1
      have e2 : V3.cell? ⟨gb, 2, none⟩ = some (.int .u8 y3) := hM.cell 0 rfl 2
      have e3 : V3.cell? ⟨gb, 3, none⟩ = some (.int .u8 y4) := hM.cell 0 rfl 3
      have e4 : V3.cell? ⟨gb, 4, none⟩ = some (.int .u8 y5) := hM.cell 0 rfl 4
      have e5 : V3.cell? ⟨gb, 5, none⟩ = some (.int .u8 y6) := hM.cell 0 rfl 5
      have e6 : V3.cell? ⟨gb, 6, none⟩ = some (.int .u8 y7) := hM.cell 0 rfl 6
      have e7 : V3.cell? ⟨gb, 7, none⟩ = some (.int .u8 y8) := hM.cell 0 rfl 7
      have f0 : V3.cell? ⟨g0, 0, none⟩ = some (.int .u8 0) := hM.cell 1 rfl 0
      have f1 : V3.cell? ⟨g0, 1, none⟩ = some (.int .u8 0) := hM.cell 1 rfl 1
      have f2 : V3.cell? ⟨g0, 2, none⟩ = some (.int .u8 0) := hM.cell 1 rfl 2
      have f3 : V3.cell? ⟨g0, 3, none⟩ = some (.int .u8 0) := hM.cell 1 rfl 3
      have f4 : V3.cell? ⟨g0, 4, none⟩ = some (.int .u8 0) := hM.cell 1 rfl 4
      have f5 : V3.cell? ⟨g0, 5, none⟩ = some (.int .u8 0) := hM.cell 1 rfl 5
      have f6 : V3.cell? ⟨g0, 6, none⟩ = some (.int .u8 0) := hM.cell 1 rfl 6
      have f7 : V3.cell? ⟨g0, 7, none⟩ = some (.int .u8 0) := hM.cell 1 rfl 7
      have hfr := hM.free 1 rfl
      clear hM q1 q2 q3 q4 hgb HL CF hb2 hg0
      go_wp2_with fail
      refine post_let (fun X => Mem w X ((gb, .cells #[.int .u8 y1, .int .u8 y2, .int .u8 y3, .int .u8 y4, .int .u8 y5, .int .u8 y6, .int .u8 y7, .int .u8 y8] 26 (0, 0)) :: (g0, .cells #[.int .u8 y1, .int .u8 y2, .int .u8 y3, .int .u8 y4, .int .u8 y5, .int .u8 y6, .int .u8 y7, .int .u8 y8] 26 (0, 0)) :: (g, .cells (v :: .int .i64 σ.fin :: post).toArray T (0, 0)) :: (K ++ W))) (((((((((HM3.out.set 1 rfl 0 _).set 1 rfl 1 _).set 1 rfl 2 _).set 1 rfl 3 _).set 1 rfl 4 _).set 1 rfl 5 _).set 1 rfl 6 _).set 1 rfl 7 _)) ?_
      intro V4 hM
      have k0 : V4.cell? ⟨g0, 0, none⟩ = some (.int .u8 y1) := hM.cell 1 rfl 0
      have k1 : V4.cell? ⟨g0, 1, none⟩ = some (.int .u8 y2) := hM.cell 1 rfl 1
      have k2 : V4.cell? ⟨g0, 2, none⟩ = some (.int .u8 y3) := hM.cell 1 rfl 2
      have k3 : V4.cell? ⟨g0, 3, none⟩ = some (.int .u8 y4) := hM.cell 1 rfl 3
      have k4 : V4.cell? ⟨g0, 4, none⟩ = some (.int .u8 y5) := hM.cell 1 rfl 4
      have k5 : V4.cell? ⟨g0, 5, none⟩ = some (.int .u8 y6) := hM.cell 1 rfl 5
      have k6 : V4.cell? ⟨g0, 6, none⟩ = some (.int .u8 y7) := hM.cell 1 rfl 6
      have k7 : V4.cell? ⟨g0, 7, none⟩ = some (.int .u8 y8) := hM.cell 1 rfl 7
      exact bodyPost_ret (v := .agg #[.int .u8 y1, .int .u8 y2, .int .u8 y3, .int .u8 y4, .int .u8 y5, .int .u8 y6, .int .u8 y7, .int .u8 y8]) (by simp [results, Tryz.results77, go_sem, k0, k1, k2, k3, k4, k5, k6, k7]) rfl (Or.inl ⟨rfl, rfl, rfl, HQ.out.1, _, HQ.out.2, hM.sub.sub⟩)
    | false =>
      have hm := vnx_no (f := f) hb0 hws hfx
      have HE : Hid (le (f x1.data.toList) = 60) := by unfold le; rw [hfx]; rfl
      simp only at hxs C hm ⊢
      have HEN : Hid (enc x1 = .agg #[.int .u8 y1, .int .u8 y2, .int .u8 y3, .int .u8 y4, .int .u8 y5, .int .u8 y6, .int .u8 y7, .int .u8 y8]) := hen
      clear h hf hfx hws hk hen henc hl h0 hf0
      go_enter Tryz.func77, Tryz.ntmps77
      go_wp2_with fail
      refine C.mono ?_
      rintro e V' ⟨rfl, hL⟩
      have CF := HF.out x1 (V'.alloc (.cells #[.string x1, .int .i64 x2] 149 (0, 0))) hxs (hL.mem.after ((Below.refl _ _).alloc (Nat.le_refl _) _))
      rw [HE.out, HEN.out] at CF
      have HP : Hid (Mem w (V'.alloc (.cells #[.string x1, .int .i64 x2] 149 (0, 0))) ((V'.heap.size, .cells #[.string x1, .int .i64 x2] 149 (0, 0)) :: (K ++ W))) := (hL.mem.sub).front _ rfl
      clear hL C HF
      go_upto_region 3 with (go_at_fn k; refine CF.mono ?_; rintro e V2 ⟨rfl, hb2⟩)
      have hM2 := HP.out.after hb2
      refine wp_letter (fun X => Mem w X ((V'.heap.size, .cells #[.string x1, .int .i64 x2] 149 (0, 0)) :: (K ++ W))) (hM2.after ((Below.refl _ _).alloc (Nat.le_refl _) _)) ?_
      intro V3 hM3
      have d1 : V3.cell? ⟨V'.heap.size, 1, none⟩ = some (.int .i64 x2) := hM3.cell 0 rfl 1
      have CG := fail_any hM3 x2
      clear hM2 HP hb2 CF hM3
      go_wp2_with fail
      refine CG.mono ?_
      rintro e V3 ⟨g', rfl, hM⟩
      exact ⟨rfl, Or.inr ⟨_, hm, g', rfl, hM⟩⟩
end Go.Proofs.YtneciccdiledfaaGreatDoor

namespace Go.Proofs.YtneciccdiledfaaGreatDoor
open Go.RowKit
open La
open Ad
set_option linter.unusedVariables false
set_option linter.unusedSimpArgs false
set_option maxRecDepth 20000

/-- The filters' words, laid. -/
def FW (w : World) : Prop := w.cell? ⟨1, 0, none⟩ = some (.string ⟨wAny.toArray⟩) ∧ w.cell? ⟨1, 1, none⟩ = some (.string ⟨wAddress.toArray⟩) ∧ w.cell? ⟨1, 2, none⟩ = some (.string ⟨wPort.toArray⟩)
theorem FW.below {w w' : World} (h : FW w) (hb : Below w.heap.size w w') : FW w' := ⟨(hb.cell (cell_in h.1)).trans h.1, (hb.cell (cell_in h.2.1)).trans h.2.1, (hb.cell (cell_in h.2.2)).trans h.2.2⟩
theorem tells_ip {w : World} (hV : Vs w) (K : List (Nat × Obj)) : Tells w K 74 #[] ip (fun s => .int .u32 (nv (ip s.data.toList))) := by
  intro s V hs hM
  exact ip_any (hV.below hM.below) s (by omega)
theorem tells_mac {w : World} (hV : Vs w) (K : List (Nat × Obj)) : Tells w K 76 #[] mac (fun s => mv (mac s.data.toList)) := by
  intro s V hs hM
  exact mac_any (hV.below hM.below) s (by omega)
theorem tells_key {w : World} (K : List (Nat × Obj)) : Tells w K 78 #[] key (fun s => kv (key s.data.toList)) := by
  intro s V hs hM
  exact key_any s V
set_option maxHeartbeats 1000000 in
theorem upTo_any {w V : World} {K : List (Nat × Obj)} (hM : Mem w V K) (m : Nat) : Calls Tryz.prog 79 #[.int .u32 (m : Int)] V fun e V' => ∃ b, e = .returned (.func (.func 102) #[] #[.pointer (some ⟨b, 0, none⟩)]) ∧ b = V.heap.size ∧ V' = V.alloc (.cells #[.int .u32 m] 23 (0, 0)) := by
  clear hM
  go_enter Tryz.func79, Tryz.ntmps79
  go_wp2_with fail
  go_ret
  exact ⟨_, rfl, rfl, rfl⟩
set_option maxHeartbeats 1000000 in
theorem tells_num {w : World} {K : List (Nat × Obj)} {b m : Nat} (hm : m ≤ 4294967295) (hb : (b, Obj.cells #[.int .u32 m] 23 (0, 0)) ∈ K) : Tells w K 102 #[.pointer (some ⟨b, 0, none⟩)] (fun s => num s m) (fun s => .int .u32 (nv (num s.data.toList m))) := by
  intro s V hs hM
  have c0 : V.cell? ⟨b, 0, none⟩ = some (.int .u32 m) := by rw [mem_box hM hb]; rfl
  have C := num_any s m hm (by omega) V
  show Calls Tryz.prog 102 #[.string s, .pointer (some ⟨b, 0, none⟩)] V _
  have hle : le (num s.data.toList m) = ne (num s.data.toList m) := rfl
  rw [hle]
  show Calls Tryz.prog 102 #[.string s, .pointer (some ⟨b, 0, none⟩)] V fun e V' => e = .returned (.tuple #[.int .u32 (nv (num s.data.toList m)), .int .i64 (ne (num s.data.toList m))]) ∧ Below V.heap.size V V'
  generalize nv (num s.data.toList m) = N at C ⊢
  generalize ne (num s.data.toList m) = E at C ⊢
  clear hM hb
  go_enter Tryz.func102, Tryz.ntmps102
  go_wp2_with fail
  refine C.mono ?_
  rintro e V' ⟨rfl, hbl⟩
  go_wp2_with fail
  exact bodyPost_ret (v := .tuple #[.int .u32 N, .int .i64 E]) (by simp [results, Tryz.results102, go_sem]) rfl ⟨rfl, hbl⟩
theorem clone_any (s : ByteArray) (hs : s.size ≤ 32768) (V : World) : Calls Tryz.prog 118 #[.string s] V fun e V' => e = .returned (.string s) ∧ Below V.heap.size V V' := by
  have C := Tryz.stringslite_Clone s V (by omega)
  go_enter Tryz.func118, Tryz.ntmps118
  go_wp2_with fail
  refine C.mono ?_
  rintro e V' ⟨rfl, hbl⟩
  go_wp2_with fail
  go_ret
  exact ⟨rfl, hbl⟩
set_option maxHeartbeats 1000000 in
theorem tells_name {w : World} (hV : Vs w) (K : List (Nat × Obj)) : Tells w K 104 #[] La.nm (fun s => .string (if nam s.data.toList then s else ⟨#[]⟩)) := by
  intro s V hs hM
  have C := name_any (hV.below hM.below) s (by omega)
  show Calls Tryz.prog 104 #[.string s] V fun e V' => e = .returned (.tuple #[.string (if nam s.data.toList then s else ⟨#[]⟩), .int .i64 (le (La.nm s.data.toList))]) ∧ Below V.heap.size V V'
  cases hn : nam s.data.toList with
  | true =>
    rw [hn] at C
    have e1 : le (La.nm s.data.toList) = 0 := by unfold La.nm; rw [hn]; rfl
    rw [e1]
    simp only [if_true]
    have CC := fun V => clone_any s hs V
    clear hM hn e1
    go_enter Tryz.func104, Tryz.ntmps104
    go_wp2_with fail
    refine C.mono ?_
    rintro e V' ⟨rfl, hbl⟩
    go_wp2_with fail
    refine (CC _).mono ?_
    rintro e V2 ⟨rfl, hb2⟩
    go_wp2_with fail
    exact bodyPost_ret (v := .tuple #[.string s, .int .i64 0]) (by simp [results, Tryz.results104, go_sem]) rfl ⟨rfl, hbl.trans (hb2.mono hbl.size)⟩
  | false =>
    rw [hn] at C
    have e1 : le (La.nm s.data.toList) = 60 := by unfold La.nm; rw [hn]; rfl
    rw [e1]
    simp only [Bool.false_eq_true, if_false]
    clear hM hn e1
    go_enter Tryz.func104, Tryz.ntmps104
    go_wp2_with fail
    refine C.mono ?_
    rintro e V' ⟨rfl, hbl⟩
    go_wp2_with fail
    exact bodyPost_ret (v := .tuple #[.string ⟨#[]⟩, .int .i64 60]) (by simp [results, Tryz.results104, go_sem]) rfl ⟨rfl, hbl⟩
theorem str_ne {s : ByteArray} {l : List UInt8} (h : s.data.toList ≠ l) : (s.toList == l) = false := by
  rw [beq_eq_false_iff_ne]; intro e; exact h (by rw [← ByteArray.toList_eq]; exact e)
set_option maxHeartbeats 4000000 in
theorem tells_filter {w : World} (hF : FW w) (K : List (Nat × Obj)) : Tells w K 106 #[] flt (fun s => .int .i64 (nv (flt s.data.toList))) := by
  intro s V hs hM
  obtain ⟨c0, c1, c2⟩ := hF.below hM.below
  show Calls Tryz.prog 106 #[.string s] V fun e V' => e = .returned (.tuple #[.int .i64 (nv (flt s.data.toList)), .int .i64 (le (flt s.data.toList))]) ∧ Below V.heap.size V V'
  have hix : ∀ (W : World), (Instr.index 180 (.agg #[.string ⟨wAny.toArray⟩, .string ⟨wAddress.toArray⟩, .string ⟨wPort.toArray⟩]) (.int .i64 0)).run Tryz.prog W = .ok (.string ⟨wAny.toArray⟩) W := fun W => by kernel_rfl
  have hix1 : ∀ (W : World), (Instr.index 180 (.agg #[.string ⟨wAny.toArray⟩, .string ⟨wAddress.toArray⟩, .string ⟨wPort.toArray⟩]) (.int .i64 1)).run Tryz.prog W = .ok (.string ⟨wAddress.toArray⟩) W := fun W => by kernel_rfl
  have hix2 : ∀ (W : World), (Instr.index 180 (.agg #[.string ⟨wAny.toArray⟩, .string ⟨wAddress.toArray⟩, .string ⟨wPort.toArray⟩]) (.int .i64 2)).run Tryz.prog W = .ok (.string ⟨wPort.toArray⟩) W := fun W => by kernel_rfl
  by_cases h0 : s.data.toList = wAny
  · have hs0 : s = ⟨wAny.toArray⟩ := by rw [← h0]
    have e1 : flt s.data.toList = some 0 := by unfold flt; rw [if_pos h0]
    rw [e1]
    subst hs0
    clear hM h0 e1
    go_enter Tryz.func106, Tryz.ntmps106
    go_wp2_with fail
    refine wp_loop_rounds 1 ?_
    rw [rounds_succ]
    go_wp2_with fail
    exact bodyPost_ret (v := .tuple #[.int .i64 0, .int .i64 0]) (by simp [results, Tryz.results106, go_sem]) rfl ⟨rfl, Below.refl _ _⟩
  · have n0 := str_ne h0
    by_cases h1 : s.data.toList = wAddress
    · have hs0 : s = ⟨wAddress.toArray⟩ := by rw [← h1]
      have e1 : flt s.data.toList = some 1 := by unfold flt; rw [if_neg h0, if_pos h1]
      rw [e1]
      subst hs0
      clear hM h1 e1
      go_enter Tryz.func106, Tryz.ntmps106
      go_wp2_with fail
      refine wp_loop_rounds 2 ?_
      rw [rounds_succ]
      go_wp2_with fail
      rw [rounds_succ]
      go_wp2_with fail
      exact bodyPost_ret (v := .tuple #[.int .i64 1, .int .i64 0]) (by simp [results, Tryz.results106, go_sem]) rfl ⟨rfl, Below.refl _ _⟩
    · have n1 := str_ne h1
      by_cases h2 : s.data.toList = wPort
      · have hs0 : s = ⟨wPort.toArray⟩ := by rw [← h2]
        have e1 : flt s.data.toList = some 2 := by unfold flt; rw [if_neg h0, if_neg h1, if_pos h2]
        rw [e1]
        subst hs0
        clear hM h2 e1
        go_enter Tryz.func106, Tryz.ntmps106
        go_wp2_with fail
        refine wp_loop_rounds 3 ?_
        rw [rounds_succ]
        go_wp2_with fail
        rw [rounds_succ]
        go_wp2_with fail
        rw [rounds_succ]
        go_wp2_with fail
        exact bodyPost_ret (v := .tuple #[.int .i64 2, .int .i64 0]) (by simp [results, Tryz.results106, go_sem]) rfl ⟨rfl, Below.refl _ _⟩
      · have n2 := str_ne h2
        have e1 : flt s.data.toList = none := by unfold flt; rw [if_neg h0, if_neg h1, if_neg h2]
        rw [e1]
        clear hM e1 h0 h1 h2
        go_enter Tryz.func106, Tryz.ntmps106
        go_wp2_with fail
        refine wp_loop_rounds 4 ?_
        rw [rounds_succ]
        go_wp2_with fail
        rw [rounds_succ]
        go_wp2_with fail
        rw [rounds_succ]
        go_wp2_with fail
        rw [rounds_succ]
        go_wp2_with fail
        exact bodyPost_ret (v := .tuple #[.int .i64 0, .int .i64 60]) (by simp [results, Tryz.results106, go_sem]) rfl ⟨rfl, Below.refl _ _⟩
end Go.Proofs.YtneciccdiledfaaGreatDoor

