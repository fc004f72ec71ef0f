/-
  Settings as bytes: the program's Tenant and Same, at every tenant.
-/
import Derived.Test.YtbccadbnaggkhaaGreatKE15
import Derived.Deep.MidRow
import Derived.Deep.WholeRow
namespace Go.Proofs.YtbccadbnaggkhaaGreat
open Go.RowKit
open Sm
open Cf
set_option linter.unusedVariables false
set_option maxRecDepth 20000

/-- A value that is a tenant. -/
def TV (V : World) (v : Value) (t : Ten) : Prop := TLen t ∧ ∃ p s q, v = .agg (tc t p s q).toArray ∧ Rw V 1 p (ux t.pool) ∧ Rw V 2 s (px t.stat) ∧ Rw V 2 q (px t.twi)
theorem IT_box {w : World} {t : Ten} {p s q : Value} (hi : TIn t) (h1 : Rw w 1 p (ux t.pool)) (h2 : Rw w 2 s (px t.stat)) (h3 : Rw w 2 q (px t.twi)) {g : Nat} {pre post : List Value} {T : TypeId} {K : List (Nat × Obj)} (hm : (g, .cells (pre ++ (tc t p s q ++ post)).toArray T (0, 0)) ∈ K) :
    ∀ V, Mem w V K → IT t (p, s, q) V g pre.length := by
  intro V hV
  refine ⟨hi, fun j v hj => ?_, hV.rw' h1 ux_ne, hV.rw' h2 px_ne, hV.rw' h3 px_ne⟩
  rw [mem_box hV hm]
  exact get_mid _ _ _ j v hj
theorem two_blocks' (w : World) (a b : Obj) : Mem w ((w.alloc a).alloc b) [(w.heap.size + 1, b), (w.heap.size, a)] := by
  have h := ((Mem.nil w).push w.heap.size a rfl).push (w.heap.size + 1) b (by simp)
  exact h.perm (List.Perm.swap _ _ _)
set_option maxHeartbeats 4000000 in
theorem cfgSame_any {w : World} {v u : Value} {t z : Ten} (h : TV w v t) (hi : TIn t) (h' : TV w u z) (hi' : TIn z) :
    Calls Tryz.prog 28 #[v, u] w fun e w' => e = .returned (.bool (spT.eq t z)) ∧ Below w.heap.size w w' := by
  obtain ⟨-, p, s, q, rfl, h1, h2, h3⟩ := h
  obtain ⟨-, p', s', q', rfl, h1', h2', h3'⟩ := h'
  have hM0 := two_blocks' w (.cells (tc t p s q).toArray 34) (.cells (tc z p' s' q').toArray 34)
  have C := tenant_any hM0
  obtain ⟨g, hg⟩ : ∃ g, w.heap.size = g := ⟨_, rfl⟩
  rw [hg] at C
  have HI := fun K (hm : (g, Obj.cells ([] ++ (tc t p s q ++ [])).toArray 34 (0, 0)) ∈ K) => IT_box (w := w) hi h1 h2 h3 hm
  have HJ := fun K (hm : (g + 1, Obj.cells ([] ++ (tc z p' s' q' ++ [])).toArray 34 (0, 0)) ∈ K) => IT_box (w := w) hi' h1' h2' h3' hm
  simp only [List.nil_append, List.append_nil, List.length_nil] at HI HJ
  have HII : Hid (∀ K, (g, Obj.cells (tc t p s q).toArray 34 (0, 0)) ∈ K → ∀ V, Mem w V K → IT t (p, s, q) V g 0) := HI
  have HJJ : Hid (∀ K, (g + 1, Obj.cells (tc z p' s' q').toArray 34 (0, 0)) ∈ K → ∀ V, Mem w V K → IT z (p', s', q') V (g + 1) 0) := HJ
  clear HI HJ hM0 h1 h2 h3 hi h1' h2' h3' hi'
  generalize tc t p s q = tl at C HII
  generalize tc z p' s' q' = tl' at C HJJ
  go_enter Tryz.func28, Tryz.ntmps28
  go_wp2_with fail
  refine C.mono ?_
  rintro e V ⟨⟨k1, k2, k3, c1, c2, c3⟩, E, rfl, hM, hF⟩
  have CW := hF.sm (E ++ [(g + 1, .cells tl'.toArray 34 (0, 0)), (g, .cells tl.toArray 34 (0, 0))]) (fun q hq => List.mem_append_left _ hq) t z (p, s, q) (p', s', q') g 0 (g + 1) 0 (fun V hV => ⟨HII.out _ (by simp) V hV, HJJ.out _ (by simp) V hV⟩) V hM
  have eg : ∀ args V, (callFunc k3 args).run Tryz.prog V = .ok (.enter k3 args) V := hF.es
  have hfd : ∀ V, (Instr.field 70 (.agg #[.func (.func k1) #[] c1, .func (.func k2) #[] c2, .func (.func k3) #[] c3]) 2).run Tryz.prog V = .ok (.func (.func k3) #[] c3) V := fun V => by kernel_rfl
  simp only at CW
  simp only [Fv.val]
  clear hF HII HJJ C hM
  go_wp2_with fail
  refine CW.mono ?_
  rintro e V2 ⟨rfl, hM2⟩
  go_wp2_with fail
  go_ret
  exact ⟨rfl, hM2.below⟩
end Go.Proofs.YtbccadbnaggkhaaGreat

