/-
  DiskPlays: the switch where there is no byte to spoil (no such place).
-/
import Derived.Test.YtjabckgjnknhnaaDkSwitch
namespace Go.Proofs.Ytjabckgjnknhnaa
open Go.RowKit
open Sm
set_option linter.unusedVariables false

set_option maxRecDepth 20000 in
set_option maxHeartbeats 2000000 in
theorem sw_spoil_c {w1 wb : World} {N m q p h hm cm gx : Nat} {D M : Dk} {hc hcm : Array Value} {ks km : List Bk} {C : Ac} {t : Int} {s2 s10 : Value} {a : Act} (S : SwIn w1 wb N m q p h hm cm gx D M hc hcm ks km C t s2 s10 a)
    (hW : C.what = 6) (hp : 0 ≤ t) (hp1 : t < N) (hq : C.n < 0) (cd : Code) (hcd : blk 4 (Try.f3.body.getD .skip) = some cd) (K' : Act → World → Prop) (Q : Exit → Act → World → Prop) (hK : ∀ a' w', Mt w1 N m q s2 s10 (.int .i64 t) a' w' → K' a' w') : Code.wp Try.prog cd (Exit.then K' Q) a wb := by
  conv at hcd => lhs; whnf
  injection hcd with hcd
  subst hcd
  obtain ⟨f, hf, ha⟩ := frame301 a S.df S.sz
  have x2 := (hf 2).symm.trans S.g2
  have x7 := (hf 7).symm.trans S.g7
  have x8 := (hf 8).symm.trans S.g8
  have x10 := (hf 10).symm.trans S.g10
  have x11 := (hf 11).symm.trans S.g11
  have x12 := (hf 12).symm.trans S.g12
  have x94 := (hf 94).symm.trans S.g94
  simp only [x2, x7, x8, x10, x11, x12, x94] at ha
  have HPb : Hid (Pl w1 wb p h m D hc ks q hm cm M hcm km [(gx, .cells (acA C) acT (0, 0))]) := S.P
  have HL : Hid (km.length = N ∧ ks.length = N) := ⟨S.L, S.P.len.trans S.L⟩
  have HN : Hid (1 ≤ N ∧ N ≤ 4) := ⟨S.N1, S.N4⟩
  have HM : Hid (64 ≤ m ∧ m ≤ 199) := ⟨S.m0, S.m1⟩
  have HC : Hid C.Ok := S.C
  have ht : -1 ≤ t ∧ t ≤ N := ⟨S.t0, S.t1⟩
  have HK : Hid (∀ a' w', Mt w1 N m q s2 s10 (.int .i64 t) a' w' → K' a' w') := hK
  have e0 := S.P.extra (List.mem_singleton.mpr rfl) 0
  have e1 := S.P.extra (List.mem_singleton.mpr rfl) 1
  have e2 := S.P.extra (List.mem_singleton.mpr rfl) 2
  have e3 := S.P.extra (List.mem_singleton.mpr rfl) 3
  have e4 := S.P.extra (List.mem_singleton.mpr rfl) 4
  simp at e0 e1 e2 e3 e4
  clear S hf x2 x7 x8 x10 x11 x12 x94 hK
  subst ha
  rw [hW] at e0 ⊢
  clear hW
  have hsp := dspoil_any HPb.out.d t C.n C.x
  clear e1 e3
  go_wp2_with fail
  refine hsp.mono ?_
  rintro e wp ⟨rfl, ks6, H6, hB6⟩
  have E6 := pl_d H6 HPb.out.e
  have b0 := E6.st.box 0
  have b1 := E6.st.box 1
  simp at b0 b1
  rw [HL.out.1] at b0
  have fx : ∀ j, wp.cell? ⟨gx, j, none⟩ = (acA C)[j]? := fun j => cell_of (H6.st.mem.at_ (gx, .cells (acA C) acT (0, 0)) (by simp [stL])) j
  have f2 := fx 2
  have f4 := fx 4
  simp at f2 f4
  have HE6 : Hid (MdAt w1 wp q hm m cm M hcm km (stL p (dkA h ks6.length D) dkT h hc ks6 [(gx, .cells (acA C) acT (0, 0))])) := E6
  have HH6 : Hid (DkAt w1 wp p h m D hc ks6 (stL q (mdA hm km.length cm m M) mdT hm hcm km [(gx, .cells (acA C) acT (0, 0))]) ∧ ks6.map Bk.b = spB m t C.n C.x (ks.map Bk.b)) := ⟨H6, hB6⟩
  clear fx hsp H6 E6 hB6
  have HNo : Hid (dIn km.length t = false ∨ dIn m C.n = false) := by
    rw [HL.out.1]
    exact Or.inr (by simp [dIn]; omega)
  have HPf : Hid (∀ k, Pl w1 (wp.drewN k) p h m D hc ks6 q hm cm M hcm km []) := fun k => ((pl_spoil_no HPb.out HH6.out.1 HH6.out.2 HNo.out).drewN k).less
  have d0 : decide (0 ≤ t) = true := decide_eq_true (by omega)
  have d1 : decide (t < (N : Int)) = true := decide_eq_true (by omega)
  have d2 : decide (0 ≤ C.n) = false := decide_eq_false (by omega)
  go_upto_region 42 with fail
  go_quiet (fail)
  go_wp2
  exact HK.out _ _ ⟨by first | trivial | rfl, rfl, rfl, rfl, rfl, rfl, p, _, D, hc, ks6, hm, cm, M, hcm, km, rfl, HL.out.1, HPf.out _⟩
set_option maxRecDepth 20000 in
set_option maxHeartbeats 2000000 in
theorem sw_spoil_d {w1 wb : World} {N m q p h hm cm gx : Nat} {D M : Dk} {hc hcm : Array Value} {ks km : List Bk} {C : Ac} {t : Int} {s2 s10 : Value} {a : Act} (S : SwIn w1 wb N m q p h hm cm gx D M hc hcm ks km C t s2 s10 a)
    (hW : C.what = 6) (hp : 0 ≤ t) (hp1 : t < N) (hn : 0 ≤ C.n) (hq : (m : Int) ≤ C.n) (cd : Code) (hcd : blk 4 (Try.f3.body.getD .skip) = some cd) (K' : Act → World → Prop) (Q : Exit → Act → World → Prop) (hK : ∀ a' w', Mt w1 N m q s2 s10 (.int .i64 t) a' w' → K' a' w') : Code.wp Try.prog cd (Exit.then K' Q) a wb := by
  conv at hcd => lhs; whnf
  injection hcd with hcd
  subst hcd
  obtain ⟨f, hf, ha⟩ := frame301 a S.df S.sz
  have x2 := (hf 2).symm.trans S.g2
  have x7 := (hf 7).symm.trans S.g7
  have x8 := (hf 8).symm.trans S.g8
  have x10 := (hf 10).symm.trans S.g10
  have x11 := (hf 11).symm.trans S.g11
  have x12 := (hf 12).symm.trans S.g12
  have x94 := (hf 94).symm.trans S.g94
  simp only [x2, x7, x8, x10, x11, x12, x94] at ha
  have HPb : Hid (Pl w1 wb p h m D hc ks q hm cm M hcm km [(gx, .cells (acA C) acT (0, 0))]) := S.P
  have HL : Hid (km.length = N ∧ ks.length = N) := ⟨S.L, S.P.len.trans S.L⟩
  have HN : Hid (1 ≤ N ∧ N ≤ 4) := ⟨S.N1, S.N4⟩
  have HM : Hid (64 ≤ m ∧ m ≤ 199) := ⟨S.m0, S.m1⟩
  have HC : Hid C.Ok := S.C
  have ht : -1 ≤ t ∧ t ≤ N := ⟨S.t0, S.t1⟩
  have HK : Hid (∀ a' w', Mt w1 N m q s2 s10 (.int .i64 t) a' w' → K' a' w') := hK
  have e0 := S.P.extra (List.mem_singleton.mpr rfl) 0
  have e1 := S.P.extra (List.mem_singleton.mpr rfl) 1
  have e2 := S.P.extra (List.mem_singleton.mpr rfl) 2
  have e3 := S.P.extra (List.mem_singleton.mpr rfl) 3
  have e4 := S.P.extra (List.mem_singleton.mpr rfl) 4
  simp at e0 e1 e2 e3 e4
  clear S hf x2 x7 x8 x10 x11 x12 x94 hK
  subst ha
  rw [hW] at e0 ⊢
  clear hW
  have hsp := dspoil_any HPb.out.d t C.n C.x
  clear e1 e3
  go_wp2_with fail
  refine hsp.mono ?_
  rintro e wp ⟨rfl, ks6, H6, hB6⟩
  have E6 := pl_d H6 HPb.out.e
  have b0 := E6.st.box 0
  have b1 := E6.st.box 1
  simp at b0 b1
  rw [HL.out.1] at b0
  have fx : ∀ j, wp.cell? ⟨gx, j, none⟩ = (acA C)[j]? := fun j => cell_of (H6.st.mem.at_ (gx, .cells (acA C) acT (0, 0)) (by simp [stL])) j
  have f2 := fx 2
  have f4 := fx 4
  simp at f2 f4
  have HE6 : Hid (MdAt w1 wp q hm m cm M hcm km (stL p (dkA h ks6.length D) dkT h hc ks6 [(gx, .cells (acA C) acT (0, 0))])) := E6
  have HH6 : Hid (DkAt w1 wp p h m D hc ks6 (stL q (mdA hm km.length cm m M) mdT hm hcm km [(gx, .cells (acA C) acT (0, 0))]) ∧ ks6.map Bk.b = spB m t C.n C.x (ks.map Bk.b)) := ⟨H6, hB6⟩
  clear fx hsp H6 E6 hB6
  have HNo : Hid (dIn km.length t = false ∨ dIn m C.n = false) := by
    rw [HL.out.1]
    exact Or.inr (by simp [dIn]; omega)
  have HPf : Hid (∀ k, Pl w1 (wp.drewN k) p h m D hc ks6 q hm cm M hcm km []) := fun k => ((pl_spoil_no HPb.out HH6.out.1 HH6.out.2 HNo.out).drewN k).less
  have d0 : decide (0 ≤ t) = true := decide_eq_true (by omega)
  have d1 : decide (t < (N : Int)) = true := decide_eq_true (by omega)
  have d2 : decide (0 ≤ C.n) = true := decide_eq_true (by omega)
  have d3 : decide (C.n < (m : Int)) = false := decide_eq_false (by omega)
  go_upto_region 42 with fail
  go_quiet (fail)
  go_wp2
  exact HK.out _ _ ⟨by first | trivial | rfl, rfl, rfl, rfl, rfl, rfl, p, _, D, hc, ks6, hm, cm, M, hcm, km, rfl, HL.out.1, HPf.out _⟩
end Go.Proofs.Ytjabckgjnknhnaa
