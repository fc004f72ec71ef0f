/-
  DiskPlays: the switch where power comes.
-/
import Derived.Test.YtjabckgjnknhnaaDkSwitch
namespace Go.Proofs.Ytjabckgjnknhnaa
open Go.RowKit
open Sm
set_option linter.unusedVariables false

set_option maxRecDepth 20000 in
set_option maxHeartbeats 2000000 in
theorem sw_power {w1 wb : World} {N m q p h hm cm gx : Nat} {D M : Dk} {hc hcm : Array Value} {ks km : List Bk} {C : Ac} {t : Int} {s2 s10 : Value} {a : Act} (S : SwIn w1 wb N m q p h hm cm gx D M hc hcm ks km C t s2 s10 a)
    (hW : C.what = 5) (cd : Code) (hcd : blk 4 (Try.f3.body.getD .skip) = some cd) (K' : Act → World → Prop) (Q : Exit → Act → World → Prop) (hK : ∀ a' w', Mt w1 N m q s2 s10 (.int .i64 t) a' w' → K' a' w') : Code.wp Try.prog cd (Exit.then K' Q) a wb := by
  conv at hcd => lhs; whnf
  injection hcd with hcd
  subst hcd
  obtain ⟨f, hf, ha⟩ := frame301 a S.df S.sz
  have x2 := (hf 2).symm.trans S.g2
  have x7 := (hf 7).symm.trans S.g7
  have x8 := (hf 8).symm.trans S.g8
  have x10 := (hf 10).symm.trans S.g10
  have x11 := (hf 11).symm.trans S.g11
  have x12 := (hf 12).symm.trans S.g12
  have x94 := (hf 94).symm.trans S.g94
  simp only [x2, x7, x8, x10, x11, x12, x94] at ha
  have HPb : Hid (Pl w1 wb p h m D hc ks q hm cm M hcm km [(gx, .cells (acA C) acT (0, 0))]) := S.P
  have HL : Hid (km.length = N ∧ ks.length = N) := ⟨S.L, S.P.len.trans S.L⟩
  have HN : Hid (1 ≤ N ∧ N ≤ 4) := ⟨S.N1, S.N4⟩
  have HM : Hid (64 ≤ m ∧ m ≤ 199) := ⟨S.m0, S.m1⟩
  have HC : Hid C.Ok := S.C
  have ht : -1 ≤ t ∧ t ≤ N := ⟨S.t0, S.t1⟩
  have HK : Hid (∀ a' w', Mt w1 N m q s2 s10 (.int .i64 t) a' w' → K' a' w') := hK
  have e0 := S.P.extra (List.mem_singleton.mpr rfl) 0
  have e1 := S.P.extra (List.mem_singleton.mpr rfl) 1
  have e2 := S.P.extra (List.mem_singleton.mpr rfl) 2
  have e3 := S.P.extra (List.mem_singleton.mpr rfl) 3
  have e4 := S.P.extra (List.mem_singleton.mpr rfl) 4
  simp at e0 e1 e2 e3 e4
  clear S hf x2 x7 x8 x10 x11 x12 x94 hK
  subst ha
  rw [hW] at e0 ⊢
  clear hW
  have hpw := dpower_any HPb.out.d
  clear e1 e2 e3 e4
  go_wp2_with fail
  refine hpw.mono ?_
  rintro e wp ⟨rfl, H5⟩
  have E5 := pl_d H5 HPb.out.e
  have b2 := E5.st.box 2
  have b3 := E5.st.box 3
  simp at b2 b3
  have g2 := E5.st.boxFree 2
  have g3 := E5.st.boxFree 3
  have HPf : Hid (Pl w1 ((wp.setCell ⟨q, 2, none⟩ (.bool false)).setCell ⟨q, 3, none⟩ (.bool false)) p h m ⟨false, false, 0, 0⟩ hc ks q hm cm ⟨false, false, M.left, M.pre⟩ hcm km []) := (pl_power H5 HPb.out.e HPb.out.same).less
  clear H5 E5 hpw
  go_wp2
  exact HK.out _ _ ⟨by first | trivial | rfl, rfl, rfl, rfl, rfl, rfl, p, _, _, hc, ks, hm, cm, _, hcm, km, rfl, HL.out.1, HPf.out⟩

set_option maxRecDepth 20000 in
set_option maxHeartbeats 2000000 in
theorem sw_none {w1 wb : World} {N m q p h hm cm gx : Nat} {D M : Dk} {hc hcm : Array Value} {ks km : List Bk} {C : Ac} {t : Int} {s2 s10 : Value} {a : Act} (S : SwIn w1 wb N m q p h hm cm gx D M hc hcm ks km C t s2 s10 a)
    (n0 : C.what ≠ 0) (n1 : C.what ≠ 1) (n2 : C.what ≠ 2) (n4 : C.what ≠ 4) (n5 : C.what ≠ 5) (n6 : C.what ≠ 6) (n7 : C.what ≠ 7) (cd : Code) (hcd : blk 4 (Try.f3.body.getD .skip) = some cd) (K' : Act → World → Prop) (Q : Exit → Act → World → Prop) (hK : ∀ a' w', Mt w1 N m q s2 s10 (.int .i64 t) a' w' → K' a' w') : Code.wp Try.prog cd (Exit.then K' Q) a wb := by
  conv at hcd => lhs; whnf
  injection hcd with hcd
  subst hcd
  obtain ⟨f, hf, ha⟩ := frame301 a S.df S.sz
  have x2 := (hf 2).symm.trans S.g2
  have x7 := (hf 7).symm.trans S.g7
  have x8 := (hf 8).symm.trans S.g8
  have x10 := (hf 10).symm.trans S.g10
  have x11 := (hf 11).symm.trans S.g11
  have x12 := (hf 12).symm.trans S.g12
  have x94 := (hf 94).symm.trans S.g94
  simp only [x2, x7, x8, x10, x11, x12, x94] at ha
  have HPb : Hid (Pl w1 wb p h m D hc ks q hm cm M hcm km [(gx, .cells (acA C) acT (0, 0))]) := S.P
  have HL : Hid (km.length = N ∧ ks.length = N) := ⟨S.L, S.P.len.trans S.L⟩
  have HN : Hid (1 ≤ N ∧ N ≤ 4) := ⟨S.N1, S.N4⟩
  have HM : Hid (64 ≤ m ∧ m ≤ 199) := ⟨S.m0, S.m1⟩
  have HC : Hid C.Ok := S.C
  have ht : -1 ≤ t ∧ t ≤ N := ⟨S.t0, S.t1⟩
  have HK : Hid (∀ a' w', Mt w1 N m q s2 s10 (.int .i64 t) a' w' → K' a' w') := hK
  have e0 := S.P.extra (List.mem_singleton.mpr rfl) 0
  have e1 := S.P.extra (List.mem_singleton.mpr rfl) 1
  have e2 := S.P.extra (List.mem_singleton.mpr rfl) 2
  have e3 := S.P.extra (List.mem_singleton.mpr rfl) 3
  have e4 := S.P.extra (List.mem_singleton.mpr rfl) 4
  simp at e0 e1 e2 e3 e4
  clear S hf x2 x7 x8 x10 x11 x12 x94 hK
  subst ha
  have v0 : (C.what == 0) = false := by simpa using n0
  have v1 : (C.what == 1) = false := by simpa using n1
  have v2 : (C.what == 2) = false := by simpa using n2
  have v4 : (C.what == 4) = false := by simpa using n4
  have v5 : (C.what == 5) = false := by simpa using n5
  have v6 : (C.what == 6) = false := by simpa using n6
  have v7 : (C.what == 7) = false := by simpa using n7
  have HPf : Hid (Pl w1 wb p h m D hc ks q hm cm M hcm km []) := HPb.out.less
  clear e1 e2 e3 e4
  go_wp2
  exact HK.out _ _ ⟨by first | trivial | rfl, rfl, rfl, rfl, rfl, rfl, p, _, D, hc, ks, hm, cm, M, hcm, km, rfl, HL.out.1, HPf.out⟩
end Go.Proofs.Ytjabckgjnknhnaa
