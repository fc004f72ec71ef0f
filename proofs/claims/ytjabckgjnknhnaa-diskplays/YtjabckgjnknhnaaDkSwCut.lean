/-
  DiskPlays: the switch where a cut is laid.
-/
import Derived.Test.YtjabckgjnknhnaaDkSwitch
namespace Go.Proofs.Ytjabckgjnknhnaa
open Go.RowKit
open Sm
set_option linter.unusedVariables false

set_option maxRecDepth 20000 in
set_option maxHeartbeats 2000000 in
theorem sw_cut {w1 wb : World} {N m q p h hm cm gx : Nat} {D M : Dk} {hc hcm : Array Value} {ks km : List Bk} {C : Ac} {t : Int} {s2 s10 : Value} {a : Act} (S : SwIn w1 wb N m q p h hm cm gx D M hc hcm ks km C t s2 s10 a)
    (hW : C.what = 4) (cd : Code) (hcd : blk 4 (Try.f3.body.getD .skip) = some cd) (K' : Act → World → Prop) (Q : Exit → Act → World → Prop) (hK : ∀ a' w', Mt w1 N m q s2 s10 (.int .i64 t) a' w' → K' a' w') : Code.wp Try.prog cd (Exit.then K' Q) a wb := by
  conv at hcd => lhs; whnf
  injection hcd with hcd
  subst hcd
  obtain ⟨f, hf, ha⟩ := frame301 a S.df S.sz
  have x2 := (hf 2).symm.trans S.g2
  have x7 := (hf 7).symm.trans S.g7
  have x8 := (hf 8).symm.trans S.g8
  have x10 := (hf 10).symm.trans S.g10
  have x11 := (hf 11).symm.trans S.g11
  have x12 := (hf 12).symm.trans S.g12
  have x94 := (hf 94).symm.trans S.g94
  simp only [x2, x7, x8, x10, x11, x12, x94] at ha
  have HPb : Hid (Pl w1 wb p h m D hc ks q hm cm M hcm km [(gx, .cells (acA C) acT (0, 0))]) := S.P
  have HL : Hid (km.length = N ∧ ks.length = N) := ⟨S.L, S.P.len.trans S.L⟩
  have HN : Hid (1 ≤ N ∧ N ≤ 4) := ⟨S.N1, S.N4⟩
  have HM : Hid (64 ≤ m ∧ m ≤ 199) := ⟨S.m0, S.m1⟩
  have HC : Hid C.Ok := S.C
  have ht : -1 ≤ t ∧ t ≤ N := ⟨S.t0, S.t1⟩
  have HK : Hid (∀ a' w', Mt w1 N m q s2 s10 (.int .i64 t) a' w' → K' a' w') := hK
  have e0 := S.P.extra (List.mem_singleton.mpr rfl) 0
  have e1 := S.P.extra (List.mem_singleton.mpr rfl) 1
  have e2 := S.P.extra (List.mem_singleton.mpr rfl) 2
  have e3 := S.P.extra (List.mem_singleton.mpr rfl) 3
  have e4 := S.P.extra (List.mem_singleton.mpr rfl) 4
  simp at e0 e1 e2 e3 e4
  clear S hf x2 x7 x8 x10 x11 x12 x94 hK
  subst ha
  rw [hW] at e0 ⊢
  clear hW
  have hpl : ∀ W, Calls Try.prog 7 #[.int .i64 C.n, .int .i64 6] W (fun e w' => e = .returned (.int .i64 (plc C.n 6)) ∧ W = w') := fun W => place_any C.n 6 W HC.out.n.1 HC.out.n.2 (by omega) (by omega)
  have hp6 := plc_range C.n 6 (by omega)
  generalize plc C.n 6 = Z at hpl hp6
  have w6 : IntKind.i64.wrap (Z - 1) = Z - 1 := by rw [IntKind.wrap_i64]; omega
  have hct := dcut_any HPb.out.d (Z - 1) C.p (by omega)
  have hx : (if Z - 1 < 0 then (0 : Int) else Z - 1) = max (Z - 1) 0 := by split <;> omega
  have hy : (if (m : Int) < (if C.p < 0 then 0 else C.p) then (m : Int) else if C.p < 0 then 0 else C.p) = bd C.p 0 m := by unfold bd; split <;> split at * <;> omega
  generalize max (Z - 1) 0 = X at hct hx
  generalize bd C.p 0 m = Y at hct hy
  have HX : Hid ((if Z - 1 < 0 then (0 : Int) else Z - 1) = X) := hx
  have HY : Hid ((if (m : Int) < (if C.p < 0 then 0 else C.p) then (m : Int) else if C.p < 0 then 0 else C.p) = Y) := hy
  clear e1 e4 hx hy
  go_wp2_with fail
  refine (hpl _).mono ?_
  rintro e w' ⟨rfl, rfl⟩
  go_wp2_with fail
  refine hct.mono ?_
  rintro e wp ⟨rfl, H4⟩
  have E4 := pl_d H4 HPb.out.e
  have b1 := E4.st.box 1
  have b3 := E4.st.box 3
  have b4 := E4.st.box 4
  have b5 := E4.st.box 5
  simp at b1 b3 b4 b5
  have g3 := E4.st.boxFree 3
  have g4 := E4.st.boxFree 4
  have g5 := E4.st.boxFree 5
  have f3 : wp.cell? ⟨gx, 3, none⟩ = some (.int .i64 C.p) := by
    have := H4.st.mem.at_ (gx, .cells (acA C) acT (0, 0)) (by simp [stL])
    rw [cell_of this]; rfl
  have nq : q ≠ gx := HPb.out.neq (List.mem_singleton.mpr rfl)
  have nq2 : gx ≠ q := fun e => nq e.symm
  have HPf : Hid (Pl w1 (((wp.setCell ⟨q, 3, none⟩ (.bool true)).setCell ⟨q, 4, none⟩ (.int .i64 X)).setCell ⟨q, 5, none⟩ (.int .i64 Y)).drew p h m ⟨D.dead, true, X, Y⟩ hc ks q hm cm ⟨M.dead, true, X, Y⟩ hcm km []) :=
    ((pl_cut H4 HPb.out.e HPb.out.same HPb.out.rel.dead _ (((E4.st.put 3 (.bool true)).put 4 (.int .i64 X)).put 5 (.int .i64 Y))).drew).less
  clear H4 E4 hct hpl e0 e2 e3
  have HQ : Hid (∀ (W : World) (j : Nat) (v : Value), j ≠ 1 → W.cell? ⟨q, 1, none⟩ = some (.int .i64 m) → (W.setCell ⟨q, j, none⟩ v).cell? ⟨q, 1, none⟩ = some (.int .i64 m)) := fun W j v hj hw => by
    rw [World.cell?_setCell_other _ _ _ _ (fun e => hj (by simp only [Addr.mk.injEq] at e; exact e.2.1))]; exact hw
  have HG : Hid (∀ (W : World) (j : Nat) (v : Value), W.cell? ⟨gx, 3, none⟩ = some (.int .i64 C.p) → (W.setCell ⟨q, j, none⟩ v).cell? ⟨gx, 3, none⟩ = some (.int .i64 C.p)) := fun W j v hw => by
    rw [World.cell?_setCell_other _ _ _ _ (fun e => nq (by simp only [Addr.mk.injEq] at e; exact e.1))]; exact hw
  have HQd : Hid (∀ (W : World) (j : Nat) (v : Value), j ≠ 1 → W.cell? ⟨q, 1, none⟩ = some (.int .i64 m) → (W.setCell ⟨q, j, none⟩ v).drew.cell? ⟨q, 1, none⟩ = some (.int .i64 m)) := fun W j v hj hw => HQ.out W j v hj hw
  have HGd : Hid (∀ (W : World) (j : Nat) (v : Value), W.cell? ⟨gx, 3, none⟩ = some (.int .i64 C.p) → (W.setCell ⟨q, j, none⟩ v).drew.cell? ⟨gx, 3, none⟩ = some (.int .i64 C.p)) := fun W j v hw => HG.out W j v hw
  have f3d : wp.drew.cell? ⟨gx, 3, none⟩ = some (.int .i64 C.p) := f3
  have b1d : wp.drew.cell? ⟨q, 1, none⟩ = some (.int .i64 m) := b1
  go_upto_region 36 with fail
  go_region_held3 (fun w' => w'.cell? ⟨gx, 3, none⟩ = some (.int .i64 C.p) ∧ w'.cell? ⟨q, 1, none⟩ = some (.int .i64 m)) (first | with_reducible assumption | (refine ⟨?_, ?_⟩ <;> (repeat (first | with_reducible assumption | with_reducible refine HGd.out _ _ _ ?_ | with_reducible refine HG.out _ _ _ ?_ | with_reducible refine HQd.out _ _ _ (by decide) ?_ | with_reducible refine HQ.out _ _ _ (by decide) ?_)))) (fail)
  all_goals
    rw [HX.out, HY.out]
    generalize (((wp.setCell ⟨q, 3, none⟩ (.bool true)).setCell ⟨q, 4, none⟩ (.int .i64 X)).setCell ⟨q, 5, none⟩ (.int .i64 Y)).drew = wz at HPf ⊢
    exact HK.out _ _ ⟨rfl, rfl, rfl, rfl, rfl, rfl, p, h, _, hc, ks, hm, cm, _, hcm, km, rfl, HL.out.1, HPf.out⟩
end Go.Proofs.Ytjabckgjnknhnaa
