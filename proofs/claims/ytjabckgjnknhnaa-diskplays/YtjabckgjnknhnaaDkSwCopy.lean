/-
  DiskPlays: the switch where the store is copied.
-/
import Derived.Test.YtjabckgjnknhnaaDkSwitch
namespace Go.Proofs.Ytjabckgjnknhnaa
open Go.RowKit
open Sm
set_option linter.unusedVariables false

set_option maxRecDepth 20000 in
set_option maxHeartbeats 2000000 in
theorem sw_copy {w1 wb : World} {N m q p h hm cm gx : Nat} {D M : Dk} {hc hcm : Array Value} {ks km : List Bk} {C : Ac} {t : Int} {s2 s10 : Value} {a : Act} (S : SwIn w1 wb N m q p h hm cm gx D M hc hcm ks km C t s2 s10 a)
    (hW : C.what = 7) (cd : Code) (hcd : blk 4 (Try.f3.body.getD .skip) = some cd) (K' : Act → World → Prop) (Q : Exit → Act → World → Prop) (hK : ∀ a' w', Mt w1 N m q s2 s10 (.int .i64 t) a' w' → K' a' w') : Code.wp Try.prog cd (Exit.then K' Q) a wb := by
  conv at hcd => lhs; whnf
  injection hcd with hcd
  subst hcd
  obtain ⟨f, hf, ha⟩ := frame301 a S.df S.sz
  have x2 := (hf 2).symm.trans S.g2
  have x7 := (hf 7).symm.trans S.g7
  have x8 := (hf 8).symm.trans S.g8
  have x10 := (hf 10).symm.trans S.g10
  have x11 := (hf 11).symm.trans S.g11
  have x12 := (hf 12).symm.trans S.g12
  have x94 := (hf 94).symm.trans S.g94
  simp only [x2, x7, x8, x10, x11, x12, x94] at ha
  have HPb : Hid (Pl w1 wb p h m D hc ks q hm cm M hcm km [(gx, .cells (acA C) acT (0, 0))]) := S.P
  have HL : Hid (km.length = N ∧ ks.length = N) := ⟨S.L, S.P.len.trans S.L⟩
  have HN : Hid (1 ≤ N ∧ N ≤ 4) := ⟨S.N1, S.N4⟩
  have HM : Hid (64 ≤ m ∧ m ≤ 199) := ⟨S.m0, S.m1⟩
  have HC : Hid C.Ok := S.C
  have ht : -1 ≤ t ∧ t ≤ N := ⟨S.t0, S.t1⟩
  have HK : Hid (∀ a' w', Mt w1 N m q s2 s10 (.int .i64 t) a' w' → K' a' w') := hK
  have e0 := S.P.extra (List.mem_singleton.mpr rfl) 0
  have e1 := S.P.extra (List.mem_singleton.mpr rfl) 1
  have e2 := S.P.extra (List.mem_singleton.mpr rfl) 2
  have e3 := S.P.extra (List.mem_singleton.mpr rfl) 3
  have e4 := S.P.extra (List.mem_singleton.mpr rfl) 4
  simp at e0 e1 e2 e3 e4
  clear S hf x2 x7 x8 x10 x11 x12 x94 hK
  subst ha
  rw [hW] at e0 ⊢
  clear hW
  have hcp := dcopy_any HPb.out.d
  clear e1 e2 e3 e4
  go_wp2_with fail
  refine hcp.mono ?_
  rintro e w7 ⟨pc, rfl, h7, hc7, kc, H7, hB7⟩
  have Hd := H7.other HPb.out.d
  have b1 : w7.cell? ⟨q, 1, none⟩ = some (.int .i64 m) := by
    have := H7.st.mem.at_ (q, .cells (mdA hm km.length cm m M) mdT (0, 0)) (by simp [stL])
    rw [cell_of this]; rfl
  have HH7 : Hid (DkAt w1 w7 pc h7 m D hc7 kc (stL p (dkA h ks.length D) dkT h hc ks (stL q (mdA hm km.length cm m M) mdT hm hcm km [(gx, .cells (acA C) acT (0, 0))])) ∧ kc.map Bk.b = ks.map Bk.b) := ⟨H7, hB7⟩
  have mk := make_bytes m (by have := HM.out; omega) w7
  have hk : Mem w7 (w7.alloc (.cells (madeCells #[.int .u8 0] m) 5)) [(w7.heap.size, .cells (bs (nots m)) 5 (0, 0))] := by
    rw [show bs (nots m) = madeCells #[.int .u8 0] m from (bs_made m).symm]
    exact (Mem.nil w7).push1 rfl
  have H8 := Hd.of (Hd.st.join hk)
  have hwr := dwrite_any H8 (l := nots m) (n := m) (by simp [nots]) (hk.own 0 rfl (rep_bytes m 0 (by omega) (by omega)) (by simp [nots]; have := HM.out; omega)) (cap := m) (Nat.le_refl _) 0
  generalize w7.alloc (.cells (madeCells #[.int .u8 0] m) 5) = w8 at mk hwr
  generalize w7.heap.size = g8 at mk hwr
  clear hcp H7 Hd hB7 hk H8
  go_wp2_with fail
  refine hwr.mono ?_
  rintro e w9 ⟨rfl, ks9, H9, hB9⟩
  have hpw := dpower_any H9
  clear hwr hB9 H9
  go_wp2_with fail
  refine hpw.mono ?_
  rintro e w10 ⟨rfl, H10⟩
  have HPf : Hid (Pl w1 w10 pc h7 m D hc7 kc q hm cm M hcm km []) := (pl_copy HPb.out HH7.out.1 HH7.out.2 H10).less
  clear hpw H10
  go_wp2
  exact HK.out _ _ ⟨by first | trivial | rfl, rfl, rfl, rfl, rfl, rfl, pc, _, D, hc7, kc, hm, cm, M, hcm, km, rfl, HL.out.1, HPf.out⟩
end Go.Proofs.Ytjabckgjnknhnaa
