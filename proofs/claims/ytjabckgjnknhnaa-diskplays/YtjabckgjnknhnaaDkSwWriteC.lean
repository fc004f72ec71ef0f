/-
  DiskPlays: the switch where a block is written (act 2).
-/
import Derived.Test.YtjabckgjnknhnaaDkSwitch
namespace Go.Proofs.Ytjabckgjnknhnaa
open Go.RowKit
open Sm
set_option linter.unusedVariables false

set_option maxRecDepth 20000 in
set_option maxHeartbeats 2000000 in
theorem sw_write2 {w1 wb : World} {N m q p h hm cm gx : Nat} {D M : Dk} {hc hcm : Array Value} {ks km : List Bk} {C : Ac} {t : Int} {s2 s10 : Value} {a : Act} (S : SwIn w1 wb N m q p h hm cm gx D M hc hcm ks km C t s2 s10 a)
    (hW : C.what = 2) (h5 : ¬ C.n.tmod 5 = 0) (cd : Code) (hcd : blk 4 (Try.f3.body.getD .skip) = some cd) (K' : Act → World → Prop) (Q : Exit → Act → World → Prop) (hK : ∀ a' w', Mt w1 N m q s2 s10 (.int .i64 t) a' w' → K' a' w') : Code.wp Try.prog cd (Exit.then K' Q) a wb := by
  conv at hcd => lhs; whnf
  injection hcd with hcd
  subst hcd
  obtain ⟨f, hf, ha⟩ := frame301 a S.df S.sz
  have x2 := (hf 2).symm.trans S.g2
  have x7 := (hf 7).symm.trans S.g7
  have x8 := (hf 8).symm.trans S.g8
  have x10 := (hf 10).symm.trans S.g10
  have x11 := (hf 11).symm.trans S.g11
  have x12 := (hf 12).symm.trans S.g12
  have x94 := (hf 94).symm.trans S.g94
  simp only [x2, x7, x8, x10, x11, x12, x94] at ha
  have HPb : Hid (Pl w1 wb p h m D hc ks q hm cm M hcm km [(gx, .cells (acA C) acT (0, 0))]) := S.P
  have HL : Hid (km.length = N ∧ ks.length = N) := ⟨S.L, S.P.len.trans S.L⟩
  have HN : Hid (1 ≤ N ∧ N ≤ 4) := ⟨S.N1, S.N4⟩
  have HM : Hid (64 ≤ m ∧ m ≤ 199) := ⟨S.m0, S.m1⟩
  have HC : Hid C.Ok := S.C
  have ht : -1 ≤ t ∧ t ≤ N := ⟨S.t0, S.t1⟩
  have HK : Hid (∀ a' w', Mt w1 N m q s2 s10 (.int .i64 t) a' w' → K' a' w') := hK
  have e0 := S.P.extra (List.mem_singleton.mpr rfl) 0
  have e1 := S.P.extra (List.mem_singleton.mpr rfl) 1
  have e2 := S.P.extra (List.mem_singleton.mpr rfl) 2
  have e3 := S.P.extra (List.mem_singleton.mpr rfl) 3
  have e4 := S.P.extra (List.mem_singleton.mpr rfl) 4
  simp at e0 e1 e2 e3 e4
  clear S hf x2 x7 x8 x10 x11 x12 x94 hK
  subst ha
  have HW : Hid (C.what = 2) := hW
  rw [hW] at e0 ⊢
  clear hW e1 e2 e3 e4
  have v5 : (C.n.tmod 5 == 0) = false := by simpa using h5
  clear h5
  have b1 := HPb.out.e.st.box 1
  simp at b1
  have mk := make_bytes m (by have := HM.out; omega) wb
  have HP0 : Hid (Pl w1 (wb.alloc (.cells (madeCells #[.int .u8 0] m) 5)) p h m D hc ks q hm cm M hcm km [(wb.heap.size, .cells (bs (nots m)) 5 (0, 0)), (gx, .cells (acA C) acT (0, 0))]) := by
    rw [show madeCells #[.int .u8 0] m = bs (nots m) from bs_made m]
    exact HPb.out.more (K := [(wb.heap.size, .cells (bs (nots m)) 5 (0, 0))]) ((Mem.nil wb).push1 rfl)
  generalize wb.alloc (.cells (madeCells #[.int .u8 0] m) 5) = w5 at mk HP0
  generalize wb.heap.size = gb at mk HP0
  go_upto_region 26 with fail
  refine wp_loop (fun a' w' => a'.defers = [] ∧ a'.tmps.size = 301 ∧ a'.tmps.getD 2 undef = s2 ∧ a'.tmps.getD 7 undef = .pointer (some ⟨p, 0, none⟩) ∧ a'.tmps.getD 8 undef = .pointer (some ⟨q, 0, none⟩) ∧ a'.tmps.getD 10 undef = s10 ∧ a'.tmps.getD 11 undef = .pointer (some ⟨gx, 0, none⟩) ∧ a'.tmps.getD 12 undef = .int .i64 t ∧ a'.tmps.getD 13 undef = .slice (some ⟨gb, 0, none⟩) m m ∧
    ∃ k : Nat, k ≤ m ∧ a'.tmps.getD 14 undef = .int .i64 k ∧ ∃ l : List Int, Pl w1 w' p h m D hc ks q hm cm M hcm km [(gb, .cells (bs l) 5 (0, 0)), (gx, .cells (acA C) acT (0, 0))] ∧ l.length = m ∧ IsBytes l) (fun a' _ => m - (intOf (a'.tmps.getD 14 undef)).toNat) ?atStart ?round
  case atStart => exact ⟨rfl, rfl, rfl, rfl, rfl, rfl, rfl, rfl, rfl, 0, Nat.zero_le _, rfl, nots m, HP0.out, by simp [nots], rep_bytes m 0 (by omega) (by omega)⟩
  case round =>
    clear HP0 mk b1 e0 HPb
    rintro a' wr ⟨hdf, hsz, y2, y7, y8, y10, y11, y12, y13, k, hk, y14, l, hPl, hll, hlb⟩
    obtain ⟨f, hf, ha⟩ := frame301 a' hdf hsz
    rw [hf] at y2 y7 y8 y10 y11 y12 y13 y14
    simp only [y2, y7, y8, y10, y11, y12, y13, y14] at ha
    clear hf y2 y7 y8 y10 y11 y12 y13 y14 hsz hdf
    subst ha
    by_cases hlt : k < m
    · have c0 := hPl.extra (List.mem_cons_self ..) k
      rw [bs_get (by rw [hll]; exact hlt)] at c0
      have fr := hPl.extraFree (List.mem_cons_self ..) k
      have c4 := hPl.extra (List.mem_cons_of_mem _ (List.mem_singleton.mpr rfl)) 4
      simp at c4
      have HS : Hid (∀ V, 0 ≤ V ∧ V ≤ 255 → ∃ l : List Int, Pl w1 (wr.setCell ⟨gb, k, none⟩ (.int .u8 V)) p h m D hc ks q hm cm M hcm km [(gb, .cells (bs l) 5 (0, 0)), (gx, .cells (acA C) acT (0, 0))] ∧ l.length = m ∧ IsBytes l) := fun V hV => by
        have hp := hPl.put k (.int .u8 V)
        rw [bs_set] at hp
        refine ⟨l.set k V, hp, by rw [List.length_set]; exact hll, fun j => ?_⟩
        by_cases e : j = k
        · subst e
          have : (l.set j V).getD j 0 = V := by simp [List.getD, hll, hlt]
          rw [this]; exact hV
        · have : (l.set k V).getD j 0 = l.getD j 0 := by simp [List.getD, List.getElem?_set_ne (fun c => e c.symm)]
          rw [this]; exact hlb j
      have q0 : (k : Int) < (m : Int) := by omega
      have q1 : (m : Int) ≤ 199 := by have := HM.out; omega
      have wr8 : ∀ y, 0 ≤ IntKind.u8.wrap y ∧ IntKind.u8.wrap y ≤ 255 := fun y => by rw [IntKind.wrap_u8']; omega
      have HW8 : Hid (∀ y, 0 ≤ IntKind.u8.wrap y ∧ IntKind.u8.wrap y ≤ 255) := wr8
      generalize l.getD k 0 = z at c0
      clear hPl hll hlb wr8
      go_wp2
      refine ⟨⟨by first | trivial | rfl, rfl, rfl, rfl, rfl, rfl, rfl, rfl, rfl, k + 1, by omega, ?_, HS.out _ ?_⟩, ?_⟩
      · show Value.int IntKind.i64 ((k : Int) + 1) = _
        exact congrArg (Value.int IntKind.i64) (by omega)
      · first
          | exact HW8.out _
          | (constructor <;> omega)
      · show m - (intOf (Value.int IntKind.i64 ((k : Int) + 1))).toNat < m - (intOf (Value.int IntKind.i64 (k : Int))).toNat
        simp only [intOf]; omega
    · have q0 : ¬ (k : Int) < (m : Int) := by omega
      have HPz : Hid (Pl w1 wr p h m D hc ks q hm cm M hcm km [(gb, .cells (bs l) 5 (0, 0)), (gx, .cells (acA C) acT (0, 0))] ∧ l.length = m ∧ IsBytes l) := ⟨hPl, hll, hlb⟩
      have c0 := hPl.extra (List.mem_cons_of_mem _ (List.mem_singleton.mpr rfl)) 0
      have c2 := hPl.extra (List.mem_cons_of_mem _ (List.mem_singleton.mpr rfl)) 2
      simp at c0 c2
      rw [HW.out] at c0
      clear hPl hll hlb
      have hw := dwrite_any HPz.out.1.d (l := l) (n := m) (HPz.out.2.1) (a := some ⟨gb, 0, none⟩) (HPz.out.1.extraRow (List.mem_cons_self ..) HPz.out.2.2 (by rw [HPz.out.2.1]; have := HM.out; omega)) (cap := m) (Nat.le_refl _) t
      generalize her : wErr D ks.length m t m = er at hw
      have HER : Hid (wErr M km.length m t m = er) := by rw [← her, rel_err HPz.out.1.rel, HPz.out.1.len]; exact rfl
      clear her
      have hne : (er != er) = false := by simp
      go_wp2_with fail
      refine hw.mono ?_
      rintro e wq ⟨rfl, ks', H, hB⟩
      have E := pl_d H HPz.out.1.e
      have hw2 := mwrite_any E (l := l) (n := m) (HPz.out.2.1) (a := some ⟨gb, 0, none⟩) (Mem.rowIn H.st.mem (g := gb) (l := l) (t := 5) (by simp [stL]) HPz.out.2.2 (by rw [HPz.out.2.1]; have := HM.out; omega)) (cap := m) (Nat.le_refl _) t
      rw [HER.out] at hw2
      have HH : Hid (DkAt w1 wq p h m (wD D ks.length m t m) hc ks' (stL q (mdA hm km.length cm m M) mdT hm hcm km [(gb, .cells (bs l) 5 (0, 0)), (gx, .cells (acA C) acT (0, 0))]) ∧ ks'.map Bk.b = wB D m t l (ks.map Bk.b)) := ⟨H, hB⟩
      clear hw H E hB c0 c2
      go_wp2_with fail
      refine hw2.mono ?_
      rintro e wz ⟨rfl, hcm', km', E', hB'⟩
      have HPf : Hid (km'.length = N ∧ Pl w1 wz p h m (wD D ks.length m t m) hc ks' q hm cm (mD M km.length m t m) hcm' km' []) :=
        ⟨by have q := congrArg List.length hB'; rw [List.length_map, wB_len, List.length_map] at q; rw [q]; exact HL.out.1, ((pl_write (L1 := []) HPz.out.1 (HPz.out.2.1) HH.out.1 HH.out.2 E' hB').less).less⟩
      clear hw2 E' hB'
      go_wp2
      exact HK.out _ _ ⟨by first | trivial | rfl, rfl, rfl, rfl, rfl, rfl, p, _, _, hc, ks', hm, cm, _, hcm', km', rfl, HPf.out.1, HPf.out.2⟩
end Go.Proofs.Ytjabckgjnknhnaa
