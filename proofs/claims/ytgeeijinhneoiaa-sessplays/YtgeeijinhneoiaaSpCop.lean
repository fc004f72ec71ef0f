/-
  Sessions, the program's own: one copied, with a list of its own; its outside point.
-/
import Derived.Test.YtgeeijinhneoiaaSpTab
namespace Go.Proofs.Ytgeeijinhneoiaa
open Go.RowKit
open Sm
open Po
open Wh
set_option linter.unusedVariables false
set_option linter.unusedSimpArgs false
set_option maxRecDepth 20000

namespace Ss
theorem ret_s1 {w U : World} {a : Act} {R : Ending → World → Prop} {fn : Func} {p : Tmp} (h : fn.results = #[.cell p 39]) {g : Nat} {pr ip port oip op gen st un : Int} {pv : Value} {T : TypeId} {L : List (Nat × Obj)} (hM : Mem w U ((g, .cells #[.int .u8 pr, .int .u32 ip, .int .u16 port, .int .u32 oip, .int .u16 op, .int .u32 gen, pv, .int .i64 st, .int .u32 un] T (0, 0)) :: L)) (hp : a.tmps.getD p undef = .pointer (some ⟨g, 0, none⟩)) (hd : a.defers = [])
    (hR : R (.returned (.agg #[.int .u8 pr, .int .u32 ip, .int .u16 port, .int .u32 oip, .int .u16 op, .int .u32 gen, pv, .int .i64 st, .int .u32 un])) U) : bodyPost Try.prog fn R .ret a U := by
  obtain ⟨a0, a1, a2, a3, a4, a5, a6, a7, a8⟩ := bx_of 0 hM rfl
  have hp' : a.tmps[p]?.getD undef = .pointer (some ⟨g, 0, none⟩) := by simpa using hp
  exact bodyPost_ret (v := .agg #[.int .u8 pr, .int .u32 ip, .int .u16 port, .int .u32 oip, .int .u16 op, .int .u32 gen, pv, .int .i64 st, .int .u32 un]) (by simp [results, h, go_sem, hp', a0, a1, a2, a3, a4, a5, a6, a7, a8]) hd hR
/-- One more block of no matter. -/
theorem SD.more {D D' : List (Nat × Obj)} {val : Value} {x : Sn} (h : SD D val x) (hs : ∀ q ∈ D, q ∈ D') : SD D' val x := by
  obtain ⟨pv, e, h1⟩ := h
  exact ⟨pv, e, h1.mono hs⟩
def CpQ (w : World) (L : List (Nat × Obj)) (s : Sn) (e : Ending) (W' : World) : Prop :=
  ∃ val D, e = .returned val ∧ SD D val s ∧ Mem w W' (D ++ L)
set_option maxHeartbeats 4000000 in
theorem copied_any {w W : World} {L : List (Nat × Obj)} {val : Value} {s : Sn} (hs : SV W val s) (hM : Mem w W L) (hps : s.ps.length ≤ 1000000) :
    Calls Try.prog 37 #[val] W (CpQ w L s) := by
  obtain ⟨s', hs'⟩ : ∃ s', s = s' := ⟨_, rfl⟩
  obtain ⟨pv, rfl, hp⟩ := hs
  unfold sc
  obtain ⟨k1, k2, k3, f4, f5, f6, ps, f7, f8⟩ := s
  simp only at hps hp ⊢
  obtain ⟨pa, pb, rfl, p1, p2, -⟩ := pr_at hp
  obtain ⟨np, hnp⟩ : ∃ np, ps.length = np := ⟨_, rfl⟩
  have HNP : Hid (ps.length = np) := hnp
  have HPR : Hid (PR W (.slice pa ps.length pb) ps) := hp
  rw [hnp] at hps p1 ⊢
  have HS' : Hid ((⟨k1, k2, k3, f4, f5, f6, ps, f7, f8⟩ : Sn) = s') := hs'
  rw [hs']
  obtain ⟨g, hg⟩ : ∃ g, W.heap.size = g := ⟨_, rfl⟩
  have HG : Hid (W.heap.size = g) := hg
  have HM0 : Hid (Mem w ((W.alloc (.cells #[.int .u8 k1, .int .u32 k2, .int .u16 k3, .int .u32 f4, .int .u16 f5, .int .u32 f6, .slice pa np pb, .int .i64 f7, .int .u32 f8] 39)).alloc (.cells #[.int .u8 0, .int .u32 0, .int .u16 0, .int .u32 0, .int .u16 0, .int .u32 0, .slice none 0 0, .int .i64 0, .int .u32 0] 39)) ((g, .cells #[.int .u8 k1, .int .u32 k2, .int .u16 k3, .int .u32 f4, .int .u16 f5, .int .u32 f6, .slice pa np pb, .int .i64 f7, .int .u32 f8] 39 (0, 0)) :: (g + 1, .cells #[.int .u8 0, .int .u32 0, .int .u16 0, .int .u32 0, .int .u16 0, .int .u32 0, .slice none 0 0, .int .i64 0, .int .u32 0] 39 (0, 0)) :: L) ∧ Below W.heap.size W ((W.alloc (.cells #[.int .u8 k1, .int .u32 k2, .int .u16 k3, .int .u32 f4, .int .u16 f5, .int .u32 f6, .slice pa np pb, .int .i64 f7, .int .u32 f8] 39)).alloc (.cells #[.int .u8 0, .int .u32 0, .int .u16 0, .int .u32 0, .int .u16 0, .int .u32 0, .slice none 0 0, .int .i64 0, .int .u32 0] 39))) := by
    have u1 := (hM.push g (.cells #[.int .u8 k1, .int .u32 k2, .int .u16 k3, .int .u32 f4, .int .u16 f5, .int .u32 f6, .slice pa np pb, .int .i64 f7, .int .u32 f8] 39) hg.symm).push (g + 1) (.cells #[.int .u8 0, .int .u32 0, .int .u16 0, .int .u32 0, .int .u16 0, .int .u32 0, .slice none 0 0, .int .i64 0, .int .u32 0] 39) (by rw [World.size_alloc, hg])
    exact ⟨u1.perm (by
    classical
    rw [List.perm_iff_count]
    intro q
    simp only [List.count_append, List.count_cons, List.count_nil]
    omega), ((Below.refl _ _).alloc (Nat.le_refl _) _).alloc (by rw [World.size_alloc]; omega) _⟩
  clear hM hp hnp hs'
  go_enter Try.func37, Try.ntmps37
  go_upto_region 1 with fail
  refine wp_letter (fun X => Mem w X ((g, .cells #[.int .u8 k1, .int .u32 k2, .int .u16 k3, .int .u32 f4, .int .u16 f5, .int .u32 f6, .slice pa np pb, .int .i64 f7, .int .u32 f8] 39 (0, 0)) :: (g + 1, .cells #[.int .u8 0, .int .u32 0, .int .u16 0, .int .u32 0, .int .u16 0, .int .u32 0, .slice none 0 0, .int .i64 0, .int .u32 0] 39 (0, 0)) :: L) ∧ Below W.heap.size W X) (by exact HM0.out) ?_
  rintro X ⟨hX, hXb⟩
  clear HM0
  try simp only [World.size_alloc, hg]
  have hpX := HPR.out.below hXb (Nat.le_refl _)
  obtain ⟨qa, qc, V4, D, hap, hM4, hS4, -⟩ := copy_pt hpX hX (by rw [HNP.out]; exact hps)
  rw [HNP.out] at hap hS4
  have y6 : X.cell? ⟨g, 6, none⟩ = some (.slice pa np pb) := hX.cell 0 rfl 6
  have hM5 := hM4.perm (show List.Perm _ ((g, .cells #[.int .u8 k1, .int .u32 k2, .int .u16 k3, .int .u32 f4, .int .u16 f5, .int .u32 f6, .slice pa np pb, .int .i64 f7, .int .u32 f8] 39 (0, 0)) :: (g + 1, .cells #[.int .u8 0, .int .u32 0, .int .u16 0, .int .u32 0, .int .u16 0, .int .u32 0, .slice none 0 0, .int .i64 0, .int .u32 0] 39 (0, 0)) :: (D ++ L)) from by
    classical
    rw [List.perm_iff_count]
    intro q
    simp only [List.count_append, List.count_cons, List.count_nil]
    omega)
  have y7 : V4.cell? ⟨g, 6, none⟩ = some (.slice pa np pb) := hM5.cell 0 rfl 6
  have y8 : V4.frozen? ⟨g, 6, none⟩ = false := hM5.free 0 rfl 6
  have HM6 : Hid (Mem w (V4.setCell ⟨g, 6, none⟩ (.slice qa np qc)) ((g, .cells #[.int .u8 k1, .int .u32 k2, .int .u16 k3, .int .u32 f4, .int .u16 f5, .int .u32 f6, .slice qa np qc, .int .i64 f7, .int .u32 f8] 39 (0, 0)) :: (g + 1, .cells #[.int .u8 0, .int .u32 0, .int .u16 0, .int .u32 0, .int .u16 0, .int .u32 0, .slice none 0 0, .int .i64 0, .int .u32 0] 39 (0, 0)) :: (D ++ L))) := hM5.set 0 rfl 6 (.slice qa np qc)
  have HS4 : Hid (SlF 34 2 (.slice qa np qc) np (px ps).flatten D) := hS4
  clear hX hXb hpX hM4 hM5 hS4
  go_upto_region 2 with (first | (refine wpList_append_run (.const (.slice none 0 0)) (.tmp 4) 37 37 rfl hap rfl (by rfl) (by simp [Act.eval]) (by simp [Act.eval]) ?_) | fail)
  refine wp_letter (fun Y => Mem w Y ((g, .cells #[.int .u8 k1, .int .u32 k2, .int .u16 k3, .int .u32 f4, .int .u16 f5, .int .u32 f6, .slice qa np qc, .int .i64 f7, .int .u32 f8] 39 (0, 0)) :: (g + 1, .cells #[.int .u8 0, .int .u32 0, .int .u16 0, .int .u32 0, .int .u16 0, .int .u32 0, .slice none 0 0, .int .i64 0, .int .u32 0] 39 (0, 0)) :: (D ++ L))) (by exact HM6.out) ?_
  intro Y hY
  clear HM6 hap y6 y7 y8
  obtain ⟨q0, q1, q2, q3, q4, q5, q6, q7, q8⟩ := bx_of 0 hY rfl
  have hYp := hY.perm (show List.Perm _ ((g + 1, .cells #[.int .u8 0, .int .u32 0, .int .u16 0, .int .u32 0, .int .u16 0, .int .u32 0, .slice none 0 0, .int .i64 0, .int .u32 0] 39 (0, 0)) :: (g, .cells #[.int .u8 k1, .int .u32 k2, .int .u16 k3, .int .u32 f4, .int .u16 f5, .int .u32 f6, .slice qa np qc, .int .i64 f7, .int .u32 f8] 39 (0, 0)) :: (D ++ L)) from List.Perm.swap ..)
  obtain ⟨t0, t1, t2, t3, t4, t5, t6, t7, t8⟩ := bx_of 0 hYp rfl
  have t9 : ∀ k, Y.frozen? ⟨g + 1, k, none⟩ = false := hYp.free 0 rfl
  have HY : Hid (Mem w (((((((((Y.setCell ⟨g + 1, 0, none⟩ (.int .u8 k1)).setCell ⟨g + 1, 1, none⟩ (.int .u32 k2)).setCell ⟨g + 1, 2, none⟩ (.int .u16 k3)).setCell ⟨g + 1, 3, none⟩ (.int .u32 f4)).setCell ⟨g + 1, 4, none⟩ (.int .u16 f5)).setCell ⟨g + 1, 5, none⟩ (.int .u32 f6)).setCell ⟨g + 1, 6, none⟩ (.slice qa np qc)).setCell ⟨g + 1, 7, none⟩ (.int .i64 f7)).setCell ⟨g + 1, 8, none⟩ (.int .u32 f8)) ((g + 1, .cells #[.int .u8 k1, .int .u32 k2, .int .u16 k3, .int .u32 f4, .int .u16 f5, .int .u32 f6, .slice qa np qc, .int .i64 f7, .int .u32 f8] 39 (0, 0)) :: (g, .cells #[.int .u8 k1, .int .u32 k2, .int .u16 k3, .int .u32 f4, .int .u16 f5, .int .u32 f6, .slice qa np qc, .int .i64 f7, .int .u32 f8] 39 (0, 0)) :: (D ++ L))) := mem_nine _ _ _ _ _ _ _ _ _ hYp
  clear hY hYp
  go_wp2_with fail
  refine ret_s1 rfl HY.out rfl rfl ⟨_, (g + 1, .cells #[.int .u8 k1, .int .u32 k2, .int .u16 k3, .int .u32 f4, .int .u16 f5, .int .u32 f6, .slice qa np qc, .int .i64 f7, .int .u32 f8] 39 (0, 0)) :: (g, .cells #[.int .u8 k1, .int .u32 k2, .int .u16 k3, .int .u32 f4, .int .u16 f5, .int .u32 f6, .slice qa np qc, .int .i64 f7, .int .u32 f8] 39 (0, 0)) :: D, rfl, ⟨_, by rw [← HS'.out]; rfl, ?_⟩, HY.out⟩
  have := HS4.out.mono (B' := (g + 1, .cells #[.int .u8 k1, .int .u32 k2, .int .u16 k3, .int .u32 f4, .int .u16 f5, .int .u32 f6, .slice qa np qc, .int .i64 f7, .int .u32 f8] 39 (0, 0)) :: (g, .cells #[.int .u8 k1, .int .u32 k2, .int .u16 k3, .int .u32 f4, .int .u16 f5, .int .u32 f6, .slice qa np qc, .int .i64 f7, .int .u32 f8] 39 (0, 0)) :: D) (fun q hq => List.mem_cons_of_mem _ (List.mem_cons_of_mem _ hq))
  rw [← HS'.out]
  simp only [HNP.out]
  exact this
theorem ret_k1 {w U : World} {a : Act} {R : Ending → World → Prop} {fn : Func} {p : Tmp} (h : fn.results = #[.cell p 72]) {g : Nat} {x y z : Int} {T : TypeId} {L : List (Nat × Obj)} (hM : Mem w U ((g, .cells #[.int .u8 x, .int .u32 y, .int .u16 z] T (0, 0)) :: L)) (hp : a.tmps.getD p undef = .pointer (some ⟨g, 0, none⟩)) (hd : a.defers = [])
    (hR : R (.returned (.agg #[.int .u8 x, .int .u32 y, .int .u16 z])) U) : bodyPost Try.prog fn R .ret a U := by
  have a0 := hM.cell 0 rfl 0
  have a1 := hM.cell 0 rfl 1
  have a2 := hM.cell 0 rfl 2
  simp only [List.getElem?_toArray, List.getElem?_cons_zero, List.getElem?_cons_succ] at a0 a1 a2
  have hp' : a.tmps[p]?.getD undef = .pointer (some ⟨g, 0, none⟩) := by simpa using hp
  exact bodyPost_ret (v := .agg #[.int .u8 x, .int .u32 y, .int .u16 z]) (by simp [results, h, go_sem, hp', a0, a1, a2]) hd hR
set_option maxHeartbeats 4000000 in
theorem outof_any {W : World} (k1 k2 k3 f4 f5 f6 : Int) (pv : Value) (f7 f8 : Int) :
    Calls Try.prog 36 #[.agg #[.int .u8 k1, .int .u32 k2, .int .u16 k3, .int .u32 f4, .int .u16 f5, .int .u32 f6, pv, .int .i64 f7, .int .u32 f8]] W fun e W' => e = .returned (.agg #[.int .u8 k1, .int .u32 f4, .int .u16 f5]) ∧ Below W.heap.size W W' := by
  obtain ⟨g, hg⟩ : ∃ g, W.heap.size = g := ⟨_, rfl⟩
  have HM0 : Hid (Mem W ((W.alloc (.cells #[.int .u8 k1, .int .u32 k2, .int .u16 k3, .int .u32 f4, .int .u16 f5, .int .u32 f6, pv, .int .i64 f7, .int .u32 f8] 39)).alloc (.cells #[.int .u8 0, .int .u32 0, .int .u16 0] 72)) [(g, .cells #[.int .u8 k1, .int .u32 k2, .int .u16 k3, .int .u32 f4, .int .u16 f5, .int .u32 f6, pv, .int .i64 f7, .int .u32 f8] 39 (0, 0)), (g + 1, .cells #[.int .u8 0, .int .u32 0, .int .u16 0] 72 (0, 0))]) := ((Mem.nil W).push1 hg.symm).push2 (by rw [World.size_alloc, hg])
  go_enter Try.func36, Try.ntmps36
  go_upto_region 1 with fail
  refine wp_letter (fun X => Mem W X [(g, .cells #[.int .u8 k1, .int .u32 k2, .int .u16 k3, .int .u32 f4, .int .u16 f5, .int .u32 f6, pv, .int .i64 f7, .int .u32 f8] 39 (0, 0)), (g + 1, .cells #[.int .u8 0, .int .u32 0, .int .u16 0] 72 (0, 0))]) (by exact HM0.out) ?_
  intro X hX
  clear HM0
  try simp only [World.size_alloc, hg]
  obtain ⟨q0, q1, q2, q3, q4, q5, q6, q7, q8⟩ := bx_of 0 hX rfl
  have hX2 := hX.perm (List.Perm.swap ..)
  have t0 : X.cell? ⟨g + 1, 0, none⟩ = some (.int .u8 0) := hX2.cell 0 rfl 0
  have t1 : X.cell? ⟨g + 1, 1, none⟩ = some (.int .u32 0) := hX2.cell 0 rfl 1
  have t2 : X.cell? ⟨g + 1, 2, none⟩ = some (.int .u16 0) := hX2.cell 0 rfl 2
  have t9 : ∀ k, X.frozen? ⟨g + 1, k, none⟩ = false := hX2.free 0 rfl
  have HY : Hid (Mem W (((X.setCell ⟨g + 1, 0, none⟩ (.int .u8 k1)).setCell ⟨g + 1, 1, none⟩ (.int .u32 f4)).setCell ⟨g + 1, 2, none⟩ (.int .u16 f5)) [(g + 1, .cells #[.int .u8 k1, .int .u32 f4, .int .u16 f5] 72 (0, 0)), (g, .cells #[.int .u8 k1, .int .u32 k2, .int .u16 k3, .int .u32 f4, .int .u16 f5, .int .u32 f6, pv, .int .i64 f7, .int .u32 f8] 39 (0, 0))]) := ((hX2.set 0 rfl 0 (.int .u8 k1)).set 0 rfl 1 (.int .u32 f4)).set 0 rfl 2 (.int .u16 f5)
  clear hX hX2
  go_wp2_with fail
  exact ret_k1 rfl HY.out rfl rfl ⟨rfl, HY.out.below⟩
end Ss
end Go.Proofs.Ytgeeijinhneoiaa
