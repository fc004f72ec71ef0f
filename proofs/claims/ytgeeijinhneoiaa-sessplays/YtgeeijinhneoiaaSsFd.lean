/-
  Sessions: the document's Find and Out once more: what they tell lies in the document's own blocks.
-/
import Derived.Test.YtgeeijinhneoiaaSsFace
namespace Go.Proofs.Ytgeeijinhneoiaa
open Go.RowKit
open Sm
open Po
open Wh
set_option linter.unusedVariables false
set_option linter.unusedSimpArgs false
set_option maxRecDepth 20000

namespace Ss
theorem RT.read2 {xs : List Sn} {m : Nat} {B L : List (Nat × Obj)} {w V : World} (h : RT xs m B) (hM : Mem w V (B ++ L)) : ∃ (zs : List Hn) (a : Option Addr) (c : Nat), zs.map (·.1) = xs ∧ V.cell? ⟨m, 0, none⟩ = some (.slice a zs.length c) ∧ Rw V 9 (.slice a zs.length c) (sx zs) ∧ (∀ z ∈ zs, PR V z.2 z.1.ps) ∧ ∀ z ∈ zs, SlF 34 2 z.2 z.1.ps.length (px z.1.ps).flatten B := by
  obtain ⟨zs, v, C, D, e, hS, rfl, hP⟩ := h
  obtain ⟨-, a, c, rfl, -⟩ := id hS
  refine ⟨zs, a, c, e, hM.cell 0 rfl 0, ?_, fun z hz => ?_, fun z hz => (hP z hz).mono fun q hq => by simp [hq]⟩
  · have hM2 : Mem w V (C ++ ((m, .cells #[.slice a zs.length c] 30 (0, 0)) :: (D ++ L))) := hM.perm (by
      classical
      rw [List.perm_iff_count]
      intro q
      simp only [List.count_append, List.count_cons]
      omega)
    refine SlF.rw (w := w) sx_nine (by rw [sx_len]; exact hS) hM2
  · have hM2 : Mem w V (D ++ ((m, .cells #[.slice a zs.length c] 30 (0, 0)) :: (C ++ L))) := hM.perm (by
      classical
      rw [List.perm_iff_count]
      intro q
      simp only [List.count_append, List.count_cons]
      omega)
    refine SlF.rw (w := w) px_two (by rw [px_len]; exact hP z hz) hM2
theorem rt_at2 {V : World} {zs : List Hn} {xs : List Sn} {a : Option Addr} {c : Nat} {B : List (Nat × Obj)} (e : zs.map (·.1) = xs) (h : Rw V 9 (.slice a zs.length c) (sx zs)) (hp : ∀ z ∈ zs, PR V z.2 z.1.ps) (hz : ∀ z ∈ zs, SlF 34 2 z.2 z.1.ps.length (px z.1.ps).flatten B) : zs.length = xs.length ∧ ∀ i (hi : i < xs.length), ∃ pv b off, a = some ⟨b, off, none⟩ ∧ ∀ W, Below V.heap.size V W → Bo W b (off + i * 9) xs[i] pv ∧ (PR W pv xs[i].ps ∧ SlF 34 2 pv xs[i].ps.length (px xs[i].ps).flatten B) := by
  have hl : zs.length = xs.length := by rw [← e, List.length_map]
  refine ⟨hl, fun i hi => ?_⟩
  obtain ⟨a', c', e1, -, -, hx⟩ := sl_at h
  simp only [Value.slice.injEq, true_and] at e1
  obtain ⟨rfl, rfl⟩ := e1
  have i1 : i < zs.length := by omega
  obtain ⟨b, off, e2, hV⟩ := hx i i1
  have ex : zs[i].1 = xs[i] := by
    have u1 : (zs.map (·.1))[i]? = some zs[i].1 := by rw [List.getElem?_map, List.getElem?_eq_getElem i1]; rfl
    rw [e, List.getElem?_eq_getElem hi] at u1
    exact (Option.some.inj u1).symm
  refine ⟨zs[i].2, b, off, e2, fun W hW => ?_⟩
  rw [← ex]
  exact ⟨hV W hW, (hp _ (List.getElem_mem i1)).below hW (Nat.le_refl _), hz _ (List.getElem_mem i1)⟩
def FdD (w : World) (B L : List (Nat × Obj)) (o : Option Sn) (e : Ending) (W' : World) : Prop :=
  ∃ val, e = .returned (.tuple #[val, .bool o.isSome]) ∧ SD B val (o.getD sn0) ∧ Mem w W' (B ++ L)
set_option maxHeartbeats 8000000 in
theorem rfindd_any {w W : World} {xs : List Sn} {m : Nat} {B L : List (Nat × Obj)} (h : RT xs m B) (hM : Mem w W (B ++ L)) (k : Ky) :
    Calls Try.prog 20 #[.pointer (some ⟨m, 0, none⟩), .agg #[.int .u8 k.1, .int .u32 k.2.1, .int .u16 k.2.2]] W (FdD w B L (fk k xs)) := by
  obtain ⟨zs, a, c, ez, hc, hr, hp, hz⟩ := h.read2 hM
  obtain ⟨hl, hx⟩ := rt_at2 ez hr hp hz
  obtain ⟨k1, k2, k3⟩ := k
  simp only
  obtain ⟨R, hR⟩ : ∃ R, fk (k1, k2, k3) xs = R := ⟨_, rfl⟩
  rw [hR]
  have HR0 : Hid (fk (k1, k2, k3) (xs.drop 0) = R) := hR
  have HX : Hid (∀ i (hi : i < xs.length), ∃ pv b off, a = some ⟨b, off, none⟩ ∧ ∀ V, Below W.heap.size W V → Bo V b (off + i * 9) xs[i] pv ∧ (PR V pv xs[i].ps ∧ SlF 34 2 pv xs[i].ps.length (px xs[i].ps).flatten B)) := hx
  obtain ⟨n, hn⟩ : ∃ n, xs.length = n := ⟨_, rfl⟩
  have HN : Hid (xs.length = n) := hn
  rw [hl, hn] at hc
  have hml := cell_lt hc
  have HC : Hid (W.cell? ⟨m, 0, none⟩ = some (.slice a n c)) := hc
  have hnc : n ≤ c ∧ c ≤ 9223372036854775807 := by
    obtain ⟨a', c', e1, h1, h2, -⟩ := sl_at hr
    simp only [Value.slice.injEq, true_and] at e1
    obtain ⟨-, rfl⟩ := e1
    omega
  obtain ⟨hnc1, hnc2⟩ := hnc
  obtain ⟨g, hg⟩ : ∃ g, W.heap.size = g := ⟨_, rfl⟩
  have HM0 : Hid (Mem W ((W.alloc (.cells #[.int .u8 k1, .int .u32 k2, .int .u16 k3] 36)).alloc (.cells #[.int .u8 0, .int .u32 0, .int .u16 0, .int .u32 0, .int .u16 0, .int .u32 0, .slice none 0 0, .int .i64 0, .int .u32 0] 39)) [(g, .cells #[.int .u8 k1, .int .u32 k2, .int .u16 k3] 36 (0, 0)), (g + 1, .cells #[.int .u8 0, .int .u32 0, .int .u16 0, .int .u32 0, .int .u16 0, .int .u32 0, .slice none 0 0, .int .i64 0, .int .u32 0] 39 (0, 0))]) := ((Mem.nil W).push1 hg.symm).push2 (by rw [World.size_alloc, hg])
  have HM : Hid (Mem w W (B ++ L)) := hM
  clear hx hr hp hz ez hR hn hc hM h
  go_enter Try.func20, Try.ntmps20
  go_upto_region 1 with fail
  refine wp_letter (fun X => Mem W X [(g, .cells #[.int .u8 k1, .int .u32 k2, .int .u16 k3] 36 (0, 0)), (g + 1, .cells #[.int .u8 0, .int .u32 0, .int .u16 0, .int .u32 0, .int .u16 0, .int .u32 0, .slice none 0 0, .int .i64 0, .int .u32 0] 39 (0, 0))]) (by exact HM0.out) ?_
  intro V0 hM0
  try simp only [hg]
  have H0 : Hid (Mem W V0 [(g, .cells #[.int .u8 k1, .int .u32 k2, .int .u16 k3] 36 (0, 0)), (g + 1, .cells #[.int .u8 0, .int .u32 0, .int .u16 0, .int .u32 0, .int .u16 0, .int .u32 0, .slice none 0 0, .int .i64 0, .int .u32 0] 39 (0, 0))]) := hM0
  clear HM0 hM0
  go_wp2_with fail
  go_loopw [6] (fun u6 w' => ∃ i : Nat, i ≤ n ∧ u6 = .int .i64 i ∧ Hid (Mem W w' [(g, .cells #[.int .u8 k1, .int .u32 k2, .int .u16 k3] 36 (0, 0)), (g + 1, .cells #[.int .u8 0, .int .u32 0, .int .u16 0, .int .u32 0, .int .u16 0, .int .u32 0, .slice none 0 0, .int .i64 0, .int .u32 0] 39 (0, 0))] ∧ fk (k1, k2, k3) (xs.drop i) = R)) (fun u6 w' => n - (intOf u6).toNat)
  case atStart => exact ⟨0, Nat.zero_le _, rfl, H0.out, HR0.out⟩
  case round =>
    obtain ⟨i, hi, rfl, HR⟩ := hrel
    clear H0 HR0
    have km : wr.cell? ⟨m, 0, none⟩ = some (.slice a n c) := by rw [HR.out.1.old hml]; exact HC.out
    by_cases hlt : i < n
    · have j1 : (i : Int) < n := by omega
      have i1 : i < xs.length := by rw [HN.out]; exact hlt
      obtain ⟨pv, b, off, rfl, hV⟩ := HX.out i i1
      obtain ⟨hB, hpp⟩ := hV _ HR.out.1.below
      have q0 : wr.cell? ⟨g, 0, none⟩ = some (.int .u8 k1) := HR.out.1.cell 0 rfl 0
      have q1 : wr.cell? ⟨g, 1, none⟩ = some (.int .u32 k2) := HR.out.1.cell 0 rfl 1
      have q2 : wr.cell? ⟨g, 2, none⟩ = some (.int .u16 k3) := HR.out.1.cell 0 rfl 2
      have hF := HR.out.2
      rw [List.drop_eq_getElem_cons i1, fk] at hF
      have HF : Hid (_ = R) := hF
      have HB : Hid (∀ n, Mem W (wr.drewN n) [(g, .cells #[.int .u8 k1, .int .u32 k2, .int .u16 k3] 36 (0, 0)), (g + 1, .cells #[.int .u8 0, .int .u32 0, .int .u16 0, .int .u32 0, .int .u16 0, .int .u32 0, .slice none 0 0, .int .i64 0, .int .u32 0] 39 (0, 0))]) := fun n => HR.out.1.drewN n
      have HV : Hid (∀ V, Below W.heap.size W V → Bo V b (off + i * 9) xs[i] pv ∧ (PR V pv xs[i].ps ∧ SlF 34 2 pv xs[i].ps.length (px xs[i].ps).flatten B)) := hV
      clear hF HR hV HX
      generalize xs[i] = x at *
      clear i1
      obtain ⟨pr, ip, port, oip, op, gen, ps, st, un⟩ := x
      obtain ⟨d0, d1, d2, d3, d4, d5, d6, d7, d8⟩ := hB
      simp only at d0 d1 d2 d3 d4 d5 d6 d7 d8 hpp
      obtain ⟨pa, pb, rfl, p1, p2, -⟩ := pr_at hpp.1
      have heq := key_eq pr ip port k1 k2 k3
      by_cases e1 : pr = k1 ∧ ip = k2 ∧ port = k3
      · obtain ⟨rfl, rfl, rfl⟩ := e1
        simp only [BEq.rfl, Bool.and_self] at heq
        have HRi : Hid (R = some ⟨pr, ip, port, oip, op, gen, ps, st, un⟩) := by
          show R = _
          rw [← HF.out]
          exact if_pos (by simp [key])
        clear HF
        go_wp2_with fail
        go_quiet (fail)
        go_upto_region 5 with fail
        refine wp_letter (fun X => Mem W X [(g, .cells #[.int .u8 pr, .int .u32 ip, .int .u16 port] 36 (0, 0)), (g + 1, .cells #[.int .u8 0, .int .u32 0, .int .u16 0, .int .u32 0, .int .u16 0, .int .u32 0, .slice none 0 0, .int .i64 0, .int .u32 0] 39 (0, 0))]) (by exact HB.out _) ?_
        intro X hX
        obtain ⟨hB2, -⟩ := HV.out X hX.below
        obtain ⟨x0, x1, x2, x3, x4, x5, x6, x7, x8⟩ := hB2
        simp only at x0 x1 x2 x3 x4 x5 x6 x7 x8
        have km2 : X.cell? ⟨m, 0, none⟩ = some (.slice (some ⟨b, off, none⟩) n c) := by rw [hX.old hml]; exact HC.out
        obtain ⟨y0, y1, y2, y3, y4, y5, y6, y7, y8⟩ := bx_of 1 hX rfl
        have w0 : X.frozen? ⟨g + 1, 0, none⟩ = false := hX.free 1 rfl 0
        have w1 : X.frozen? ⟨g + 1, 1, none⟩ = false := hX.free 1 rfl 1
        have w2 : X.frozen? ⟨g + 1, 2, none⟩ = false := hX.free 1 rfl 2
        have w3 : X.frozen? ⟨g + 1, 3, none⟩ = false := hX.free 1 rfl 3
        have w4 : X.frozen? ⟨g + 1, 4, none⟩ = false := hX.free 1 rfl 4
        have w5 : X.frozen? ⟨g + 1, 5, none⟩ = false := hX.free 1 rfl 5
        have w6 : X.frozen? ⟨g + 1, 6, none⟩ = false := hX.free 1 rfl 6
        have w7 : X.frozen? ⟨g + 1, 7, none⟩ = false := hX.free 1 rfl 7
        have w8 : X.frozen? ⟨g + 1, 8, none⟩ = false := hX.free 1 rfl 8
        have HY : Hid (Mem W X ((g + 1, .cells #[.int .u8 0, .int .u32 0, .int .u16 0, .int .u32 0, .int .u16 0, .int .u32 0, .slice none 0 0, .int .i64 0, .int .u32 0] 39 (0, 0)) :: [(g, .cells #[.int .u8 pr, .int .u32 ip, .int .u16 port] 36 (0, 0))])) := hX.perm (List.Perm.swap ..)
        have HPP : Hid (SlF 34 2 (.slice pa ps.length pb) ps.length (px ps).flatten B) := (HV.out W (Below.refl _ _)).2.2
        clear hX HB HV q0 q1 q2 d0 d1 d2 d3 d4 d5 d6 d7 d8 heq km hpp
        go_wp2_with fail
        have hE := mem_nine (.int .u8 pr) (.int .u32 ip) (.int .u16 port) (.int .u32 oip) (.int .u16 op) (.int .u32 gen) (.slice pa ps.length pb) (.int .i64 st) (.int .u32 un) HY.out
        refine ret_sn Try.results20 hE rfl true rfl rfl ?_
        have hRR := HRi.out
        subst hRR
        exact ⟨_, rfl, ⟨_, rfl, HPP.out⟩, HM.out.after hE.below⟩
      · have hne : (pr == k1 && (ip == k2 && port == k3)) = false := by
          rw [Bool.eq_false_iff]
          intro h
          simp at h
          exact e1 h
        rw [hne] at heq
        have HQ : Hid (fk (k1, k2, k3) (xs.drop (i + 1)) = R) := by
          have := HF.out
          rw [if_neg (fun e => e1 (by simp [key] at e; exact e))] at this
          exact this
        clear HF hpp
        go_wp2_with fail
        go_quiet (fail)
        go_wp2_with fail
        go_roundw
        case rel => exact ⟨i + 1, by omega, by go_num, HB.out _, HQ.out⟩
        case measure => simp [intOf]; omega
    · have j1 : ¬ ((i : Int) < n) := by omega
      obtain rfl : i = n := by omega
      have hF := HR.out.2
      have hd : xs.drop i = [] := by rw [← HN.out]; exact List.drop_length
      rw [hd] at hF
      have HRi : Hid (R = none) := hF.symm
      have hX := HR.out.1
      obtain ⟨y0, y1, y2, y3, y4, y5, y6, y7, y8⟩ := bx_of 1 hX rfl
      have w0 : wr.frozen? ⟨g + 1, 0, none⟩ = false := hX.free 1 rfl 0
      have w1 : wr.frozen? ⟨g + 1, 1, none⟩ = false := hX.free 1 rfl 1
      have w2 : wr.frozen? ⟨g + 1, 2, none⟩ = false := hX.free 1 rfl 2
      have w3 : wr.frozen? ⟨g + 1, 3, none⟩ = false := hX.free 1 rfl 3
      have w4 : wr.frozen? ⟨g + 1, 4, none⟩ = false := hX.free 1 rfl 4
      have w5 : wr.frozen? ⟨g + 1, 5, none⟩ = false := hX.free 1 rfl 5
      have w6 : wr.frozen? ⟨g + 1, 6, none⟩ = false := hX.free 1 rfl 6
      have w7 : wr.frozen? ⟨g + 1, 7, none⟩ = false := hX.free 1 rfl 7
      have w8 : wr.frozen? ⟨g + 1, 8, none⟩ = false := hX.free 1 rfl 8
      have HY : Hid (Mem W wr ((g + 1, .cells #[.int .u8 0, .int .u32 0, .int .u16 0, .int .u32 0, .int .u16 0, .int .u32 0, .slice none 0 0, .int .i64 0, .int .u32 0] 39 (0, 0)) :: [(g, .cells #[.int .u8 k1, .int .u32 k2, .int .u16 k3] 36 (0, 0))])) := hX.perm (List.Perm.swap ..)
      clear hX HR HX hF hd
      go_wp2_with fail
      have hE := mem_nine (.int .u8 0) (.int .u32 0) (.int .u16 0) (.int .u32 0) (.int .u16 0) (.int .u32 0) (.slice none 0 0) (.int .i64 0) (.int .u32 0) HY.out
      refine ret_sn Try.results20 hE rfl false rfl rfl ?_
      have hRR := HRi.out
      subst hRR
      exact ⟨_, rfl, ⟨_, rfl, SlF.nil _ _ _⟩, HM.out.after hE.below⟩

set_option maxHeartbeats 8000000 in
theorem routd_any {w W : World} {xs : List Sn} {m : Nat} {B L : List (Nat × Obj)} (h : RT xs m B) (hM : Mem w W (B ++ L)) (p : Int) (q : Pn) :
    Calls Try.prog 22 #[.pointer (some ⟨m, 0, none⟩), .int .u8 p, .agg #[.int .u32 q.1, .int .u16 q.2]] W (FdD w B L (fo p q xs)) := by
  obtain ⟨zs, a, c, ez, hc, hr, hp, hz⟩ := h.read2 hM
  obtain ⟨hl, hx⟩ := rt_at2 ez hr hp hz
  obtain ⟨qa, qb⟩ := q
  simp only
  obtain ⟨R, hR⟩ : ∃ R, fo p (qa, qb) xs = R := ⟨_, rfl⟩
  rw [hR]
  have HR0 : Hid (fo p (qa, qb) (xs.drop 0) = R) := hR
  have HX : Hid (∀ i (hi : i < xs.length), ∃ pv b off, a = some ⟨b, off, none⟩ ∧ ∀ V, Below W.heap.size W V → Bo V b (off + i * 9) xs[i] pv ∧ (PR V pv xs[i].ps ∧ SlF 34 2 pv xs[i].ps.length (px xs[i].ps).flatten B)) := hx
  obtain ⟨n, hn⟩ : ∃ n, xs.length = n := ⟨_, rfl⟩
  have HN : Hid (xs.length = n) := hn
  rw [hl, hn] at hc
  have hml := cell_lt hc
  have HC : Hid (W.cell? ⟨m, 0, none⟩ = some (.slice a n c)) := hc
  have hnc : n ≤ c ∧ c ≤ 9223372036854775807 := by
    obtain ⟨a', c', e1, h1, h2, -⟩ := sl_at hr
    simp only [Value.slice.injEq, true_and] at e1
    obtain ⟨-, rfl⟩ := e1
    omega
  obtain ⟨hnc1, hnc2⟩ := hnc
  obtain ⟨g, hg⟩ : ∃ g, W.heap.size = g := ⟨_, rfl⟩
  have HM0 : Hid (Mem W ((W.alloc (.cells #[.int .u32 qa, .int .u16 qb] 34)).alloc (.cells #[.int .u8 0, .int .u32 0, .int .u16 0, .int .u32 0, .int .u16 0, .int .u32 0, .slice none 0 0, .int .i64 0, .int .u32 0] 39)) [(g, .cells #[.int .u32 qa, .int .u16 qb] 34 (0, 0)), (g + 1, .cells #[.int .u8 0, .int .u32 0, .int .u16 0, .int .u32 0, .int .u16 0, .int .u32 0, .slice none 0 0, .int .i64 0, .int .u32 0] 39 (0, 0))]) := ((Mem.nil W).push1 hg.symm).push2 (by rw [World.size_alloc, hg])
  have HM : Hid (Mem w W (B ++ L)) := hM
  clear hx hr hp hz ez hR hn hc hM h
  go_enter Try.func22, Try.ntmps22
  go_upto_region 1 with fail
  refine wp_letter (fun X => Mem W X [(g, .cells #[.int .u32 qa, .int .u16 qb] 34 (0, 0)), (g + 1, .cells #[.int .u8 0, .int .u32 0, .int .u16 0, .int .u32 0, .int .u16 0, .int .u32 0, .slice none 0 0, .int .i64 0, .int .u32 0] 39 (0, 0))]) (by exact HM0.out) ?_
  intro V0 hM0
  try simp only [hg]
  have H0 : Hid (Mem W V0 [(g, .cells #[.int .u32 qa, .int .u16 qb] 34 (0, 0)), (g + 1, .cells #[.int .u8 0, .int .u32 0, .int .u16 0, .int .u32 0, .int .u16 0, .int .u32 0, .slice none 0 0, .int .i64 0, .int .u32 0] 39 (0, 0))]) := hM0
  clear HM0 hM0
  go_wp2_with fail
  go_loopw [8] (fun u6 w' => ∃ i : Nat, i ≤ n ∧ u6 = .int .i64 i ∧ Hid (Mem W w' [(g, .cells #[.int .u32 qa, .int .u16 qb] 34 (0, 0)), (g + 1, .cells #[.int .u8 0, .int .u32 0, .int .u16 0, .int .u32 0, .int .u16 0, .int .u32 0, .slice none 0 0, .int .i64 0, .int .u32 0] 39 (0, 0))] ∧ fo p (qa, qb) (xs.drop i) = R)) (fun u6 w' => n - (intOf u6).toNat)
  case atStart => exact ⟨0, Nat.zero_le _, rfl, H0.out, HR0.out⟩
  case round =>
    obtain ⟨i, hi, rfl, HR⟩ := hrel
    clear H0 HR0
    have km : wr.cell? ⟨m, 0, none⟩ = some (.slice a n c) := by rw [HR.out.1.old hml]; exact HC.out
    by_cases hlt : i < n
    · have j1 : (i : Int) < n := by omega
      have i1 : i < xs.length := by rw [HN.out]; exact hlt
      obtain ⟨pv, b, off, rfl, hV⟩ := HX.out i i1
      obtain ⟨hB, hpp⟩ := hV _ HR.out.1.below
      have q0 : wr.cell? ⟨g, 0, none⟩ = some (.int .u32 qa) := HR.out.1.cell 0 rfl 0
      have q1 : wr.cell? ⟨g, 1, none⟩ = some (.int .u16 qb) := HR.out.1.cell 0 rfl 1
      have hF := HR.out.2
      rw [List.drop_eq_getElem_cons i1, fo] at hF
      have HF : Hid (_ = R) := hF
      have HB : Hid (∀ n, Mem W (wr.drewN n) [(g, .cells #[.int .u32 qa, .int .u16 qb] 34 (0, 0)), (g + 1, .cells #[.int .u8 0, .int .u32 0, .int .u16 0, .int .u32 0, .int .u16 0, .int .u32 0, .slice none 0 0, .int .i64 0, .int .u32 0] 39 (0, 0))]) := fun n => HR.out.1.drewN n
      have HV : Hid (∀ V, Below W.heap.size W V → Bo V b (off + i * 9) xs[i] pv ∧ (PR V pv xs[i].ps ∧ SlF 34 2 pv xs[i].ps.length (px xs[i].ps).flatten B)) := hV
      clear hF HR hV HX
      generalize xs[i] = x at *
      clear i1
      obtain ⟨pr, ip, port, oip, op, gen, ps, st, un⟩ := x
      obtain ⟨d0, d1, d2, d3, d4, d5, d6, d7, d8⟩ := hB
      simp only at d0 d1 d2 d3 d4 d5 d6 d7 d8 hpp
      obtain ⟨pa, pb, rfl, p1, p2, -⟩ := pr_at hpp.1
      have heq := pt_eq oip op qa qb
      have hor : (pr = p ∧ oip = qa ∧ op = qb) ∨ (pr = p ∧ ¬ (oip = qa ∧ op = qb)) ∨ ¬ pr = p := by
        by_cases a : pr = p
        · by_cases b : oip = qa ∧ op = qb
          · exact Or.inl ⟨a, b⟩
          · exact Or.inr (Or.inl ⟨a, b⟩)
        · exact Or.inr (Or.inr a)
      rcases hor with ⟨rfl, rfl, rfl⟩ | ⟨rfl, e1⟩ | e0
      · simp only [BEq.rfl, Bool.and_self] at heq
        have z0 : (pr == pr) = true := by simp
        have HRi : Hid (R = some ⟨pr, ip, port, oip, op, gen, ps, st, un⟩) := by
          show R = _
          rw [← HF.out]
          exact if_pos (by simp [key])
        clear HF
        go_wp2_with fail
        go_quiet (fail)
        go_upto_region 5 with fail
        refine wp_letter (fun X => Mem W X [(g, .cells #[.int .u32 oip, .int .u16 op] 34 (0, 0)), (g + 1, .cells #[.int .u8 0, .int .u32 0, .int .u16 0, .int .u32 0, .int .u16 0, .int .u32 0, .slice none 0 0, .int .i64 0, .int .u32 0] 39 (0, 0))]) (by exact HB.out _) ?_
        intro X hX
        obtain ⟨hB2, -⟩ := HV.out X hX.below
        obtain ⟨x0, x1, x2, x3, x4, x5, x6, x7, x8⟩ := hB2
        simp only at x0 x1 x2 x3 x4 x5 x6 x7 x8
        have km2 : X.cell? ⟨m, 0, none⟩ = some (.slice (some ⟨b, off, none⟩) n c) := by rw [hX.old hml]; exact HC.out
        obtain ⟨y0, y1, y2, y3, y4, y5, y6, y7, y8⟩ := bx_of 1 hX rfl
        have w0 : X.frozen? ⟨g + 1, 0, none⟩ = false := hX.free 1 rfl 0
        have w1 : X.frozen? ⟨g + 1, 1, none⟩ = false := hX.free 1 rfl 1
        have w2 : X.frozen? ⟨g + 1, 2, none⟩ = false := hX.free 1 rfl 2
        have w3 : X.frozen? ⟨g + 1, 3, none⟩ = false := hX.free 1 rfl 3
        have w4 : X.frozen? ⟨g + 1, 4, none⟩ = false := hX.free 1 rfl 4
        have w5 : X.frozen? ⟨g + 1, 5, none⟩ = false := hX.free 1 rfl 5
        have w6 : X.frozen? ⟨g + 1, 6, none⟩ = false := hX.free 1 rfl 6
        have w7 : X.frozen? ⟨g + 1, 7, none⟩ = false := hX.free 1 rfl 7
        have w8 : X.frozen? ⟨g + 1, 8, none⟩ = false := hX.free 1 rfl 8
        have HY : Hid (Mem W X ((g + 1, .cells #[.int .u8 0, .int .u32 0, .int .u16 0, .int .u32 0, .int .u16 0, .int .u32 0, .slice none 0 0, .int .i64 0, .int .u32 0] 39 (0, 0)) :: [(g, .cells #[.int .u32 oip, .int .u16 op] 34 (0, 0))])) := hX.perm (List.Perm.swap ..)
        have HPP : Hid (SlF 34 2 (.slice pa ps.length pb) ps.length (px ps).flatten B) := (HV.out W (Below.refl _ _)).2.2
        clear hX HB HV q0 q1 d0 d1 d2 d3 d4 d5 d6 d7 d8 heq km hpp
        go_wp2_with fail
        have hE := mem_nine (.int .u8 pr) (.int .u32 ip) (.int .u16 port) (.int .u32 oip) (.int .u16 op) (.int .u32 gen) (.slice pa ps.length pb) (.int .i64 st) (.int .u32 un) HY.out
        refine ret_sn Try.results22 hE rfl true rfl rfl ?_
        have hRR := HRi.out
        subst hRR
        exact ⟨_, rfl, ⟨_, rfl, HPP.out⟩, HM.out.after hE.below⟩
      · have hne : (oip == qa && op == qb) = false := by
          rw [Bool.eq_false_iff]
          intro h
          simp at h
          exact e1 h
        rw [hne] at heq
        have z0 : (pr == pr) = true := by simp
        have HQ : Hid (fo pr (qa, qb) (xs.drop (i + 1)) = R) := by
          have := HF.out
          rw [if_neg (fun e => e1 (by simp at e; exact e))] at this
          exact this
        clear HF hpp
        go_wp2_with fail
        go_quiet (fail)
        go_wp2_with fail
        go_roundw
        case rel => exact ⟨i + 1, by omega, by go_num, HB.out _, HQ.out⟩
        case measure => simp [intOf]; omega
      · have z0 : (pr == p) = false := by simpa using e0
        have HQ : Hid (fo p (qa, qb) (xs.drop (i + 1)) = R) := by
          have := HF.out
          rw [if_neg (fun e => e0 e.1)] at this
          exact this
        clear HF hpp
        go_wp2_with fail
        go_quiet (fail)
        go_wp2_with fail
        go_roundw
        case rel => exact ⟨i + 1, by omega, by go_num, HB.out _, HQ.out⟩
        case measure => simp [intOf]; omega
    · have j1 : ¬ ((i : Int) < n) := by omega
      obtain rfl : i = n := by omega
      have hF := HR.out.2
      have hd : xs.drop i = [] := by rw [← HN.out]; exact List.drop_length
      rw [hd] at hF
      have HRi : Hid (R = none) := hF.symm
      have hX := HR.out.1
      obtain ⟨y0, y1, y2, y3, y4, y5, y6, y7, y8⟩ := bx_of 1 hX rfl
      have w0 : wr.frozen? ⟨g + 1, 0, none⟩ = false := hX.free 1 rfl 0
      have w1 : wr.frozen? ⟨g + 1, 1, none⟩ = false := hX.free 1 rfl 1
      have w2 : wr.frozen? ⟨g + 1, 2, none⟩ = false := hX.free 1 rfl 2
      have w3 : wr.frozen? ⟨g + 1, 3, none⟩ = false := hX.free 1 rfl 3
      have w4 : wr.frozen? ⟨g + 1, 4, none⟩ = false := hX.free 1 rfl 4
      have w5 : wr.frozen? ⟨g + 1, 5, none⟩ = false := hX.free 1 rfl 5
      have w6 : wr.frozen? ⟨g + 1, 6, none⟩ = false := hX.free 1 rfl 6
      have w7 : wr.frozen? ⟨g + 1, 7, none⟩ = false := hX.free 1 rfl 7
      have w8 : wr.frozen? ⟨g + 1, 8, none⟩ = false := hX.free 1 rfl 8
      have HY : Hid (Mem W wr ((g + 1, .cells #[.int .u8 0, .int .u32 0, .int .u16 0, .int .u32 0, .int .u16 0, .int .u32 0, .slice none 0 0, .int .i64 0, .int .u32 0] 39 (0, 0)) :: [(g, .cells #[.int .u32 qa, .int .u16 qb] 34 (0, 0))])) := hX.perm (List.Perm.swap ..)
      clear hX HR HX hF hd
      go_wp2_with fail
      have hE := mem_nine (.int .u8 0) (.int .u32 0) (.int .u16 0) (.int .u32 0) (.int .u16 0) (.int .u32 0) (.slice none 0 0) (.int .i64 0) (.int .u32 0) HY.out
      refine ret_sn Try.results22 hE rfl false rfl rfl ?_
      have hRR := HRi.out
      subst hRR
      exact ⟨_, rfl, ⟨_, rfl, SlF.nil _ _ _⟩, HM.out.after hE.below⟩

end Ss
end Go.Proofs.Ytgeeijinhneoiaa
