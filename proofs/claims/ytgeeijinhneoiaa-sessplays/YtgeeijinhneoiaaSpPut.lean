/-
  Sessions, the program's own: Put.
-/
import Derived.Test.YtgeeijinhneoiaaSpMor
namespace Go.Proofs.Ytgeeijinhneoiaa
open Go.RowKit
open Sm
open Po
open Wh
set_option linter.unusedVariables false
set_option linter.unusedSimpArgs false
set_option maxRecDepth 20000

namespace Ss
section
variable {xs : List Sn} {S1 S2 : Ky → Option Value} {D L : List (Nat × Obj)} {p a b : Nat} {w V : World}
set_option maxHeartbeats 8000000 in
theorem put_any {B : List (Nat × Obj)} (h : PSs xs p B) (hM : Mem w V (B ++ L)) (hl : xs.length ≤ 1000) {val : Value} {s : Sn} (hs : SV V val s) (hsi : SIn s) (hps : s.ps.length ≤ 1000) :
    Calls Try.prog 15 #[.pointer (some ⟨p, 0, none⟩), val] V (SkQ PSs w p L (.bool (fk (key s) xs).isSome) (pt s xs)) := by
  obtain ⟨a, b, S1, S2, D, hS, hV⟩ := h.open hM
  obtain ⟨qv, e1, e2, hq⟩ := hS.look (key s)
  have hkey := hsi.1
  have hfind : ∀ x, fk (key s) xs = some x → x ∈ xs ∧ key x = key s := fun x hx => fk_some hx
  have hpt : fk (key s) xs = none → pt s xs = xs := fun hn => (pt_no (fk_none hn)).2
  obtain ⟨o, ho⟩ : ∃ o, fk (key s) xs = o := ⟨_, rfl⟩
  rw [ho] at e1 e2 hq hfind hpt ⊢
  obtain ⟨r, hr⟩ : ∃ r, o.isSome = r := ⟨_, rfl⟩
  obtain ⟨y, hy⟩ : ∃ y, o.getD sn0 = y := ⟨_, rfl⟩
  rw [hy] at e1 hq
  rw [hr] at e2 ⊢
  have HLK : Hid (∀ X L', TV S1 S2 p a b w X L' → (Instr.lookup 66 (.map (some a)) (kv (key s)) true).run Try.prog X = .ok (.tuple #[sv y qv, .bool r]) X) := fun X L' hX => by
    have := hX.look1 hkey true
    rw [e1, e2] at this
    exact this
  have HF : Hid ((r = true → y ∈ xs ∧ key y = key s) ∧ (r = false → pt s xs = xs)) := ⟨fun h1 => by
    cases o with
    | none => rw [h1] at hr; cases hr
    | some x => rw [← hy]; exact hfind x rfl, fun h1 => by
    cases o with
    | none => exact hpt rfl
    | some x => rw [h1] at hr; cases hr⟩
  have HS : Hid (TS xs S1 S2 D) := hS
  have HLn : Hid (xs.length ≤ 1000) := hl
  have HSI : Hid (SIn s) := hsi
  obtain ⟨s', hs'⟩ : ∃ s', s = s' := ⟨_, rfl⟩
  obtain ⟨pv, rfl, hp⟩ := hs
  unfold sc
  obtain ⟨k1, k2, k3, f4, f5, f6, ps, f7, f8⟩ := s
  simp only at hps hp ⊢
  obtain ⟨pa, pb, rfl, p1, p2, -⟩ := pr_at hp
  obtain ⟨np, hnp⟩ : ∃ np, ps.length = np := ⟨_, rfl⟩
  have HNP : Hid (ps.length = np) := hnp
  have HPR : Hid (PR V (.slice pa ps.length pb) ps) := hp
  have HPS : Hid (ps.length ≤ 1000) := hps
  rw [hnp] at p1 ⊢
  have HS' : Hid ((⟨k1, k2, k3, f4, f5, f6, ps, f7, f8⟩ : Sn) = s') := hs'
  rw [hs'] at HF HSI ⊢
  obtain ⟨n, hn⟩ : ∃ n, y.ps.length = n := ⟨_, rfl⟩
  rw [hn] at hq
  obtain ⟨-, qa, qc, rfl, -⟩ := id hq
  obtain ⟨y1, y2, y3, y4, y5, y6, qs, y7, y8⟩ := y
  simp only [kv, sv, sc, key] at HLK ⊢
  obtain ⟨g, hg⟩ : ∃ g, V.heap.size = g := ⟨_, rfl⟩
  have HG : Hid (V.heap.size = g) := hg
  have HM0 : Hid (TV S1 S2 p a b w (V.alloc (.cells #[.int .u8 k1, .int .u32 k2, .int .u16 k3, .int .u32 f4, .int .u16 f5, .int .u32 f6, .slice pa np pb, .int .i64 f7, .int .u32 f8] 39)) ((g, .cells #[.int .u8 k1, .int .u32 k2, .int .u16 k3, .int .u32 f4, .int .u16 f5, .int .u32 f6, .slice pa np pb, .int .i64 f7, .int .u32 f8] 39 (0, 0)) :: (D ++ L)) ∧ (V.alloc (.cells #[.int .u8 k1, .int .u32 k2, .int .u16 k3, .int .u32 f4, .int .u16 f5, .int .u32 f6, .slice pa np pb, .int .i64 f7, .int .u32 f8] 39)).heap.size = g + 1 ∧ Below V.heap.size V (V.alloc (.cells #[.int .u8 k1, .int .u32 k2, .int .u16 k3, .int .u32 f4, .int .u16 f5, .int .u32 f6, .slice pa np pb, .int .i64 f7, .int .u32 f8] 39))) := ⟨hV.push [.int .u8 k1, .int .u32 k2, .int .u16 k3, .int .u32 f4, .int .u16 f5, .int .u32 f6, .slice pa np pb, .int .i64 f7, .int .u32 f8] 39 hg, by rw [World.size_alloc, hg], (Below.refl _ _).alloc (Nat.le_refl _) _⟩
  clear h hM hkey hV hS e1 e2 hq hps ho hr hy hn hnp hs' hp hl hsi hfind hpt
  go_enter Try.func15, Try.ntmps15
  go_upto_region 1 with fail
  refine wp_letter (fun X => TV S1 S2 p a b w X ((g, .cells #[.int .u8 k1, .int .u32 k2, .int .u16 k3, .int .u32 f4, .int .u16 f5, .int .u32 f6, .slice pa np pb, .int .i64 f7, .int .u32 f8] 39 (0, 0)) :: (D ++ L)) ∧ X.heap.size = g + 1 ∧ Below V.heap.size V X) (by exact HM0.out) ?_
  rintro X ⟨hX, hXs, hXb⟩
  clear HM0
  try simp only [World.size_alloc, hg]
  have HSS : Hid (∀ X L', TV S1 S2 p a b w X L' → (g, .cells #[.int .u8 k1, .int .u32 k2, .int .u16 k3, .int .u32 f4, .int .u16 f5, .int .u32 f6, .slice pa np pb, .int .i64 f7, .int .u32 f8] 39 (0, 0)) ∈ L' → (fun X => X.cell? ⟨p, 0, none⟩ = some (.map (some a)) ∧ X.cell? ⟨g, 0, none⟩ = some (.int .u8 k1) ∧ X.cell? ⟨g, 1, none⟩ = some (.int .u32 k2) ∧ X.cell? ⟨g, 2, none⟩ = some (.int .u16 k3) ∧ (Instr.lookup 66 (.map (some a)) (.agg #[.int .u8 k1, .int .u32 k2, .int .u16 k3]) true).run Try.prog X = .ok (.tuple #[.agg #[.int .u8 y1, .int .u32 y2, .int .u16 y3, .int .u32 y4, .int .u16 y5, .int .u32 y6, .slice qa n qc, .int .i64 y7, .int .u32 y8], .bool r]) X) X) := fun X L' hX hm => by
    obtain ⟨B, hM, -⟩ := hX.rest
    have hg := hM.at_ _ (List.mem_append_right _ hm)
    exact ⟨hX.keep.1, by rw [cell_of hg]; rfl, by rw [cell_of hg]; rfl, by rw [cell_of hg]; rfl, HLK.out X _ hX⟩
  have hXd := hX.drew
  have hXds : X.drew.heap.size = g + 1 := hXs
  have HXb : Hid (Below V.heap.size V X.drew) := hXb.drew
  clear hX hXs hXb
  refine wp_region_held_drew (S := (fun X => X.cell? ⟨p, 0, none⟩ = some (.map (some a)) ∧ X.cell? ⟨g, 0, none⟩ = some (.int .u8 k1) ∧ X.cell? ⟨g, 1, none⟩ = some (.int .u32 k2) ∧ X.cell? ⟨g, 2, none⟩ = some (.int .u16 k3) ∧ (Instr.lookup 66 (.map (some a)) (.agg #[.int .u8 k1, .int .u32 k2, .int .u16 k3]) true).run Try.prog X = .ok (.tuple #[.agg #[.int .u8 y1, .int .u32 y2, .int .u16 y3, .int .u32 y4, .int .u16 y5, .int .u32 y6, .slice qa n qc, .int .i64 y7, .int .u32 y8], .bool r]) X)) (by kernel_rfl) (HSS.out _ _ hXd (by simp)) (fun hHeld => ?_)
  generalize X.drew = X1 at *
  have HXD : Hid (TV S1 S2 p a b w X1 ((g, .cells #[.int .u8 k1, .int .u32 k2, .int .u16 k3, .int .u32 f4, .int .u16 f5, .int .u32 f6, .slice pa np pb, .int .i64 f7, .int .u32 f8] 39 (0, 0)) :: (D ++ L))) := hXd
  clear hXd
  refine wpAnyH_take (i := 0) (v := ?_) rfl (by kernel_rfl) (by kernel_rfl) (by kernel_rfl) (fun _ _ _ h => h) (Or.inl ⟨by rfl, ?z1⟩) (by assumption) ?_
  case z1 =>
   intro w hSw
   (try dsimp only at hSw)
   go_simp
   all_goals with_reducible rfl
  try simp only [List.getElem_toArray, List.getElem_cons_zero, List.getElem_cons_succ, Act.put, List.setIfInBounds_toArray, List.set_cons_zero, List.set_cons_succ]
  refine wpAnyH_take (i := 1) (v := ?_) rfl (by kernel_rfl) (by kernel_rfl) (by kernel_rfl) (fun _ _ _ h => h) (Or.inl ⟨by rfl, ?z2⟩) (by assumption) ?_
  case z2 =>
   intro w hSw
   (try dsimp only at hSw)
   go_simp
   all_goals with_reducible rfl
  try simp only [List.getElem_toArray, List.getElem_cons_zero, List.getElem_cons_succ, Act.put, List.setIfInBounds_toArray, List.set_cons_zero, List.set_cons_succ]
  refine wpAnyH_take (i := 2) (v := ?_) rfl (by kernel_rfl) (by kernel_rfl) (by kernel_rfl) (fun _ _ _ h => h) (Or.inl ⟨by rfl, ?z3⟩) (by assumption) ?_
  case z3 =>
   intro w hSw
   (try dsimp only at hSw)
   go_simp
   all_goals with_reducible rfl
  try simp only [List.getElem_toArray, List.getElem_cons_zero, List.getElem_cons_succ, Act.put, List.setIfInBounds_toArray, List.set_cons_zero, List.set_cons_succ]
  refine wpAnyH_take (i := 3) (v := ?_) rfl (by kernel_rfl) (by kernel_rfl) (by kernel_rfl) (fun _ _ _ h => h) (Or.inl ⟨by rfl, ?z4⟩) (by assumption) ?_
  case z4 =>
   intro w hSw
   (try dsimp only at hSw)
   go_simp
   all_goals with_reducible rfl
  try simp only [List.getElem_toArray, List.getElem_cons_zero, List.getElem_cons_succ, Act.put, List.setIfInBounds_toArray, List.set_cons_zero, List.set_cons_succ]
  refine wpAnyH_take (i := 4) (v := ?_) rfl (by kernel_rfl) (by kernel_rfl) (by kernel_rfl) (fun _ _ _ h => h) (Or.inl ⟨by rfl, ?z5⟩) (by assumption) ?_
  case z5 =>
   intro w hSw
   (try dsimp only at hSw)
   go_simp
   all_goals with_reducible rfl
  try simp only [List.getElem_toArray, List.getElem_cons_zero, List.getElem_cons_succ, Act.put, List.setIfInBounds_toArray, List.set_cons_zero, List.set_cons_succ]
  refine wpAnyH_take (i := 5) (v := ?_) rfl (by kernel_rfl) (by kernel_rfl) (by kernel_rfl) (fun _ _ _ h => h) (Or.inl ⟨by rfl, ?z6⟩) (by assumption) ?_
  case z6 =>
   intro w hSw
   (try dsimp only at hSw)
   go_simp
   all_goals with_reducible rfl
  try simp only [List.getElem_toArray, List.getElem_cons_zero, List.getElem_cons_succ, Act.put, List.setIfInBounds_toArray, List.set_cons_zero, List.set_cons_succ]
  refine wpAnyH_take (i := 6) (v := ?_) rfl (by kernel_rfl) (by kernel_rfl) (by kernel_rfl) (fun _ _ _ h => h) (Or.inl ⟨by rfl, ?z7⟩) (by assumption) ?_
  case z7 =>
   intro w hSw
   (try dsimp only at hSw)
   go_simp
   all_goals with_reducible rfl
  try simp only [List.getElem_toArray, List.getElem_cons_zero, List.getElem_cons_succ, Act.put, List.setIfInBounds_toArray, List.set_cons_zero, List.set_cons_succ]
  refine wpAnyH_take (i := 7) (v := ?_) rfl (by kernel_rfl) (by kernel_rfl) (by kernel_rfl) (fun _ _ _ h => h) (Or.inl ⟨by rfl, ?z8⟩) (by assumption) ?_
  case z8 =>
   intro w hSw
   (try dsimp only at hSw)
   go_simp
   all_goals with_reducible rfl
  try simp only [List.getElem_toArray, List.getElem_cons_zero, List.getElem_cons_succ, Act.put, List.setIfInBounds_toArray, List.set_cons_zero, List.set_cons_succ]
  refine wpAnyH_take (i := 8) (v := ?_) rfl (by kernel_rfl) (by kernel_rfl) (by kernel_rfl) (fun _ _ _ h => h) (Or.inl ⟨by rfl, ?z9⟩) (by assumption) ?_
  case z9 =>
   intro w hSw
   (try dsimp only at hSw)
   go_simp
   all_goals with_reducible rfl
  try simp only [List.getElem_toArray, List.getElem_cons_zero, List.getElem_cons_succ, Act.put, List.setIfInBounds_toArray, List.set_cons_zero, List.set_cons_succ]
  refine wpAnyH_take (i := 9) (v := ?_) rfl (by kernel_rfl) (by kernel_rfl) (by kernel_rfl) (fun _ _ _ h => h) (Or.inl ⟨by rfl, ?z10⟩) (by assumption) ?_
  case z10 =>
   intro w hSw
   (try dsimp only at hSw)
   go_simp
   all_goals with_reducible rfl
  try simp only [List.getElem_toArray, List.getElem_cons_zero, List.getElem_cons_succ, Act.put, List.setIfInBounds_toArray, List.set_cons_zero, List.set_cons_succ]
  refine wpAnyH_ready (rs := [10]) (by kernel_rfl) (by simp) ?_
  refine AllReadyH.cons rfl (fun K hK => ?_) AllReadyH.nil
  go_simp
  try simp only [hXds]
  refine hK.out _ _ (HSS.out _ _ (HXD.out.push [.int .u8 0, .int .u32 0, .int .u16 0, .int .u32 0, .int .u16 0, .int .u32 0, .slice none 0 0, .int .i64 0, .int .u32 0] 39 hXds) (by simp)) (fun hHeld => ?_)
  clear hK K
  try simp only [List.getElem_toArray, List.getElem_cons_zero, List.getElem_cons_succ, Act.put, List.setIfInBounds_toArray, List.set_cons_zero, List.set_cons_succ]
  refine wpAnyH_ready (rs := [11]) (by kernel_rfl) (by simp) ?_
  refine AllReadyH.cons rfl (fun K hK => ?_) AllReadyH.nil
  go_simp
  refine hK.out _ _ (HSS.out _ _ (HXD.out.push [.int .u8 y1, .int .u32 y2, .int .u16 y3, .int .u32 y4, .int .u16 y5, .int .u32 y6, .slice qa n qc, .int .i64 y7, .int .u32 y8] 39 hXds) (by simp)) (fun hHeld => ?_)
  clear hK K
  try simp only [List.getElem_toArray, List.getElem_cons_zero, List.getElem_cons_succ, Act.put, List.setIfInBounds_toArray, List.set_cons_zero, List.set_cons_succ]
  refine wpAnyH_take (i := 12) (v := ?_) rfl (by kernel_rfl) (by kernel_rfl) (by kernel_rfl) (fun _ _ _ h => h) (Or.inl ⟨by rfl, ?z11⟩) (by assumption) ?_
  case z11 =>
   intro w hSw
   (try dsimp only at hSw)
   go_simp
   all_goals with_reducible rfl
  try simp only [List.getElem_toArray, List.getElem_cons_zero, List.getElem_cons_succ, Act.put, List.setIfInBounds_toArray, List.set_cons_zero, List.set_cons_succ]
  refine wpAnyH_done (by kernel_rfl) ?_ _
  go_upto_region 2 with fail
  refine wp_letter (fun X => TV S1 S2 p a b w X ((g + 1, .cells #[.int .u8 y1, .int .u32 y2, .int .u16 y3, .int .u32 y4, .int .u16 y5, .int .u32 y6, .slice qa n qc, .int .i64 y7, .int .u32 y8] 39 (0, 0)) :: (g, .cells #[.int .u8 k1, .int .u32 k2, .int .u16 k3, .int .u32 f4, .int .u16 f5, .int .u32 f6, .slice pa np pb, .int .i64 f7, .int .u32 f8] 39 (0, 0)) :: (D ++ L)) ∧ Below V.heap.size V X) (by exact ⟨HXD.out.push [.int .u8 y1, .int .u32 y2, .int .u16 y3, .int .u32 y4, .int .u16 y5, .int .u32 y6, .slice qa n qc, .int .i64 y7, .int .u32 y8] 39 hXds, HXb.out.alloc (by rw [hXds, HG.out]; omega) _⟩) ?_
  rintro Y ⟨hY, hYb⟩
  clear HXD hXds hHeld HSS HXb
  have HY : Hid (TV S1 S2 p a b w Y ((g + 1, .cells #[.int .u8 y1, .int .u32 y2, .int .u16 y3, .int .u32 y4, .int .u16 y5, .int .u32 y6, .slice qa n qc, .int .i64 y7, .int .u32 y8] 39 (0, 0)) :: (g, .cells #[.int .u8 k1, .int .u32 k2, .int .u16 k3, .int .u32 f4, .int .u16 f5, .int .u32 f6, .slice pa np pb, .int .i64 f7, .int .u32 f8] 39 (0, 0)) :: (D ++ L))) := hY
  have HYb : Hid (Below V.heap.size V Y) := hYb
  obtain ⟨B1, hM1, hB1⟩ := hY.rest
  cases r with
  | false =>
    clear hM1 hB1 hY hYb
    go_wp2_with fail
    go_ret
    obtain ⟨B', hB', hM5⟩ := (HY.out.mem (B := ((g + 1, .cells #[.int .u8 y1, .int .u32 y2, .int .u16 y3, .int .u32 y4, .int .u16 y5, .int .u32 y6, .slice qa n qc, .int .i64 y7, .int .u32 y8] 39 (0, 0)) :: (g, .cells #[.int .u8 k1, .int .u32 k2, .int .u16 k3, .int .u32 f4, .int .u16 f5, .int .u32 f6, .slice pa np pb, .int .i64 f7, .int .u32 f8] 39 (0, 0)) :: D) ++ L) rfl).shut (HS.out.mono fun q hq => List.mem_cons_of_mem _ (List.mem_cons_of_mem _ hq))
    exact ⟨rfl, B', by rw [HF.out.2 (by simp)]; exact hB', hM5⟩
  | true =>
    have hM3 := hM1.perm (show List.Perm _ ((g, .cells #[.int .u8 k1, .int .u32 k2, .int .u16 k3, .int .u32 f4, .int .u16 f5, .int .u32 f6, .slice pa np pb, .int .i64 f7, .int .u32 f8] 39 (0, 0)) :: (g + 1, .cells #[.int .u8 y1, .int .u32 y2, .int .u16 y3, .int .u32 y4, .int .u16 y5, .int .u32 y6, .slice qa n qc, .int .i64 y7, .int .u32 y8] 39 (0, 0)) :: (B1 ++ (D ++ L))) from by
    classical
    rw [List.perm_iff_count]
    intro q
    simp only [List.count_append, List.count_cons, List.count_nil]
    omega)
    obtain ⟨t0, t1, t2, t3, t4, t5, t6, t7, t8⟩ := bx_of 0 hM3 rfl
    have u3 : Y.cell? ⟨g + 1, 3, none⟩ = some (.int .u32 y4) := hM3.cell 1 rfl 3
    have u4 : Y.cell? ⟨g + 1, 4, none⟩ = some (.int .u16 y5) := hM3.cell 1 rfl 4
    have t9 : ∀ k, Y.frozen? ⟨g, k, none⟩ = false := hM3.free 0 rfl
    have hM4 := (hM3.set 0 rfl 3 (.int .u32 y4)).set 0 rfl 4 (.int .u16 y5)
    have HM4 : Hid (TV S1 S2 p a b w ((Y.setCell ⟨g, 3, none⟩ (.int .u32 y4)).setCell ⟨g, 4, none⟩ (.int .u16 y5)) ((g, .cells #[.int .u8 k1, .int .u32 k2, .int .u16 k3, .int .u32 y4, .int .u16 y5, .int .u32 f6, .slice pa np pb, .int .i64 f7, .int .u32 f8] 39 (0, 0)) :: (g + 1, .cells #[.int .u8 y1, .int .u32 y2, .int .u16 y3, .int .u32 y4, .int .u16 y5, .int .u32 y6, .slice qa n qc, .int .i64 y7, .int .u32 y8] 39 (0, 0)) :: (D ++ L))) := hB1 _ _ (Mem.perm hM4 (show List.Perm ((g, .cells #[.int .u8 k1, .int .u32 k2, .int .u16 k3, .int .u32 y4, .int .u16 y5, .int .u32 f6, .slice pa np pb, .int .i64 f7, .int .u32 f8] 39 (0, 0)) :: (g + 1, .cells #[.int .u8 y1, .int .u32 y2, .int .u16 y3, .int .u32 y4, .int .u16 y5, .int .u32 y6, .slice qa n qc, .int .i64 y7, .int .u32 y8] 39 (0, 0)) :: (B1 ++ (D ++ L))) _ from by
    classical
    rw [List.perm_iff_count]
    intro q
    simp only [List.count_append, List.count_cons, List.count_nil]
    omega))
    have HYB4 : Hid (Below V.heap.size V ((Y.setCell ⟨g, 3, none⟩ (.int .u32 y4)).setCell ⟨g, 4, none⟩ (.int .u16 y5))) := (hYb.setCell (by show V.heap.size ≤ g; rw [HG.out]; exact Nat.le_refl _) _).setCell (by show V.heap.size ≤ g; rw [HG.out]; exact Nat.le_refl _) _
    clear hM1 hM3 hM4 hB1 hY hYb
    go_upto_region 4 with fail
    refine wp_letter (fun X => TV S1 S2 p a b w X ((g, .cells #[.int .u8 k1, .int .u32 k2, .int .u16 k3, .int .u32 y4, .int .u16 y5, .int .u32 f6, .slice pa np pb, .int .i64 f7, .int .u32 f8] 39 (0, 0)) :: (g + 1, .cells #[.int .u8 y1, .int .u32 y2, .int .u16 y3, .int .u32 y4, .int .u16 y5, .int .u32 y6, .slice qa n qc, .int .i64 y7, .int .u32 y8] 39 (0, 0)) :: (D ++ L)) ∧ Below V.heap.size V X) (by exact ⟨HM4.out, HYB4.out⟩) ?_
    rintro X ⟨hX, hXb⟩
    clear HM4 HYB4 t0 t1 t2 t3 t4 t5 t6 t7 t8 t9 u3 u4
    obtain ⟨x4, hx4⟩ : ∃ x4, y4 = x4 := ⟨_, rfl⟩
    obtain ⟨x5, hx5⟩ : ∃ x5, y5 = x5 := ⟨_, rfl⟩
    have HX45 : Hid (y4 = x4 ∧ y5 = x5) := ⟨hx4, hx5⟩
    have HSS : Hid (∀ S1 X L', TV S1 S2 p a b w X L' → (g, .cells #[.int .u8 k1, .int .u32 k2, .int .u16 k3, .int .u32 x4, .int .u16 x5, .int .u32 f6, .slice pa np pb, .int .i64 f7, .int .u32 f8] 39 (0, 0)) ∈ L' → (fun X => X.cell? ⟨p, 0, none⟩ = some (.map (some a)) ∧ X.cell? ⟨g, 0, none⟩ = some (.int .u8 k1) ∧ X.cell? ⟨g, 1, none⟩ = some (.int .u32 k2) ∧ X.cell? ⟨g, 2, none⟩ = some (.int .u16 k3) ∧ X.cell? ⟨g, 3, none⟩ = some (.int .u32 x4) ∧ X.cell? ⟨g, 4, none⟩ = some (.int .u16 x5) ∧ X.cell? ⟨g, 5, none⟩ = some (.int .u32 f6) ∧ X.cell? ⟨g, 6, none⟩ = some (.slice pa np pb) ∧ X.cell? ⟨g, 7, none⟩ = some (.int .i64 f7) ∧ X.cell? ⟨g, 8, none⟩ = some (.int .u32 f8)) X) := fun S1 X L' hX hm => by
      obtain ⟨B, hM, -⟩ := hX.rest
      have hg := hM.at_ _ (List.mem_append_right _ hm)
      exact ⟨hX.keep.1, by rw [cell_of hg]; rfl, by rw [cell_of hg]; rfl, by rw [cell_of hg]; rfl, by rw [cell_of hg]; rfl, by rw [cell_of hg]; rfl, by rw [cell_of hg]; rfl, by rw [cell_of hg]; rfl, by rw [cell_of hg]; rfl, by rw [cell_of hg]; rfl⟩
    have hXd : TV S1 S2 p a b w X.drew ((g, .cells #[.int .u8 k1, .int .u32 k2, .int .u16 k3, .int .u32 x4, .int .u16 x5, .int .u32 f6, .slice pa np pb, .int .i64 f7, .int .u32 f8] 39 (0, 0)) :: (g + 1, .cells #[.int .u8 y1, .int .u32 y2, .int .u16 y3, .int .u32 y4, .int .u16 y5, .int .u32 y6, .slice qa n qc, .int .i64 y7, .int .u32 y8] 39 (0, 0)) :: (D ++ L)) := by rw [← hx4, ← hx5]; exact hX.drew
    have HXb : Hid (Below V.heap.size V X.drew) := hXb.drew
    clear hX hXb hx4 hx5
    refine wp_region_held_drew (S := (fun X => X.cell? ⟨p, 0, none⟩ = some (.map (some a)) ∧ X.cell? ⟨g, 0, none⟩ = some (.int .u8 k1) ∧ X.cell? ⟨g, 1, none⟩ = some (.int .u32 k2) ∧ X.cell? ⟨g, 2, none⟩ = some (.int .u16 k3) ∧ X.cell? ⟨g, 3, none⟩ = some (.int .u32 x4) ∧ X.cell? ⟨g, 4, none⟩ = some (.int .u16 x5) ∧ X.cell? ⟨g, 5, none⟩ = some (.int .u32 f6) ∧ X.cell? ⟨g, 6, none⟩ = some (.slice pa np pb) ∧ X.cell? ⟨g, 7, none⟩ = some (.int .i64 f7) ∧ X.cell? ⟨g, 8, none⟩ = some (.int .u32 f8))) (by kernel_rfl) (HSS.out _ _ _ hXd (by simp)) (fun hHeld => ?_)
    generalize X.drew = X1 at *
    have HXD : Hid (TV S1 S2 p a b w X1 ((g, .cells #[.int .u8 k1, .int .u32 k2, .int .u16 k3, .int .u32 x4, .int .u16 x5, .int .u32 f6, .slice pa np pb, .int .i64 f7, .int .u32 f8] 39 (0, 0)) :: (g + 1, .cells #[.int .u8 y1, .int .u32 y2, .int .u16 y3, .int .u32 y4, .int .u16 y5, .int .u32 y6, .slice qa n qc, .int .i64 y7, .int .u32 y8] 39 (0, 0)) :: (D ++ L))) := hXd
    obtain ⟨B5, hM5, hB5⟩ := hXd.rest
    have C1 : Calls Try.prog 37 #[.agg #[.int .u8 k1, .int .u32 k2, .int .u16 k3, .int .u32 x4, .int .u16 x5, .int .u32 f6, .slice pa np pb, .int .i64 f7, .int .u32 f8]] X1 (CpQ w (B5 ++ ((g, .cells #[.int .u8 k1, .int .u32 k2, .int .u16 k3, .int .u32 x4, .int .u16 x5, .int .u32 f6, .slice pa np pb, .int .i64 f7, .int .u32 f8] 39 (0, 0)) :: (g + 1, .cells #[.int .u8 y1, .int .u32 y2, .int .u16 y3, .int .u32 y4, .int .u16 y5, .int .u32 y6, .slice qa n qc, .int .i64 y7, .int .u32 y8] 39 (0, 0)) :: (D ++ L))) ⟨k1, k2, k3, x4, x5, f6, ps, f7, f8⟩) := copied_any (s := ⟨k1, k2, k3, x4, x5, f6, ps, f7, f8⟩) ⟨.slice pa np pb, rfl, by rw [← HNP.out]; exact HPR.out.below HXb.out (Nat.le_refl _)⟩ hM5 (by have := HPS.out; simp only; omega)
    have HB5 : Hid (∀ V' L', Mem w V' (B5 ++ L') → TV S1 S2 p a b w V' L') := hB5
    clear hXd hM5 hB5
    refine wpAnyH_take (i := 0) (v := ?_) rfl (by kernel_rfl) (by kernel_rfl) (by kernel_rfl) (fun _ _ _ h => h) (Or.inl ⟨by rfl, ?z12⟩) (by assumption) ?_
    case z12 =>
     intro w hSw
     (try dsimp only at hSw)
     go_simp
     all_goals with_reducible rfl
    try simp only [List.getElem_toArray, List.getElem_cons_zero, List.getElem_cons_succ, Act.put, List.setIfInBounds_toArray, List.set_cons_zero, List.set_cons_succ]
    refine wpAnyH_take (i := 1) (v := ?_) rfl (by kernel_rfl) (by kernel_rfl) (by kernel_rfl) (fun _ _ _ h => h) (Or.inl ⟨by rfl, ?z13⟩) (by assumption) ?_
    case z13 =>
     intro w hSw
     (try dsimp only at hSw)
     go_simp
     all_goals with_reducible rfl
    try simp only [List.getElem_toArray, List.getElem_cons_zero, List.getElem_cons_succ, Act.put, List.setIfInBounds_toArray, List.set_cons_zero, List.set_cons_succ]
    refine wpAnyH_take (i := 2) (v := ?_) rfl (by kernel_rfl) (by kernel_rfl) (by kernel_rfl) (fun _ _ _ h => h) (Or.inl ⟨by rfl, ?z14⟩) (by assumption) ?_
    case z14 =>
     intro w hSw
     (try dsimp only at hSw)
     go_simp
     all_goals with_reducible rfl
    try simp only [List.getElem_toArray, List.getElem_cons_zero, List.getElem_cons_succ, Act.put, List.setIfInBounds_toArray, List.set_cons_zero, List.set_cons_succ]
    refine wpAnyH_take (i := 3) (v := ?_) rfl (by kernel_rfl) (by kernel_rfl) (by kernel_rfl) (fun _ _ _ h => h) (Or.inl ⟨by rfl, ?z15⟩) (by assumption) ?_
    case z15 =>
     intro w hSw
     (try dsimp only at hSw)
     go_simp
     all_goals with_reducible rfl
    try simp only [List.getElem_toArray, List.getElem_cons_zero, List.getElem_cons_succ, Act.put, List.setIfInBounds_toArray, List.set_cons_zero, List.set_cons_succ]
    refine wpAnyH_take (i := 4) (v := ?_) rfl (by kernel_rfl) (by kernel_rfl) (by kernel_rfl) (fun _ _ _ h => h) (Or.inl ⟨by rfl, ?z16⟩) (by assumption) ?_
    case z16 =>
     intro w hSw
     (try dsimp only at hSw)
     go_simp
     all_goals with_reducible rfl
    try simp only [List.getElem_toArray, List.getElem_cons_zero, List.getElem_cons_succ, Act.put, List.setIfInBounds_toArray, List.set_cons_zero, List.set_cons_succ]
    refine wpAnyH_take (i := 5) (v := ?_) rfl (by kernel_rfl) (by kernel_rfl) (by kernel_rfl) (fun _ _ _ h => h) (Or.inl ⟨by rfl, ?z17⟩) (by assumption) ?_
    case z17 =>
     intro w hSw
     (try dsimp only at hSw)
     go_simp
     all_goals with_reducible rfl
    try simp only [List.getElem_toArray, List.getElem_cons_zero, List.getElem_cons_succ, Act.put, List.setIfInBounds_toArray, List.set_cons_zero, List.set_cons_succ]
    refine wpAnyH_take (i := 6) (v := ?_) rfl (by kernel_rfl) (by kernel_rfl) (by kernel_rfl) (fun _ _ _ h => h) (Or.inl ⟨by rfl, ?z18⟩) (by assumption) ?_
    case z18 =>
     intro w hSw
     (try dsimp only at hSw)
     go_simp
     all_goals with_reducible rfl
    try simp only [List.getElem_toArray, List.getElem_cons_zero, List.getElem_cons_succ, Act.put, List.setIfInBounds_toArray, List.set_cons_zero, List.set_cons_succ]
    refine wpAnyH_ready (rs := [7]) (by kernel_rfl) (by simp) ?_
    refine AllReadyH.cons rfl (fun K hK => ?_) AllReadyH.nil
    go_simp
    with_reducible refine (C1).mono ?_
    rintro e X2 ⟨val, D1, rfl, hsd, hM6⟩
    try go_wp2_with fail
    have hV6 : TV S1 S2 p a b w X2 ((g, .cells #[.int .u8 k1, .int .u32 k2, .int .u16 k3, .int .u32 x4, .int .u16 x5, .int .u32 f6, .slice pa np pb, .int .i64 f7, .int .u32 f8] 39 (0, 0)) :: (g + 1, .cells #[.int .u8 y1, .int .u32 y2, .int .u16 y3, .int .u32 y4, .int .u16 y5, .int .u32 y6, .slice qa n qc, .int .i64 y7, .int .u32 y8] 39 (0, 0)) :: ((D1 ++ D) ++ L)) := HB5.out _ _ (hM6.perm (by
        classical
        rw [List.perm_iff_count]
        intro q
        simp only [List.count_append, List.count_cons, List.count_nil]
        omega))
    have HV6 : Hid (TV S1 S2 p a b w X2 ((g, .cells #[.int .u8 k1, .int .u32 k2, .int .u16 k3, .int .u32 x4, .int .u16 x5, .int .u32 f6, .slice pa np pb, .int .i64 f7, .int .u32 f8] 39 (0, 0)) :: (g + 1, .cells #[.int .u8 y1, .int .u32 y2, .int .u16 y3, .int .u32 y4, .int .u16 y5, .int .u32 y6, .slice qa n qc, .int .i64 y7, .int .u32 y8] 39 (0, 0)) :: ((D1 ++ D) ++ L))) := hV6
    have HSD : Hid (SD D1 val ⟨k1, k2, k3, x4, x5, f6, ps, f7, f8⟩) := hsd
    clear C1 hM6 hsd
    refine hK.out _ _ (HSS.out _ _ _ hV6 (by simp)) (fun hHeld => ?_)
    clear hK K
    try simp only [List.getElem_toArray, List.getElem_cons_zero, List.getElem_cons_succ, Act.put, List.setIfInBounds_toArray, List.set_cons_zero, List.set_cons_succ]
    refine wpAnyH_ready (rs := [8]) (by kernel_rfl) (by simp) ?_
    refine AllReadyH.cons rfl (fun K hK => ?_) AllReadyH.nil
    have hdom : ∃ l : List Ky, l.length ≤ 2000 ∧ ∀ q, S1 q ≠ none → q ∈ l := ⟨xs.map key, by rw [List.length_map]; have := HLn.out; omega, fun q hq => (HS.out.keys.2 q).1 hq⟩
    obtain ⟨ob, hrun, hV7⟩ := HV6.out.put1 (k := (k1, k2, k3)) (by have := HSI.out.1; rw [← HS'.out] at this; exact this) val hdom
    simp only [kv] at hrun
    go_simp
    refine hK.out _ _ (HSS.out _ _ _ hV7 (by simp)) (fun hHeld => ?_)
    clear hK K
    try simp only [List.getElem_toArray, List.getElem_cons_zero, List.getElem_cons_succ, Act.put, List.setIfInBounds_toArray, List.set_cons_zero, List.set_cons_succ]
    refine wpAnyH_done (by kernel_rfl) ?_ _
    have HV7 : Hid (TV (upd S1 (k1, k2, k3) (some val)) S2 p a b w (Go.ChangeMaps.setBlock X2 a ob) ((g, .cells #[.int .u8 k1, .int .u32 k2, .int .u16 k3, .int .u32 x4, .int .u16 x5, .int .u32 f6, .slice pa np pb, .int .i64 f7, .int .u32 f8] 39 (0, 0)) :: (g + 1, .cells #[.int .u8 y1, .int .u32 y2, .int .u16 y3, .int .u32 y4, .int .u16 y5, .int .u32 y6, .slice qa n qc, .int .i64 y7, .int .u32 y8] 39 (0, 0)) :: ((D1 ++ D) ++ L))) := hV7
    clear hV7 hV6 hHeld hrun HSS
    go_wp2_with fail
    go_ret
    have hf := HF.out.1 (by simp)
    have hsd := HSD.out
    obtain ⟨rfl, rfl⟩ := HX45.out
    obtain ⟨pv, rfl, hpv⟩ := hsd
    have hT : TS (pt s' xs) (upd S1 (k1, k2, k3) (some (.agg (sc ⟨k1, k2, k3, y4, y5, f6, ps, f7, f8⟩ pv).toArray))) S2 ((g, .cells #[.int .u8 k1, .int .u32 k2, .int .u16 k3, .int .u32 y4, .int .u16 y5, .int .u32 f6, .slice pa np pb, .int .i64 f7, .int .u32 f8] 39 (0, 0)) :: (g + 1, .cells #[.int .u8 y1, .int .u32 y2, .int .u16 y3, .int .u32 y4, .int .u16 y5, .int .u32 y6, .slice qa n qc, .int .i64 y7, .int .u32 y8] 39 (0, 0)) :: (D1 ++ D)) := by
      have h1 := HS.out.put (D' := (g, .cells #[.int .u8 k1, .int .u32 k2, .int .u16 k3, .int .u32 y4, .int .u16 y5, .int .u32 f6, .slice pa np pb, .int .i64 f7, .int .u32 f8] 39 (0, 0)) :: (g + 1, .cells #[.int .u8 y1, .int .u32 y2, .int .u16 y3, .int .u32 y4, .int .u16 y5, .int .u32 y6, .slice qa n qc, .int .i64 y7, .int .u32 y8] 39 (0, 0)) :: (D1 ++ D)) hf.1 hf.2 HSI.out (by rw [← HS'.out]; exact HPS.out) (pv := pv) (by rw [← HS'.out]; exact hpv.mono fun q hq => by simp [hq]) (fun q hq => by simp [hq])
      rw [← HS'.out] at h1 ⊢
      exact h1
    obtain ⟨B', hB', hM8⟩ := (HV7.out.mem (B := ((g, .cells #[.int .u8 k1, .int .u32 k2, .int .u16 k3, .int .u32 y4, .int .u16 y5, .int .u32 f6, .slice pa np pb, .int .i64 f7, .int .u32 f8] 39 (0, 0)) :: (g + 1, .cells #[.int .u8 y1, .int .u32 y2, .int .u16 y3, .int .u32 y4, .int .u16 y5, .int .u32 y6, .slice qa n qc, .int .i64 y7, .int .u32 y8] 39 (0, 0)) :: (D1 ++ D)) ++ L) rfl).shut hT
    exact ⟨rfl, B', hB', hM8⟩
end
end Ss
end Go.Proofs.Ytgeeijinhneoiaa
