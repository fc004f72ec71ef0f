/-
  Sessions, the program's own: Add.
-/
import Derived.Test.YtgeeijinhneoiaaSpDrop
namespace Go.Proofs.Ytgeeijinhneoiaa
open Go.RowKit
open Sm
open Po
open Wh
set_option linter.unusedVariables false
set_option linter.unusedSimpArgs false
set_option maxRecDepth 20000

namespace Ss
section
variable {xs : List Sn} {S1 S2 : Ky → Option Value} {D L : List (Nat × Obj)} {p a b : Nat} {w V : World}
/-- What holds behind a region that lays blocks. -/
def AdR (S1 S2 : Ky → Option Value) (p a b : Nat) (w V : World) (L : List (Nat × Obj)) (wx : World) : Prop := (∃ E, TV S1 S2 p a b w wx (E ++ L)) ∧ Below V.heap.size V wx
set_option maxHeartbeats 16000000 in
theorem add_any {B : List (Nat × Obj)} (h : PSs xs p B) (hM : Mem w V (B ++ L)) (hl : xs.length ≤ 1000) {val : Value} {s : Sn} (hs : SV V val s) (hsi : SIn s) (hps : s.ps.length ≤ 1000) (most : Int) (hmo : -9223372036854775808 ≤ most ∧ most ≤ 9223372036854775807) :
    Calls Try.prog 13 #[.pointer (some ⟨p, 0, none⟩), val, .int .i64 most] V (SkQ PSs w p L (.int .i64 (ac s most xs)) (ax s most xs)) := by
  obtain ⟨a, b, S1, S2, D, hS, hV⟩ := h.open hM
  obtain ⟨qv, e1, e2, hq⟩ := hS.look (key s)
  obtain ⟨kx, hkx, i1, i2, -⟩ := hS.looko s.pr (s.oip, s.op)
  have hkey := hsi.1
  obtain ⟨r, hr⟩ : ∃ r, (fk (key s) xs).isSome = r := ⟨_, rfl⟩
  obtain ⟨r2, hr2⟩ : ∃ r2, (fo s.pr (s.oip, s.op) xs).isSome = r2 := ⟨_, rfl⟩
  obtain ⟨y, hy⟩ : ∃ y, (fk (key s) xs).getD sn0 = y := ⟨_, rfl⟩
  rw [hy] at e1 hq
  rw [hr] at e2
  rw [hr2] at i2
  have HLK : Hid (∀ X L', TV S1 S2 p a b w X L' → (Instr.lookup 66 (.map (some a)) (kv (key s)) true).run Try.prog X = .ok (.tuple #[sv y qv, .bool r]) X) := fun X L' hX => by
    have := hX.look1 hkey true
    rw [e1, e2] at this
    exact this
  have HLK2 : Hid (∀ X L', TV S1 S2 p a b w X L' → (Instr.lookup 67 (.map (some b)) (kv (okey s)) true).run Try.prog X = .ok (.tuple #[kv kx, .bool r2]) X) := fun X L' hX => by
    have := hX.look2 (k := okey s) (sin_okey hsi) true
    unfold okey at this
    rw [i1, i2] at this
    exact this
  have HS : Hid (TS xs S1 S2 D) := hS
  have HLn : Hid (xs.length ≤ 1000) := hl
  have HSI : Hid (SIn s ∧ (fk (key s) xs).isSome = r ∧ (fo s.pr (s.oip, s.op) xs).isSome = r2) := ⟨hsi, hr, hr2⟩
  have HMO : Hid (-9223372036854775808 ≤ most ∧ most ≤ 9223372036854775807) := hmo
  obtain ⟨s', hs'⟩ : ∃ s', s = s' := ⟨_, rfl⟩
  obtain ⟨pv, rfl, hp⟩ := hs
  unfold sc
  obtain ⟨k1, k2, k3, f4, f5, f6, ps, f7, f8⟩ := s
  simp only at hps hp ⊢
  obtain ⟨pa, pb, rfl, p1, p2, -⟩ := pr_at hp
  obtain ⟨np, hnp⟩ : ∃ np, ps.length = np := ⟨_, rfl⟩
  have HNP : Hid (ps.length = np) := hnp
  have HPR : Hid (PR V (.slice pa ps.length pb) ps) := hp
  have HPS : Hid (ps.length ≤ 1000) := hps
  rw [hnp] at p1 ⊢
  have HS' : Hid ((⟨k1, k2, k3, f4, f5, f6, ps, f7, f8⟩ : Sn) = s') := hs'
  rw [hs'] at HSI ⊢
  obtain ⟨n, hn⟩ : ∃ n, y.ps.length = n := ⟨_, rfl⟩
  rw [hn] at hq
  obtain ⟨-, qa, qc, rfl, -⟩ := id hq
  obtain ⟨y1, y2, y3, y4, y5, y6, qs, y7, y8⟩ := y
  obtain ⟨x1, x2, x3⟩ := kx
  simp only [kv, sv, sc, key, okey] at HLK HLK2 ⊢
  obtain ⟨g, hg⟩ : ∃ g, V.heap.size = g := ⟨_, rfl⟩
  have HG : Hid (V.heap.size = g) := hg
  have HM0 : Hid (TV S1 S2 p a b w (V.alloc (.cells #[.int .u8 k1, .int .u32 k2, .int .u16 k3, .int .u32 f4, .int .u16 f5, .int .u32 f6, .slice pa np pb, .int .i64 f7, .int .u32 f8] 39)) ((g, .cells #[.int .u8 k1, .int .u32 k2, .int .u16 k3, .int .u32 f4, .int .u16 f5, .int .u32 f6, .slice pa np pb, .int .i64 f7, .int .u32 f8] 39 (0, 0)) :: (D ++ L)) ∧ (V.alloc (.cells #[.int .u8 k1, .int .u32 k2, .int .u16 k3, .int .u32 f4, .int .u16 f5, .int .u32 f6, .slice pa np pb, .int .i64 f7, .int .u32 f8] 39)).heap.size = g + 1 ∧ Below V.heap.size V (V.alloc (.cells #[.int .u8 k1, .int .u32 k2, .int .u16 k3, .int .u32 f4, .int .u16 f5, .int .u32 f6, .slice pa np pb, .int .i64 f7, .int .u32 f8] 39))) := ⟨hV.push [.int .u8 k1, .int .u32 k2, .int .u16 k3, .int .u32 f4, .int .u16 f5, .int .u32 f6, .slice pa np pb, .int .i64 f7, .int .u32 f8] 39 hg, by rw [World.size_alloc, hg], (Below.refl _ _).alloc (Nat.le_refl _) _⟩
  clear h hM hkey hV hS e1 e2 hq hps hr hr2 hy hn hnp hs' hp hl hsi i1 i2 hkx hmo
  go_enter Try.func13, Try.ntmps13
  go_upto_region 1 with fail
  refine wp_letter (fun X => TV S1 S2 p a b w X ((g, .cells #[.int .u8 k1, .int .u32 k2, .int .u16 k3, .int .u32 f4, .int .u16 f5, .int .u32 f6, .slice pa np pb, .int .i64 f7, .int .u32 f8] 39 (0, 0)) :: (D ++ L)) ∧ X.heap.size = g + 1 ∧ Below V.heap.size V X) (by exact HM0.out) ?_
  rintro X ⟨hX, hXs, hXb⟩
  clear HM0
  try simp only [World.size_alloc, hg]
  have HSS : Hid (∀ X L', TV S1 S2 p a b w X L' → (g, .cells #[.int .u8 k1, .int .u32 k2, .int .u16 k3, .int .u32 f4, .int .u16 f5, .int .u32 f6, .slice pa np pb, .int .i64 f7, .int .u32 f8] 39 (0, 0)) ∈ L' → (fun X => X.cell? ⟨p, 0, none⟩ = some (.map (some a)) ∧ X.cell? ⟨g, 0, none⟩ = some (.int .u8 k1) ∧ X.cell? ⟨g, 1, none⟩ = some (.int .u32 k2) ∧ X.cell? ⟨g, 2, none⟩ = some (.int .u16 k3) ∧ (Instr.lookup 66 (.map (some a)) (.agg #[.int .u8 k1, .int .u32 k2, .int .u16 k3]) true).run Try.prog X = .ok (.tuple #[.agg #[.int .u8 y1, .int .u32 y2, .int .u16 y3, .int .u32 y4, .int .u16 y5, .int .u32 y6, .slice qa n qc, .int .i64 y7, .int .u32 y8], .bool r]) X) X) := fun X L' hX hm => by
    obtain ⟨B, hM, -⟩ := hX.rest
    have hg := hM.at_ _ (List.mem_append_right _ hm)
    exact ⟨hX.keep.1, by rw [cell_of hg]; rfl, by rw [cell_of hg]; rfl, by rw [cell_of hg]; rfl, HLK.out X _ hX⟩
  have hXd := hX.drew
  have hXds : X.drew.heap.size = g + 1 := hXs
  have HXb : Hid (Below V.heap.size V X.drew) := hXb.drew
  clear hX hXs hXb
  refine wp_region_held_drew (S := (fun X => X.cell? ⟨p, 0, none⟩ = some (.map (some a)) ∧ X.cell? ⟨g, 0, none⟩ = some (.int .u8 k1) ∧ X.cell? ⟨g, 1, none⟩ = some (.int .u32 k2) ∧ X.cell? ⟨g, 2, none⟩ = some (.int .u16 k3) ∧ (Instr.lookup 66 (.map (some a)) (.agg #[.int .u8 k1, .int .u32 k2, .int .u16 k3]) true).run Try.prog X = .ok (.tuple #[.agg #[.int .u8 y1, .int .u32 y2, .int .u16 y3, .int .u32 y4, .int .u16 y5, .int .u32 y6, .slice qa n qc, .int .i64 y7, .int .u32 y8], .bool r]) X)) (by kernel_rfl) (HSS.out _ _ hXd (by simp)) (fun hHeld => ?_)
  generalize X.drew = X1 at *
  have HXD : Hid (TV S1 S2 p a b w X1 ((g, .cells #[.int .u8 k1, .int .u32 k2, .int .u16 k3, .int .u32 f4, .int .u16 f5, .int .u32 f6, .slice pa np pb, .int .i64 f7, .int .u32 f8] 39 (0, 0)) :: (D ++ L))) := hXd
  clear hXd
  refine wpAnyH_take (i := 0) (v := ?_) rfl (by kernel_rfl) (by kernel_rfl) (by kernel_rfl) (fun _ _ _ h => h) (Or.inl ⟨by rfl, ?z1⟩) (by assumption) ?_
  case z1 =>
   intro w hSw
   (try dsimp only at hSw)
   go_simp
   all_goals with_reducible rfl
  try simp only [List.getElem_toArray, List.getElem_cons_zero, List.getElem_cons_succ, Act.put, List.setIfInBounds_toArray, List.set_cons_zero, List.set_cons_succ]
  refine wpAnyH_take (i := 1) (v := ?_) rfl (by kernel_rfl) (by kernel_rfl) (by kernel_rfl) (fun _ _ _ h => h) (Or.inl ⟨by rfl, ?z2⟩) (by assumption) ?_
  case z2 =>
   intro w hSw
   (try dsimp only at hSw)
   go_simp
   all_goals with_reducible rfl
  try simp only [List.getElem_toArray, List.getElem_cons_zero, List.getElem_cons_succ, Act.put, List.setIfInBounds_toArray, List.set_cons_zero, List.set_cons_succ]
  refine wpAnyH_take (i := 2) (v := ?_) rfl (by kernel_rfl) (by kernel_rfl) (by kernel_rfl) (fun _ _ _ h => h) (Or.inl ⟨by rfl, ?z3⟩) (by assumption) ?_
  case z3 =>
   intro w hSw
   (try dsimp only at hSw)
   go_simp
   all_goals with_reducible rfl
  try simp only [List.getElem_toArray, List.getElem_cons_zero, List.getElem_cons_succ, Act.put, List.setIfInBounds_toArray, List.set_cons_zero, List.set_cons_succ]
  refine wpAnyH_take (i := 3) (v := ?_) rfl (by kernel_rfl) (by kernel_rfl) (by kernel_rfl) (fun _ _ _ h => h) (Or.inl ⟨by rfl, ?z4⟩) (by assumption) ?_
  case z4 =>
   intro w hSw
   (try dsimp only at hSw)
   go_simp
   all_goals with_reducible rfl
  try simp only [List.getElem_toArray, List.getElem_cons_zero, List.getElem_cons_succ, Act.put, List.setIfInBounds_toArray, List.set_cons_zero, List.set_cons_succ]
  refine wpAnyH_take (i := 4) (v := ?_) rfl (by kernel_rfl) (by kernel_rfl) (by kernel_rfl) (fun _ _ _ h => h) (Or.inl ⟨by rfl, ?z5⟩) (by assumption) ?_
  case z5 =>
   intro w hSw
   (try dsimp only at hSw)
   go_simp
   all_goals with_reducible rfl
  try simp only [List.getElem_toArray, List.getElem_cons_zero, List.getElem_cons_succ, Act.put, List.setIfInBounds_toArray, List.set_cons_zero, List.set_cons_succ]
  refine wpAnyH_take (i := 5) (v := ?_) rfl (by kernel_rfl) (by kernel_rfl) (by kernel_rfl) (fun _ _ _ h => h) (Or.inl ⟨by rfl, ?z6⟩) (by assumption) ?_
  case z6 =>
   intro w hSw
   (try dsimp only at hSw)
   go_simp
   all_goals with_reducible rfl
  try simp only [List.getElem_toArray, List.getElem_cons_zero, List.getElem_cons_succ, Act.put, List.setIfInBounds_toArray, List.set_cons_zero, List.set_cons_succ]
  refine wpAnyH_take (i := 6) (v := ?_) rfl (by kernel_rfl) (by kernel_rfl) (by kernel_rfl) (fun _ _ _ h => h) (Or.inl ⟨by rfl, ?z7⟩) (by assumption) ?_
  case z7 =>
   intro w hSw
   (try dsimp only at hSw)
   go_simp
   all_goals with_reducible rfl
  try simp only [List.getElem_toArray, List.getElem_cons_zero, List.getElem_cons_succ, Act.put, List.setIfInBounds_toArray, List.set_cons_zero, List.set_cons_succ]
  refine wpAnyH_take (i := 7) (v := ?_) rfl (by kernel_rfl) (by kernel_rfl) (by kernel_rfl) (fun _ _ _ h => h) (Or.inl ⟨by rfl, ?z8⟩) (by assumption) ?_
  case z8 =>
   intro w hSw
   (try dsimp only at hSw)
   go_simp
   all_goals with_reducible rfl
  try simp only [List.getElem_toArray, List.getElem_cons_zero, List.getElem_cons_succ, Act.put, List.setIfInBounds_toArray, List.set_cons_zero, List.set_cons_succ]
  refine wpAnyH_take (i := 8) (v := ?_) rfl (by kernel_rfl) (by kernel_rfl) (by kernel_rfl) (fun _ _ _ h => h) (Or.inl ⟨by rfl, ?z9⟩) (by assumption) ?_
  case z9 =>
   intro w hSw
   (try dsimp only at hSw)
   go_simp
   all_goals with_reducible rfl
  try simp only [List.getElem_toArray, List.getElem_cons_zero, List.getElem_cons_succ, Act.put, List.setIfInBounds_toArray, List.set_cons_zero, List.set_cons_succ]
  refine wpAnyH_take (i := 9) (v := ?_) rfl (by kernel_rfl) (by kernel_rfl) (by kernel_rfl) (fun _ _ _ h => h) (Or.inl ⟨by rfl, ?z10⟩) (by assumption) ?_
  case z10 =>
   intro w hSw
   (try dsimp only at hSw)
   go_simp
   all_goals with_reducible rfl
  try simp only [List.getElem_toArray, List.getElem_cons_zero, List.getElem_cons_succ, Act.put, List.setIfInBounds_toArray, List.set_cons_zero, List.set_cons_succ]
  refine wpAnyH_ready (rs := [10]) (by kernel_rfl) (by simp) ?_
  refine AllReadyH.cons rfl (fun K hK => ?_) AllReadyH.nil
  go_simp
  try simp only [hXds]
  refine hK.out _ _ (HSS.out _ _ (HXD.out.push [.int .u8 0, .int .u32 0, .int .u16 0, .int .u32 0, .int .u16 0, .int .u32 0, .slice none 0 0, .int .i64 0, .int .u32 0] 39 hXds) (by simp)) (fun hHeld => ?_)
  clear hK K
  try simp only [List.getElem_toArray, List.getElem_cons_zero, List.getElem_cons_succ, Act.put, List.setIfInBounds_toArray, List.set_cons_zero, List.set_cons_succ]
  refine wpAnyH_ready (rs := [11]) (by kernel_rfl) (by simp) ?_
  refine AllReadyH.cons rfl (fun K hK => ?_) AllReadyH.nil
  go_simp
  refine hK.out _ _ (HSS.out _ _ (HXD.out.push [.int .u8 y1, .int .u32 y2, .int .u16 y3, .int .u32 y4, .int .u16 y5, .int .u32 y6, .slice qa n qc, .int .i64 y7, .int .u32 y8] 39 hXds) (by simp)) (fun hHeld => ?_)
  clear hK K
  try simp only [List.getElem_toArray, List.getElem_cons_zero, List.getElem_cons_succ, Act.put, List.setIfInBounds_toArray, List.set_cons_zero, List.set_cons_succ]
  refine wpAnyH_take (i := 12) (v := ?_) rfl (by kernel_rfl) (by kernel_rfl) (by kernel_rfl) (fun _ _ _ h => h) (Or.inl ⟨by rfl, ?z11⟩) (by assumption) ?_
  case z11 =>
   intro w hSw
   (try dsimp only at hSw)
   go_simp
   all_goals with_reducible rfl
  try simp only [List.getElem_toArray, List.getElem_cons_zero, List.getElem_cons_succ, Act.put, List.setIfInBounds_toArray, List.set_cons_zero, List.set_cons_succ]
  refine wpAnyH_done (by kernel_rfl) ?_ _
  go_upto_region 2 with fail
  refine wp_letter (fun X => TV S1 S2 p a b w X ((g + 1, .cells #[.int .u8 y1, .int .u32 y2, .int .u16 y3, .int .u32 y4, .int .u16 y5, .int .u32 y6, .slice qa n qc, .int .i64 y7, .int .u32 y8] 39 (0, 0)) :: (g, .cells #[.int .u8 k1, .int .u32 k2, .int .u16 k3, .int .u32 f4, .int .u16 f5, .int .u32 f6, .slice pa np pb, .int .i64 f7, .int .u32 f8] 39 (0, 0)) :: (D ++ L)) ∧ Below V.heap.size V X) (by exact ⟨HXD.out.push [.int .u8 y1, .int .u32 y2, .int .u16 y3, .int .u32 y4, .int .u16 y5, .int .u32 y6, .slice qa n qc, .int .i64 y7, .int .u32 y8] 39 hXds, HXb.out.alloc (by rw [hXds, HG.out]; omega) _⟩) ?_
  rintro Y ⟨hY, hYb⟩
  clear HXD hXds hHeld HSS HXb
  have HYb : Hid (Below V.heap.size V Y.drew) := hYb.drew
  have HS2 : Hid (∀ X L', TV S1 S2 p a b w X L' → (g, .cells #[.int .u8 k1, .int .u32 k2, .int .u16 k3, .int .u32 f4, .int .u16 f5, .int .u32 f6, .slice pa np pb, .int .i64 f7, .int .u32 f8] 39 (0, 0)) ∈ L' → (fun X => X.cell? ⟨p, 1, none⟩ = some (.map (some b)) ∧ X.cell? ⟨g, 0, none⟩ = some (.int .u8 k1) ∧ X.cell? ⟨g, 1, none⟩ = some (.int .u32 k2) ∧ X.cell? ⟨g, 2, none⟩ = some (.int .u16 k3) ∧ X.cell? ⟨g, 3, none⟩ = some (.int .u32 f4) ∧ X.cell? ⟨g, 4, none⟩ = some (.int .u16 f5) ∧ X.cell? ⟨g, 5, none⟩ = some (.int .u32 f6) ∧ X.cell? ⟨g, 6, none⟩ = some (.slice pa np pb) ∧ X.cell? ⟨g, 7, none⟩ = some (.int .i64 f7) ∧ X.cell? ⟨g, 8, none⟩ = some (.int .u32 f8) ∧ (Instr.lookup 67 (.map (some b)) (.agg #[.int .u8 k1, .int .u32 f4, .int .u16 f5]) true).run Try.prog X = .ok (.tuple #[.agg #[.int .u8 x1, .int .u32 x2, .int .u16 x3], .bool r2]) X) X) := fun X L' hX hm => by
    obtain ⟨B, hM, -⟩ := hX.rest
    have hg := hM.at_ _ (List.mem_append_right _ hm)
    exact ⟨hX.keep.2, by rw [cell_of hg]; rfl, by rw [cell_of hg]; rfl, by rw [cell_of hg]; rfl, by rw [cell_of hg]; rfl, by rw [cell_of hg]; rfl, by rw [cell_of hg]; rfl, by rw [cell_of hg]; rfl, by rw [cell_of hg]; rfl, by rw [cell_of hg]; rfl, HLK2.out X _ hX⟩
  have HYD : Hid (TV S1 S2 p a b w Y.drew ((g + 1, .cells #[.int .u8 y1, .int .u32 y2, .int .u16 y3, .int .u32 y4, .int .u16 y5, .int .u32 y6, .slice qa n qc, .int .i64 y7, .int .u32 y8] 39 (0, 0)) :: (g, .cells #[.int .u8 k1, .int .u32 k2, .int .u16 k3, .int .u32 f4, .int .u16 f5, .int .u32 f6, .slice pa np pb, .int .i64 f7, .int .u32 f8] 39 (0, 0)) :: (D ++ L))) := hY.drew
  clear hY hYb
  generalize hYd : Y.drew = Y1 at HYb HYD
  have HYd : Hid (Y.drew = Y1) := hYd
  clear hYd
  go_cut [9, 10] from 21 to 30 (fun u9 u10 wx => u10 = .bool r2 ∧ AdR S1 S2 p a b w V ((g + 1, .cells #[.int .u8 y1, .int .u32 y2, .int .u16 y3, .int .u32 y4, .int .u16 y5, .int .u32 y6, .slice qa n qc, .int .i64 y7, .int .u32 y8] 39 (0, 0)) :: (g, .cells #[.int .u8 k1, .int .u32 k2, .int .u16 k3, .int .u32 f4, .int .u16 f5, .int .u32 f6, .slice pa np pb, .int .i64 f7, .int .u32 f8] 39 (0, 0)) :: (D ++ L)) wx)
  case first =>
    refine wp_region_held_drew (S := (fun X => X.cell? ⟨p, 1, none⟩ = some (.map (some b)) ∧ X.cell? ⟨g, 0, none⟩ = some (.int .u8 k1) ∧ X.cell? ⟨g, 1, none⟩ = some (.int .u32 k2) ∧ X.cell? ⟨g, 2, none⟩ = some (.int .u16 k3) ∧ X.cell? ⟨g, 3, none⟩ = some (.int .u32 f4) ∧ X.cell? ⟨g, 4, none⟩ = some (.int .u16 f5) ∧ X.cell? ⟨g, 5, none⟩ = some (.int .u32 f6) ∧ X.cell? ⟨g, 6, none⟩ = some (.slice pa np pb) ∧ X.cell? ⟨g, 7, none⟩ = some (.int .i64 f7) ∧ X.cell? ⟨g, 8, none⟩ = some (.int .u32 f8) ∧ (Instr.lookup 67 (.map (some b)) (.agg #[.int .u8 k1, .int .u32 f4, .int .u16 f5]) true).run Try.prog X = .ok (.tuple #[.agg #[.int .u8 x1, .int .u32 x2, .int .u16 x3], .bool r2]) X)) (by kernel_rfl) (by rw [HYd.out]; exact HS2.out _ _ HYD.out (by simp)) (fun hHeld => ?_)
    rw [HYd.out] at hHeld ⊢
    clear HYd
    have C1 := outof_any (W := Y1) k1 k2 k3 f4 f5 f6 (.slice pa np pb) f7 f8
    obtain ⟨h0, hh0⟩ : ∃ h0, Y1.heap.size = h0 := ⟨_, rfl⟩
    refine wpAnyH_take (i := 0) (v := ?_) rfl (by kernel_rfl) (by kernel_rfl) (by kernel_rfl) (fun _ _ _ h => h) (Or.inl ⟨by rfl, ?z12⟩) (by assumption) ?_
    case z12 =>
     intro w hSw
     (try dsimp only at hSw)
     go_simp
     all_goals with_reducible rfl
    try simp only [List.getElem_toArray, List.getElem_cons_zero, List.getElem_cons_succ, Act.put, List.setIfInBounds_toArray, List.set_cons_zero, List.set_cons_succ]
    refine wpAnyH_take (i := 1) (v := ?_) rfl (by kernel_rfl) (by kernel_rfl) (by kernel_rfl) (fun _ _ _ h => h) (Or.inl ⟨by rfl, ?z13⟩) (by assumption) ?_
    case z13 =>
     intro w hSw
     (try dsimp only at hSw)
     go_simp
     all_goals with_reducible rfl
    try simp only [List.getElem_toArray, List.getElem_cons_zero, List.getElem_cons_succ, Act.put, List.setIfInBounds_toArray, List.set_cons_zero, List.set_cons_succ]
    refine wpAnyH_take (i := 2) (v := ?_) rfl (by kernel_rfl) (by kernel_rfl) (by kernel_rfl) (fun _ _ _ h => h) (Or.inl ⟨by rfl, ?z14⟩) (by assumption) ?_
    case z14 =>
     intro w hSw
     (try dsimp only at hSw)
     go_simp
     all_goals with_reducible rfl
    try simp only [List.getElem_toArray, List.getElem_cons_zero, List.getElem_cons_succ, Act.put, List.setIfInBounds_toArray, List.set_cons_zero, List.set_cons_succ]
    refine wpAnyH_take (i := 3) (v := ?_) rfl (by kernel_rfl) (by kernel_rfl) (by kernel_rfl) (fun _ _ _ h => h) (Or.inl ⟨by rfl, ?z15⟩) (by assumption) ?_
    case z15 =>
     intro w hSw
     (try dsimp only at hSw)
     go_simp
     all_goals with_reducible rfl
    try simp only [List.getElem_toArray, List.getElem_cons_zero, List.getElem_cons_succ, Act.put, List.setIfInBounds_toArray, List.set_cons_zero, List.set_cons_succ]
    refine wpAnyH_take (i := 4) (v := ?_) rfl (by kernel_rfl) (by kernel_rfl) (by kernel_rfl) (fun _ _ _ h => h) (Or.inl ⟨by rfl, ?z16⟩) (by assumption) ?_
    case z16 =>
     intro w hSw
     (try dsimp only at hSw)
     go_simp
     all_goals with_reducible rfl
    try simp only [List.getElem_toArray, List.getElem_cons_zero, List.getElem_cons_succ, Act.put, List.setIfInBounds_toArray, List.set_cons_zero, List.set_cons_succ]
    refine wpAnyH_ready (rs := [5, 10]) (by kernel_rfl) (by simp) ?_
    refine AllReadyH.cons rfl (fun K hK => ?_) (AllReadyH.cons rfl (fun K hK => ?_) AllReadyH.nil)
    · skip
      go_simp
      with_reducible refine (C1).mono ?_
      rintro e Y2 ⟨rfl, hb2⟩
      try go_wp2_with fail
      have hV2 := HYD.out.after hb2
      have HV2 : Hid (TV S1 S2 p a b w Y2 ((g + 1, .cells #[.int .u8 y1, .int .u32 y2, .int .u16 y3, .int .u32 y4, .int .u16 y5, .int .u32 y6, .slice qa n qc, .int .i64 y7, .int .u32 y8] 39 (0, 0)) :: (g, .cells #[.int .u8 k1, .int .u32 k2, .int .u16 k3, .int .u32 f4, .int .u16 f5, .int .u32 f6, .slice pa np pb, .int .i64 f7, .int .u32 f8] 39 (0, 0)) :: (D ++ L))) := hV2
      have HB2 : Hid (Below V.heap.size V Y2) := HYb.out.trans (hb2.mono HYb.out.size)
      clear C1 hb2
      refine hK.out _ _ (HS2.out _ _ hV2 (by simp)) (fun hHeld => ?_)
      clear hK K
      try simp only [List.getElem_toArray, List.getElem_cons_zero, List.getElem_cons_succ, Act.put, List.setIfInBounds_toArray, List.set_cons_zero, List.set_cons_succ]
      obtain ⟨h1, hh1⟩ : ∃ h1, Y2.heap.size = h1 := ⟨_, rfl⟩
      refine wpAnyH_take (i := 6) (v := ?_) rfl (by kernel_rfl) (by kernel_rfl) (by kernel_rfl) (fun _ _ _ h => h) (Or.inl ⟨by rfl, ?z17⟩) (by assumption) ?_
      case z17 =>
       intro w hSw
       (try dsimp only at hSw)
       go_simp
       all_goals with_reducible rfl
      try simp only [List.getElem_toArray, List.getElem_cons_zero, List.getElem_cons_succ, Act.put, List.setIfInBounds_toArray, List.set_cons_zero, List.set_cons_succ]
      refine wpAnyH_take (i := 7) (v := ?_) rfl (by kernel_rfl) (by kernel_rfl) (by kernel_rfl) (fun _ _ _ h => h) (Or.inl ⟨by rfl, ?z18⟩) (by assumption) ?_
      case z18 =>
       intro w hSw
       (try dsimp only at hSw)
       go_simp
       all_goals with_reducible rfl
      try simp only [List.getElem_toArray, List.getElem_cons_zero, List.getElem_cons_succ, Act.put, List.setIfInBounds_toArray, List.set_cons_zero, List.set_cons_succ]
      refine wpAnyH_take (i := 8) (v := ?_) rfl (by kernel_rfl) (by kernel_rfl) (by kernel_rfl) (fun _ _ _ h => h) (Or.inl ⟨by rfl, ?z19⟩) (by assumption) ?_
      case z19 =>
       intro w hSw
       (try dsimp only at hSw)
       go_simp
       all_goals with_reducible rfl
      try simp only [List.getElem_toArray, List.getElem_cons_zero, List.getElem_cons_succ, Act.put, List.setIfInBounds_toArray, List.set_cons_zero, List.set_cons_succ]
      refine wpAnyH_take (i := 9) (v := ?_) rfl (by kernel_rfl) (by kernel_rfl) (by kernel_rfl) (fun _ _ _ h => h) (Or.inl ⟨by rfl, ?z20⟩) (by assumption) ?_
      case z20 =>
       intro w hSw
       (try dsimp only at hSw)
       go_simp
       all_goals with_reducible rfl
      try simp only [List.getElem_toArray, List.getElem_cons_zero, List.getElem_cons_succ, Act.put, List.setIfInBounds_toArray, List.set_cons_zero, List.set_cons_succ]
      refine wpAnyH_ready (rs := [10]) (by kernel_rfl) (by simp) ?_
      refine AllReadyH.cons rfl (fun K hK => ?_) AllReadyH.nil
      go_simp
      try simp only [hh1]
      refine hK.out _ _ (HS2.out _ _ (HV2.out.push [.int .u8 0, .int .u32 0, .int .u16 0] 36 hh1) (by simp)) (fun hHeld => ?_)
      clear hK K
      try simp only [List.getElem_toArray, List.getElem_cons_zero, List.getElem_cons_succ, Act.put, List.setIfInBounds_toArray, List.set_cons_zero, List.set_cons_succ]
      refine wpAnyH_ready (rs := [11]) (by kernel_rfl) (by simp) ?_
      refine AllReadyH.cons rfl (fun K hK => ?_) AllReadyH.nil
      go_simp
      refine hK.out _ _ (HS2.out _ _ (HV2.out.push [.int .u8 x1, .int .u32 x2, .int .u16 x3] 36 hh1) (by simp)) (fun hHeld => ?_)
      clear hK K
      try simp only [List.getElem_toArray, List.getElem_cons_zero, List.getElem_cons_succ, Act.put, List.setIfInBounds_toArray, List.set_cons_zero, List.set_cons_succ]
      refine wpAnyH_take (i := 12) (v := ?_) rfl (by kernel_rfl) (by kernel_rfl) (by kernel_rfl) (fun _ _ _ h => h) (Or.inl ⟨by rfl, ?z21⟩) (by assumption) ?_
      case z21 =>
       intro w hSw
       (try dsimp only at hSw)
       go_simp
       all_goals with_reducible rfl
      try simp only [List.getElem_toArray, List.getElem_cons_zero, List.getElem_cons_succ, Act.put, List.setIfInBounds_toArray, List.set_cons_zero, List.set_cons_succ]
      refine wpAnyH_done (by kernel_rfl) ?_ _
      go_wp2_with fail
      go_meet
      case rel => exact ⟨rfl, ⟨[(h1, .cells #[.int .u8 x1, .int .u32 x2, .int .u16 x3] 36 (0, 0))], HV2.out.push [.int .u8 x1, .int .u32 x2, .int .u16 x3] 36 hh1⟩, HB2.out.alloc HB2.out.size _⟩
    · skip
      go_simp
      try simp only [hh0]
      refine hK.out _ _ (HS2.out _ _ (HYD.out.push [.int .u8 0, .int .u32 0, .int .u16 0] 36 hh0) (by simp)) (fun hHeld => ?_)
      clear hK K
      try simp only [List.getElem_toArray, List.getElem_cons_zero, List.getElem_cons_succ, Act.put, List.setIfInBounds_toArray, List.set_cons_zero, List.set_cons_succ]
      have HP3 : Hid (TV S1 S2 p a b w (Y1.alloc (.cells #[.int .u8 0, .int .u32 0, .int .u16 0] 36)) ((h0, .cells #[.int .u8 0, .int .u32 0, .int .u16 0] 36 (0, 0)) :: ((g + 1, .cells #[.int .u8 y1, .int .u32 y2, .int .u16 y3, .int .u32 y4, .int .u16 y5, .int .u32 y6, .slice qa n qc, .int .i64 y7, .int .u32 y8] 39 (0, 0)) :: (g, .cells #[.int .u8 k1, .int .u32 k2, .int .u16 k3, .int .u32 f4, .int .u16 f5, .int .u32 f6, .slice pa np pb, .int .i64 f7, .int .u32 f8] 39 (0, 0)) :: (D ++ L))) ∧ Below V.heap.size V (Y1.alloc (.cells #[.int .u8 0, .int .u32 0, .int .u16 0] 36))) := ⟨HYD.out.push [.int .u8 0, .int .u32 0, .int .u16 0] 36 hh0, HYb.out.alloc HYb.out.size _⟩
      generalize Y1.alloc (.cells #[.int .u8 0, .int .u32 0, .int .u16 0] 36) = Y3 at *
      have C1 := outof_any (W := Y3) k1 k2 k3 f4 f5 f6 (.slice pa np pb) f7 f8
      refine wpAnyH_ready (rs := [5]) (by kernel_rfl) (by simp) ?_
      refine AllReadyH.cons rfl (fun K hK => ?_) AllReadyH.nil
      go_simp
      with_reducible refine (C1).mono ?_
      rintro e Y2 ⟨rfl, hb2⟩
      try go_wp2_with fail
      have hV2 := HP3.out.1.after hb2
      have HV2 : Hid (TV S1 S2 p a b w Y2 ((h0, .cells #[.int .u8 0, .int .u32 0, .int .u16 0] 36 (0, 0)) :: ((g + 1, .cells #[.int .u8 y1, .int .u32 y2, .int .u16 y3, .int .u32 y4, .int .u16 y5, .int .u32 y6, .slice qa n qc, .int .i64 y7, .int .u32 y8] 39 (0, 0)) :: (g, .cells #[.int .u8 k1, .int .u32 k2, .int .u16 k3, .int .u32 f4, .int .u16 f5, .int .u32 f6, .slice pa np pb, .int .i64 f7, .int .u32 f8] 39 (0, 0)) :: (D ++ L)))) := hV2
      have HB2 : Hid (Below V.heap.size V Y2) := HP3.out.2.trans (hb2.mono HP3.out.2.size)
      clear C1 hb2
      refine hK.out _ _ (HS2.out _ _ hV2 (by simp)) (fun hHeld => ?_)
      clear hK K
      try simp only [List.getElem_toArray, List.getElem_cons_zero, List.getElem_cons_succ, Act.put, List.setIfInBounds_toArray, List.set_cons_zero, List.set_cons_succ]
      refine wpAnyH_take (i := 6) (v := ?_) rfl (by kernel_rfl) (by kernel_rfl) (by kernel_rfl) (fun _ _ _ h => h) (Or.inl ⟨by rfl, ?z22⟩) (by assumption) ?_
      case z22 =>
       intro w hSw
       (try dsimp only at hSw)
       go_simp
       all_goals with_reducible rfl
      try simp only [List.getElem_toArray, List.getElem_cons_zero, List.getElem_cons_succ, Act.put, List.setIfInBounds_toArray, List.set_cons_zero, List.set_cons_succ]
      refine wpAnyH_take (i := 7) (v := ?_) rfl (by kernel_rfl) (by kernel_rfl) (by kernel_rfl) (fun _ _ _ h => h) (Or.inl ⟨by rfl, ?z23⟩) (by assumption) ?_
      case z23 =>
       intro w hSw
       (try dsimp only at hSw)
       go_simp
       all_goals with_reducible rfl
      try simp only [List.getElem_toArray, List.getElem_cons_zero, List.getElem_cons_succ, Act.put, List.setIfInBounds_toArray, List.set_cons_zero, List.set_cons_succ]
      refine wpAnyH_take (i := 8) (v := ?_) rfl (by kernel_rfl) (by kernel_rfl) (by kernel_rfl) (fun _ _ _ h => h) (Or.inl ⟨by rfl, ?z24⟩) (by assumption) ?_
      case z24 =>
       intro w hSw
       (try dsimp only at hSw)
       go_simp
       all_goals with_reducible rfl
      try simp only [List.getElem_toArray, List.getElem_cons_zero, List.getElem_cons_succ, Act.put, List.setIfInBounds_toArray, List.set_cons_zero, List.set_cons_succ]
      refine wpAnyH_take (i := 9) (v := ?_) rfl (by kernel_rfl) (by kernel_rfl) (by kernel_rfl) (fun _ _ _ h => h) (Or.inl ⟨by rfl, ?z25⟩) (by assumption) ?_
      case z25 =>
       intro w hSw
       (try dsimp only at hSw)
       go_simp
       all_goals with_reducible rfl
      try simp only [List.getElem_toArray, List.getElem_cons_zero, List.getElem_cons_succ, Act.put, List.setIfInBounds_toArray, List.set_cons_zero, List.set_cons_succ]
      obtain ⟨B2, hM2, hB2⟩ := HV2.out.rest
      have hM3 := hM2.perm (show List.Perm _ ((h0, .cells #[.int .u8 0, .int .u32 0, .int .u16 0] 36 (0, 0)) :: (B2 ++ ((g + 1, .cells #[.int .u8 y1, .int .u32 y2, .int .u16 y3, .int .u32 y4, .int .u16 y5, .int .u32 y6, .slice qa n qc, .int .i64 y7, .int .u32 y8] 39 (0, 0)) :: (g, .cells #[.int .u8 k1, .int .u32 k2, .int .u16 k3, .int .u32 f4, .int .u16 f5, .int .u32 f6, .slice pa np pb, .int .i64 f7, .int .u32 f8] 39 (0, 0)) :: (D ++ L)))) from by
          classical
          rw [List.perm_iff_count]
          intro q
          simp only [List.count_append, List.count_cons, List.count_nil]
          omega)
      have t0 : Y2.cell? ⟨h0, 0, none⟩ = some (.int .u8 0) := hM3.cell 0 rfl 0
      have t1 : Y2.cell? ⟨h0, 1, none⟩ = some (.int .u32 0) := hM3.cell 0 rfl 1
      have t2 : Y2.cell? ⟨h0, 2, none⟩ = some (.int .u16 0) := hM3.cell 0 rfl 2
      have t9 : ∀ k, Y2.frozen? ⟨h0, k, none⟩ = false := hM3.free 0 rfl
      have hlow : V.heap.size ≤ h0 := by rw [← hh0]; exact HYb.out.size
      have hM4 : Mem w (((Y2.setCell ⟨h0, 0, none⟩ (.int .u8 x1)).setCell ⟨h0, 1, none⟩ (.int .u32 x2)).setCell ⟨h0, 2, none⟩ (.int .u16 x3)) ((h0, .cells #[.int .u8 x1, .int .u32 x2, .int .u16 x3] 36 (0, 0)) :: (B2 ++ ((g + 1, .cells #[.int .u8 y1, .int .u32 y2, .int .u16 y3, .int .u32 y4, .int .u16 y5, .int .u32 y6, .slice qa n qc, .int .i64 y7, .int .u32 y8] 39 (0, 0)) :: (g, .cells #[.int .u8 k1, .int .u32 k2, .int .u16 k3, .int .u32 f4, .int .u16 f5, .int .u32 f6, .slice pa np pb, .int .i64 f7, .int .u32 f8] 39 (0, 0)) :: (D ++ L)))) := ((hM3.set 0 rfl 0 (.int .u8 x1)).set 0 rfl 1 (.int .u32 x2)).set 0 rfl 2 (.int .u16 x3)
      have hV4 : TV S1 S2 p a b w (((Y2.setCell ⟨h0, 0, none⟩ (.int .u8 x1)).setCell ⟨h0, 1, none⟩ (.int .u32 x2)).setCell ⟨h0, 2, none⟩ (.int .u16 x3)) ((h0, .cells #[.int .u8 x1, .int .u32 x2, .int .u16 x3] 36 (0, 0)) :: ((g + 1, .cells #[.int .u8 y1, .int .u32 y2, .int .u16 y3, .int .u32 y4, .int .u16 y5, .int .u32 y6, .slice qa n qc, .int .i64 y7, .int .u32 y8] 39 (0, 0)) :: (g, .cells #[.int .u8 k1, .int .u32 k2, .int .u16 k3, .int .u32 f4, .int .u16 f5, .int .u32 f6, .slice pa np pb, .int .i64 f7, .int .u32 f8] 39 (0, 0)) :: (D ++ L))) := hB2 _ _ (hM4.perm (by
          classical
          rw [List.perm_iff_count]
          intro q
          simp only [List.count_append, List.count_cons, List.count_nil]
          omega))
      have HV4 : Hid (TV S1 S2 p a b w (((Y2.setCell ⟨h0, 0, none⟩ (.int .u8 x1)).setCell ⟨h0, 1, none⟩ (.int .u32 x2)).setCell ⟨h0, 2, none⟩ (.int .u16 x3)) ((h0, .cells #[.int .u8 x1, .int .u32 x2, .int .u16 x3] 36 (0, 0)) :: ((g + 1, .cells #[.int .u8 y1, .int .u32 y2, .int .u16 y3, .int .u32 y4, .int .u16 y5, .int .u32 y6, .slice qa n qc, .int .i64 y7, .int .u32 y8] 39 (0, 0)) :: (g, .cells #[.int .u8 k1, .int .u32 k2, .int .u16 k3, .int .u32 f4, .int .u16 f5, .int .u32 f6, .slice pa np pb, .int .i64 f7, .int .u32 f8] 39 (0, 0)) :: (D ++ L))) ∧ Below V.heap.size V (((Y2.setCell ⟨h0, 0, none⟩ (.int .u8 x1)).setCell ⟨h0, 1, none⟩ (.int .u32 x2)).setCell ⟨h0, 2, none⟩ (.int .u16 x3))) := ⟨hV4, ((HB2.out.setCell hlow _).setCell hlow _).setCell hlow _⟩
      clear hM2 hM3 hM4 hB2 hV4
      refine wpAnyH_ready (rs := [11]) (by kernel_rfl) (by simp) ?_
      refine AllReadyH.cons rfl (fun K hK => ?_) AllReadyH.nil
      go_simp
      refine hK.out _ _ (HS2.out _ _ HV4.out.1 (by simp)) (fun hHeld => ?_)
      clear hK K
      try simp only [List.getElem_toArray, List.getElem_cons_zero, List.getElem_cons_succ, Act.put, List.setIfInBounds_toArray, List.set_cons_zero, List.set_cons_succ]
      refine wpAnyH_take (i := 12) (v := ?_) rfl (by kernel_rfl) (by kernel_rfl) (by kernel_rfl) (fun _ _ _ h => h) (Or.inl ⟨by rfl, ?z26⟩) (by assumption) ?_
      case z26 =>
       intro w hSw
       (try dsimp only at hSw)
       go_simp
       all_goals with_reducible rfl
      try simp only [List.getElem_toArray, List.getElem_cons_zero, List.getElem_cons_succ, Act.put, List.setIfInBounds_toArray, List.set_cons_zero, List.set_cons_succ]
      refine wpAnyH_done (by kernel_rfl) ?_ _
      go_wp2_with fail
      go_meet
      case rel => exact ⟨rfl, ⟨[(h0, .cells #[.int .u8 x1, .int .u32 x2, .int .u16 x3] 36 (0, 0))], HV4.out.1⟩, HV4.out.2⟩
  case rest =>
    obtain ⟨rfl, hR⟩ := hcut
    clear HS2 HYb HYD HYd HLK HLK2
    have HR : Hid (AdR S1 S2 p a b w V ((g + 1, .cells #[.int .u8 y1, .int .u32 y2, .int .u16 y3, .int .u32 y4, .int .u16 y5, .int .u32 y6, .slice qa n qc, .int .i64 y7, .int .u32 y8] 39 (0, 0)) :: (g, .cells #[.int .u8 k1, .int .u32 k2, .int .u16 k3, .int .u32 f4, .int .u16 f5, .int .u32 f6, .slice pa np pb, .int .i64 f7, .int .u32 f8] 39 (0, 0)) :: (D ++ L)) wc) := hR
    clear hR
    cases r with
    | true =>
      go_wp2_with fail
      go_ret
      obtain ⟨E, hE⟩ := HR.out.1
      obtain ⟨B', hB', hM5⟩ := (hE.perm (L' := (E ++ ((g + 1, .cells #[.int .u8 y1, .int .u32 y2, .int .u16 y3, .int .u32 y4, .int .u16 y5, .int .u32 y6, .slice qa n qc, .int .i64 y7, .int .u32 y8] 39 (0, 0)) :: (g, .cells #[.int .u8 k1, .int .u32 k2, .int .u16 k3, .int .u32 f4, .int .u16 f5, .int .u32 f6, .slice pa np pb, .int .i64 f7, .int .u32 f8] 39 (0, 0)) :: D)) ++ L) (by
    classical
    rw [List.perm_iff_count]
    intro q
    simp only [List.count_append, List.count_cons, List.count_nil]
    omega)).shut (HS.out.mono fun q hq => by simp [hq])
      obtain ⟨c1, c2⟩ := ac_one (most := most) HSI.out.2.1
      exact ⟨by rw [c1]; rfl, B', by rw [c2]; exact hB', hM5⟩
    | false =>
    cases r2 with
    | true =>
      go_wp2_with fail
      go_ret
      obtain ⟨E, hE⟩ := HR.out.1
      obtain ⟨B', hB', hM5⟩ := (hE.perm (L' := (E ++ ((g + 1, .cells #[.int .u8 y1, .int .u32 y2, .int .u16 y3, .int .u32 y4, .int .u16 y5, .int .u32 y6, .slice qa n qc, .int .i64 y7, .int .u32 y8] 39 (0, 0)) :: (g, .cells #[.int .u8 k1, .int .u32 k2, .int .u16 k3, .int .u32 f4, .int .u16 f5, .int .u32 f6, .slice pa np pb, .int .i64 f7, .int .u32 f8] 39 (0, 0)) :: D)) ++ L) (by
    classical
    rw [List.perm_iff_count]
    intro q
    simp only [List.count_append, List.count_cons, List.count_nil]
    omega)).shut (HS.out.mono fun q hq => by simp [hq])
      obtain ⟨c1, c2⟩ := ac_two (most := most) HSI.out.2.1 HSI.out.2.2
      exact ⟨by rw [c1]; rfl, B', by rw [c2]; exact hB', hM5⟩
    | false =>
    obtain ⟨E, hE⟩ := HR.out.1
    have hEb := HR.out.2
    clear HR
    have HE : Hid (TV S1 S2 p a b w wc (E ++ ((g + 1, .cells #[.int .u8 y1, .int .u32 y2, .int .u16 y3, .int .u32 y4, .int .u16 y5, .int .u32 y6, .slice qa n qc, .int .i64 y7, .int .u32 y8] 39 (0, 0)) :: (g, .cells #[.int .u8 k1, .int .u32 k2, .int .u16 k3, .int .u32 f4, .int .u16 f5, .int .u32 f6, .slice pa np pb, .int .i64 f7, .int .u32 f8] 39 (0, 0)) :: (D ++ L)))) := hE
    obtain ⟨B5, hP5, hM5⟩ := (hE.perm (L' := D ++ (E ++ ((g + 1, .cells #[.int .u8 y1, .int .u32 y2, .int .u16 y3, .int .u32 y4, .int .u16 y5, .int .u32 y6, .slice qa n qc, .int .i64 y7, .int .u32 y8] 39 (0, 0)) :: (g, .cells #[.int .u8 k1, .int .u32 k2, .int .u16 k3, .int .u32 f4, .int .u16 f5, .int .u32 f6, .slice pa np pb, .int .i64 f7, .int .u32 f8] 39 (0, 0)) :: L))) (by
    classical
    rw [List.perm_iff_count]
    intro q
    simp only [List.count_append, List.count_cons, List.count_nil]
    omega)).shut HS.out
    have C5 := len_any hP5 hM5
    obtain ⟨N, hN⟩ : ∃ N, xs.length = N := ⟨_, rfl⟩
    have HN : Hid (xs.length = N) := hN
    rw [hN] at C5
    have HEb : Hid (Below V.heap.size V wc) := hEb
    clear hE hP5 hM5 hN hEb
    go_wp2_with fail
    with_reducible refine C5.mono ?_
    rintro e Y5 ⟨rfl, rfl⟩
    clear C5
    by_cases hmn : most ≤ (N : Int)
    · go_wp2_with fail
      go_ret
      obtain ⟨B', hB', hM5⟩ := (HE.out.perm (L' := (E ++ ((g + 1, .cells #[.int .u8 y1, .int .u32 y2, .int .u16 y3, .int .u32 y4, .int .u16 y5, .int .u32 y6, .slice qa n qc, .int .i64 y7, .int .u32 y8] 39 (0, 0)) :: (g, .cells #[.int .u8 k1, .int .u32 k2, .int .u16 k3, .int .u32 f4, .int .u16 f5, .int .u32 f6, .slice pa np pb, .int .i64 f7, .int .u32 f8] 39 (0, 0)) :: D)) ++ L) (by
    classical
    rw [List.perm_iff_count]
    intro q
    simp only [List.count_append, List.count_cons, List.count_nil]
    omega)).shut (HS.out.mono fun q hq => by simp [hq])
      obtain ⟨c1, c2⟩ := ac_full (most := most) HSI.out.2.1 HSI.out.2.2 (by rw [HN.out]; exact hmn)
      exact ⟨by rw [c1]; rfl, B', by rw [c2]; exact hB', hM5⟩
    · have hmn2 : ¬ (N : Int) ≥ most := by omega
      have HMN : Hid (¬ most ≤ (N : Int)) := hmn
      clear hmn
      go_upto_region 7 with fail
      have HS7 : Hid (∀ S1 X L', TV S1 S2 p a b w X L' → (g, .cells #[.int .u8 k1, .int .u32 k2, .int .u16 k3, .int .u32 f4, .int .u16 f5, .int .u32 f6, .slice pa np pb, .int .i64 f7, .int .u32 f8] 39 (0, 0)) ∈ L' → (fun X => X.cell? ⟨p, 0, none⟩ = some (.map (some a)) ∧ X.cell? ⟨g, 0, none⟩ = some (.int .u8 k1) ∧ X.cell? ⟨g, 1, none⟩ = some (.int .u32 k2) ∧ X.cell? ⟨g, 2, none⟩ = some (.int .u16 k3) ∧ X.cell? ⟨g, 3, none⟩ = some (.int .u32 f4) ∧ X.cell? ⟨g, 4, none⟩ = some (.int .u16 f5) ∧ X.cell? ⟨g, 5, none⟩ = some (.int .u32 f6) ∧ X.cell? ⟨g, 6, none⟩ = some (.slice pa np pb) ∧ X.cell? ⟨g, 7, none⟩ = some (.int .i64 f7) ∧ X.cell? ⟨g, 8, none⟩ = some (.int .u32 f8)) X) := fun S1 X L' hX hm => by
        obtain ⟨B, hM, -⟩ := hX.rest
        have hg := hM.at_ _ (List.mem_append_right _ hm)
        exact ⟨hX.keep.1, by rw [cell_of hg]; rfl, by rw [cell_of hg]; rfl, by rw [cell_of hg]; rfl, by rw [cell_of hg]; rfl, by rw [cell_of hg]; rfl, by rw [cell_of hg]; rfl, by rw [cell_of hg]; rfl, by rw [cell_of hg]; rfl, by rw [cell_of hg]; rfl⟩
      have hXd := HE.out.drew
      have HXb : Hid (Below V.heap.size V wc.drew) := HEb.out.drew
      clear HE HEb
      refine wp_region_held_drew (S := (fun X => X.cell? ⟨p, 0, none⟩ = some (.map (some a)) ∧ X.cell? ⟨g, 0, none⟩ = some (.int .u8 k1) ∧ X.cell? ⟨g, 1, none⟩ = some (.int .u32 k2) ∧ X.cell? ⟨g, 2, none⟩ = some (.int .u16 k3) ∧ X.cell? ⟨g, 3, none⟩ = some (.int .u32 f4) ∧ X.cell? ⟨g, 4, none⟩ = some (.int .u16 f5) ∧ X.cell? ⟨g, 5, none⟩ = some (.int .u32 f6) ∧ X.cell? ⟨g, 6, none⟩ = some (.slice pa np pb) ∧ X.cell? ⟨g, 7, none⟩ = some (.int .i64 f7) ∧ X.cell? ⟨g, 8, none⟩ = some (.int .u32 f8))) (by kernel_rfl) (HS7.out _ _ _ hXd (by simp)) (fun hHeld => ?_)
      generalize wc.drew = X1 at *
      have HXD : Hid (TV S1 S2 p a b w X1 (E ++ ((g + 1, .cells #[.int .u8 y1, .int .u32 y2, .int .u16 y3, .int .u32 y4, .int .u16 y5, .int .u32 y6, .slice qa n qc, .int .i64 y7, .int .u32 y8] 39 (0, 0)) :: (g, .cells #[.int .u8 k1, .int .u32 k2, .int .u16 k3, .int .u32 f4, .int .u16 f5, .int .u32 f6, .slice pa np pb, .int .i64 f7, .int .u32 f8] 39 (0, 0)) :: (D ++ L)))) := hXd
      obtain ⟨B5, hM5, hB5⟩ := hXd.rest
      have C1 : Calls Try.prog 37 #[.agg #[.int .u8 k1, .int .u32 k2, .int .u16 k3, .int .u32 f4, .int .u16 f5, .int .u32 f6, .slice pa np pb, .int .i64 f7, .int .u32 f8]] X1 (CpQ w (B5 ++ (E ++ ((g + 1, .cells #[.int .u8 y1, .int .u32 y2, .int .u16 y3, .int .u32 y4, .int .u16 y5, .int .u32 y6, .slice qa n qc, .int .i64 y7, .int .u32 y8] 39 (0, 0)) :: (g, .cells #[.int .u8 k1, .int .u32 k2, .int .u16 k3, .int .u32 f4, .int .u16 f5, .int .u32 f6, .slice pa np pb, .int .i64 f7, .int .u32 f8] 39 (0, 0)) :: (D ++ L)))) ⟨k1, k2, k3, f4, f5, f6, ps, f7, f8⟩) := copied_any (s := ⟨k1, k2, k3, f4, f5, f6, ps, f7, f8⟩) ⟨.slice pa np pb, rfl, by rw [← HNP.out]; exact HPR.out.below HXb.out (Nat.le_refl _)⟩ hM5 (by have := HPS.out; simp only; omega)
      have HB5 : Hid (∀ V' L', Mem w V' (B5 ++ L') → TV S1 S2 p a b w V' L') := hB5
      clear hXd hM5 hB5
      refine wpAnyH_take (i := 0) (v := ?_) rfl (by kernel_rfl) (by kernel_rfl) (by kernel_rfl) (fun _ _ _ h => h) (Or.inl ⟨by rfl, ?z27⟩) (by assumption) ?_
      case z27 =>
       intro w hSw
       (try dsimp only at hSw)
       go_simp
       all_goals with_reducible rfl
      try simp only [List.getElem_toArray, List.getElem_cons_zero, List.getElem_cons_succ, Act.put, List.setIfInBounds_toArray, List.set_cons_zero, List.set_cons_succ]
      refine wpAnyH_take (i := 1) (v := ?_) rfl (by kernel_rfl) (by kernel_rfl) (by kernel_rfl) (fun _ _ _ h => h) (Or.inl ⟨by rfl, ?z28⟩) (by assumption) ?_
      case z28 =>
       intro w hSw
       (try dsimp only at hSw)
       go_simp
       all_goals with_reducible rfl
      try simp only [List.getElem_toArray, List.getElem_cons_zero, List.getElem_cons_succ, Act.put, List.setIfInBounds_toArray, List.set_cons_zero, List.set_cons_succ]
      refine wpAnyH_take (i := 2) (v := ?_) rfl (by kernel_rfl) (by kernel_rfl) (by kernel_rfl) (fun _ _ _ h => h) (Or.inl ⟨by rfl, ?z29⟩) (by assumption) ?_
      case z29 =>
       intro w hSw
       (try dsimp only at hSw)
       go_simp
       all_goals with_reducible rfl
      try simp only [List.getElem_toArray, List.getElem_cons_zero, List.getElem_cons_succ, Act.put, List.setIfInBounds_toArray, List.set_cons_zero, List.set_cons_succ]
      refine wpAnyH_take (i := 3) (v := ?_) rfl (by kernel_rfl) (by kernel_rfl) (by kernel_rfl) (fun _ _ _ h => h) (Or.inl ⟨by rfl, ?z30⟩) (by assumption) ?_
      case z30 =>
       intro w hSw
       (try dsimp only at hSw)
       go_simp
       all_goals with_reducible rfl
      try simp only [List.getElem_toArray, List.getElem_cons_zero, List.getElem_cons_succ, Act.put, List.setIfInBounds_toArray, List.set_cons_zero, List.set_cons_succ]
      refine wpAnyH_take (i := 4) (v := ?_) rfl (by kernel_rfl) (by kernel_rfl) (by kernel_rfl) (fun _ _ _ h => h) (Or.inl ⟨by rfl, ?z31⟩) (by assumption) ?_
      case z31 =>
       intro w hSw
       (try dsimp only at hSw)
       go_simp
       all_goals with_reducible rfl
      try simp only [List.getElem_toArray, List.getElem_cons_zero, List.getElem_cons_succ, Act.put, List.setIfInBounds_toArray, List.set_cons_zero, List.set_cons_succ]
      refine wpAnyH_take (i := 5) (v := ?_) rfl (by kernel_rfl) (by kernel_rfl) (by kernel_rfl) (fun _ _ _ h => h) (Or.inl ⟨by rfl, ?z32⟩) (by assumption) ?_
      case z32 =>
       intro w hSw
       (try dsimp only at hSw)
       go_simp
       all_goals with_reducible rfl
      try simp only [List.getElem_toArray, List.getElem_cons_zero, List.getElem_cons_succ, Act.put, List.setIfInBounds_toArray, List.set_cons_zero, List.set_cons_succ]
      refine wpAnyH_take (i := 6) (v := ?_) rfl (by kernel_rfl) (by kernel_rfl) (by kernel_rfl) (fun _ _ _ h => h) (Or.inl ⟨by rfl, ?z33⟩) (by assumption) ?_
      case z33 =>
       intro w hSw
       (try dsimp only at hSw)
       go_simp
       all_goals with_reducible rfl
      try simp only [List.getElem_toArray, List.getElem_cons_zero, List.getElem_cons_succ, Act.put, List.setIfInBounds_toArray, List.set_cons_zero, List.set_cons_succ]
      refine wpAnyH_ready (rs := [7]) (by kernel_rfl) (by simp) ?_
      refine AllReadyH.cons rfl (fun K hK => ?_) AllReadyH.nil
      go_simp
      with_reducible refine (C1).mono ?_
      rintro e X2 ⟨val, D1, rfl, hsd, hM6⟩
      try go_wp2_with fail
      have hV6 : TV S1 S2 p a b w X2 ((E ++ ((g + 1, .cells #[.int .u8 y1, .int .u32 y2, .int .u16 y3, .int .u32 y4, .int .u16 y5, .int .u32 y6, .slice qa n qc, .int .i64 y7, .int .u32 y8] 39 (0, 0)) :: (g, .cells #[.int .u8 k1, .int .u32 k2, .int .u16 k3, .int .u32 f4, .int .u16 f5, .int .u32 f6, .slice pa np pb, .int .i64 f7, .int .u32 f8] 39 (0, 0)) :: (D1 ++ D))) ++ L) := HB5.out _ _ (hM6.perm (by
          classical
          rw [List.perm_iff_count]
          intro q
          simp only [List.count_append, List.count_cons, List.count_nil]
          omega))
      have HV6 : Hid (TV S1 S2 p a b w X2 ((E ++ ((g + 1, .cells #[.int .u8 y1, .int .u32 y2, .int .u16 y3, .int .u32 y4, .int .u16 y5, .int .u32 y6, .slice qa n qc, .int .i64 y7, .int .u32 y8] 39 (0, 0)) :: (g, .cells #[.int .u8 k1, .int .u32 k2, .int .u16 k3, .int .u32 f4, .int .u16 f5, .int .u32 f6, .slice pa np pb, .int .i64 f7, .int .u32 f8] 39 (0, 0)) :: (D1 ++ D))) ++ L)) := hV6
      have HSD : Hid (SD D1 val ⟨k1, k2, k3, f4, f5, f6, ps, f7, f8⟩) := hsd
      clear C1 hM6 hsd
      refine hK.out _ _ (HS7.out _ _ _ hV6 (by simp)) (fun hHeld => ?_)
      clear hK K
      try simp only [List.getElem_toArray, List.getElem_cons_zero, List.getElem_cons_succ, Act.put, List.setIfInBounds_toArray, List.set_cons_zero, List.set_cons_succ]
      refine wpAnyH_ready (rs := [8]) (by kernel_rfl) (by simp) ?_
      refine AllReadyH.cons rfl (fun K hK => ?_) AllReadyH.nil
      have hdom : ∃ l : List Ky, l.length ≤ 2000 ∧ ∀ q, S1 q ≠ none → q ∈ l := ⟨xs.map key, by rw [List.length_map]; have := HLn.out; omega, fun q hq => (HS.out.keys.2 q).1 hq⟩
      obtain ⟨ob, hrun, hV7⟩ := HV6.out.put1 (k := (k1, k2, k3)) (by have := HSI.out.1.1; rw [← HS'.out] at this; exact this) val hdom
      simp only [kv] at hrun
      go_simp
      refine hK.out _ _ (HS7.out _ _ _ hV7 (by simp)) (fun hHeld => ?_)
      clear hK K
      try simp only [List.getElem_toArray, List.getElem_cons_zero, List.getElem_cons_succ, Act.put, List.setIfInBounds_toArray, List.set_cons_zero, List.set_cons_succ]
      refine wpAnyH_done (by kernel_rfl) ?_ _
      have HV7 : Hid (TV (upd S1 (k1, k2, k3) (some val)) S2 p a b w (Go.ChangeMaps.setBlock X2 a ob) ((E ++ ((g + 1, .cells #[.int .u8 y1, .int .u32 y2, .int .u16 y3, .int .u32 y4, .int .u16 y5, .int .u32 y6, .slice qa n qc, .int .i64 y7, .int .u32 y8] 39 (0, 0)) :: (g, .cells #[.int .u8 k1, .int .u32 k2, .int .u16 k3, .int .u32 f4, .int .u16 f5, .int .u32 f6, .slice pa np pb, .int .i64 f7, .int .u32 f8] 39 (0, 0)) :: (D1 ++ D))) ++ L)) := hV7
      clear hV7 hV6 hHeld hrun HS7 HXD HV6 HXb HB5
      go_upto_region 8 with fail
      refine wp_letter (fun X => TV (upd S1 (k1, k2, k3) (some val)) S2 p a b w X ((E ++ ((g + 1, .cells #[.int .u8 y1, .int .u32 y2, .int .u16 y3, .int .u32 y4, .int .u16 y5, .int .u32 y6, .slice qa n qc, .int .i64 y7, .int .u32 y8] 39 (0, 0)) :: (g, .cells #[.int .u8 k1, .int .u32 k2, .int .u16 k3, .int .u32 f4, .int .u16 f5, .int .u32 f6, .slice pa np pb, .int .i64 f7, .int .u32 f8] 39 (0, 0)) :: (D1 ++ D))) ++ L)) (by exact HV7.out) ?_
      intro X hX
      clear HV7
      have HS8 : Hid (∀ S1 S2 X L', TV S1 S2 p a b w X L' → (g, .cells #[.int .u8 k1, .int .u32 k2, .int .u16 k3, .int .u32 f4, .int .u16 f5, .int .u32 f6, .slice pa np pb, .int .i64 f7, .int .u32 f8] 39 (0, 0)) ∈ L' → (fun X => X.cell? ⟨p, 1, none⟩ = some (.map (some b)) ∧ X.cell? ⟨g, 0, none⟩ = some (.int .u8 k1) ∧ X.cell? ⟨g, 1, none⟩ = some (.int .u32 k2) ∧ X.cell? ⟨g, 2, none⟩ = some (.int .u16 k3) ∧ X.cell? ⟨g, 3, none⟩ = some (.int .u32 f4) ∧ X.cell? ⟨g, 4, none⟩ = some (.int .u16 f5) ∧ X.cell? ⟨g, 5, none⟩ = some (.int .u32 f6) ∧ X.cell? ⟨g, 6, none⟩ = some (.slice pa np pb) ∧ X.cell? ⟨g, 7, none⟩ = some (.int .i64 f7) ∧ X.cell? ⟨g, 8, none⟩ = some (.int .u32 f8)) X) := fun S1 S2 X L' hX hm => by
        obtain ⟨B, hM, -⟩ := hX.rest
        have hg := hM.at_ _ (List.mem_append_right _ hm)
        exact ⟨hX.keep.2, by rw [cell_of hg]; rfl, by rw [cell_of hg]; rfl, by rw [cell_of hg]; rfl, by rw [cell_of hg]; rfl, by rw [cell_of hg]; rfl, by rw [cell_of hg]; rfl, by rw [cell_of hg]; rfl, by rw [cell_of hg]; rfl, by rw [cell_of hg]; rfl⟩
      have hXd := hX.drew
      clear hX
      refine wp_region_held_drew (S := (fun X => X.cell? ⟨p, 1, none⟩ = some (.map (some b)) ∧ X.cell? ⟨g, 0, none⟩ = some (.int .u8 k1) ∧ X.cell? ⟨g, 1, none⟩ = some (.int .u32 k2) ∧ X.cell? ⟨g, 2, none⟩ = some (.int .u16 k3) ∧ X.cell? ⟨g, 3, none⟩ = some (.int .u32 f4) ∧ X.cell? ⟨g, 4, none⟩ = some (.int .u16 f5) ∧ X.cell? ⟨g, 5, none⟩ = some (.int .u32 f6) ∧ X.cell? ⟨g, 6, none⟩ = some (.slice pa np pb) ∧ X.cell? ⟨g, 7, none⟩ = some (.int .i64 f7) ∧ X.cell? ⟨g, 8, none⟩ = some (.int .u32 f8))) (by kernel_rfl) (HS8.out _ _ _ _ hXd (by simp)) (fun hHeld => ?_)
      have HXD : Hid (TV (upd S1 (k1, k2, k3) (some val)) S2 p a b w X.drew ((E ++ ((g + 1, .cells #[.int .u8 y1, .int .u32 y2, .int .u16 y3, .int .u32 y4, .int .u16 y5, .int .u32 y6, .slice qa n qc, .int .i64 y7, .int .u32 y8] 39 (0, 0)) :: (g, .cells #[.int .u8 k1, .int .u32 k2, .int .u16 k3, .int .u32 f4, .int .u16 f5, .int .u32 f6, .slice pa np pb, .int .i64 f7, .int .u32 f8] 39 (0, 0)) :: (D1 ++ D))) ++ L)) := hXd
      clear hXd
      generalize X.drew = X3 at *
      have C1 := outof_any (W := X3) k1 k2 k3 f4 f5 f6 (.slice pa np pb) f7 f8
      refine wpAnyH_take (i := 0) (v := ?_) rfl (by kernel_rfl) (by kernel_rfl) (by kernel_rfl) (fun _ _ _ h => h) (Or.inl ⟨by rfl, ?z34⟩) (by assumption) ?_
      case z34 =>
       intro w hSw
       (try dsimp only at hSw)
       go_simp
       all_goals with_reducible rfl
      try simp only [List.getElem_toArray, List.getElem_cons_zero, List.getElem_cons_succ, Act.put, List.setIfInBounds_toArray, List.set_cons_zero, List.set_cons_succ]
      refine wpAnyH_take (i := 1) (v := ?_) rfl (by kernel_rfl) (by kernel_rfl) (by kernel_rfl) (fun _ _ _ h => h) (Or.inl ⟨by rfl, ?z35⟩) (by assumption) ?_
      case z35 =>
       intro w hSw
       (try dsimp only at hSw)
       go_simp
       all_goals with_reducible rfl
      try simp only [List.getElem_toArray, List.getElem_cons_zero, List.getElem_cons_succ, Act.put, List.setIfInBounds_toArray, List.set_cons_zero, List.set_cons_succ]
      refine wpAnyH_take (i := 2) (v := ?_) rfl (by kernel_rfl) (by kernel_rfl) (by kernel_rfl) (fun _ _ _ h => h) (Or.inl ⟨by rfl, ?z36⟩) (by assumption) ?_
      case z36 =>
       intro w hSw
       (try dsimp only at hSw)
       go_simp
       all_goals with_reducible rfl
      try simp only [List.getElem_toArray, List.getElem_cons_zero, List.getElem_cons_succ, Act.put, List.setIfInBounds_toArray, List.set_cons_zero, List.set_cons_succ]
      refine wpAnyH_take (i := 3) (v := ?_) rfl (by kernel_rfl) (by kernel_rfl) (by kernel_rfl) (fun _ _ _ h => h) (Or.inl ⟨by rfl, ?z37⟩) (by assumption) ?_
      case z37 =>
       intro w hSw
       (try dsimp only at hSw)
       go_simp
       all_goals with_reducible rfl
      try simp only [List.getElem_toArray, List.getElem_cons_zero, List.getElem_cons_succ, Act.put, List.setIfInBounds_toArray, List.set_cons_zero, List.set_cons_succ]
      refine wpAnyH_take (i := 4) (v := ?_) rfl (by kernel_rfl) (by kernel_rfl) (by kernel_rfl) (fun _ _ _ h => h) (Or.inl ⟨by rfl, ?z38⟩) (by assumption) ?_
      case z38 =>
       intro w hSw
       (try dsimp only at hSw)
       go_simp
       all_goals with_reducible rfl
      try simp only [List.getElem_toArray, List.getElem_cons_zero, List.getElem_cons_succ, Act.put, List.setIfInBounds_toArray, List.set_cons_zero, List.set_cons_succ]
      refine wpAnyH_take (i := 6) (v := ?_) rfl (by kernel_rfl) (by kernel_rfl) (by kernel_rfl) (fun _ _ _ h => h) (Or.inl ⟨by rfl, ?z39⟩) (by assumption) ?_
      case z39 =>
       intro w hSw
       (try dsimp only at hSw)
       go_simp
       all_goals with_reducible rfl
      try simp only [List.getElem_toArray, List.getElem_cons_zero, List.getElem_cons_succ, Act.put, List.setIfInBounds_toArray, List.set_cons_zero, List.set_cons_succ]
      refine wpAnyH_take (i := 7) (v := ?_) rfl (by kernel_rfl) (by kernel_rfl) (by kernel_rfl) (fun _ _ _ h => h) (Or.inl ⟨by rfl, ?z40⟩) (by assumption) ?_
      case z40 =>
       intro w hSw
       (try dsimp only at hSw)
       go_simp
       all_goals with_reducible rfl
      try simp only [List.getElem_toArray, List.getElem_cons_zero, List.getElem_cons_succ, Act.put, List.setIfInBounds_toArray, List.set_cons_zero, List.set_cons_succ]
      refine wpAnyH_ready (rs := [5]) (by kernel_rfl) (by simp) ?_
      refine AllReadyH.cons rfl (fun K hK => ?_) AllReadyH.nil
      go_simp
      with_reducible refine (C1).mono ?_
      rintro e X4 ⟨rfl, hb3⟩
      try go_wp2_with fail
      have hV8 := HXD.out.after hb3
      clear C1 hb3
      have HV8 : Hid (TV (upd S1 (k1, k2, k3) (some val)) S2 p a b w X4 ((E ++ ((g + 1, .cells #[.int .u8 y1, .int .u32 y2, .int .u16 y3, .int .u32 y4, .int .u16 y5, .int .u32 y6, .slice qa n qc, .int .i64 y7, .int .u32 y8] 39 (0, 0)) :: (g, .cells #[.int .u8 k1, .int .u32 k2, .int .u16 k3, .int .u32 f4, .int .u16 f5, .int .u32 f6, .slice pa np pb, .int .i64 f7, .int .u32 f8] 39 (0, 0)) :: (D1 ++ D))) ++ L)) := hV8
      refine hK.out _ _ (HS8.out _ _ _ _ hV8 (by simp)) (fun hHeld => ?_)
      clear hK K
      try simp only [List.getElem_toArray, List.getElem_cons_zero, List.getElem_cons_succ, Act.put, List.setIfInBounds_toArray, List.set_cons_zero, List.set_cons_succ]
      refine wpAnyH_ready (rs := [8]) (by kernel_rfl) (by simp) ?_
      refine AllReadyH.cons rfl (fun K hK => ?_) AllReadyH.nil
      have hdom : ∃ l : List Ky, l.length ≤ 2000 ∧ ∀ q, S2 q ≠ none → q ∈ l := ⟨xs.map okey, by rw [List.length_map]; have := HLn.out; omega, fun q hq => HS.out.okeys q hq⟩
      obtain ⟨ob2, hrun, hV9⟩ := HV8.out.put2 (k := (k1, f4, f5)) (by have := sin_okey HSI.out.1; rw [← HS'.out] at this; exact this) (.agg #[.int .u8 k1, .int .u32 k2, .int .u16 k3]) hdom
      simp only [kv] at hrun
      go_simp
      refine hK.out _ _ (HS8.out _ _ _ _ hV9 (by simp)) (fun hHeld => ?_)
      clear hK K
      try simp only [List.getElem_toArray, List.getElem_cons_zero, List.getElem_cons_succ, Act.put, List.setIfInBounds_toArray, List.set_cons_zero, List.set_cons_succ]
      refine wpAnyH_done (by kernel_rfl) ?_ _
      have HV9 : Hid (TV (upd S1 (k1, k2, k3) (some val)) (upd S2 (k1, f4, f5) (some (.agg #[.int .u8 k1, .int .u32 k2, .int .u16 k3]))) p a b w (Go.ChangeMaps.setBlock X4 b ob2) ((E ++ ((g + 1, .cells #[.int .u8 y1, .int .u32 y2, .int .u16 y3, .int .u32 y4, .int .u16 y5, .int .u32 y6, .slice qa n qc, .int .i64 y7, .int .u32 y8] 39 (0, 0)) :: (g, .cells #[.int .u8 k1, .int .u32 k2, .int .u16 k3, .int .u32 f4, .int .u16 f5, .int .u32 f6, .slice pa np pb, .int .i64 f7, .int .u32 f8] 39 (0, 0)) :: (D1 ++ D))) ++ L)) := hV9
      clear hV9 hV8 hHeld hrun HS8
      go_wp2_with fail
      go_ret
      obtain ⟨hsi, hf1, hf2⟩ := HSI.out
      obtain ⟨c1, c2⟩ := ac_fits (most := most) hf1 hf2 (by rw [HN.out]; have := HMN.out; omega)
      obtain ⟨pv, rfl, hpv⟩ := HSD.out
      have hT := HS.out.add (s := s') (D' := E ++ ((g + 1, .cells #[.int .u8 y1, .int .u32 y2, .int .u16 y3, .int .u32 y4, .int .u16 y5, .int .u32 y6, .slice qa n qc, .int .i64 y7, .int .u32 y8] 39 (0, 0)) :: (g, .cells #[.int .u8 k1, .int .u32 k2, .int .u16 k3, .int .u32 f4, .int .u16 f5, .int .u32 f6, .slice pa np pb, .int .i64 f7, .int .u32 f8] 39 (0, 0)) :: (D1 ++ D))) (fk_none (Option.isNone_iff_eq_none.1 (by rw [Option.isNone_iff_eq_none]; exact Option.not_isSome_iff_eq_none.1 (by rw [hf1]; simp)))) (fo_none (Option.not_isSome_iff_eq_none.1 (by rw [hf2]; simp))) hsi (by rw [← HS'.out]; exact HPS.out) (pv := pv) (by rw [← HS'.out]; exact hpv.mono fun q hq => by simp [hq]) (fun q hq => by simp [hq])
      rw [← HS'.out] at hT
      obtain ⟨B', hB', hM8⟩ := (HV9.out.mem (B := (E ++ ((g + 1, .cells #[.int .u8 y1, .int .u32 y2, .int .u16 y3, .int .u32 y4, .int .u16 y5, .int .u32 y6, .slice qa n qc, .int .i64 y7, .int .u32 y8] 39 (0, 0)) :: (g, .cells #[.int .u8 k1, .int .u32 k2, .int .u16 k3, .int .u32 f4, .int .u16 f5, .int .u32 f6, .slice pa np pb, .int .i64 f7, .int .u32 f8] 39 (0, 0)) :: (D1 ++ D))) ++ L) rfl).shut hT
      rw [HS'.out] at hB'
      exact ⟨by rw [c1]; rfl, B', by rw [c2]; exact hB', hM8⟩
end
end Ss
end Go.Proofs.Ytgeeijinhneoiaa
