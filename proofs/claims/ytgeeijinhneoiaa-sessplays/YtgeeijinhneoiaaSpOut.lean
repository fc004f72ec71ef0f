/-
  Sessions, the program's own: Out.
-/
import Derived.Test.YtgeeijinhneoiaaSpOps
namespace Go.Proofs.Ytgeeijinhneoiaa
open Go.RowKit
open Sm
open Po
open Wh
set_option linter.unusedVariables false
set_option linter.unusedSimpArgs false
set_option maxRecDepth 20000

namespace Ss
section
variable {xs : List Sn} {S1 S2 : Ky → Option Value} {D L : List (Nat × Obj)} {p a b : Nat} {w V : World}

theorem TS.looko (h : TS xs S1 S2 D) (pr : Int) (q : Pn) : ∃ k : Ky, KIn k ∧ (S2 (pr, q.1, q.2)).getD (kv (0, 0, 0)) = kv k ∧ (S2 (pr, q.1, q.2)).isSome = (fo pr q xs).isSome ∧ ((fo pr q xs).isSome = true → fk k xs = fo pr q xs) := by
  rcases h.findo pr q with ⟨h1, h2⟩ | ⟨x, h1, hx, -, h2⟩
  · rw [h1, h2]
    exact ⟨(0, 0, 0), by simp [KIn], rfl, rfl, nofun⟩
  · rw [h1, h2]
    exact ⟨key x, h.key_in hx, rfl, rfl, fun _ => h.found hx⟩
set_option maxHeartbeats 8000000 in
theorem out_any {B : List (Nat × Obj)} (h : PSs xs p B) (hM : Mem w V (B ++ L)) (pr : Int) (q : Pn) (hpr : 0 ≤ pr ∧ pr ≤ 255) (hq : PIn q) :
    Calls Try.prog 21 #[.pointer (some ⟨p, 0, none⟩), .int .u8 pr, .agg #[.int .u32 q.1, .int .u16 q.2]] V (SfQ PSs w p L (fo pr q xs) xs) := by
  obtain ⟨a, b, S1, S2, D, hS, hV⟩ := h.open hM
  obtain ⟨k, hk, e1, e2, e3⟩ := hS.looko pr q
  obtain ⟨o, ho⟩ : ∃ o, fo pr q xs = o := ⟨_, rfl⟩
  rw [ho] at e2 e3 ⊢
  obtain ⟨r, hr⟩ : ∃ r, o.isSome = r := ⟨_, rfl⟩
  rw [hr] at e2 e3
  have HLK : Hid (∀ X L', TV S1 S2 p a b w X L' → (Instr.lookup 67 (.map (some b)) (kv (pr, q.1, q.2)) true).run Try.prog X = .ok (.tuple #[kv k, .bool r]) X) := fun X L' hX => by
    have := hX.look2 (k := (pr, q.1, q.2)) ⟨hpr, hq.1, hq.2⟩ true
    rw [e1, e2] at this
    exact this
  have HO : Hid (o.isSome = r ∧ (r = true → fk k xs = o) ∧ KIn k) := ⟨hr, e3, hk⟩
  have HS : Hid (TS xs S1 S2 D) := hS
  obtain ⟨k2, k3⟩ := q
  obtain ⟨k1, hk1⟩ : ∃ k1, pr = k1 := ⟨_, rfl⟩
  rw [hk1] at HLK ⊢
  obtain ⟨x1, x2, x3⟩ := k
  simp only [kv] at HLK ⊢
  obtain ⟨g, hg⟩ : ∃ g, V.heap.size = g := ⟨_, rfl⟩
  have HM0 : Hid (TV S1 S2 p a b w ((V.alloc (.cells #[.int .u32 k2, .int .u16 k3] 34)).alloc (.cells #[.int .u8 0, .int .u32 0, .int .u16 0, .int .u32 0, .int .u16 0, .int .u32 0, .slice none 0 0, .int .i64 0, .int .u32 0] 39)) ((g + 1, .cells #[.int .u8 0, .int .u32 0, .int .u16 0, .int .u32 0, .int .u16 0, .int .u32 0, .slice none 0 0, .int .i64 0, .int .u32 0] 39 (0, 0)) :: (g, .cells #[.int .u32 k2, .int .u16 k3] 34 (0, 0)) :: (D ++ L)) ∧ ((V.alloc (.cells #[.int .u32 k2, .int .u16 k3] 34)).alloc (.cells #[.int .u8 0, .int .u32 0, .int .u16 0, .int .u32 0, .int .u16 0, .int .u32 0, .slice none 0 0, .int .i64 0, .int .u32 0] 39)).heap.size = g + 2) := ⟨(hV.push [.int .u32 k2, .int .u16 k3] 34 hg).push [.int .u8 0, .int .u32 0, .int .u16 0, .int .u32 0, .int .u16 0, .int .u32 0, .slice none 0 0, .int .i64 0, .int .u32 0] 39 (by rw [World.size_alloc, hg]), by rw [World.size_alloc, World.size_alloc, hg]⟩
  clear h hM hk hV hS e1 e2 e3 hq hpr ho hr hk1
  go_enter Try.func21, Try.ntmps21
  go_upto_region 1 with fail
  refine wp_letter (fun X => TV S1 S2 p a b w X ((g + 1, .cells #[.int .u8 0, .int .u32 0, .int .u16 0, .int .u32 0, .int .u16 0, .int .u32 0, .slice none 0 0, .int .i64 0, .int .u32 0] 39 (0, 0)) :: (g, .cells #[.int .u32 k2, .int .u16 k3] 34 (0, 0)) :: (D ++ L)) ∧ X.heap.size = g + 2) (by exact HM0.out) ?_
  rintro X ⟨hX, hXs⟩
  clear HM0
  try simp only [World.size_alloc, hg]
  have HSS : Hid (∀ X L', TV S1 S2 p a b w X L' → (g, .cells #[.int .u32 k2, .int .u16 k3] 34 (0, 0)) ∈ L' → (fun X => X.cell? ⟨p, 1, none⟩ = some (.map (some b)) ∧ X.cell? ⟨g, 0, none⟩ = some (.int .u32 k2) ∧ X.cell? ⟨g, 1, none⟩ = some (.int .u16 k3) ∧ (Instr.lookup 67 (.map (some b)) (.agg #[.int .u8 k1, .int .u32 k2, .int .u16 k3]) true).run Try.prog X = .ok (.tuple #[.agg #[.int .u8 x1, .int .u32 x2, .int .u16 x3], .bool r]) X) X) := fun X L' hX hm => by
    obtain ⟨B, hM, -⟩ := hX.rest
    have hg := hM.at_ _ (List.mem_append_right _ hm)
    exact ⟨hX.keep.2, by rw [cell_of hg]; rfl, by rw [cell_of hg]; rfl, HLK.out X _ hX⟩
  have hXd := hX.drew
  have hXds : X.drew.heap.size = g + 2 := hXs
  clear hX hXs
  refine wp_region_held_drew (S := (fun X => X.cell? ⟨p, 1, none⟩ = some (.map (some b)) ∧ X.cell? ⟨g, 0, none⟩ = some (.int .u32 k2) ∧ X.cell? ⟨g, 1, none⟩ = some (.int .u16 k3) ∧ (Instr.lookup 67 (.map (some b)) (.agg #[.int .u8 k1, .int .u32 k2, .int .u16 k3]) true).run Try.prog X = .ok (.tuple #[.agg #[.int .u8 x1, .int .u32 x2, .int .u16 x3], .bool r]) X)) (by kernel_rfl) (HSS.out _ _ hXd (by simp)) (fun hHeld => ?_)
  generalize X.drew = X1 at *
  have HXD : Hid (TV S1 S2 p a b w X1 ((g + 1, .cells #[.int .u8 0, .int .u32 0, .int .u16 0, .int .u32 0, .int .u16 0, .int .u32 0, .slice none 0 0, .int .i64 0, .int .u32 0] 39 (0, 0)) :: (g, .cells #[.int .u32 k2, .int .u16 k3] 34 (0, 0)) :: (D ++ L))) := hXd
  clear hXd
  refine wpAnyH_take (i := 0) (v := ?_) rfl (by kernel_rfl) (by kernel_rfl) (by kernel_rfl) (fun _ _ _ h => h) (Or.inl ⟨by rfl, ?z1⟩) (by assumption) ?_
  case z1 =>
   intro w hSw
   (try dsimp only at hSw)
   go_simp
   all_goals with_reducible rfl
  try simp only [List.getElem_toArray, List.getElem_cons_zero, List.getElem_cons_succ, Act.put, List.setIfInBounds_toArray, List.set_cons_zero, List.set_cons_succ]
  refine wpAnyH_take (i := 1) (v := ?_) rfl (by kernel_rfl) (by kernel_rfl) (by kernel_rfl) (fun _ _ _ h => h) (Or.inl ⟨by rfl, ?z2⟩) (by assumption) ?_
  case z2 =>
   intro w hSw
   (try dsimp only at hSw)
   go_simp
   all_goals with_reducible rfl
  try simp only [List.getElem_toArray, List.getElem_cons_zero, List.getElem_cons_succ, Act.put, List.setIfInBounds_toArray, List.set_cons_zero, List.set_cons_succ]
  refine wpAnyH_take (i := 2) (v := ?_) rfl (by kernel_rfl) (by kernel_rfl) (by kernel_rfl) (fun _ _ _ h => h) (Or.inl ⟨by rfl, ?z3⟩) (by assumption) ?_
  case z3 =>
   intro w hSw
   (try dsimp only at hSw)
   go_simp
   all_goals with_reducible rfl
  try simp only [List.getElem_toArray, List.getElem_cons_zero, List.getElem_cons_succ, Act.put, List.setIfInBounds_toArray, List.set_cons_zero, List.set_cons_succ]
  refine wpAnyH_take (i := 3) (v := ?_) rfl (by kernel_rfl) (by kernel_rfl) (by kernel_rfl) (fun _ _ _ h => h) (Or.inl ⟨by rfl, ?z4⟩) (by assumption) ?_
  case z4 =>
   intro w hSw
   (try dsimp only at hSw)
   go_simp
   all_goals with_reducible rfl
  try simp only [List.getElem_toArray, List.getElem_cons_zero, List.getElem_cons_succ, Act.put, List.setIfInBounds_toArray, List.set_cons_zero, List.set_cons_succ]
  refine wpAnyH_take (i := 4) (v := ?_) rfl (by kernel_rfl) (by kernel_rfl) (by kernel_rfl) (fun _ _ _ h => h) (Or.inl ⟨by rfl, ?z5⟩) (by assumption) ?_
  case z5 =>
   intro w hSw
   (try dsimp only at hSw)
   go_simp
   all_goals with_reducible rfl
  try simp only [List.getElem_toArray, List.getElem_cons_zero, List.getElem_cons_succ, Act.put, List.setIfInBounds_toArray, List.set_cons_zero, List.set_cons_succ]
  refine wpAnyH_take (i := 5) (v := ?_) rfl (by kernel_rfl) (by kernel_rfl) (by kernel_rfl) (fun _ _ _ h => h) (Or.inl ⟨by rfl, ?z6⟩) (by assumption) ?_
  case z6 =>
   intro w hSw
   (try dsimp only at hSw)
   go_simp
   all_goals with_reducible rfl
  try simp only [List.getElem_toArray, List.getElem_cons_zero, List.getElem_cons_succ, Act.put, List.setIfInBounds_toArray, List.set_cons_zero, List.set_cons_succ]
  refine wpAnyH_take (i := 6) (v := ?_) rfl (by kernel_rfl) (by kernel_rfl) (by kernel_rfl) (fun _ _ _ h => h) (Or.inl ⟨by rfl, ?z7⟩) (by assumption) ?_
  case z7 =>
   intro w hSw
   (try dsimp only at hSw)
   go_simp
   all_goals with_reducible rfl
  try simp only [List.getElem_toArray, List.getElem_cons_zero, List.getElem_cons_succ, Act.put, List.setIfInBounds_toArray, List.set_cons_zero, List.set_cons_succ]
  refine wpAnyH_take (i := 7) (v := ?_) rfl (by kernel_rfl) (by kernel_rfl) (by kernel_rfl) (fun _ _ _ h => h) (Or.inl ⟨by rfl, ?z8⟩) (by assumption) ?_
  case z8 =>
   intro w hSw
   (try dsimp only at hSw)
   go_simp
   all_goals with_reducible rfl
  try simp only [List.getElem_toArray, List.getElem_cons_zero, List.getElem_cons_succ, Act.put, List.setIfInBounds_toArray, List.set_cons_zero, List.set_cons_succ]
  refine wpAnyH_take (i := 8) (v := ?_) rfl (by kernel_rfl) (by kernel_rfl) (by kernel_rfl) (fun _ _ _ h => h) (Or.inl ⟨by rfl, ?z9⟩) (by assumption) ?_
  case z9 =>
   intro w hSw
   (try dsimp only at hSw)
   go_simp
   all_goals with_reducible rfl
  try simp only [List.getElem_toArray, List.getElem_cons_zero, List.getElem_cons_succ, Act.put, List.setIfInBounds_toArray, List.set_cons_zero, List.set_cons_succ]
  refine wpAnyH_take (i := 9) (v := ?_) rfl (by kernel_rfl) (by kernel_rfl) (by kernel_rfl) (fun _ _ _ h => h) (Or.inl ⟨by rfl, ?z10⟩) (by assumption) ?_
  case z10 =>
   intro w hSw
   (try dsimp only at hSw)
   go_simp
   all_goals with_reducible rfl
  try simp only [List.getElem_toArray, List.getElem_cons_zero, List.getElem_cons_succ, Act.put, List.setIfInBounds_toArray, List.set_cons_zero, List.set_cons_succ]
  refine wpAnyH_take (i := 10) (v := ?_) rfl (by kernel_rfl) (by kernel_rfl) (by kernel_rfl) (fun _ _ _ h => h) (Or.inl ⟨by rfl, ?z11⟩) (by assumption) ?_
  case z11 =>
   intro w hSw
   (try dsimp only at hSw)
   go_simp
   all_goals with_reducible rfl
  try simp only [List.getElem_toArray, List.getElem_cons_zero, List.getElem_cons_succ, Act.put, List.setIfInBounds_toArray, List.set_cons_zero, List.set_cons_succ]
  refine wpAnyH_ready (rs := [11]) (by kernel_rfl) (by simp) ?_
  refine AllReadyH.cons rfl (fun K hK => ?_) AllReadyH.nil
  go_simp
  try simp only [hXds]
  refine hK.out _ _ (HSS.out _ _ (HXD.out.push [.int .u8 0, .int .u32 0, .int .u16 0] 36 hXds) (by simp)) (fun hHeld => ?_)
  clear hK K
  try simp only [List.getElem_toArray, List.getElem_cons_zero, List.getElem_cons_succ, Act.put, List.setIfInBounds_toArray, List.set_cons_zero, List.set_cons_succ]
  refine wpAnyH_ready (rs := [12]) (by kernel_rfl) (by simp) ?_
  refine AllReadyH.cons rfl (fun K hK => ?_) AllReadyH.nil
  go_simp
  refine hK.out _ _ (HSS.out _ _ (HXD.out.push [.int .u8 x1, .int .u32 x2, .int .u16 x3] 36 hXds) (by simp)) (fun hHeld => ?_)
  clear hK K
  try simp only [List.getElem_toArray, List.getElem_cons_zero, List.getElem_cons_succ, Act.put, List.setIfInBounds_toArray, List.set_cons_zero, List.set_cons_succ]
  refine wpAnyH_take (i := 13) (v := ?_) rfl (by kernel_rfl) (by kernel_rfl) (by kernel_rfl) (fun _ _ _ h => h) (Or.inl ⟨by rfl, ?z12⟩) (by assumption) ?_
  case z12 =>
   intro w hSw
   (try dsimp only at hSw)
   go_simp
   all_goals with_reducible rfl
  try simp only [List.getElem_toArray, List.getElem_cons_zero, List.getElem_cons_succ, Act.put, List.setIfInBounds_toArray, List.set_cons_zero, List.set_cons_succ]
  refine wpAnyH_done (by kernel_rfl) ?_ _
  go_upto_region 2 with fail
  refine wp_letter (fun X => TV S1 S2 p a b w X ((g + 2, .cells #[.int .u8 x1, .int .u32 x2, .int .u16 x3] 36 (0, 0)) :: (g + 1, .cells #[.int .u8 0, .int .u32 0, .int .u16 0, .int .u32 0, .int .u16 0, .int .u32 0, .slice none 0 0, .int .i64 0, .int .u32 0] 39 (0, 0)) :: (g, .cells #[.int .u32 k2, .int .u16 k3] 34 (0, 0)) :: (D ++ L))) (by exact HXD.out.push [.int .u8 x1, .int .u32 x2, .int .u16 x3] 36 hXds) ?_
  intro Y hY
  clear HXD hXds hHeld HSS
  have HY : Hid (TV S1 S2 p a b w Y ((g + 2, .cells #[.int .u8 x1, .int .u32 x2, .int .u16 x3] 36 (0, 0)) :: (g + 1, .cells #[.int .u8 0, .int .u32 0, .int .u16 0, .int .u32 0, .int .u16 0, .int .u32 0, .slice none 0 0, .int .i64 0, .int .u32 0] 39 (0, 0)) :: (g, .cells #[.int .u32 k2, .int .u16 k3] 34 (0, 0)) :: (D ++ L))) := hY
  obtain ⟨B1, hM1, hB1⟩ := hY.rest
  cases r with
  | false =>
    have hM3 := hM1.perm (show List.Perm _ ((g + 1, .cells #[.int .u8 0, .int .u32 0, .int .u16 0, .int .u32 0, .int .u16 0, .int .u32 0, .slice none 0 0, .int .i64 0, .int .u32 0] 39 (0, 0)) :: (B1 ++ ((g + 2, .cells #[.int .u8 x1, .int .u32 x2, .int .u16 x3] 36 (0, 0)) :: (g, .cells #[.int .u32 k2, .int .u16 k3] 34 (0, 0)) :: (D ++ L)))) from by
    classical
    rw [List.perm_iff_count]
    intro q
    simp only [List.count_append, List.count_cons, List.count_nil]
    omega)
    obtain ⟨t0, t1, t2, t3, t4, t5, t6, t7, t8⟩ := bx_of 0 hM3 rfl
    have t9 : ∀ k, Y.frozen? ⟨g + 1, k, none⟩ = false := hM3.free 0 rfl
    have HM4 : Hid (Mem w (((((((((Y.setCell ⟨g + 1, 0, none⟩ (.int .u8 0)).setCell ⟨g + 1, 1, none⟩ (.int .u32 0)).setCell ⟨g + 1, 2, none⟩ (.int .u16 0)).setCell ⟨g + 1, 3, none⟩ (.int .u32 0)).setCell ⟨g + 1, 4, none⟩ (.int .u16 0)).setCell ⟨g + 1, 5, none⟩ (.int .u32 0)).setCell ⟨g + 1, 6, none⟩ (.slice none 0 0)).setCell ⟨g + 1, 7, none⟩ (.int .i64 0)).setCell ⟨g + 1, 8, none⟩ (.int .u32 0)) ((g + 1, .cells #[.int .u8 0, .int .u32 0, .int .u16 0, .int .u32 0, .int .u16 0, .int .u32 0, .slice none 0 0, .int .i64 0, .int .u32 0] 39 (0, 0)) :: (B1 ++ ((g + 2, .cells #[.int .u8 x1, .int .u32 x2, .int .u16 x3] 36 (0, 0)) :: (g, .cells #[.int .u32 k2, .int .u16 k3] 34 (0, 0)) :: (D ++ L))))) := mem_nine _ _ _ _ _ _ _ _ _ hM3
    have HB1 : Hid (∀ V' L', Mem w V' (B1 ++ L') → TV S1 S2 p a b w V' L') := hB1
    clear hM1 hM3 hB1 hY
    go_wp2_with fail
    refine ret_sn rfl HM4.out rfl false rfl rfl ?_
    have hV5 := HB1.out _ (((g + 1, .cells #[.int .u8 0, .int .u32 0, .int .u16 0, .int .u32 0, .int .u16 0, .int .u32 0, .slice none 0 0, .int .i64 0, .int .u32 0] 39 (0, 0)) :: (g + 2, .cells #[.int .u8 x1, .int .u32 x2, .int .u16 x3] 36 (0, 0)) :: (g, .cells #[.int .u32 k2, .int .u16 k3] 34 (0, 0)) :: D) ++ L) (HM4.out.perm (by
    classical
    rw [List.perm_iff_count]
    intro q
    simp only [List.count_append, List.count_cons, List.count_nil]
    omega))
    obtain ⟨B', hB', hM5⟩ := hV5.shut (HS.out.mono fun q hq => List.mem_cons_of_mem _ (List.mem_cons_of_mem _ (List.mem_cons_of_mem _ hq)))
    have ho : o = none := by have := HO.out.1; cases o with | none => rfl | some x => cases this
    refine ⟨_, [], B', by rw [ho]; rfl, ?_, hB', hM5⟩
    rw [ho]
    exact ⟨.slice none 0 0, rfl, SlF.nil _ _ _⟩
  | true =>
    have hM3 := hM1.perm (show List.Perm _ ((g + 2, .cells #[.int .u8 x1, .int .u32 x2, .int .u16 x3] 36 (0, 0)) :: (B1 ++ ((g + 1, .cells #[.int .u8 0, .int .u32 0, .int .u16 0, .int .u32 0, .int .u16 0, .int .u32 0, .slice none 0 0, .int .i64 0, .int .u32 0] 39 (0, 0)) :: (g, .cells #[.int .u32 k2, .int .u16 k3] 34 (0, 0)) :: (D ++ L)))) from by
    classical
    rw [List.perm_iff_count]
    intro q
    simp only [List.count_append, List.count_cons, List.count_nil]
    omega)
    have t0 : Y.cell? ⟨g + 2, 0, none⟩ = some (.int .u8 x1) := hM3.cell 0 rfl 0
    have t1 : Y.cell? ⟨g + 2, 1, none⟩ = some (.int .u32 x2) := hM3.cell 0 rfl 1
    have t2 : Y.cell? ⟨g + 2, 2, none⟩ = some (.int .u16 x3) := hM3.cell 0 rfl 2
    have hV5 := hB1 Y (D ++ ((g + 2, .cells #[.int .u8 x1, .int .u32 x2, .int .u16 x3] 36 (0, 0)) :: (g + 1, .cells #[.int .u8 0, .int .u32 0, .int .u16 0, .int .u32 0, .int .u16 0, .int .u32 0, .slice none 0 0, .int .i64 0, .int .u32 0] 39 (0, 0)) :: (g, .cells #[.int .u32 k2, .int .u16 k3] 34 (0, 0)) :: L)) (hM1.perm (by
    classical
    rw [List.perm_iff_count]
    intro q
    simp only [List.count_append, List.count_cons, List.count_nil]
    omega))
    obtain ⟨B2, hP2, hM2⟩ := hV5.shut HS.out
    have C1 : Calls Try.prog 19 #[.pointer (some ⟨p, 0, none⟩), .agg #[.int .u8 x1, .int .u32 x2, .int .u16 x3]] Y (SfQ PSs w p ((g + 2, .cells #[.int .u8 x1, .int .u32 x2, .int .u16 x3] 36 (0, 0)) :: (g + 1, .cells #[.int .u8 0, .int .u32 0, .int .u16 0, .int .u32 0, .int .u16 0, .int .u32 0, .slice none 0 0, .int .i64 0, .int .u32 0] 39 (0, 0)) :: (g, .cells #[.int .u32 k2, .int .u16 k3] 34 (0, 0)) :: L) (fk (x1, x2, x3) xs) xs) := find_any hP2 hM2 HO.out.2.2
    rw [HO.out.2.1 rfl] at C1
    clear hM1 hM3 hB1 hY hV5 hP2 hM2
    go_wp2_with fail
    with_reducible refine C1.mono ?_
    rintro e Y1 ⟨val, D1, B3, rfl, hsd, hP3, hM4⟩
    clear C1 t0 t1 t2
    obtain ⟨y, hy⟩ : ∃ y, o.getD sn0 = y := ⟨_, rfl⟩
    rw [hy] at hsd
    have HSV : Hid (SD D1 val y ∧ o.getD sn0 = y) := ⟨hsd, hy⟩
    have hr1 := HO.out.1
    rw [hr1]
    obtain ⟨pv, rfl, hpv⟩ := hsd
    obtain ⟨n, hn⟩ : ∃ n, y.ps.length = n := ⟨_, rfl⟩
    rw [hn] at hpv
    obtain ⟨-, pa, pc, rfl, -⟩ := hpv
    obtain ⟨y1, y2, y3, y4, y5, y6, ps, y7, y8⟩ := y
    clear hn hy hr1
    simp only [sc] at HSV ⊢
    have hM5 := hM4.perm (show List.Perm _ ((g + 1, .cells #[.int .u8 0, .int .u32 0, .int .u16 0, .int .u32 0, .int .u16 0, .int .u32 0, .slice none 0 0, .int .i64 0, .int .u32 0] 39 (0, 0)) :: (D1 ++ (B3 ++ ((g + 2, .cells #[.int .u8 x1, .int .u32 x2, .int .u16 x3] 36 (0, 0)) :: (g, .cells #[.int .u32 k2, .int .u16 k3] 34 (0, 0)) :: L)))) from by
    classical
    rw [List.perm_iff_count]
    intro q
    simp only [List.count_append, List.count_cons, List.count_nil]
    omega)
    obtain ⟨t0, t1, t2, t3, t4, t5, t6, t7, t8⟩ := bx_of 0 hM5 rfl
    have t9 : ∀ k, Y1.frozen? ⟨g + 1, k, none⟩ = false := hM5.free 0 rfl
    have HM6 : Hid (Mem w (((((((((Y1.setCell ⟨g + 1, 0, none⟩ (.int .u8 y1)).setCell ⟨g + 1, 1, none⟩ (.int .u32 y2)).setCell ⟨g + 1, 2, none⟩ (.int .u16 y3)).setCell ⟨g + 1, 3, none⟩ (.int .u32 y4)).setCell ⟨g + 1, 4, none⟩ (.int .u16 y5)).setCell ⟨g + 1, 5, none⟩ (.int .u32 y6)).setCell ⟨g + 1, 6, none⟩ (.slice pa n pc)).setCell ⟨g + 1, 7, none⟩ (.int .i64 y7)).setCell ⟨g + 1, 8, none⟩ (.int .u32 y8)) ((g + 1, .cells #[.int .u8 y1, .int .u32 y2, .int .u16 y3, .int .u32 y4, .int .u16 y5, .int .u32 y6, .slice pa n pc, .int .i64 y7, .int .u32 y8] 39 (0, 0)) :: (D1 ++ (B3 ++ ((g + 2, .cells #[.int .u8 x1, .int .u32 x2, .int .u16 x3] 36 (0, 0)) :: (g, .cells #[.int .u32 k2, .int .u16 k3] 34 (0, 0)) :: L))))) := mem_nine _ _ _ _ _ _ _ _ _ hM5
    have HP3 : Hid (PSs xs p B3) := hP3
    clear hM4 hM5 hP3
    go_wp2_with fail
    refine ret_sn rfl HM6.out rfl true rfl rfl ?_
    obtain ⟨a', b', S1', S2', D', hS', hV'⟩ := HP3.out.open (HM6.out.perm (show List.Perm _ (B3 ++ ((g + 1, .cells #[.int .u8 y1, .int .u32 y2, .int .u16 y3, .int .u32 y4, .int .u16 y5, .int .u32 y6, .slice pa n pc, .int .i64 y7, .int .u32 y8] 39 (0, 0)) :: (g + 2, .cells #[.int .u8 x1, .int .u32 x2, .int .u16 x3] 36 (0, 0)) :: (g, .cells #[.int .u32 k2, .int .u16 k3] 34 (0, 0)) :: (D1 ++ L))) from by
    classical
    rw [List.perm_iff_count]
    intro q
    simp only [List.count_append, List.count_cons, List.count_nil]
    omega))
    obtain ⟨B', hB', hM7⟩ := (hV'.perm (show List.Perm _ (((g + 1, .cells #[.int .u8 y1, .int .u32 y2, .int .u16 y3, .int .u32 y4, .int .u16 y5, .int .u32 y6, .slice pa n pc, .int .i64 y7, .int .u32 y8] 39 (0, 0)) :: (g + 2, .cells #[.int .u8 x1, .int .u32 x2, .int .u16 x3] 36 (0, 0)) :: (g, .cells #[.int .u32 k2, .int .u16 k3] 34 (0, 0)) :: D') ++ (D1 ++ L)) from by
    classical
    rw [List.perm_iff_count]
    intro q
    simp only [List.count_append, List.count_cons, List.count_nil]
    omega)).shut (hS'.mono fun q hq => List.mem_cons_of_mem _ (List.mem_cons_of_mem _ (List.mem_cons_of_mem _ hq)))
    refine ⟨_, D1, B', by rw [HO.out.1], ?_, hB', hM7.perm (by
    classical
    rw [List.perm_iff_count]
    intro q
    simp only [List.count_append, List.count_cons, List.count_nil]
    omega)⟩
    rw [HSV.out.2]
    exact HSV.out.1
end
end Ss
end Go.Proofs.Ytgeeijinhneoiaa
