/-
  Sessions, the program's own: Drop.
-/
import Derived.Test.YtgeeijinhneoiaaSpPut
namespace Go.Proofs.Ytgeeijinhneoiaa
open Go.RowKit
open Sm
open Po
open Wh
set_option linter.unusedVariables false
set_option linter.unusedSimpArgs false
set_option maxRecDepth 20000

namespace Ss
section
variable {xs : List Sn} {S1 S2 : Ky → Option Value} {D L : List (Nat × Obj)} {p a b : Nat} {w V : World}
set_option maxHeartbeats 8000000 in
theorem drop_any {B : List (Nat × Obj)} (h : PSs xs p B) (hM : Mem w V (B ++ L)) {k : Ky} (hk : KIn k) :
    Calls Try.prog 17 #[.pointer (some ⟨p, 0, none⟩), .agg #[.int .u8 k.1, .int .u32 k.2.1, .int .u16 k.2.2]] V (SkQ PSs w p L (.bool (fk k xs).isSome) (dk k xs)) := by
  obtain ⟨a, b, S1, S2, D, hS, hV⟩ := h.open hM
  obtain ⟨qv, e1, e2, hq⟩ := hS.look k
  have hfind : ∀ x, fk k xs = some x → x ∈ xs ∧ key x = k := fun x hx => fk_some hx
  have hdk : fk k xs = none → dk k xs = xs := fun hn => (dk_no (fk_none hn)).2
  obtain ⟨o, ho⟩ : ∃ o, fk k xs = o := ⟨_, rfl⟩
  rw [ho] at e1 e2 hq hfind hdk ⊢
  obtain ⟨r, hr⟩ : ∃ r, o.isSome = r := ⟨_, rfl⟩
  obtain ⟨y, hy⟩ : ∃ y, o.getD sn0 = y := ⟨_, rfl⟩
  rw [hy] at e1 hq
  rw [hr] at e2 ⊢
  have HLK : Hid (∀ X L', TV S1 S2 p a b w X L' → (Instr.lookup 66 (.map (some a)) (kv k) true).run Try.prog X = .ok (.tuple #[sv y qv, .bool r]) X) := fun X L' hX => by
    have := hX.look1 hk true
    rw [e1, e2] at this
    exact this
  have HF : Hid ((r = true → y ∈ xs ∧ key y = k) ∧ (r = false → dk k xs = xs)) := ⟨fun h1 => by
    cases o with
    | none => rw [h1] at hr; cases hr
    | some x => rw [← hy]; exact hfind x rfl, fun h1 => by
    cases o with
    | none => exact hdk rfl
    | some x => rw [h1] at hr; cases hr⟩
  have HS : Hid (TS xs S1 S2 D) := hS
  have HK : Hid (KIn k) := hk
  obtain ⟨k1, k2, k3⟩ := k
  obtain ⟨n, hn⟩ : ∃ n, y.ps.length = n := ⟨_, rfl⟩
  rw [hn] at hq
  obtain ⟨-, qa, qc, rfl, -⟩ := id hq
  obtain ⟨y1, y2, y3, y4, y5, y6, qs, y7, y8⟩ := y
  simp only [kv, sv, sc] at HLK ⊢
  obtain ⟨g, hg⟩ : ∃ g, V.heap.size = g := ⟨_, rfl⟩
  have HM0 : Hid (TV S1 S2 p a b w (V.alloc (.cells #[.int .u8 k1, .int .u32 k2, .int .u16 k3] 36)) ((g, .cells #[.int .u8 k1, .int .u32 k2, .int .u16 k3] 36 (0, 0)) :: (D ++ L)) ∧ (V.alloc (.cells #[.int .u8 k1, .int .u32 k2, .int .u16 k3] 36)).heap.size = g + 1) := ⟨hV.push [.int .u8 k1, .int .u32 k2, .int .u16 k3] 36 hg, by rw [World.size_alloc, hg]⟩
  clear h hM hk hV hS e1 e2 hq ho hr hy hn hfind hdk
  go_enter Try.func17, Try.ntmps17
  go_upto_region 1 with fail
  refine wp_letter (fun X => TV S1 S2 p a b w X ((g, .cells #[.int .u8 k1, .int .u32 k2, .int .u16 k3] 36 (0, 0)) :: (D ++ L)) ∧ X.heap.size = g + 1) (by exact HM0.out) ?_
  rintro X ⟨hX, hXs⟩
  clear HM0
  try simp only [World.size_alloc, hg]
  have HSS : Hid (∀ X L', TV S1 S2 p a b w X L' → (g, .cells #[.int .u8 k1, .int .u32 k2, .int .u16 k3] 36 (0, 0)) ∈ L' → (fun X => X.cell? ⟨p, 0, none⟩ = some (.map (some a)) ∧ X.cell? ⟨g, 0, none⟩ = some (.int .u8 k1) ∧ X.cell? ⟨g, 1, none⟩ = some (.int .u32 k2) ∧ X.cell? ⟨g, 2, none⟩ = some (.int .u16 k3) ∧ (Instr.lookup 66 (.map (some a)) (.agg #[.int .u8 k1, .int .u32 k2, .int .u16 k3]) true).run Try.prog X = .ok (.tuple #[.agg #[.int .u8 y1, .int .u32 y2, .int .u16 y3, .int .u32 y4, .int .u16 y5, .int .u32 y6, .slice qa n qc, .int .i64 y7, .int .u32 y8], .bool r]) X) X) := fun X L' hX hm => by
    obtain ⟨B, hM, -⟩ := hX.rest
    have hg := hM.at_ _ (List.mem_append_right _ hm)
    exact ⟨hX.keep.1, by rw [cell_of hg]; rfl, by rw [cell_of hg]; rfl, by rw [cell_of hg]; rfl, HLK.out X _ hX⟩
  have hXd := hX.drew
  have hXds : X.drew.heap.size = g + 1 := hXs
  clear hX hXs
  refine wp_region_held_drew (S := (fun X => X.cell? ⟨p, 0, none⟩ = some (.map (some a)) ∧ X.cell? ⟨g, 0, none⟩ = some (.int .u8 k1) ∧ X.cell? ⟨g, 1, none⟩ = some (.int .u32 k2) ∧ X.cell? ⟨g, 2, none⟩ = some (.int .u16 k3) ∧ (Instr.lookup 66 (.map (some a)) (.agg #[.int .u8 k1, .int .u32 k2, .int .u16 k3]) true).run Try.prog X = .ok (.tuple #[.agg #[.int .u8 y1, .int .u32 y2, .int .u16 y3, .int .u32 y4, .int .u16 y5, .int .u32 y6, .slice qa n qc, .int .i64 y7, .int .u32 y8], .bool r]) X)) (by kernel_rfl) (HSS.out _ _ hXd (by simp)) (fun hHeld => ?_)
  generalize X.drew = X1 at *
  have HXD : Hid (TV S1 S2 p a b w X1 ((g, .cells #[.int .u8 k1, .int .u32 k2, .int .u16 k3] 36 (0, 0)) :: (D ++ L))) := hXd
  clear hXd
  refine wpAnyH_take (i := 0) (v := ?_) rfl (by kernel_rfl) (by kernel_rfl) (by kernel_rfl) (fun _ _ _ h => h) (Or.inl ⟨by rfl, ?z1⟩) (by assumption) ?_
  case z1 =>
   intro w hSw
   (try dsimp only at hSw)
   go_simp
   all_goals with_reducible rfl
  try simp only [List.getElem_toArray, List.getElem_cons_zero, List.getElem_cons_succ, Act.put, List.setIfInBounds_toArray, List.set_cons_zero, List.set_cons_succ]
  refine wpAnyH_take (i := 1) (v := ?_) rfl (by kernel_rfl) (by kernel_rfl) (by kernel_rfl) (fun _ _ _ h => h) (Or.inl ⟨by rfl, ?z2⟩) (by assumption) ?_
  case z2 =>
   intro w hSw
   (try dsimp only at hSw)
   go_simp
   all_goals with_reducible rfl
  try simp only [List.getElem_toArray, List.getElem_cons_zero, List.getElem_cons_succ, Act.put, List.setIfInBounds_toArray, List.set_cons_zero, List.set_cons_succ]
  refine wpAnyH_take (i := 2) (v := ?_) rfl (by kernel_rfl) (by kernel_rfl) (by kernel_rfl) (fun _ _ _ h => h) (Or.inl ⟨by rfl, ?z3⟩) (by assumption) ?_
  case z3 =>
   intro w hSw
   (try dsimp only at hSw)
   go_simp
   all_goals with_reducible rfl
  try simp only [List.getElem_toArray, List.getElem_cons_zero, List.getElem_cons_succ, Act.put, List.setIfInBounds_toArray, List.set_cons_zero, List.set_cons_succ]
  refine wpAnyH_take (i := 3) (v := ?_) rfl (by kernel_rfl) (by kernel_rfl) (by kernel_rfl) (fun _ _ _ h => h) (Or.inl ⟨by rfl, ?z4⟩) (by assumption) ?_
  case z4 =>
   intro w hSw
   (try dsimp only at hSw)
   go_simp
   all_goals with_reducible rfl
  try simp only [List.getElem_toArray, List.getElem_cons_zero, List.getElem_cons_succ, Act.put, List.setIfInBounds_toArray, List.set_cons_zero, List.set_cons_succ]
  refine wpAnyH_take (i := 4) (v := ?_) rfl (by kernel_rfl) (by kernel_rfl) (by kernel_rfl) (fun _ _ _ h => h) (Or.inl ⟨by rfl, ?z5⟩) (by assumption) ?_
  case z5 =>
   intro w hSw
   (try dsimp only at hSw)
   go_simp
   all_goals with_reducible rfl
  try simp only [List.getElem_toArray, List.getElem_cons_zero, List.getElem_cons_succ, Act.put, List.setIfInBounds_toArray, List.set_cons_zero, List.set_cons_succ]
  refine wpAnyH_take (i := 5) (v := ?_) rfl (by kernel_rfl) (by kernel_rfl) (by kernel_rfl) (fun _ _ _ h => h) (Or.inl ⟨by rfl, ?z6⟩) (by assumption) ?_
  case z6 =>
   intro w hSw
   (try dsimp only at hSw)
   go_simp
   all_goals with_reducible rfl
  try simp only [List.getElem_toArray, List.getElem_cons_zero, List.getElem_cons_succ, Act.put, List.setIfInBounds_toArray, List.set_cons_zero, List.set_cons_succ]
  refine wpAnyH_take (i := 6) (v := ?_) rfl (by kernel_rfl) (by kernel_rfl) (by kernel_rfl) (fun _ _ _ h => h) (Or.inl ⟨by rfl, ?z7⟩) (by assumption) ?_
  case z7 =>
   intro w hSw
   (try dsimp only at hSw)
   go_simp
   all_goals with_reducible rfl
  try simp only [List.getElem_toArray, List.getElem_cons_zero, List.getElem_cons_succ, Act.put, List.setIfInBounds_toArray, List.set_cons_zero, List.set_cons_succ]
  refine wpAnyH_take (i := 7) (v := ?_) rfl (by kernel_rfl) (by kernel_rfl) (by kernel_rfl) (fun _ _ _ h => h) (Or.inl ⟨by rfl, ?z8⟩) (by assumption) ?_
  case z8 =>
   intro w hSw
   (try dsimp only at hSw)
   go_simp
   all_goals with_reducible rfl
  try simp only [List.getElem_toArray, List.getElem_cons_zero, List.getElem_cons_succ, Act.put, List.setIfInBounds_toArray, List.set_cons_zero, List.set_cons_succ]
  refine wpAnyH_take (i := 8) (v := ?_) rfl (by kernel_rfl) (by kernel_rfl) (by kernel_rfl) (fun _ _ _ h => h) (Or.inl ⟨by rfl, ?z9⟩) (by assumption) ?_
  case z9 =>
   intro w hSw
   (try dsimp only at hSw)
   go_simp
   all_goals with_reducible rfl
  try simp only [List.getElem_toArray, List.getElem_cons_zero, List.getElem_cons_succ, Act.put, List.setIfInBounds_toArray, List.set_cons_zero, List.set_cons_succ]
  refine wpAnyH_ready (rs := [9]) (by kernel_rfl) (by simp) ?_
  refine AllReadyH.cons rfl (fun K hK => ?_) AllReadyH.nil
  go_simp
  try simp only [hXds]
  refine hK.out _ _ (HSS.out _ _ (HXD.out.push [.int .u8 0, .int .u32 0, .int .u16 0, .int .u32 0, .int .u16 0, .int .u32 0, .slice none 0 0, .int .i64 0, .int .u32 0] 39 hXds) (by simp)) (fun hHeld => ?_)
  clear hK K
  try simp only [List.getElem_toArray, List.getElem_cons_zero, List.getElem_cons_succ, Act.put, List.setIfInBounds_toArray, List.set_cons_zero, List.set_cons_succ]
  refine wpAnyH_ready (rs := [10]) (by kernel_rfl) (by simp) ?_
  refine AllReadyH.cons rfl (fun K hK => ?_) AllReadyH.nil
  go_simp
  refine hK.out _ _ (HSS.out _ _ (HXD.out.push [.int .u8 y1, .int .u32 y2, .int .u16 y3, .int .u32 y4, .int .u16 y5, .int .u32 y6, .slice qa n qc, .int .i64 y7, .int .u32 y8] 39 hXds) (by simp)) (fun hHeld => ?_)
  clear hK K
  try simp only [List.getElem_toArray, List.getElem_cons_zero, List.getElem_cons_succ, Act.put, List.setIfInBounds_toArray, List.set_cons_zero, List.set_cons_succ]
  refine wpAnyH_take (i := 11) (v := ?_) rfl (by kernel_rfl) (by kernel_rfl) (by kernel_rfl) (fun _ _ _ h => h) (Or.inl ⟨by rfl, ?z10⟩) (by assumption) ?_
  case z10 =>
   intro w hSw
   (try dsimp only at hSw)
   go_simp
   all_goals with_reducible rfl
  try simp only [List.getElem_toArray, List.getElem_cons_zero, List.getElem_cons_succ, Act.put, List.setIfInBounds_toArray, List.set_cons_zero, List.set_cons_succ]
  refine wpAnyH_done (by kernel_rfl) ?_ _
  go_upto_region 2 with fail
  refine wp_letter (fun X => TV S1 S2 p a b w X ((g + 1, .cells #[.int .u8 y1, .int .u32 y2, .int .u16 y3, .int .u32 y4, .int .u16 y5, .int .u32 y6, .slice qa n qc, .int .i64 y7, .int .u32 y8] 39 (0, 0)) :: (g, .cells #[.int .u8 k1, .int .u32 k2, .int .u16 k3] 36 (0, 0)) :: (D ++ L))) (by exact HXD.out.push [.int .u8 y1, .int .u32 y2, .int .u16 y3, .int .u32 y4, .int .u16 y5, .int .u32 y6, .slice qa n qc, .int .i64 y7, .int .u32 y8] 39 hXds) ?_
  intro Y hY
  clear HXD hXds hHeld HSS
  have HY : Hid (TV S1 S2 p a b w Y ((g + 1, .cells #[.int .u8 y1, .int .u32 y2, .int .u16 y3, .int .u32 y4, .int .u16 y5, .int .u32 y6, .slice qa n qc, .int .i64 y7, .int .u32 y8] 39 (0, 0)) :: (g, .cells #[.int .u8 k1, .int .u32 k2, .int .u16 k3] 36 (0, 0)) :: (D ++ L))) := hY
  cases r with
  | false =>
    clear hY
    go_wp2_with fail
    go_ret
    obtain ⟨B', hB', hM5⟩ := (HY.out.mem (B := ((g + 1, .cells #[.int .u8 y1, .int .u32 y2, .int .u16 y3, .int .u32 y4, .int .u16 y5, .int .u32 y6, .slice qa n qc, .int .i64 y7, .int .u32 y8] 39 (0, 0)) :: (g, .cells #[.int .u8 k1, .int .u32 k2, .int .u16 k3] 36 (0, 0)) :: D) ++ L) rfl).shut (HS.out.mono fun q hq => List.mem_cons_of_mem _ (List.mem_cons_of_mem _ hq))
    exact ⟨rfl, B', by rw [HF.out.2 (by simp)]; exact hB', hM5⟩
  | true =>
    clear hY
    go_upto_region 3 with fail
    have HS3 : Hid (∀ S1 X L', TV S1 S2 p a b w X L' → (g, .cells #[.int .u8 k1, .int .u32 k2, .int .u16 k3] 36 (0, 0)) ∈ L' → (fun X => X.cell? ⟨p, 0, none⟩ = some (.map (some a)) ∧ X.cell? ⟨g, 0, none⟩ = some (.int .u8 k1) ∧ X.cell? ⟨g, 1, none⟩ = some (.int .u32 k2) ∧ X.cell? ⟨g, 2, none⟩ = some (.int .u16 k3)) X) := fun S1 X L' hX hm => by
      obtain ⟨B, hM, -⟩ := hX.rest
      have hg := hM.at_ _ (List.mem_append_right _ hm)
      exact ⟨hX.keep.1, by rw [cell_of hg]; rfl, by rw [cell_of hg]; rfl, by rw [cell_of hg]; rfl⟩
    refine wp_region_held_drew (S := (fun X => X.cell? ⟨p, 0, none⟩ = some (.map (some a)) ∧ X.cell? ⟨g, 0, none⟩ = some (.int .u8 k1) ∧ X.cell? ⟨g, 1, none⟩ = some (.int .u32 k2) ∧ X.cell? ⟨g, 2, none⟩ = some (.int .u16 k3))) (by kernel_rfl) (HS3.out _ _ _ HY.out.drew (by simp)) (fun hHeld => ?_)
    have HXD : Hid (TV S1 S2 p a b w Y.drew ((g + 1, .cells #[.int .u8 y1, .int .u32 y2, .int .u16 y3, .int .u32 y4, .int .u16 y5, .int .u32 y6, .slice qa n qc, .int .i64 y7, .int .u32 y8] 39 (0, 0)) :: (g, .cells #[.int .u8 k1, .int .u32 k2, .int .u16 k3] 36 (0, 0)) :: (D ++ L))) := HY.out.drew
    clear HY
    generalize Y.drew = X1 at *
    refine wpAnyH_take (i := 0) (v := ?_) rfl (by kernel_rfl) (by kernel_rfl) (by kernel_rfl) (fun _ _ _ h => h) (Or.inl ⟨by rfl, ?z11⟩) (by assumption) ?_
    case z11 =>
     intro w hSw
     (try dsimp only at hSw)
     go_simp
     all_goals with_reducible rfl
    try simp only [List.getElem_toArray, List.getElem_cons_zero, List.getElem_cons_succ, Act.put, List.setIfInBounds_toArray, List.set_cons_zero, List.set_cons_succ]
    refine wpAnyH_take (i := 1) (v := ?_) rfl (by kernel_rfl) (by kernel_rfl) (by kernel_rfl) (fun _ _ _ h => h) (Or.inl ⟨by rfl, ?z12⟩) (by assumption) ?_
    case z12 =>
     intro w hSw
     (try dsimp only at hSw)
     go_simp
     all_goals with_reducible rfl
    try simp only [List.getElem_toArray, List.getElem_cons_zero, List.getElem_cons_succ, Act.put, List.setIfInBounds_toArray, List.set_cons_zero, List.set_cons_succ]
    refine wpAnyH_take (i := 2) (v := ?_) rfl (by kernel_rfl) (by kernel_rfl) (by kernel_rfl) (fun _ _ _ h => h) (Or.inl ⟨by rfl, ?z13⟩) (by assumption) ?_
    case z13 =>
     intro w hSw
     (try dsimp only at hSw)
     go_simp
     all_goals with_reducible rfl
    try simp only [List.getElem_toArray, List.getElem_cons_zero, List.getElem_cons_succ, Act.put, List.setIfInBounds_toArray, List.set_cons_zero, List.set_cons_succ]
    refine wpAnyH_take (i := 3) (v := ?_) rfl (by kernel_rfl) (by kernel_rfl) (by kernel_rfl) (fun _ _ _ h => h) (Or.inl ⟨by rfl, ?z14⟩) (by assumption) ?_
    case z14 =>
     intro w hSw
     (try dsimp only at hSw)
     go_simp
     all_goals with_reducible rfl
    try simp only [List.getElem_toArray, List.getElem_cons_zero, List.getElem_cons_succ, Act.put, List.setIfInBounds_toArray, List.set_cons_zero, List.set_cons_succ]
    refine wpAnyH_take (i := 4) (v := ?_) rfl (by kernel_rfl) (by kernel_rfl) (by kernel_rfl) (fun _ _ _ h => h) (Or.inl ⟨by rfl, ?z15⟩) (by assumption) ?_
    case z15 =>
     intro w hSw
     (try dsimp only at hSw)
     go_simp
     all_goals with_reducible rfl
    try simp only [List.getElem_toArray, List.getElem_cons_zero, List.getElem_cons_succ, Act.put, List.setIfInBounds_toArray, List.set_cons_zero, List.set_cons_succ]
    refine wpAnyH_ready (rs := [5]) (by kernel_rfl) (by simp) ?_
    refine AllReadyH.cons rfl (fun K hK => ?_) AllReadyH.nil
    obtain ⟨ob, hrun, hV7⟩ := HXD.out.del1 HK.out 0
    simp only [kv] at hrun
    go_simp
    refine hK.out _ _ (HS3.out _ _ _ hV7 (by simp)) (fun hHeld => ?_)
    clear hK K
    try simp only [List.getElem_toArray, List.getElem_cons_zero, List.getElem_cons_succ, Act.put, List.setIfInBounds_toArray, List.set_cons_zero, List.set_cons_succ]
    refine wpAnyH_done (by kernel_rfl) ?_ _
    have HV7 : Hid (TV (upd S1 (k1, k2, k3) none) S2 p a b w (Go.ChangeMaps.setBlock X1 a ob) ((g + 1, .cells #[.int .u8 y1, .int .u32 y2, .int .u16 y3, .int .u32 y4, .int .u16 y5, .int .u32 y6, .slice qa n qc, .int .i64 y7, .int .u32 y8] 39 (0, 0)) :: (g, .cells #[.int .u8 k1, .int .u32 k2, .int .u16 k3] 36 (0, 0)) :: (D ++ L))) := hV7
    clear hV7 hHeld hrun HS3 HXD
    go_upto_region 4 with fail
    refine wp_letter (fun X => TV (upd S1 (k1, k2, k3) none) S2 p a b w X ((g + 1, .cells #[.int .u8 y1, .int .u32 y2, .int .u16 y3, .int .u32 y4, .int .u16 y5, .int .u32 y6, .slice qa n qc, .int .i64 y7, .int .u32 y8] 39 (0, 0)) :: (g, .cells #[.int .u8 k1, .int .u32 k2, .int .u16 k3] 36 (0, 0)) :: (D ++ L))) (by exact HV7.out) ?_
    intro X hX
    clear HV7
    have HS4 : Hid (∀ S2 X L', TV (upd S1 (k1, k2, k3) none) S2 p a b w X L' → (g + 1, .cells #[.int .u8 y1, .int .u32 y2, .int .u16 y3, .int .u32 y4, .int .u16 y5, .int .u32 y6, .slice qa n qc, .int .i64 y7, .int .u32 y8] 39 (0, 0)) ∈ L' → (fun X => X.cell? ⟨p, 1, none⟩ = some (.map (some b)) ∧ X.cell? ⟨g + 1, 0, none⟩ = some (.int .u8 y1) ∧ X.cell? ⟨g + 1, 1, none⟩ = some (.int .u32 y2) ∧ X.cell? ⟨g + 1, 2, none⟩ = some (.int .u16 y3) ∧ X.cell? ⟨g + 1, 3, none⟩ = some (.int .u32 y4) ∧ X.cell? ⟨g + 1, 4, none⟩ = some (.int .u16 y5) ∧ X.cell? ⟨g + 1, 5, none⟩ = some (.int .u32 y6) ∧ X.cell? ⟨g + 1, 6, none⟩ = some (.slice qa n qc) ∧ X.cell? ⟨g + 1, 7, none⟩ = some (.int .i64 y7) ∧ X.cell? ⟨g + 1, 8, none⟩ = some (.int .u32 y8)) X) := fun S2 X L' hX hm => by
      obtain ⟨B, hM, -⟩ := hX.rest
      have hg := hM.at_ _ (List.mem_append_right _ hm)
      exact ⟨hX.keep.2, by rw [cell_of hg]; rfl, by rw [cell_of hg]; rfl, by rw [cell_of hg]; rfl, by rw [cell_of hg]; rfl, by rw [cell_of hg]; rfl, by rw [cell_of hg]; rfl, by rw [cell_of hg]; rfl, by rw [cell_of hg]; rfl, by rw [cell_of hg]; rfl⟩
    have hXd := hX.drew
    clear hX
    refine wp_region_held_drew (S := (fun X => X.cell? ⟨p, 1, none⟩ = some (.map (some b)) ∧ X.cell? ⟨g + 1, 0, none⟩ = some (.int .u8 y1) ∧ X.cell? ⟨g + 1, 1, none⟩ = some (.int .u32 y2) ∧ X.cell? ⟨g + 1, 2, none⟩ = some (.int .u16 y3) ∧ X.cell? ⟨g + 1, 3, none⟩ = some (.int .u32 y4) ∧ X.cell? ⟨g + 1, 4, none⟩ = some (.int .u16 y5) ∧ X.cell? ⟨g + 1, 5, none⟩ = some (.int .u32 y6) ∧ X.cell? ⟨g + 1, 6, none⟩ = some (.slice qa n qc) ∧ X.cell? ⟨g + 1, 7, none⟩ = some (.int .i64 y7) ∧ X.cell? ⟨g + 1, 8, none⟩ = some (.int .u32 y8))) (by kernel_rfl) (HS4.out _ _ _ hXd (by simp)) (fun hHeld => ?_)
    have HXD : Hid (TV (upd S1 (k1, k2, k3) none) S2 p a b w X.drew ((g + 1, .cells #[.int .u8 y1, .int .u32 y2, .int .u16 y3, .int .u32 y4, .int .u16 y5, .int .u32 y6, .slice qa n qc, .int .i64 y7, .int .u32 y8] 39 (0, 0)) :: (g, .cells #[.int .u8 k1, .int .u32 k2, .int .u16 k3] 36 (0, 0)) :: (D ++ L))) := hXd
    clear hXd
    generalize X.drew = X2 at *
    have C1 := outof_any (W := X2) y1 y2 y3 y4 y5 y6 (.slice qa n qc) y7 y8
    refine wpAnyH_take (i := 0) (v := ?_) rfl (by kernel_rfl) (by kernel_rfl) (by kernel_rfl) (fun _ _ _ h => h) (Or.inl ⟨by rfl, ?z16⟩) (by assumption) ?_
    case z16 =>
     intro w hSw
     (try dsimp only at hSw)
     go_simp
     all_goals with_reducible rfl
    try simp only [List.getElem_toArray, List.getElem_cons_zero, List.getElem_cons_succ, Act.put, List.setIfInBounds_toArray, List.set_cons_zero, List.set_cons_succ]
    refine wpAnyH_take (i := 1) (v := ?_) rfl (by kernel_rfl) (by kernel_rfl) (by kernel_rfl) (fun _ _ _ h => h) (Or.inl ⟨by rfl, ?z17⟩) (by assumption) ?_
    case z17 =>
     intro w hSw
     (try dsimp only at hSw)
     go_simp
     all_goals with_reducible rfl
    try simp only [List.getElem_toArray, List.getElem_cons_zero, List.getElem_cons_succ, Act.put, List.setIfInBounds_toArray, List.set_cons_zero, List.set_cons_succ]
    refine wpAnyH_take (i := 2) (v := ?_) rfl (by kernel_rfl) (by kernel_rfl) (by kernel_rfl) (fun _ _ _ h => h) (Or.inl ⟨by rfl, ?z18⟩) (by assumption) ?_
    case z18 =>
     intro w hSw
     (try dsimp only at hSw)
     go_simp
     all_goals with_reducible rfl
    try simp only [List.getElem_toArray, List.getElem_cons_zero, List.getElem_cons_succ, Act.put, List.setIfInBounds_toArray, List.set_cons_zero, List.set_cons_succ]
    refine wpAnyH_take (i := 3) (v := ?_) rfl (by kernel_rfl) (by kernel_rfl) (by kernel_rfl) (fun _ _ _ h => h) (Or.inl ⟨by rfl, ?z19⟩) (by assumption) ?_
    case z19 =>
     intro w hSw
     (try dsimp only at hSw)
     go_simp
     all_goals with_reducible rfl
    try simp only [List.getElem_toArray, List.getElem_cons_zero, List.getElem_cons_succ, Act.put, List.setIfInBounds_toArray, List.set_cons_zero, List.set_cons_succ]
    refine wpAnyH_take (i := 4) (v := ?_) rfl (by kernel_rfl) (by kernel_rfl) (by kernel_rfl) (fun _ _ _ h => h) (Or.inl ⟨by rfl, ?z20⟩) (by assumption) ?_
    case z20 =>
     intro w hSw
     (try dsimp only at hSw)
     go_simp
     all_goals with_reducible rfl
    try simp only [List.getElem_toArray, List.getElem_cons_zero, List.getElem_cons_succ, Act.put, List.setIfInBounds_toArray, List.set_cons_zero, List.set_cons_succ]
    refine wpAnyH_ready (rs := [5]) (by kernel_rfl) (by simp) ?_
    refine AllReadyH.cons rfl (fun K hK => ?_) AllReadyH.nil
    go_simp
    with_reducible refine (C1).mono ?_
    rintro e X3 ⟨rfl, hb3⟩
    try go_wp2_with fail
    have hV8 := HXD.out.after hb3
    clear C1 hb3
    have HV8 : Hid (TV (upd S1 (k1, k2, k3) none) S2 p a b w X3 ((g + 1, .cells #[.int .u8 y1, .int .u32 y2, .int .u16 y3, .int .u32 y4, .int .u16 y5, .int .u32 y6, .slice qa n qc, .int .i64 y7, .int .u32 y8] 39 (0, 0)) :: (g, .cells #[.int .u8 k1, .int .u32 k2, .int .u16 k3] 36 (0, 0)) :: (D ++ L))) := hV8
    refine hK.out _ _ (HS4.out _ _ _ hV8 (by simp)) (fun hHeld => ?_)
    clear hK K
    try simp only [List.getElem_toArray, List.getElem_cons_zero, List.getElem_cons_succ, Act.put, List.setIfInBounds_toArray, List.set_cons_zero, List.set_cons_succ]
    refine wpAnyH_ready (rs := [6]) (by kernel_rfl) (by simp) ?_
    refine AllReadyH.cons rfl (fun K hK => ?_) AllReadyH.nil
    have hki : KIn (y1, y4, y5) := sin_okey (HS.out.fits _ (HF.out.1 (by simp)).1)
    obtain ⟨ob2, hrun, hV9⟩ := HV8.out.del2 hki 0
    simp only [kv] at hrun
    go_simp
    refine hK.out _ _ (HS4.out _ _ _ hV9 (by simp)) (fun hHeld => ?_)
    clear hK K
    try simp only [List.getElem_toArray, List.getElem_cons_zero, List.getElem_cons_succ, Act.put, List.setIfInBounds_toArray, List.set_cons_zero, List.set_cons_succ]
    refine wpAnyH_done (by kernel_rfl) ?_ _
    have HV9 : Hid (TV (upd S1 (k1, k2, k3) none) (upd S2 (y1, y4, y5) none) p a b w (Go.ChangeMaps.setBlock X3 b ob2) ((g + 1, .cells #[.int .u8 y1, .int .u32 y2, .int .u16 y3, .int .u32 y4, .int .u16 y5, .int .u32 y6, .slice qa n qc, .int .i64 y7, .int .u32 y8] 39 (0, 0)) :: (g, .cells #[.int .u8 k1, .int .u32 k2, .int .u16 k3] 36 (0, 0)) :: (D ++ L))) := hV9
    clear hV9 hV8 hHeld hrun HS4 hki
    go_wp2_with fail
    go_ret
    have hf := HF.out.1 (by simp)
    have hT := (HS.out.drop hf.1).mono (D' := (g + 1, .cells #[.int .u8 y1, .int .u32 y2, .int .u16 y3, .int .u32 y4, .int .u16 y5, .int .u32 y6, .slice qa n qc, .int .i64 y7, .int .u32 y8] 39 (0, 0)) :: (g, .cells #[.int .u8 k1, .int .u32 k2, .int .u16 k3] 36 (0, 0)) :: D) fun q hq => by simp [hq]
    rw [hf.2] at hT
    obtain ⟨B', hB', hM8⟩ := (HV9.out.mem (B := ((g + 1, .cells #[.int .u8 y1, .int .u32 y2, .int .u16 y3, .int .u32 y4, .int .u16 y5, .int .u32 y6, .slice qa n qc, .int .i64 y7, .int .u32 y8] 39 (0, 0)) :: (g, .cells #[.int .u8 k1, .int .u32 k2, .int .u16 k3] 36 (0, 0)) :: D) ++ L) rfl).shut hT
    exact ⟨rfl, B', hB', hM8⟩
end
end Ss
end Go.Proofs.Ytgeeijinhneoiaa
