/-
  Sessions, the program's own: New, Len, Find, Out.
-/
import Derived.Test.YtgeeijinhneoiaaSpCop
namespace Go.Proofs.Ytgeeijinhneoiaa
open Go.RowKit
open Sm
open Po
open Wh
set_option linter.unusedVariables false
set_option linter.unusedSimpArgs false
set_option maxRecDepth 20000

namespace Ss
section
variable {xs : List Sn} {S1 S2 : Ky → Option Value} {D L : List (Nat × Obj)} {p a b : Nat} {w V : World}
theorem TS.look (h : TS xs S1 S2 D) (k : Ky) : ∃ qv, (S1 k).getD (sv sn0 (.slice none 0 0)) = sv ((fk k xs).getD sn0) qv ∧ (S1 k).isSome = (fk k xs).isSome ∧ SlF 34 2 qv ((fk k xs).getD sn0).ps.length (px ((fk k xs).getD sn0).ps).flatten D := by
  rcases h.find k with ⟨h1, h2⟩ | ⟨x, pv, h1, -, -, h2, h3⟩
  · rw [h1, h2]
    exact ⟨.slice none 0 0, rfl, rfl, SlF.nil _ _ _⟩
  · rw [h1, h2]
    exact ⟨pv, rfl, rfl, h3⟩
theorem TV.mem (h : TV S1 S2 p a b w V L) {B : List (Nat × Obj)} (hL : L = B) : TV S1 S2 p a b w V B := hL ▸ h
theorem new_any (W : World) : Calls Try.prog 11 #[] W fun e W' => ∃ p B, e = .returned (.pointer (some ⟨p, 0, none⟩)) ∧ PSs [] p B ∧ Mem W W' B := by
  obtain ⟨g, hg⟩ : ∃ g, W.heap.size = g := ⟨_, rfl⟩
  have HM : Hid (Mem W (((W.alloc (.map #[] 0)).alloc (.map #[] 0)).alloc (.cells #[.map (some g), .map (some (g + 1))] 69)) [(g, .map #[] 0), (g + 1, .map #[] 0), (g + 2, .cells #[.map (some g), .map (some (g + 1))] 69 (0, 0))]) := ((((Mem.nil W).push g _ hg.symm).push (g + 1) _ (by rw [World.size_alloc, hg])).push (g + 2) _ (by rw [World.size_alloc, World.size_alloc, hg]))
  have hm1 : (Instr.makeMap 66 none).run Try.prog W = .ok (.map (some g)) (W.alloc (.map #[] 0)) := by rw [← hg]; rfl
  have hz1 : (W.alloc (.map #[] 0)).heap.size = g + 1 := by rw [World.size_alloc, hg]
  have hm2 : (Instr.makeMap 67 none).run Try.prog (W.alloc (.map #[] 0)) = .ok (.map (some (g + 1))) ((W.alloc (.map #[] 0)).alloc (.map #[] 0)) := by rw [← hz1]; rfl
  have hz2 : ((W.alloc (.map #[] 0)).alloc (.map #[] 0)).heap.size = g + 2 := by rw [World.size_alloc, hz1]
  go_enter Try.func11, Try.ntmps11
  go_wp2_with fail
  go_ret
  refine ⟨g + 2, _, rfl, ⟨g, g + 1, #[], 0, #[], 0, fun _ => none, fun _ => none, [], MI.nil fun _ => rfl, MI.nil fun _ => rfl, ⟨by simp, fun _ _ => rfl, by simp, fun _ _ => rfl, List.Pairwise.nil, List.Pairwise.nil, by simp, by simp⟩, rfl⟩, ?_⟩
  exact HM.out.perm (by
    classical
    rw [List.perm_iff_count]
    intro q
    simp only [List.count_append, List.count_cons, List.count_nil]
    omega)
theorem len_any {B : List (Nat × Obj)} (h : PSs xs p B) (hM : Mem w V (B ++ L)) : Calls Try.prog 26 #[.pointer (some ⟨p, 0, none⟩)] V fun e V' => e = .returned (.int .i64 xs.length) ∧ V = V' := by
  obtain ⟨a, b, S1, S2, D, hS, hV⟩ := h.open hM
  obtain ⟨k1, k2⟩ := hV.keep
  have h1 := hV.size hS.keys.1 hS.keys.2 3
  rw [List.length_map] at h1
  obtain ⟨n, hn⟩ : ∃ n : Int, (xs.length : Int) = n := ⟨_, rfl⟩
  rw [hn] at h1 ⊢
  clear h hM hS hV hn
  go_enter Try.func26, Try.ntmps26
  go_wp2_with fail
  go_ret
  exact ⟨rfl, rfl⟩
set_option maxHeartbeats 8000000 in
theorem find_any {B : List (Nat × Obj)} (h : PSs xs p B) (hM : Mem w V (B ++ L)) {k : Ky} (hk : KIn k) :
    Calls Try.prog 19 #[.pointer (some ⟨p, 0, none⟩), .agg #[.int .u8 k.1, .int .u32 k.2.1, .int .u16 k.2.2]] V (SfQ PSs w p L (fk k xs) xs) := by
  obtain ⟨a, b, S1, S2, D, hS, hV⟩ := h.open hM
  obtain ⟨qv, e1, e2, hq⟩ := hS.look k
  have hps := hS.few
  have hps' : ((fk k xs).getD sn0).ps.length ≤ 1000 := by
    cases hf : fk k xs with
    | none => simp [sn0]
    | some x => exact hps x (fk_some hf).1
  obtain ⟨o, ho⟩ : ∃ o, fk k xs = o := ⟨_, rfl⟩
  rw [ho] at e1 e2 hq hps' ⊢
  obtain ⟨r, hr⟩ : ∃ r, o.isSome = r := ⟨_, rfl⟩
  obtain ⟨y, hy⟩ : ∃ y, o.getD sn0 = y := ⟨_, rfl⟩
  rw [hy] at e1 hq hps'
  rw [hr] at e2
  have HLK : Hid (∀ X L', TV S1 S2 p a b w X L' → (Instr.lookup 66 (.map (some a)) (kv k) true).run Try.prog X = .ok (.tuple #[sv y qv, .bool r]) X) := fun X L' hX => by
    have := hX.look1 hk true
    rw [e1, e2] at this
    exact this
  have HOY : Hid (o.isSome = r ∧ o.getD sn0 = y) := ⟨hr, hy⟩
  have HS : Hid (TS xs S1 S2 D) := hS
  obtain ⟨k1, k2, k3⟩ := k
  obtain ⟨n, hn⟩ : ∃ n, y.ps.length = n := ⟨_, rfl⟩
  rw [hn] at hq hps'
  obtain ⟨-, qa, qc, rfl, -⟩ := id hq
  have HSD : Hid (SlF 34 2 (.slice qa n qc) n (px y.ps).flatten D ∧ n ≤ 1000 ∧ y.ps.length = n) := ⟨hq, hps', hn⟩
  obtain ⟨y1, y2, y3, y4, y5, y6, ps, y7, y8⟩ := y
  simp only [kv, sv, sc] at HLK ⊢
  obtain ⟨g, hg⟩ : ∃ g, V.heap.size = g := ⟨_, rfl⟩
  have HM0 : Hid (TV S1 S2 p a b w ((V.alloc (.cells #[.int .u8 k1, .int .u32 k2, .int .u16 k3] 36)).alloc (.cells #[.int .u8 0, .int .u32 0, .int .u16 0, .int .u32 0, .int .u16 0, .int .u32 0, .slice none 0 0, .int .i64 0, .int .u32 0] 39)) ((g + 1, .cells #[.int .u8 0, .int .u32 0, .int .u16 0, .int .u32 0, .int .u16 0, .int .u32 0, .slice none 0 0, .int .i64 0, .int .u32 0] 39 (0, 0)) :: (g, .cells #[.int .u8 k1, .int .u32 k2, .int .u16 k3] 36 (0, 0)) :: (D ++ L)) ∧ ((V.alloc (.cells #[.int .u8 k1, .int .u32 k2, .int .u16 k3] 36)).alloc (.cells #[.int .u8 0, .int .u32 0, .int .u16 0, .int .u32 0, .int .u16 0, .int .u32 0, .slice none 0 0, .int .i64 0, .int .u32 0] 39)).heap.size = g + 2) := ⟨(hV.push [.int .u8 k1, .int .u32 k2, .int .u16 k3] 36 hg).push [.int .u8 0, .int .u32 0, .int .u16 0, .int .u32 0, .int .u16 0, .int .u32 0, .slice none 0 0, .int .i64 0, .int .u32 0] 39 (by rw [World.size_alloc, hg]), by rw [World.size_alloc, World.size_alloc, hg]⟩
  clear h hM hk hV hS e1 e2 hq hps hps' ho hr hy hn
  go_enter Try.func19, Try.ntmps19
  go_upto_region 1 with fail
  refine wp_letter (fun X => TV S1 S2 p a b w X ((g + 1, .cells #[.int .u8 0, .int .u32 0, .int .u16 0, .int .u32 0, .int .u16 0, .int .u32 0, .slice none 0 0, .int .i64 0, .int .u32 0] 39 (0, 0)) :: (g, .cells #[.int .u8 k1, .int .u32 k2, .int .u16 k3] 36 (0, 0)) :: (D ++ L)) ∧ X.heap.size = g + 2) (by exact HM0.out) ?_
  rintro X ⟨hX, hXs⟩
  clear HM0
  try simp only [World.size_alloc, hg]
  have HSS : Hid (∀ X L', TV S1 S2 p a b w X L' → (g, .cells #[.int .u8 k1, .int .u32 k2, .int .u16 k3] 36 (0, 0)) ∈ L' → (fun X => X.cell? ⟨p, 0, none⟩ = some (.map (some a)) ∧ X.cell? ⟨g, 0, none⟩ = some (.int .u8 k1) ∧ X.cell? ⟨g, 1, none⟩ = some (.int .u32 k2) ∧ X.cell? ⟨g, 2, none⟩ = some (.int .u16 k3) ∧ (Instr.lookup 66 (.map (some a)) (.agg #[.int .u8 k1, .int .u32 k2, .int .u16 k3]) true).run Try.prog X = .ok (.tuple #[.agg #[.int .u8 y1, .int .u32 y2, .int .u16 y3, .int .u32 y4, .int .u16 y5, .int .u32 y6, .slice qa n qc, .int .i64 y7, .int .u32 y8], .bool r]) X) X) := fun X L' hX hm => by
    obtain ⟨B, hM, -⟩ := hX.rest
    have hg := hM.at_ _ (List.mem_append_right _ hm)
    exact ⟨hX.keep.1, by rw [cell_of hg]; rfl, by rw [cell_of hg]; rfl, by rw [cell_of hg]; rfl, HLK.out X _ hX⟩
  have hXd := hX.drew
  have hXds : X.drew.heap.size = g + 2 := hXs
  clear hX hXs
  refine wp_region_held_drew (S := (fun X => X.cell? ⟨p, 0, none⟩ = some (.map (some a)) ∧ X.cell? ⟨g, 0, none⟩ = some (.int .u8 k1) ∧ X.cell? ⟨g, 1, none⟩ = some (.int .u32 k2) ∧ X.cell? ⟨g, 2, none⟩ = some (.int .u16 k3) ∧ (Instr.lookup 66 (.map (some a)) (.agg #[.int .u8 k1, .int .u32 k2, .int .u16 k3]) true).run Try.prog X = .ok (.tuple #[.agg #[.int .u8 y1, .int .u32 y2, .int .u16 y3, .int .u32 y4, .int .u16 y5, .int .u32 y6, .slice qa n qc, .int .i64 y7, .int .u32 y8], .bool r]) X)) (by kernel_rfl) (HSS.out _ _ hXd (by simp)) (fun hHeld => ?_)
  generalize X.drew = X1 at *
  have HXD : Hid (TV S1 S2 p a b w X1 ((g + 1, .cells #[.int .u8 0, .int .u32 0, .int .u16 0, .int .u32 0, .int .u16 0, .int .u32 0, .slice none 0 0, .int .i64 0, .int .u32 0] 39 (0, 0)) :: (g, .cells #[.int .u8 k1, .int .u32 k2, .int .u16 k3] 36 (0, 0)) :: (D ++ L))) := hXd
  clear hXd
  refine wpAnyH_take (i := 0) (v := ?_) rfl (by kernel_rfl) (by kernel_rfl) (by kernel_rfl) (fun _ _ _ h => h) (Or.inl ⟨by rfl, ?z1⟩) (by assumption) ?_
  case z1 =>
   intro w hSw
   (try dsimp only at hSw)
   go_simp
   all_goals with_reducible rfl
  try simp only [List.getElem_toArray, List.getElem_cons_zero, List.getElem_cons_succ, Act.put, List.setIfInBounds_toArray, List.set_cons_zero, List.set_cons_succ]
  refine wpAnyH_take (i := 1) (v := ?_) rfl (by kernel_rfl) (by kernel_rfl) (by kernel_rfl) (fun _ _ _ h => h) (Or.inl ⟨by rfl, ?z2⟩) (by assumption) ?_
  case z2 =>
   intro w hSw
   (try dsimp only at hSw)
   go_simp
   all_goals with_reducible rfl
  try simp only [List.getElem_toArray, List.getElem_cons_zero, List.getElem_cons_succ, Act.put, List.setIfInBounds_toArray, List.set_cons_zero, List.set_cons_succ]
  refine wpAnyH_take (i := 2) (v := ?_) rfl (by kernel_rfl) (by kernel_rfl) (by kernel_rfl) (fun _ _ _ h => h) (Or.inl ⟨by rfl, ?z3⟩) (by assumption) ?_
  case z3 =>
   intro w hSw
   (try dsimp only at hSw)
   go_simp
   all_goals with_reducible rfl
  try simp only [List.getElem_toArray, List.getElem_cons_zero, List.getElem_cons_succ, Act.put, List.setIfInBounds_toArray, List.set_cons_zero, List.set_cons_succ]
  refine wpAnyH_take (i := 3) (v := ?_) rfl (by kernel_rfl) (by kernel_rfl) (by kernel_rfl) (fun _ _ _ h => h) (Or.inl ⟨by rfl, ?z4⟩) (by assumption) ?_
  case z4 =>
   intro w hSw
   (try dsimp only at hSw)
   go_simp
   all_goals with_reducible rfl
  try simp only [List.getElem_toArray, List.getElem_cons_zero, List.getElem_cons_succ, Act.put, List.setIfInBounds_toArray, List.set_cons_zero, List.set_cons_succ]
  refine wpAnyH_take (i := 4) (v := ?_) rfl (by kernel_rfl) (by kernel_rfl) (by kernel_rfl) (fun _ _ _ h => h) (Or.inl ⟨by rfl, ?z5⟩) (by assumption) ?_
  case z5 =>
   intro w hSw
   (try dsimp only at hSw)
   go_simp
   all_goals with_reducible rfl
  try simp only [List.getElem_toArray, List.getElem_cons_zero, List.getElem_cons_succ, Act.put, List.setIfInBounds_toArray, List.set_cons_zero, List.set_cons_succ]
  refine wpAnyH_take (i := 5) (v := ?_) rfl (by kernel_rfl) (by kernel_rfl) (by kernel_rfl) (fun _ _ _ h => h) (Or.inl ⟨by rfl, ?z6⟩) (by assumption) ?_
  case z6 =>
   intro w hSw
   (try dsimp only at hSw)
   go_simp
   all_goals with_reducible rfl
  try simp only [List.getElem_toArray, List.getElem_cons_zero, List.getElem_cons_succ, Act.put, List.setIfInBounds_toArray, List.set_cons_zero, List.set_cons_succ]
  refine wpAnyH_take (i := 6) (v := ?_) rfl (by kernel_rfl) (by kernel_rfl) (by kernel_rfl) (fun _ _ _ h => h) (Or.inl ⟨by rfl, ?z7⟩) (by assumption) ?_
  case z7 =>
   intro w hSw
   (try dsimp only at hSw)
   go_simp
   all_goals with_reducible rfl
  try simp only [List.getElem_toArray, List.getElem_cons_zero, List.getElem_cons_succ, Act.put, List.setIfInBounds_toArray, List.set_cons_zero, List.set_cons_succ]
  refine wpAnyH_take (i := 7) (v := ?_) rfl (by kernel_rfl) (by kernel_rfl) (by kernel_rfl) (fun _ _ _ h => h) (Or.inl ⟨by rfl, ?z8⟩) (by assumption) ?_
  case z8 =>
   intro w hSw
   (try dsimp only at hSw)
   go_simp
   all_goals with_reducible rfl
  try simp only [List.getElem_toArray, List.getElem_cons_zero, List.getElem_cons_succ, Act.put, List.setIfInBounds_toArray, List.set_cons_zero, List.set_cons_succ]
  refine wpAnyH_take (i := 8) (v := ?_) rfl (by kernel_rfl) (by kernel_rfl) (by kernel_rfl) (fun _ _ _ h => h) (Or.inl ⟨by rfl, ?z9⟩) (by assumption) ?_
  case z9 =>
   intro w hSw
   (try dsimp only at hSw)
   go_simp
   all_goals with_reducible rfl
  try simp only [List.getElem_toArray, List.getElem_cons_zero, List.getElem_cons_succ, Act.put, List.setIfInBounds_toArray, List.set_cons_zero, List.set_cons_succ]
  refine wpAnyH_ready (rs := [9]) (by kernel_rfl) (by simp) ?_
  refine AllReadyH.cons rfl (fun K hK => ?_) AllReadyH.nil
  go_simp
  try simp only [hXds]
  refine hK.out _ _ (HSS.out _ _ (HXD.out.push [.int .u8 0, .int .u32 0, .int .u16 0, .int .u32 0, .int .u16 0, .int .u32 0, .slice none 0 0, .int .i64 0, .int .u32 0] 39 hXds) (by simp)) (fun hHeld => ?_)
  clear hK K
  try simp only [List.getElem_toArray, List.getElem_cons_zero, List.getElem_cons_succ, Act.put, List.setIfInBounds_toArray, List.set_cons_zero, List.set_cons_succ]
  refine wpAnyH_ready (rs := [10]) (by kernel_rfl) (by simp) ?_
  refine AllReadyH.cons rfl (fun K hK => ?_) AllReadyH.nil
  go_simp
  refine hK.out _ _ (HSS.out _ _ (HXD.out.push [.int .u8 y1, .int .u32 y2, .int .u16 y3, .int .u32 y4, .int .u16 y5, .int .u32 y6, .slice qa n qc, .int .i64 y7, .int .u32 y8] 39 hXds) (by simp)) (fun hHeld => ?_)
  clear hK K
  try simp only [List.getElem_toArray, List.getElem_cons_zero, List.getElem_cons_succ, Act.put, List.setIfInBounds_toArray, List.set_cons_zero, List.set_cons_succ]
  refine wpAnyH_take (i := 11) (v := ?_) rfl (by kernel_rfl) (by kernel_rfl) (by kernel_rfl) (fun _ _ _ h => h) (Or.inl ⟨by rfl, ?z10⟩) (by assumption) ?_
  case z10 =>
   intro w hSw
   (try dsimp only at hSw)
   go_simp
   all_goals with_reducible rfl
  try simp only [List.getElem_toArray, List.getElem_cons_zero, List.getElem_cons_succ, Act.put, List.setIfInBounds_toArray, List.set_cons_zero, List.set_cons_succ]
  refine wpAnyH_done (by kernel_rfl) ?_ _
  go_upto_region 2 with fail
  refine wp_letter (fun X => TV S1 S2 p a b w X ((g + 2, .cells #[.int .u8 y1, .int .u32 y2, .int .u16 y3, .int .u32 y4, .int .u16 y5, .int .u32 y6, .slice qa n qc, .int .i64 y7, .int .u32 y8] 39 (0, 0)) :: (g + 1, .cells #[.int .u8 0, .int .u32 0, .int .u16 0, .int .u32 0, .int .u16 0, .int .u32 0, .slice none 0 0, .int .i64 0, .int .u32 0] 39 (0, 0)) :: (g, .cells #[.int .u8 k1, .int .u32 k2, .int .u16 k3] 36 (0, 0)) :: (D ++ L))) (by exact HXD.out.push [.int .u8 y1, .int .u32 y2, .int .u16 y3, .int .u32 y4, .int .u16 y5, .int .u32 y6, .slice qa n qc, .int .i64 y7, .int .u32 y8] 39 hXds) ?_
  intro Y hY
  clear HXD hXds hHeld HSS
  obtain ⟨B1, hM1, hB1⟩ := hY.rest
  have hM1' := hM1.perm (show List.Perm _ ((g + 2, .cells #[.int .u8 y1, .int .u32 y2, .int .u16 y3, .int .u32 y4, .int .u16 y5, .int .u32 y6, .slice qa n qc, .int .i64 y7, .int .u32 y8] 39 (0, 0)) :: (B1 ++ ((g + 1, .cells #[.int .u8 0, .int .u32 0, .int .u16 0, .int .u32 0, .int .u16 0, .int .u32 0, .slice none 0 0, .int .i64 0, .int .u32 0] 39 (0, 0)) :: (g, .cells #[.int .u8 k1, .int .u32 k2, .int .u16 k3] 36 (0, 0)) :: (D ++ L)))) from by
    classical
    rw [List.perm_iff_count]
    intro q
    simp only [List.count_append, List.count_cons, List.count_nil]
    omega)
  obtain ⟨q0, q1, q2, q3, q4, q5, q6, q7, q8⟩ := bx_of 0 hM1' rfl
  have C1 : Calls Try.prog 37 #[.agg #[.int .u8 y1, .int .u32 y2, .int .u16 y3, .int .u32 y4, .int .u16 y5, .int .u32 y6, .slice qa n qc, .int .i64 y7, .int .u32 y8]] Y (CpQ w (B1 ++ ((g + 2, .cells #[.int .u8 y1, .int .u32 y2, .int .u16 y3, .int .u32 y4, .int .u16 y5, .int .u32 y6, .slice qa n qc, .int .i64 y7, .int .u32 y8] 39 (0, 0)) :: (g + 1, .cells #[.int .u8 0, .int .u32 0, .int .u16 0, .int .u32 0, .int .u16 0, .int .u32 0, .slice none 0 0, .int .i64 0, .int .u32 0] 39 (0, 0)) :: (g, .cells #[.int .u8 k1, .int .u32 k2, .int .u16 k3] 36 (0, 0)) :: (D ++ L))) ⟨y1, y2, y3, y4, y5, y6, ps, y7, y8⟩) := copied_any (s := ⟨y1, y2, y3, y4, y5, y6, ps, y7, y8⟩) ⟨.slice qa n qc, rfl, SlF.rw px_two (by rw [px_len, HSD.out.2.2]; exact HSD.out.1) (hM1.perm (show List.Perm _ (D ++ (B1 ++ ((g + 2, .cells #[.int .u8 y1, .int .u32 y2, .int .u16 y3, .int .u32 y4, .int .u16 y5, .int .u32 y6, .slice qa n qc, .int .i64 y7, .int .u32 y8] 39 (0, 0)) :: (g + 1, .cells #[.int .u8 0, .int .u32 0, .int .u16 0, .int .u32 0, .int .u16 0, .int .u32 0, .slice none 0 0, .int .i64 0, .int .u32 0] 39 (0, 0)) :: (g, .cells #[.int .u8 k1, .int .u32 k2, .int .u16 k3] 36 (0, 0)) :: L))) from by
    classical
    rw [List.perm_iff_count]
    intro q
    simp only [List.count_append, List.count_cons, List.count_nil]
    omega))⟩ hM1 (by have h1 := HSD.out.2.1; have h2 := HSD.out.2.2; simp only at h2 ⊢; omega)
  have HB1 : Hid (∀ V' L', Mem w V' (B1 ++ L') → TV S1 S2 p a b w V' L') := hB1
  clear hM1 hM1' hB1 hY
  go_wp2_with fail
  with_reducible refine C1.mono ?_
  rintro e Y1 ⟨val, D1, rfl, hsd, hM2⟩
  clear C1 q0 q1 q2 q3 q4 q5 q6 q7 q8
  have HSV : Hid (SD D1 val ⟨y1, y2, y3, y4, y5, y6, ps, y7, y8⟩) := hsd
  obtain ⟨pv, rfl, hpv⟩ := hsd
  simp only [show ps.length = n from HSD.out.2.2] at hpv
  obtain ⟨-, pa, pc, rfl, -⟩ := hpv
  simp only [sc]
  have hM3 := hM2.perm (show List.Perm _ ((g + 1, .cells #[.int .u8 0, .int .u32 0, .int .u16 0, .int .u32 0, .int .u16 0, .int .u32 0, .slice none 0 0, .int .i64 0, .int .u32 0] 39 (0, 0)) :: (D1 ++ (B1 ++ ((g + 2, .cells #[.int .u8 y1, .int .u32 y2, .int .u16 y3, .int .u32 y4, .int .u16 y5, .int .u32 y6, .slice qa n qc, .int .i64 y7, .int .u32 y8] 39 (0, 0)) :: (g, .cells #[.int .u8 k1, .int .u32 k2, .int .u16 k3] 36 (0, 0)) :: (D ++ L))))) from by
    classical
    rw [List.perm_iff_count]
    intro q
    simp only [List.count_append, List.count_cons, List.count_nil]
    omega)
  obtain ⟨t0, t1, t2, t3, t4, t5, t6, t7, t8⟩ := bx_of 0 hM3 rfl
  have t9 : ∀ k, Y1.frozen? ⟨g + 1, k, none⟩ = false := hM3.free 0 rfl
  have HM4 : Hid (Mem w (((((((((Y1.setCell ⟨g + 1, 0, none⟩ (.int .u8 y1)).setCell ⟨g + 1, 1, none⟩ (.int .u32 y2)).setCell ⟨g + 1, 2, none⟩ (.int .u16 y3)).setCell ⟨g + 1, 3, none⟩ (.int .u32 y4)).setCell ⟨g + 1, 4, none⟩ (.int .u16 y5)).setCell ⟨g + 1, 5, none⟩ (.int .u32 y6)).setCell ⟨g + 1, 6, none⟩ (.slice pa n pc)).setCell ⟨g + 1, 7, none⟩ (.int .i64 y7)).setCell ⟨g + 1, 8, none⟩ (.int .u32 y8)) ((g + 1, .cells #[.int .u8 y1, .int .u32 y2, .int .u16 y3, .int .u32 y4, .int .u16 y5, .int .u32 y6, .slice pa n pc, .int .i64 y7, .int .u32 y8] 39 (0, 0)) :: (D1 ++ (B1 ++ ((g + 2, .cells #[.int .u8 y1, .int .u32 y2, .int .u16 y3, .int .u32 y4, .int .u16 y5, .int .u32 y6, .slice qa n qc, .int .i64 y7, .int .u32 y8] 39 (0, 0)) :: (g, .cells #[.int .u8 k1, .int .u32 k2, .int .u16 k3] 36 (0, 0)) :: (D ++ L)))))) := mem_nine _ _ _ _ _ _ _ _ _ hM3
  clear hM2 hM3
  go_wp2_with fail
  refine ret_sn rfl HM4.out rfl r rfl rfl ?_
  have hV5 := HB1.out _ (((g + 1, .cells #[.int .u8 y1, .int .u32 y2, .int .u16 y3, .int .u32 y4, .int .u16 y5, .int .u32 y6, .slice pa n pc, .int .i64 y7, .int .u32 y8] 39 (0, 0)) :: (g + 2, .cells #[.int .u8 y1, .int .u32 y2, .int .u16 y3, .int .u32 y4, .int .u16 y5, .int .u32 y6, .slice qa n qc, .int .i64 y7, .int .u32 y8] 39 (0, 0)) :: (g, .cells #[.int .u8 k1, .int .u32 k2, .int .u16 k3] 36 (0, 0)) :: D) ++ (D1 ++ L)) (HM4.out.perm (by
    classical
    rw [List.perm_iff_count]
    intro q
    simp only [List.count_append, List.count_cons, List.count_nil]
    omega))
  obtain ⟨B', hB', hM5⟩ := hV5.shut (HS.out.mono fun q hq => List.mem_cons_of_mem _ (List.mem_cons_of_mem _ (List.mem_cons_of_mem _ hq)))
  refine ⟨_, D1, B', by rw [HOY.out.1], ?_, hB', hM5.perm (by
    classical
    rw [List.perm_iff_count]
    intro q
    simp only [List.count_append, List.count_cons, List.count_nil]
    omega)⟩
  rw [HOY.out.2]
  exact HSV.out
end
end Ss
end Go.Proofs.Ytgeeijinhneoiaa
