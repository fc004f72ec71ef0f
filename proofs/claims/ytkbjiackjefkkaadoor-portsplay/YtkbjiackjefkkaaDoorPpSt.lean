/-
  Ports: the program's own: what its box holds; a place; whether a point is held.
-/
import Derived.Test.YtkbjiackjefkkaaDoorPpMap
namespace Go.Proofs.YtkbjiackjefkkaaDoor
open Go.RowKit
open Sm
open Po
open Go.Maps (Keyed)
set_option linter.unusedVariables false
set_option linter.unusedSimpArgs false
set_option maxRecDepth 20000

namespace Po
/-- The program's box p, with its map, holds these marks. -/
def PSt (xs : List Mk) (p : Nat) (B : List (Nat × Obj)) : Prop := xs.Nodup ∧ (∀ m ∈ xs, MOk m) ∧ ∃ mb es clock, B = [(p, .cells #[.map (some mb), .int .i64 xs.length] 58 (0, 0)), (mb, .map es clock)] ∧ MB xs es clock
theorem ret_pl {w U : World} {a : Act} {R : Ending → World → Prop} {g : Nat} {pr ip nb : Int} {T : TypeId} {L : List (Nat × Obj)} (hM : Mem w U ((g, .cells #[.int .u8 pr, .int .u32 ip, .int .i64 nb] T (0, 0)) :: L)) (ha : a.tmps[4]? = some (.pointer (some ⟨g, 0, none⟩))) (hd : a.defers = [])
    (hR : R (.returned (plv pr ip nb)) U) : bodyPost Tryd.prog Tryd.f24 R .ret a U := by
  have a0 : U.cell? ⟨g, 0, none⟩ = some (.int .u8 pr) := hM.cell 0 rfl 0
  have a1 : U.cell? ⟨g, 1, none⟩ = some (.int .u32 ip) := hM.cell 0 rfl 1
  have a2 : U.cell? ⟨g, 2, none⟩ = some (.int .i64 nb) := hM.cell 0 rfl 2
  exact bodyPost_ret (v := plv pr ip nb) (by simp [results, Tryd.results24, go_sem, ha, a0, a1, a2, plv]) hd hR
set_option maxHeartbeats 2000000 in
theorem placeOf_any (W : World) (pr a b : Int) (hb : 0 ≤ b ∧ b ≤ 65535) :
    Calls Tryd.prog 24 #[.int .u8 pr, .agg #[.int .u32 a, .int .u16 b]] W fun e W' => e = .returned (plv pr a (b / 1024)) ∧ Below W.heap.size W W' := by
  obtain ⟨n, hn⟩ : ∃ n, b / 1024 = n := ⟨_, rfl⟩
  have r1 : Int.tdiv b 1024 = n := by rw [Int.tdiv_eq_ediv_of_nonneg hb.1]; exact hn
  rw [hn]
  obtain ⟨g, hg⟩ : ∃ g, W.heap.size = g := ⟨_, rfl⟩
  have HM0 : Hid (Mem W ((W.alloc (.cells #[.int .u32 a, .int .u16 b] 35)).alloc (.cells #[.int .u8 0, .int .u32 0, .int .i64 0] 69)) [(g, .cells #[.int .u32 a, .int .u16 b] 35 (0, 0)), (g + 1, .cells #[.int .u8 0, .int .u32 0, .int .i64 0] 69 (0, 0))]) := ((Mem.nil W).push1 hg.symm).push2 (by rw [World.size_alloc, hg])
  go_enter Tryd.func24, Tryd.ntmps24
  go_upto_region 1 with fail
  refine wp_letter (fun X => Mem W X [(g, .cells #[.int .u32 a, .int .u16 b] 35 (0, 0)), (g + 1, .cells #[.int .u8 0, .int .u32 0, .int .i64 0] 69 (0, 0))]) (by exact HM0.out) ?_
  intro V0 hM0
  try simp only [hg]
  have a0 : V0.cell? ⟨g, 0, none⟩ = some (.int .u32 a) := hM0.cell 0 rfl 0
  have a1 : V0.cell? ⟨g, 1, none⟩ = some (.int .u16 b) := hM0.cell 0 rfl 1
  have b0 : V0.cell? ⟨g + 1, 0, none⟩ = some (.int .u8 0) := hM0.cell 1 rfl 0
  have b1 : V0.cell? ⟨g + 1, 1, none⟩ = some (.int .u32 0) := hM0.cell 1 rfl 1
  have b2 : V0.cell? ⟨g + 1, 2, none⟩ = some (.int .i64 0) := hM0.cell 1 rfl 2
  have e0 : V0.frozen? ⟨g + 1, 0, none⟩ = false := hM0.free 1 rfl 0
  have e1 : V0.frozen? ⟨g + 1, 1, none⟩ = false := hM0.free 1 rfl 1
  have e2 : V0.frozen? ⟨g + 1, 2, none⟩ = false := hM0.free 1 rfl 2
  have HN : Hid (Mem W (((V0.setCell ⟨g + 1, 0, none⟩ (.int .u8 pr)).setCell ⟨g + 1, 1, none⟩ (.int .u32 a)).setCell ⟨g + 1, 2, none⟩ (.int .i64 n)) [(g + 1, .cells #[.int .u8 pr, .int .u32 a, .int .i64 n] 69 (0, 0)), (g, .cells #[.int .u32 a, .int .u16 b] 35 (0, 0))]) := (((hM0.set 1 rfl 0 _).set 1 rfl 1 _).set 1 rfl 2 _).perm (List.Perm.swap ..)
  clear HM0 hM0
  go_wp2_with fail
  exact ret_pl HN.out rfl rfl ⟨rfl, HN.out.below⟩
theorem wdp_bit {xs : List Mk} {pr a : Int} {k : Nat} : (wdp xs pr a ((k : Int) / 1024) (k % 1024 / 64)).testBit (k % 64) = hld xs pr a k := by
  show (mkw 64 _).testBit _ = _
  rw [mkw_bit]
  rw [show (k : Int) / 1024 * 1024 + ((k % 1024 / 64 : Nat) : Int) * 64 + ((k % 64 : Nat) : Int) = k by omega]
  simp
  omega
set_option maxHeartbeats 4000000 in
theorem held_raw {w W : World} {p mb : Nat} {n : Int} {xs : List Mk} {es : Array MapEntry} {clock : Nat} {L : List (Nat × Obj)} (hM : Mem w W ((p, .cells #[.map (some mb), .int .i64 n] 58 (0, 0)) :: (mb, .map es clock) :: L)) (hE : MB xs es clock) {pr a b : Int} (hm : MOk (pr, a, b)) :
    Calls Tryd.prog 18 #[.pointer (some ⟨p, 0, none⟩), .int .u8 pr, .agg #[.int .u32 a, .int .u16 b]] W fun e W' => e = .returned (.bool (hld xs pr a b)) ∧ Mem w W' ((p, .cells #[.map (some mb), .int .i64 n] 58 (0, 0)) :: (mb, .map es clock) :: L) := by
  obtain ⟨hpr, ha, hb⟩ := hm
  simp only at hpr ha hb
  obtain ⟨g, hg⟩ : ∃ g, W.heap.size = g := ⟨_, rfl⟩
  have HS : Hid (∀ V, Mem w V ((g, .cells #[.int .u32 a, .int .u16 b] 35 (0, 0)) :: (p, .cells #[.map (some mb), .int .i64 n] 58 (0, 0)) :: (mb, .map es clock) :: L) → (fun V => V.cell? ⟨g, 0, none⟩ = some (.int .u32 a) ∧ V.cell? ⟨g, 1, none⟩ = some (.int .u16 b) ∧ V.cell? ⟨p, 0, none⟩ = some (.map (some mb)) ∧ (Instr.lookup 56 (.map (some mb)) (plv pr a (b / 1024)) false).run Tryd.prog V = .ok (.agg (blv (wdp xs pr a (b / 1024)))) V) V) := fun V h => ⟨h.cell 0 rfl 0, h.cell 0 rfl 1, h.cell 1 rfl 0, hE.look (h.get 2 rfl) hpr ha (by omega)⟩
  have HC : Hid (∀ V, Calls Tryd.prog 25 #[.agg (blv (wdp xs pr a (b / 1024))), .int .u16 b] V fun e W' => e = .returned (.bool (hld xs pr a b)) ∧ Below V.heap.size V W') := fun V => by
    obtain ⟨k, rfl⟩ : ∃ k : Nat, b = (k : Int) := ⟨b.toNat, by omega⟩
    have := has_any V (wdp xs pr a ((k : Int) / 1024)) (fun i _ => mkw64 _) k (by omega)
    rw [wdp_bit] at this
    exact this
  have HM0 : Hid (Mem w (W.alloc (.cells #[.int .u32 a, .int .u16 b] 35)) ((g, .cells #[.int .u32 a, .int .u16 b] 35 (0, 0)) :: (p, .cells #[.map (some mb), .int .i64 n] 58 (0, 0)) :: (mb, .map es clock) :: L)) := (hM.push g _ hg.symm).perm (by
    classical
    rw [List.perm_iff_count]
    intro q
    simp only [List.count_append, List.count_cons, List.count_nil]
    omega)
  clear hM
  go_enter Tryd.func18, Tryd.ntmps18
  go_upto_region 1 with fail
  refine wp_letter (fun X => Mem w X ((g, .cells #[.int .u32 a, .int .u16 b] 35 (0, 0)) :: (p, .cells #[.map (some mb), .int .i64 n] 58 (0, 0)) :: (mb, .map es clock) :: L)) (by exact HM0.out) ?_
  intro V0 hM0
  try simp only [hg]
  have HM : Hid (Mem w V0 ((g, .cells #[.int .u32 a, .int .u16 b] 35 (0, 0)) :: (p, .cells #[.map (some mb), .int .i64 n] 58 (0, 0)) :: (mb, .map es clock) :: L)) := hM0
  clear HM0 hM0
  refine wp_region_held_drew (S := (fun V => V.cell? ⟨g, 0, none⟩ = some (.int .u32 a) ∧ V.cell? ⟨g, 1, none⟩ = some (.int .u16 b) ∧ V.cell? ⟨p, 0, none⟩ = some (.map (some mb)) ∧ (Instr.lookup 56 (.map (some mb)) (plv pr a (b / 1024)) false).run Tryd.prog V = .ok (.agg (blv (wdp xs pr a (b / 1024)))) V)) (by kernel_rfl) (HS.out _ HM.out.drew) (fun hHeld => ?_)
  refine wpAnyH_take (i := 0) (v := ?_) rfl (by kernel_rfl) (by kernel_rfl) (by kernel_rfl) (fun _ _ _ h => h) (Or.inl ⟨by rfl, ?z1⟩) (by assumption) ?_
  case z1 =>
   intro w hSw
   (try dsimp only at hSw)
   go_simp
   all_goals with_reducible rfl
  try simp only [List.getElem_toArray, List.getElem_cons_zero, List.getElem_cons_succ, Act.put, List.setIfInBounds_toArray, List.set_cons_zero, List.set_cons_succ]
  refine wpAnyH_take (i := 1) (v := ?_) rfl (by kernel_rfl) (by kernel_rfl) (by kernel_rfl) (fun _ _ _ h => h) (Or.inl ⟨by rfl, ?z2⟩) (by assumption) ?_
  case z2 =>
   intro w hSw
   (try dsimp only at hSw)
   go_simp
   all_goals with_reducible rfl
  try simp only [List.getElem_toArray, List.getElem_cons_zero, List.getElem_cons_succ, Act.put, List.setIfInBounds_toArray, List.set_cons_zero, List.set_cons_succ]
  refine wpAnyH_take (i := 2) (v := ?_) rfl (by kernel_rfl) (by kernel_rfl) (by kernel_rfl) (fun _ _ _ h => h) (Or.inl ⟨by rfl, ?z3⟩) (by assumption) ?_
  case z3 =>
   intro w hSw
   (try dsimp only at hSw)
   go_simp
   all_goals with_reducible rfl
  try simp only [List.getElem_toArray, List.getElem_cons_zero, List.getElem_cons_succ, Act.put, List.setIfInBounds_toArray, List.set_cons_zero, List.set_cons_succ]
  refine wpAnyH_take (i := 3) (v := ?_) rfl (by kernel_rfl) (by kernel_rfl) (by kernel_rfl) (fun _ _ _ h => h) (Or.inl ⟨by rfl, ?z4⟩) (by assumption) ?_
  case z4 =>
   intro w hSw
   (try dsimp only at hSw)
   go_simp
   all_goals with_reducible rfl
  try simp only [List.getElem_toArray, List.getElem_cons_zero, List.getElem_cons_succ, Act.put, List.setIfInBounds_toArray, List.set_cons_zero, List.set_cons_succ]
  refine wpAnyH_take (i := 4) (v := ?_) rfl (by kernel_rfl) (by kernel_rfl) (by kernel_rfl) (fun _ _ _ h => h) (Or.inl ⟨by rfl, ?z5⟩) (by assumption) ?_
  case z5 =>
   intro w hSw
   (try dsimp only at hSw)
   go_simp
   all_goals with_reducible rfl
  try simp only [List.getElem_toArray, List.getElem_cons_zero, List.getElem_cons_succ, Act.put, List.setIfInBounds_toArray, List.set_cons_zero, List.set_cons_succ]
  refine wpAnyH_take (i := 5) (v := ?_) rfl (by kernel_rfl) (by kernel_rfl) (by kernel_rfl) (fun _ _ _ h => h) (Or.inl ⟨by rfl, ?z6⟩) (by assumption) ?_
  case z6 =>
   intro w hSw
   (try dsimp only at hSw)
   go_simp
   all_goals with_reducible rfl
  try simp only [List.getElem_toArray, List.getElem_cons_zero, List.getElem_cons_succ, Act.put, List.setIfInBounds_toArray, List.set_cons_zero, List.set_cons_succ]
  refine wpAnyH_take (i := 8) (v := ?_) rfl (by kernel_rfl) (by kernel_rfl) (by kernel_rfl) (fun _ _ _ h => h) (Or.inl ⟨by rfl, ?z7⟩) (by assumption) ?_
  case z7 =>
   intro w hSw
   (try dsimp only at hSw)
   go_simp
   all_goals with_reducible rfl
  try simp only [List.getElem_toArray, List.getElem_cons_zero, List.getElem_cons_succ, Act.put, List.setIfInBounds_toArray, List.set_cons_zero, List.set_cons_succ]
  refine wpAnyH_take (i := 9) (v := ?_) rfl (by kernel_rfl) (by kernel_rfl) (by kernel_rfl) (fun _ _ _ h => h) (Or.inl ⟨by rfl, ?z8⟩) (by assumption) ?_
  case z8 =>
   intro w hSw
   (try dsimp only at hSw)
   go_simp
   all_goals with_reducible rfl
  try simp only [List.getElem_toArray, List.getElem_cons_zero, List.getElem_cons_succ, Act.put, List.setIfInBounds_toArray, List.set_cons_zero, List.set_cons_succ]
  refine wpAnyH_ready (rs := [6]) (by kernel_rfl) (by simp) ?_
  refine AllReadyH.cons rfl (fun K hK => ?_) AllReadyH.nil
  go_simp
  with_reducible refine (placeOf_any _ pr a b hb).mono ?_
  rintro e V1 ⟨rfl, hV⟩
  try go_wp2_with fail
  have HM1 : Hid (Mem w V1 ((g, .cells #[.int .u32 a, .int .u16 b] 35 (0, 0)) :: (p, .cells #[.map (some mb), .int .i64 n] 58 (0, 0)) :: (mb, .map es clock) :: L)) := (HM.out.drew).after hV
  clear hV
  refine hK.out _ _ (HS.out _ HM1.out) (fun hHeld => ?_)
  clear hK K
  try simp only [List.getElem_toArray, List.getElem_cons_zero, List.getElem_cons_succ, Act.put, List.setIfInBounds_toArray, List.set_cons_zero, List.set_cons_succ]
  refine wpAnyH_take (i := 7) (v := ?_) rfl (by kernel_rfl) (by kernel_rfl) (by kernel_rfl) (fun _ _ _ h => h) (Or.inl ⟨by rfl, ?z9⟩) (by assumption) ?_
  case z9 =>
   intro w hSw
   (try dsimp only at hSw)
   go_simp
   all_goals with_reducible rfl
  try simp only [List.getElem_toArray, List.getElem_cons_zero, List.getElem_cons_succ, Act.put, List.setIfInBounds_toArray, List.set_cons_zero, List.set_cons_succ]
  refine wpAnyH_ready (rs := [10]) (by kernel_rfl) (by simp) ?_
  refine AllReadyH.cons rfl (fun K hK => ?_) AllReadyH.nil
  go_simp
  with_reducible refine (HC.out _).mono ?_
  rintro e V2 ⟨rfl, hV⟩
  try go_wp2_with fail
  have HM2 : Hid (Mem w V2 ((g, .cells #[.int .u32 a, .int .u16 b] 35 (0, 0)) :: (p, .cells #[.map (some mb), .int .i64 n] 58 (0, 0)) :: (mb, .map es clock) :: L)) := (HM1.out).after hV
  clear hV
  refine hK.out _ _ (HS.out _ HM2.out) (fun hHeld => ?_)
  clear hK K
  try simp only [List.getElem_toArray, List.getElem_cons_zero, List.getElem_cons_succ, Act.put, List.setIfInBounds_toArray, List.set_cons_zero, List.set_cons_succ]
  refine wpAnyH_take (i := 11) (v := ?_) rfl (by kernel_rfl) (by kernel_rfl) (by kernel_rfl) (fun _ _ _ h => h) (Or.inl ⟨by rfl, ?z10⟩) (by assumption) ?_
  case z10 =>
   intro w hSw
   (try dsimp only at hSw)
   go_simp
   all_goals with_reducible rfl
  try simp only [List.getElem_toArray, List.getElem_cons_zero, List.getElem_cons_succ, Act.put, List.setIfInBounds_toArray, List.set_cons_zero, List.set_cons_succ]
  refine wpAnyH_done (by kernel_rfl) ?_ _
  clear HS HC HM HM1
  have HF : Hid (Mem w V2 ((p, .cells #[.map (some mb), .int .i64 n] 58 (0, 0)) :: (mb, .map es clock) :: L)) := HM2.out.sub
  clear HM2
  go_wp2_with fail
  go_ret
  exact ⟨rfl, HF.out⟩
end Po
end Go.Proofs.YtkbjiackjefkkaaDoor
