/-
  Ports: the program's New, Count, Held, Hold, Free, as what is asked of them.
-/
import Derived.Test.YtkbjiackjefkkaaDoorPpTurn
namespace Go.Proofs.YtkbjiackjefkkaaDoor
open Go.RowKit
open Sm
open Po
set_option linter.unusedVariables false
set_option linter.unusedSimpArgs false
set_option maxRecDepth 20000

namespace Po
theorem trn_add {xs : List Mk} {m : Mk} (h : m ∉ xs) : Trn xs (xs ++ [m]) m := fun q => by
  by_cases hq : q = m
  · subst hq; simp [h]
  · simp [hq]
theorem trn_erase {xs : List Mk} {m : Mk} (h : m ∈ xs) (hn : xs.Nodup) : Trn xs (xs.erase m) m := fun q => by
  by_cases hq : q = m
  · subst hq
    rw [if_pos rfl]
    exact ⟨fun h1 => absurd h1 hn.not_mem_erase, fun h1 => absurd h h1⟩
  · rw [if_neg hq]
    exact List.mem_erase_of_ne hq
theorem perm3 {α : Type} (x y z : α) (L : List α) : List.Perm (x :: y :: z :: L) (y :: z :: x :: L) := (List.Perm.swap y x (z :: L)).trans ((List.Perm.swap z x L).cons y)
set_option maxHeartbeats 2000000 in
theorem pnew_any (W : World) : Calls Tryd.prog 9 #[] W fun e W' => ∃ p B, e = .returned (.pointer (some ⟨p, 0, none⟩)) ∧ PSt [] p B ∧ Mem W W' B := by
  obtain ⟨g, hg⟩ : ∃ g, W.heap.size = g := ⟨_, rfl⟩
  have HM : Hid (Mem W ((W.alloc (.map #[] 0)).alloc (.cells #[.map (some g), .int .i64 0] 58)) [(g, .map #[] 0), (g + 1, .cells #[.map (some g), .int .i64 0] 58 (0, 0))]) := ((Mem.nil W).push1 hg.symm).push2 (by rw [World.size_alloc, hg])
  go_enter Tryd.func9, Tryd.ntmps9
  have hr : (Instr.makeMap 56 none).run Tryd.prog W = .ok (.map (some g)) (W.alloc (.map #[] 0)) := by rw [← hg]; rfl
  go_wp2_with fail
  go_ret
  exact ⟨g + 1, [(g + 1, .cells #[.map (some g), .int .i64 0] 58 (0, 0)), (g, .map #[] 0)], rfl, ⟨List.nodup_nil, by simp, g, #[], 0, rfl, MB.nil⟩, HM.out.perm (List.Perm.swap ..)⟩
set_option maxHeartbeats 2000000 in
theorem pcount_any {w W : World} {p : Nat} {xs : List Mk} {B L : List (Nat × Obj)} (h : PSt xs p B) (hM : Mem w W (B ++ L)) :
    Calls Tryd.prog 17 #[.pointer (some ⟨p, 0, none⟩)] W fun e W' => e = .returned (.int .i64 xs.length) ∧ ∃ B', PSt xs p B' ∧ Mem w W' (B' ++ L) := by
  have HP : Hid (PSt xs p B) := h
  obtain ⟨-, -, mb, es, clock, rfl, -⟩ := h
  have c1 : W.cell? ⟨p, 1, none⟩ = some (.int .i64 xs.length) := hM.cell 0 rfl 1
  have HM : Hid (Mem w W ([(p, .cells #[.map (some mb), .int .i64 xs.length] 58 (0, 0)), (mb, .map es clock)] ++ L)) := hM
  clear hM
  go_enter Tryd.func17, Tryd.ntmps17
  go_wp2_with fail
  go_ret
  exact ⟨rfl, _, HP.out, HM.out⟩
theorem pheld_any {w W : World} {p : Nat} {xs : List Mk} {B L : List (Nat × Obj)} (h : PSt xs p B) (hM : Mem w W (B ++ L)) (pr a b : Int) (hm : MOk (pr, a, b)) :
    Calls Tryd.prog 18 #[.pointer (some ⟨p, 0, none⟩), .int .u8 pr, .agg #[.int .u32 a, .int .u16 b]] W fun e W' => e = .returned (.bool (decide ((pr, a, b) ∈ xs))) ∧ ∃ B', PSt xs p B' ∧ Mem w W' (B' ++ L) := by
  have HP := h
  obtain ⟨-, -, mb, es, clock, rfl, hE⟩ := h
  refine (held_raw hM hE hm).mono ?_
  rintro e W' ⟨rfl, hM'⟩
  exact ⟨rfl, _, HP, hM'⟩
set_option maxHeartbeats 4000000 in
theorem phold_any {w W : World} {p : Nat} {xs : List Mk} {B L : List (Nat × Obj)} (h : PSt xs p B) (hM : Mem w W (B ++ L)) (hl : xs.length ≤ 1000000) (pr a b : Int) (hm : MOk (pr, a, b)) :
    Calls Tryd.prog 13 #[.pointer (some ⟨p, 0, none⟩), .int .u8 pr, .agg #[.int .u32 a, .int .u16 b]] W fun e W' => e = .returned (.int .i64 (if (pr, a, b) ∈ xs then 121 else 0)) ∧ ∃ B', PSt (if (pr, a, b) ∈ xs then xs else xs ++ [(pr, a, b)]) p B' ∧ Mem w W' (B' ++ L) := by
  have HP : Hid (PSt xs p B) := h
  obtain ⟨hnd, hok, mb, es, clock, rfl, hE⟩ := h
  obtain ⟨n, hn⟩ : ∃ n : Nat, xs.length = n := ⟨_, rfl⟩
  rw [hn] at hM
  obtain ⟨g, hg⟩ : ∃ g, W.heap.size = g := ⟨_, rfl⟩
  have HM0 : Hid (Mem w (W.alloc (.cells #[.int .u32 a, .int .u16 b] 35)) ((g, .cells #[.int .u32 a, .int .u16 b] 35 (0, 0)) :: (p, .cells #[.map (some mb), .int .i64 n] 58 (0, 0)) :: (mb, .map es clock) :: L)) := mem_front hM hg _
  have HE : Hid (MB xs es clock) := hE
  have HH : Hid (∀ V, Mem w V ((p, .cells #[.map (some mb), .int .i64 n] 58 (0, 0)) :: (mb, .map es clock) :: (g, .cells #[.int .u32 a, .int .u16 b] 35 (0, 0)) :: L) → Calls Tryd.prog 18 #[.pointer (some ⟨p, 0, none⟩), .int .u8 pr, .agg #[.int .u32 a, .int .u16 b]] V fun e W' => e = .returned (.bool (hld xs pr a b)) ∧ Mem w W' ((p, .cells #[.map (some mb), .int .i64 n] 58 (0, 0)) :: (mb, .map es clock) :: (g, .cells #[.int .u32 a, .int .u16 b] 35 (0, 0)) :: L)) := fun V h => held_raw h hE hm
  have w1 : IntKind.i64.wrap ((n : Int) + 1) = (n : Int) + 1 := by rw [IntKind.wrap_i64]; omega
  clear hM hE
  go_enter Tryd.func13, Tryd.ntmps13
  go_upto_region 1 with fail
  refine wp_letter (fun X => Mem w X ((g, .cells #[.int .u32 a, .int .u16 b] 35 (0, 0)) :: (p, .cells #[.map (some mb), .int .i64 n] 58 (0, 0)) :: (mb, .map es clock) :: L)) (by exact HM0.out) ?_
  intro V0 hM0
  try simp only [hg]
  have hM1 : Mem w V0 ((p, .cells #[.map (some mb), .int .i64 n] 58 (0, 0)) :: (mb, .map es clock) :: (g, .cells #[.int .u32 a, .int .u16 b] 35 (0, 0)) :: L) := hM0.perm (perm3 ..)
  have a0 : V0.cell? ⟨g, 0, none⟩ = some (.int .u32 a) := hM1.cell 2 rfl 0
  have a1 : V0.cell? ⟨g, 1, none⟩ = some (.int .u16 b) := hM1.cell 2 rfl 1
  have C1 := HH.out V0 hM1
  clear HM0 hM0 hM1 HH
  go_wp2_with fail
  refine C1.mono ?_
  rintro e V1 ⟨rfl, hM1⟩
  clear C1 a0 a1
  have a0 : V1.cell? ⟨g, 0, none⟩ = some (.int .u32 a) := hM1.cell 2 rfl 0
  have a1 : V1.cell? ⟨g, 1, none⟩ = some (.int .u16 b) := hM1.cell 2 rfl 1
  by_cases hin : (pr, a, b) ∈ xs
  · have hd : hld xs pr a b = true := by unfold hld; simp [hin]
    rw [hd]
    have HZ : Hid (∃ B', PSt xs p B' ∧ Mem w V1 (B' ++ L)) := by
      refine ⟨_, HP.out, ?_⟩
      rw [hn]
      exact (hM1.perm (perm3 ..).symm).sub
    clear hM1 HP
    go_wp2_with fail
    go_ret
    exact ⟨by first | rfl | (rw [if_pos hin]; rfl), by first | exact HZ.out | (rw [if_pos hin]; exact HZ.out)⟩
  · have hd : hld xs pr a b = false := by unfold hld; simp [hin]
    rw [hd]
    have C2 := turn_raw hM1 HE.out hm (trn_add hin) (by simp only [maxLen]; omega)
    clear hM1
    go_wp2_with fail
    refine C2.mono ?_
    rintro e V2 ⟨rfl, es', clock', hE', hM2⟩
    clear C2 a0 a1
    have c1 : V2.cell? ⟨p, 1, none⟩ = some (.int .i64 n) := hM2.cell 0 rfl 1
    have c2 : V2.frozen? ⟨p, 1, none⟩ = false := hM2.free 0 rfl 1
    have HZ : Hid (∃ B', PSt (xs ++ [(pr, a, b)]) p B' ∧ Mem w (V2.setCell ⟨p, 1, none⟩ (.int .i64 ((n : Int) + 1))) (B' ++ L)) := by
      refine ⟨_, ⟨?_, ?_, mb, es', clock', rfl, hE'⟩, ?_⟩
      · rw [List.nodup_append]
        exact ⟨hnd, by simp, fun x hx y hy e => hin (by simp at hy; rw [← hy, ← e]; exact hx)⟩
      · intro m hm'
        rcases List.mem_append.1 hm' with h | h
        · exact hok m h
        · simp at h; rw [h]; exact hm
      · have := hM2.set 0 rfl 1 (.int .i64 ((n : Int) + 1))
        rw [List.length_append, hn]
        exact (this.perm (perm3 ..).symm).sub
    clear hM2 hE' hok hnd HP HE
    go_wp2_with fail
    go_ret
    exact ⟨by first | rfl | (rw [if_neg hin]; rfl), by first | exact HZ.out | (rw [if_neg hin]; exact HZ.out)⟩
set_option maxHeartbeats 4000000 in
theorem pfree_any {w W : World} {p : Nat} {xs : List Mk} {B L : List (Nat × Obj)} (h : PSt xs p B) (hM : Mem w W (B ++ L)) (hl : xs.length ≤ 1000000) (pr a b : Int) (hm : MOk (pr, a, b)) :
    Calls Tryd.prog 15 #[.pointer (some ⟨p, 0, none⟩), .int .u8 pr, .agg #[.int .u32 a, .int .u16 b]] W fun e W' => e = .returned (.int .i64 (if (pr, a, b) ∈ xs then 0 else 121)) ∧ ∃ B', PSt (xs.erase (pr, a, b)) p B' ∧ Mem w W' (B' ++ L) := by
  have HP : Hid (PSt xs p B) := h
  obtain ⟨hnd, hok, mb, es, clock, rfl, hE⟩ := h
  obtain ⟨n, hn⟩ : ∃ n : Nat, xs.length = n := ⟨_, rfl⟩
  rw [hn] at hM
  obtain ⟨g, hg⟩ : ∃ g, W.heap.size = g := ⟨_, rfl⟩
  have HM0 : Hid (Mem w (W.alloc (.cells #[.int .u32 a, .int .u16 b] 35)) ((g, .cells #[.int .u32 a, .int .u16 b] 35 (0, 0)) :: (p, .cells #[.map (some mb), .int .i64 n] 58 (0, 0)) :: (mb, .map es clock) :: L)) := mem_front hM hg _
  have HE : Hid (MB xs es clock) := hE
  have HH : Hid (∀ V, Mem w V ((p, .cells #[.map (some mb), .int .i64 n] 58 (0, 0)) :: (mb, .map es clock) :: (g, .cells #[.int .u32 a, .int .u16 b] 35 (0, 0)) :: L) → Calls Tryd.prog 18 #[.pointer (some ⟨p, 0, none⟩), .int .u8 pr, .agg #[.int .u32 a, .int .u16 b]] V fun e W' => e = .returned (.bool (hld xs pr a b)) ∧ Mem w W' ((p, .cells #[.map (some mb), .int .i64 n] 58 (0, 0)) :: (mb, .map es clock) :: (g, .cells #[.int .u32 a, .int .u16 b] 35 (0, 0)) :: L)) := fun V h => held_raw h hE hm
  have w1 : IntKind.i64.wrap ((n : Int) - 1) = (n : Int) - 1 := by rw [IntKind.wrap_i64]; omega
  clear hM hE
  go_enter Tryd.func15, Tryd.ntmps15
  go_upto_region 1 with fail
  refine wp_letter (fun X => Mem w X ((g, .cells #[.int .u32 a, .int .u16 b] 35 (0, 0)) :: (p, .cells #[.map (some mb), .int .i64 n] 58 (0, 0)) :: (mb, .map es clock) :: L)) (by exact HM0.out) ?_
  intro V0 hM0
  try simp only [hg]
  have hM1 : Mem w V0 ((p, .cells #[.map (some mb), .int .i64 n] 58 (0, 0)) :: (mb, .map es clock) :: (g, .cells #[.int .u32 a, .int .u16 b] 35 (0, 0)) :: L) := hM0.perm (perm3 ..)
  have a0 : V0.cell? ⟨g, 0, none⟩ = some (.int .u32 a) := hM1.cell 2 rfl 0
  have a1 : V0.cell? ⟨g, 1, none⟩ = some (.int .u16 b) := hM1.cell 2 rfl 1
  have C1 := HH.out V0 hM1
  clear HM0 hM0 hM1 HH
  go_wp2_with fail
  refine C1.mono ?_
  rintro e V1 ⟨rfl, hM1⟩
  clear C1 a0 a1
  have a0 : V1.cell? ⟨g, 0, none⟩ = some (.int .u32 a) := hM1.cell 2 rfl 0
  have a1 : V1.cell? ⟨g, 1, none⟩ = some (.int .u16 b) := hM1.cell 2 rfl 1
  by_cases hin : (pr, a, b) ∈ xs
  · have hd : hld xs pr a b = true := by unfold hld; simp [hin]
    rw [hd]
    have hpos := List.length_pos_of_mem hin
    have C2 := turn_raw hM1 HE.out hm (trn_erase hin hnd) (by simp only [maxLen]; omega)
    clear hM1
    go_wp2_with fail
    refine C2.mono ?_
    rintro e V2 ⟨rfl, es', clock', hE', hM2⟩
    clear C2 a0 a1
    have c1 : V2.cell? ⟨p, 1, none⟩ = some (.int .i64 n) := hM2.cell 0 rfl 1
    have c2 : V2.frozen? ⟨p, 1, none⟩ = false := hM2.free 0 rfl 1
    have HZ : Hid (∃ B', PSt (xs.erase (pr, a, b)) p B' ∧ Mem w (V2.setCell ⟨p, 1, none⟩ (.int .i64 ((n : Int) - 1))) (B' ++ L)) := by
      refine ⟨_, ⟨hnd.erase _, fun m hm' => hok m (List.mem_of_mem_erase hm'), mb, es', clock', rfl, hE'⟩, ?_⟩
      have := hM2.set 0 rfl 1 (.int .i64 ((n : Int) - 1))
      rw [List.length_erase_of_mem hin, hn, show (((n - 1 : Nat)) : Int) = (n : Int) - 1 by omega]
      exact (this.perm (perm3 ..).symm).sub
    clear hM2 hE' hok hnd HP HE
    go_wp2_with fail
    go_ret
    exact ⟨by first | rfl | (rw [if_pos hin]; rfl), HZ.out⟩
  · have hd : hld xs pr a b = false := by unfold hld; simp [hin]
    rw [hd]
    have HZ : Hid (∃ B', PSt xs p B' ∧ Mem w V1 (B' ++ L)) := by
      refine ⟨_, HP.out, ?_⟩
      rw [hn]
      exact (hM1.perm (perm3 ..).symm).sub
    clear hM1 HP
    go_wp2_with fail
    go_ret
    exact ⟨by first | rfl | (rw [if_neg hin]; rfl), by first | exact HZ.out | (rw [List.erase_of_not_mem hin]; exact HZ.out)⟩
end Po
end Go.Proofs.YtkbjiackjefkkaaDoor
