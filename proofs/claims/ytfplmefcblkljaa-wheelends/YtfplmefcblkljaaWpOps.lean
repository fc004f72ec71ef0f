/-
  Wheel, the program's own: At, Now, Count, Drop, Set.
-/
import Derived.Test.YtfplmefcblkljaaWpSlot
namespace Go.Proofs.Ytfplmefcblkljaa
open Go.RowKit
open Sm
open Po
open Wh
set_option linter.unusedVariables false
set_option linter.unusedSimpArgs false
set_option maxRecDepth 20000

namespace Wp
variable {now : Int} {A : Int → Option Int} {F : Int → Option Nat} {p mb : Nat} {w V : World} {L : List (Nat × Obj)}
theorem WSt.look (h : WSt now A F p mb w V L) {k : Int} (hk : In64 k) : (Instr.lookup 50 (.map (some mb)) (.int .i64 k) true).run Try.prog V = .ok (.tuple #[.int .u32 ((A k).getD 0), .bool (A k).isSome]) V := by
  obtain ⟨C, es, clock, sl, hS, hM⟩ := h
  have h1 := hS.when.look (hM.get 1 rfl) hk true Try.underlying50 (z := .int .u32 0) (by kernel_rfl)
  cases hA : A k with
  | none => simp only [hA] at h1; exact h1
  | some t => simp only [hA] at h1; exact h1
theorem WSt.look1 (h : WSt now A F p mb w V L) {k : Int} (hk : In64 k) : (Instr.lookup 50 (.map (some mb)) (.int .i64 k) false).run Try.prog V = .ok (.int .u32 ((A k).getD 0)) V := by
  obtain ⟨C, es, clock, sl, hS, hM⟩ := h
  have h1 := hS.when.look (hM.get 1 rfl) hk false Try.underlying50 (z := .int .u32 0) (by kernel_rfl)
  cases hA : A k with
  | none => simp only [hA] at h1; exact h1
  | some t => simp only [hA] at h1; exact h1
theorem WSt.size (h : WSt now A F p mb w V L) {l : List Int} (hn : l.Nodup) (hl : ∀ k, A k ≠ none ↔ k ∈ l) (ty : TypeId) : (Builtin.len_ #[50] ty #[.map (some mb)]).run Try.prog V = .ok (.int .i64 l.length) V := by
  obtain ⟨C, es, clock, sl, hS, hM⟩ := h
  have h1 := len_map Try.underlying50 (hM.get 1 rfl) ty
  rw [hS.when.size hn fun k => by rw [← hl k]; cases A k <;> simp] at h1
  exact h1
theorem WSt.del (h : WSt now A F p mb w V L) {k : Int} (hk : In64 k) (hF : F k = none) (ty : TypeId) : ∃ o, (Builtin.delete_ #[50, 3] ty #[.map (some mb), .int .i64 k]).run Try.prog V = .ok (.tuple #[]) (Go.ChangeMaps.setBlock V mb o) ∧ WSt now (upd A k none) F p mb w (Go.ChangeMaps.setBlock V mb o) L := by
  obtain ⟨C, es, clock, sl, hS, hM⟩ := h
  obtain ⟨es', hr, hI⟩ := hS.when.drop (hM.get 1 rfl) hk Try.underlying50 ty
  have h1 := mem_blk (o' := .map es' clock) (hM.perm (List.Perm.swap ..))
  refine ⟨.map es' clock, hr, C, es', clock, sl, ⟨hS.size, hS.c0, hS.c1, hS.cs, ?_, hS.slots, ?_, ?_, ?_, ?_, hS.low, hS.nows⟩, h1.perm (List.Perm.swap ..)⟩
  · refine hI.congr fun q => ?_
    unfold upd
    by_cases e : q = k <;> simp [e]
  · obtain ⟨l, h2, h3⟩ := hS.dom
    refine ⟨l, h2, fun q hq => h3 q fun e => hq ?_⟩
    unfold upd
    split
    · rfl
    · exact e
  · intro q hq
    by_cases e : q = k
    · subst e; exact absurd hF hq
    · rw [upd_off _ _ e]; exact hS.inA q hq
  · intro q hq
    by_cases e : q = k
    · subst e; exact hk
    · rw [upd_off _ _ e] at hq; exact hS.keys q hq
  · intro q t hq
    by_cases e : q = k
    · subst e; rw [upd_at] at hq; cases hq
    · rw [upd_off _ _ e] at hq; exact hS.vals q t hq
theorem WSt.ins (h : WSt now A F p mb w V L) {k t : Int} (hk : In64 k) (ht : 0 ≤ t ∧ t ≤ 4294967295) (hd : ∃ l : List Int, l.length ≤ 2000 ∧ ∀ q, upd A k (some t) q ≠ none → q ∈ l) : ∃ o, (Instr.mapUpdate 50 (.map (some mb)) (.int .i64 k) (.int .u32 t)).run Try.prog V = .ok () (Go.ChangeMaps.setBlock V mb o) ∧ WSt now (upd A k (some t)) F p mb w (Go.ChangeMaps.setBlock V mb o) L := by
  obtain ⟨C, es, clock, sl, hS, hM⟩ := h
  obtain ⟨es', clock', hr, hI⟩ := hS.when.store (hM.get 1 rfl) hk Try.underlying50 hS.room.1 (.int .u32 t)
  have h1 := mem_blk (o' := .map es' clock') (hM.perm (List.Perm.swap ..))
  refine ⟨.map es' clock', hr, C, es', clock', sl, ⟨hS.size, hS.c0, hS.c1, hS.cs, ?_, hS.slots, hd, ?_, ?_, ?_, hS.low, hS.nows⟩, h1.perm (List.Perm.swap ..)⟩
  · refine hI.congr fun q => ?_
    unfold upd
    by_cases e : q = k <;> simp [e]
  · intro q hq
    by_cases e : q = k
    · subst e; rw [upd_at]; simp
    · rw [upd_off _ _ e]; exact hS.inA q hq
  · intro q hq
    by_cases e : q = k
    · subst e; exact hk
    · rw [upd_off _ _ e] at hq; exact hS.keys q hq
  · intro q s hq
    by_cases e : q = k
    · subst e; rw [upd_at] at hq; cases hq; exact ht
    · rw [upd_off _ _ e] at hq; exact hS.vals q s hq
theorem WSt.facts (h : WSt now A F p mb w V L) : (∀ k, A k ≠ none → In64 k) ∧ (∀ k t, A k = some t → 0 ≤ t ∧ t ≤ 4294967295) ∧ (∀ k i, F k = some i → i < 128) ∧ (∀ k, F k ≠ none → A k ≠ none) := by
  obtain ⟨C, es, clock, sl, hS, hM⟩ := h
  exact ⟨hS.keys, hS.vals, hS.low, hS.inA⟩
theorem at_any (h : WSt now A F p mb w V L) {k : Int} (hk : In64 k) : Calls Try.prog 16 #[.pointer (some ⟨p, 0, none⟩), .int .i64 k] V fun e V' => e = .returned (.tuple #[.int .u32 ((A k).getD 0), .bool (A k).isSome]) ∧ V = V' := by
  have h1 := h.look hk
  obtain ⟨-, c1, -, -⟩ := h.keep
  generalize (A k).getD 0 = t at *
  generalize (A k).isSome = b at *
  clear h
  go_enter Try.func16, Try.ntmps16
  go_wp2_with fail
  go_ret2
  exact ⟨rfl, rfl⟩
theorem now_any (h : WSt now A F p mb w V L) : Calls Try.prog 19 #[.pointer (some ⟨p, 0, none⟩)] V fun e V' => e = .returned (.int .u32 now) ∧ V = V' := by
  obtain ⟨c0, -, -, -⟩ := h.keep
  clear h
  go_enter Try.func19, Try.ntmps19
  go_wp2_with fail
  go_ret
  exact ⟨rfl, rfl⟩
theorem count_any (h : WSt now A F p mb w V L) {l : List Int} (hn : l.Nodup) (hl : ∀ k, A k ≠ none ↔ k ∈ l) : Calls Try.prog 18 #[.pointer (some ⟨p, 0, none⟩)] V fun e V' => e = .returned (.int .i64 l.length) ∧ V = V' := by
  obtain ⟨-, c1, -, -⟩ := h.keep
  have h1 := h.size hn hl 3
  obtain ⟨n, hn'⟩ : ∃ n : Int, (l.length : Int) = n := ⟨_, rfl⟩
  rw [hn'] at h1 ⊢
  clear h hn'
  go_enter Try.func18, Try.ntmps18
  go_wp2_with fail
  go_ret
  exact ⟨rfl, rfl⟩
theorem plc_del (A : Int → Option Int) (n : Nat) (k : Int) : upd (plc A n) k none = plc (upd A k none) n := by
  funext q
  unfold plc
  by_cases h : q = k
  · subst h; rw [upd_at, upd_at]; rfl
  · rw [upd_off _ _ h, upd_off _ _ h]
theorem plc_ins (A : Int → Option Int) (n : Nat) (k t : Int) : upd (plc A n) k (some (pl t.toNat n)) = plc (upd A k (some t)) n := by
  funext q
  unfold plc
  by_cases h : q = k
  · subst h; rw [upd_at, upd_at]; rfl
  · rw [upd_off _ _ h, upd_off _ _ h]
set_option maxHeartbeats 4000000 in
theorem drop_any (h : WSt now A (plc A now.toNat) p mb w V L) {k : Int} (hk : In64 k) : Calls Try.prog 11 #[.pointer (some ⟨p, 0, none⟩), .int .i64 k] V fun e V' => e = .returned (.bool (A k).isSome) ∧ WSt now (upd A k none) (plc (upd A k none) now.toNat) p mb w V' L := by
  have h1 := h.look hk
  obtain ⟨c0, c1, n0, n1⟩ := h.keep
  cases hA : A k with
  | none =>
    rw [hA] at h1
    simp only [Option.getD_none, Option.isSome_none] at h1 ⊢
    have e0 : upd A k none = A := by
      funext q
      unfold upd
      split
      · rename_i e; rw [e, hA]
      · rfl
    rw [e0]
    have HW : Hid (WSt now A (plc A now.toNat) p mb w V L) := h
    clear h hA e0
    go_enter Try.func11, Try.ntmps11
    go_wp2_with fail
    go_ret
    exact ⟨rfl, HW.out⟩
  | some t =>
    rw [hA] at h1
    simp only [Option.getD_some, Option.isSome_some] at h1 ⊢
    obtain ⟨f1, f2, f3, -⟩ := h.facts
    have ht := f2 k t hA
    obtain ⟨i, hi⟩ : ∃ i, pl t.toNat now.toNat = i := ⟨_, rfl⟩
    have hF : plc A now.toNat k = some i := by unfold plc; rw [hA, Option.map_some, hi]
    have hil := f3 k i hF
    have hi0 : (0 : Int) ≤ (i : Int) := by omega
    have hi1 : (i : Int) < 128 := by omega
    have C1 := fun X => placeOf_any t now ht ⟨n0, n1⟩ X
    rw [hi] at C1
    have HC2 : Hid (∀ X, WSt now A (plc A now.toNat) p mb w X L → Calls Try.prog 22 #[.pointer (some ⟨p, 2 + i, none⟩), .int .i64 k] X fun e V' => e = .returned (.tuple #[]) ∧ WSt now A (upd (plc A now.toNat) k none) p mb w V' L) := fun X hX => by rw [Nat.add_comm 2 i]; exact sdrop_any hX hil hF
    have HW : Hid (WSt now A (plc A now.toNat) p mb w V L) := h
    have HD : Hid (∀ X, WSt now A (upd (plc A now.toNat) k none) p mb w X L → ∃ o, (Builtin.delete_ #[50, 3] 0 #[.map (some mb), .int .i64 k]).run Try.prog X = .ok (.tuple #[]) (Go.ChangeMaps.setBlock X mb o) ∧ WSt now (upd A k none) (upd (plc A now.toNat) k none) p mb w (Go.ChangeMaps.setBlock X mb o) L) := fun X hX => hX.del hk (upd_at ..) 0
    rw [plc_del] at HD HC2
    clear h hA f1 f2 f3 hF hi ht
    go_enter Try.func11, Try.ntmps11
    go_upto_region 3 with fail
    refine wp_region_held_drew (S := (fun X => X.cell? ⟨p, 0, none⟩ = some (.int .u32 now))) (by kernel_rfl) HW.out.drew.keep.1 (fun hHeld => ?_)
    refine wpAnyH_take (i := 0) (v := ?_) rfl (by kernel_rfl) (by kernel_rfl) (by kernel_rfl) (fun _ _ _ h => h) (Or.inl ⟨by rfl, ?z1⟩) (by assumption) ?_
    case z1 =>
     intro w hSw
     (try dsimp only at hSw)
     go_simp
     all_goals with_reducible rfl
    try simp only [List.getElem_toArray, List.getElem_cons_zero, List.getElem_cons_succ, Act.put, List.setIfInBounds_toArray, List.set_cons_zero, List.set_cons_succ]
    refine wpAnyH_take (i := 1) (v := ?_) rfl (by kernel_rfl) (by kernel_rfl) (by kernel_rfl) (fun _ _ _ h => h) (Or.inl ⟨by rfl, ?z2⟩) (by assumption) ?_
    case z2 =>
     intro w hSw
     (try dsimp only at hSw)
     go_simp
     all_goals with_reducible rfl
    try simp only [List.getElem_toArray, List.getElem_cons_zero, List.getElem_cons_succ, Act.put, List.setIfInBounds_toArray, List.set_cons_zero, List.set_cons_succ]
    refine wpAnyH_take (i := 2) (v := ?_) rfl (by kernel_rfl) (by kernel_rfl) (by kernel_rfl) (fun _ _ _ h => h) (Or.inl ⟨by rfl, ?z3⟩) (by assumption) ?_
    case z3 =>
     intro w hSw
     (try dsimp only at hSw)
     go_simp
     all_goals with_reducible rfl
    try simp only [List.getElem_toArray, List.getElem_cons_zero, List.getElem_cons_succ, Act.put, List.setIfInBounds_toArray, List.set_cons_zero, List.set_cons_succ]
    refine wpAnyH_take (i := 10) (v := ?_) rfl (by kernel_rfl) (by kernel_rfl) (by kernel_rfl) (fun _ _ _ h => h) (Or.inl ⟨by rfl, ?z4⟩) (by assumption) ?_
    case z4 =>
     intro w hSw
     (try dsimp only at hSw)
     go_simp
     all_goals with_reducible rfl
    try simp only [List.getElem_toArray, List.getElem_cons_zero, List.getElem_cons_succ, Act.put, List.setIfInBounds_toArray, List.set_cons_zero, List.set_cons_succ]
    refine wpAnyH_take (i := 3) (v := ?_) rfl (by kernel_rfl) (by kernel_rfl) (by kernel_rfl) (fun _ _ _ h => h) (Or.inl ⟨by rfl, ?z5⟩) (by assumption) ?_
    case z5 =>
     intro w hSw
     (try dsimp only at hSw)
     go_simp
     all_goals with_reducible rfl
    try simp only [List.getElem_toArray, List.getElem_cons_zero, List.getElem_cons_succ, Act.put, List.setIfInBounds_toArray, List.set_cons_zero, List.set_cons_succ]
    refine wpAnyH_take (i := 4) (v := ?_) rfl (by kernel_rfl) (by kernel_rfl) (by kernel_rfl) (fun _ _ _ h => h) (Or.inl ⟨by rfl, ?z6⟩) (by assumption) ?_
    case z6 =>
     intro w hSw
     (try dsimp only at hSw)
     go_simp
     all_goals with_reducible rfl
    try simp only [List.getElem_toArray, List.getElem_cons_zero, List.getElem_cons_succ, Act.put, List.setIfInBounds_toArray, List.set_cons_zero, List.set_cons_succ]
    refine wpAnyH_take (i := 5) (v := ?_) rfl (by kernel_rfl) (by kernel_rfl) (by kernel_rfl) (fun _ _ _ h => h) (Or.inl ⟨by rfl, ?z7⟩) (by assumption) ?_
    case z7 =>
     intro w hSw
     (try dsimp only at hSw)
     go_simp
     all_goals with_reducible rfl
    try simp only [List.getElem_toArray, List.getElem_cons_zero, List.getElem_cons_succ, Act.put, List.setIfInBounds_toArray, List.set_cons_zero, List.set_cons_succ]
    refine wpAnyH_take (i := 7) (v := ?_) rfl (by kernel_rfl) (by kernel_rfl) (by kernel_rfl) (fun _ _ _ h => h) (Or.inl ⟨by rfl, ?z8⟩) (by assumption) ?_
    case z8 =>
     intro w hSw
     (try dsimp only at hSw)
     go_simp
     all_goals with_reducible rfl
    try simp only [List.getElem_toArray, List.getElem_cons_zero, List.getElem_cons_succ, Act.put, List.setIfInBounds_toArray, List.set_cons_zero, List.set_cons_succ]
    refine wpAnyH_take (i := 8) (v := ?_) rfl (by kernel_rfl) (by kernel_rfl) (by kernel_rfl) (fun _ _ _ h => h) (Or.inl ⟨by rfl, ?z9⟩) (by assumption) ?_
    case z9 =>
     intro w hSw
     (try dsimp only at hSw)
     go_simp
     all_goals with_reducible rfl
    try simp only [List.getElem_toArray, List.getElem_cons_zero, List.getElem_cons_succ, Act.put, List.setIfInBounds_toArray, List.set_cons_zero, List.set_cons_succ]
    refine wpAnyH_ready (rs := [6]) (by kernel_rfl) (by simp) ?_
    refine AllReadyH.cons rfl (fun K hK => ?_) AllReadyH.nil
    go_simp
    with_reducible refine (C1 _).mono ?_
    rintro e w1 ⟨rfl, rfl⟩
    try go_wp2_with fail
    refine hK.out _ _ HW.out.drew.keep.1 (fun hHeld => ?_)
    clear hK K
    try simp only [List.getElem_toArray, List.getElem_cons_zero, List.getElem_cons_succ, Act.put, List.setIfInBounds_toArray, List.set_cons_zero, List.set_cons_succ]
    refine wpAnyH_take (i := 9) (v := ?_) rfl (by kernel_rfl) (by kernel_rfl) (by kernel_rfl) (fun _ _ _ h => h) (Or.inl ⟨by rfl, ?z10⟩) (by assumption) ?_
    case z10 =>
     intro w hSw
     (try dsimp only at hSw)
     go_simp
     all_goals with_reducible rfl
    try simp only [List.getElem_toArray, List.getElem_cons_zero, List.getElem_cons_succ, Act.put, List.setIfInBounds_toArray, List.set_cons_zero, List.set_cons_succ]
    refine wpAnyH_ready (rs := [11]) (by kernel_rfl) (by simp) ?_
    refine AllReadyH.cons rfl (fun K hK => ?_) AllReadyH.nil
    go_simp
    with_reducible refine (HC2.out _ HW.out.drew).mono ?_
    rintro e w1 ⟨rfl, hw1⟩
    try go_wp2_with fail
    refine hK.out _ _ hw1.keep.1 (fun hHeld => ?_)
    clear hK K
    try simp only [List.getElem_toArray, List.getElem_cons_zero, List.getElem_cons_succ, Act.put, List.setIfInBounds_toArray, List.set_cons_zero, List.set_cons_succ]
    refine wpAnyH_done (by kernel_rfl) ?_ _

    obtain ⟨o, hrun, hZ⟩ := HD.out _ hw1
    obtain ⟨-, d1, -, -⟩ := hw1.keep
    have HZ : Hid (WSt now (upd A k none) (plc (upd A k none) now.toNat) p mb w (Go.ChangeMaps.setBlock w1 mb o) L) := hZ
    clear hw1 hZ HD HW HC2 C1 h1
    go_wp2_with fail
    go_ret
    exact ⟨rfl, HZ.out⟩
theorem upd_upd {β : Type} (S : Int → Option β) (k : Int) (u v : Option β) : upd (upd S k u) k v = upd S k v := by
  funext q
  unfold upd
  split <;> rfl
set_option maxHeartbeats 4000000 in
theorem set_any (h : WSt now A (plc A now.toNat) p mb w V L) {k t : Int} (hk : In64 k) (ht : 0 ≤ t ∧ t ≤ 4294967295) (hd : ∃ l : List Int, l.length ≤ 2000 ∧ ∀ q, upd A k (some t) q ≠ none → q ∈ l) :
    Calls Try.prog 9 #[.pointer (some ⟨p, 0, none⟩), .int .i64 k, .int .u32 t] V fun e V' => e = .returned (.tuple #[]) ∧ WSt now (upd A k (some t)) (plc (upd A k (some t)) now.toNat) p mb w V' L := by
  obtain ⟨-, -, n0, n1⟩ := h.keep
  have C0 := drop_any h hk
  generalize (A k).isSome = b0 at C0
  obtain ⟨i, hi⟩ : ∃ i, pl t.toNat now.toNat = i := ⟨_, rfl⟩
  have hil : i < 128 := by rw [← hi]; exact pl_lt (by omega) (by omega)
  have hi0 : (0 : Int) ≤ (i : Int) := by omega
  have hi1 : (i : Int) < 128 := by omega
  have C1 := fun X => placeOf_any t now ht ⟨n0, n1⟩ X
  rw [hi] at C1
  have hn : plc (upd A k none) now.toNat k = none := by unfold plc; rw [upd_at]; rfl
  have HI : Hid (∀ X, WSt now (upd A k none) (plc (upd A k none) now.toNat) p mb w X L → ∃ o, (Instr.mapUpdate 50 (.map (some mb)) (.int .i64 k) (.int .u32 t)).run Try.prog X = .ok () (Go.ChangeMaps.setBlock X mb o) ∧ WSt now (upd A k (some t)) (plc (upd A k none) now.toNat) p mb w (Go.ChangeMaps.setBlock X mb o) L) := fun X hX => by
    have := hX.ins hk ht (by rw [upd_upd]; exact hd)
    rwa [upd_upd] at this
  have HC2 : Hid (∀ X, WSt now (upd A k (some t)) (plc (upd A k none) now.toNat) p mb w X L → Calls Try.prog 21 #[.pointer (some ⟨p, 2 + i, none⟩), .int .i64 k] X fun e V' => e = .returned (.tuple #[]) ∧ WSt now (upd A k (some t)) (plc (upd A k (some t)) now.toNat) p mb w V' L) := fun X hX => by
    rw [Nat.add_comm 2 i]
    have := put_any hX hil (k := k) (by rw [upd_at]; simp) (Or.inl hn)
    rwa [← hi, plc_ins, upd_upd, hi] at this
  clear h hi hil hd hn hk ht
  go_enter Try.func9, Try.ntmps9
  go_wp2_with fail
  with_reducible refine C0.mono ?_
  rintro e V1 ⟨rfl, h1⟩
  obtain ⟨o, hrun, h2⟩ := HI.out _ h1
  obtain ⟨-, d1, -, -⟩ := h1.keep
  have HW : Hid (WSt now (upd A k (some t)) (plc (upd A k none) now.toNat) p mb w (Go.ChangeMaps.setBlock V1 mb o) L) := h2
  clear C0 h1 h2 HI
  go_upto_region 2 with fail
  refine wp_letter (fun X => WSt now (upd A k (some t)) (plc (upd A k none) now.toNat) p mb w X L) (by exact HW.out) ?_
  intro V2 h2
  clear HW hrun d1
  have HW : Hid (WSt now (upd A k (some t)) (plc (upd A k none) now.toNat) p mb w V2 L) := h2
  clear h2
  refine wp_region_held_drew (S := (fun X => X.cell? ⟨p, 0, none⟩ = some (.int .u32 now))) (by kernel_rfl) HW.out.drew.keep.1 (fun hHeld => ?_)
  refine wpAnyH_take (i := 0) (v := ?_) rfl (by kernel_rfl) (by kernel_rfl) (by kernel_rfl) (fun _ _ _ h => h) (Or.inl ⟨by rfl, ?z11⟩) (by assumption) ?_
  case z11 =>
   intro w hSw
   (try dsimp only at hSw)
   go_simp
   all_goals with_reducible rfl
  try simp only [List.getElem_toArray, List.getElem_cons_zero, List.getElem_cons_succ, Act.put, List.setIfInBounds_toArray, List.set_cons_zero, List.set_cons_succ]
  refine wpAnyH_take (i := 1) (v := ?_) rfl (by kernel_rfl) (by kernel_rfl) (by kernel_rfl) (fun _ _ _ h => h) (Or.inl ⟨by rfl, ?z12⟩) (by assumption) ?_
  case z12 =>
   intro w hSw
   (try dsimp only at hSw)
   go_simp
   all_goals with_reducible rfl
  try simp only [List.getElem_toArray, List.getElem_cons_zero, List.getElem_cons_succ, Act.put, List.setIfInBounds_toArray, List.set_cons_zero, List.set_cons_succ]
  refine wpAnyH_take (i := 2) (v := ?_) rfl (by kernel_rfl) (by kernel_rfl) (by kernel_rfl) (fun _ _ _ h => h) (Or.inl ⟨by rfl, ?z13⟩) (by assumption) ?_
  case z13 =>
   intro w hSw
   (try dsimp only at hSw)
   go_simp
   all_goals with_reducible rfl
  try simp only [List.getElem_toArray, List.getElem_cons_zero, List.getElem_cons_succ, Act.put, List.setIfInBounds_toArray, List.set_cons_zero, List.set_cons_succ]
  refine wpAnyH_take (i := 10) (v := ?_) rfl (by kernel_rfl) (by kernel_rfl) (by kernel_rfl) (fun _ _ _ h => h) (Or.inl ⟨by rfl, ?z14⟩) (by assumption) ?_
  case z14 =>
   intro w hSw
   (try dsimp only at hSw)
   go_simp
   all_goals with_reducible rfl
  try simp only [List.getElem_toArray, List.getElem_cons_zero, List.getElem_cons_succ, Act.put, List.setIfInBounds_toArray, List.set_cons_zero, List.set_cons_succ]
  refine wpAnyH_take (i := 3) (v := ?_) rfl (by kernel_rfl) (by kernel_rfl) (by kernel_rfl) (fun _ _ _ h => h) (Or.inl ⟨by rfl, ?z15⟩) (by assumption) ?_
  case z15 =>
   intro w hSw
   (try dsimp only at hSw)
   go_simp
   all_goals with_reducible rfl
  try simp only [List.getElem_toArray, List.getElem_cons_zero, List.getElem_cons_succ, Act.put, List.setIfInBounds_toArray, List.set_cons_zero, List.set_cons_succ]
  refine wpAnyH_take (i := 4) (v := ?_) rfl (by kernel_rfl) (by kernel_rfl) (by kernel_rfl) (fun _ _ _ h => h) (Or.inl ⟨by rfl, ?z16⟩) (by assumption) ?_
  case z16 =>
   intro w hSw
   (try dsimp only at hSw)
   go_simp
   all_goals with_reducible rfl
  try simp only [List.getElem_toArray, List.getElem_cons_zero, List.getElem_cons_succ, Act.put, List.setIfInBounds_toArray, List.set_cons_zero, List.set_cons_succ]
  refine wpAnyH_take (i := 5) (v := ?_) rfl (by kernel_rfl) (by kernel_rfl) (by kernel_rfl) (fun _ _ _ h => h) (Or.inl ⟨by rfl, ?z17⟩) (by assumption) ?_
  case z17 =>
   intro w hSw
   (try dsimp only at hSw)
   go_simp
   all_goals with_reducible rfl
  try simp only [List.getElem_toArray, List.getElem_cons_zero, List.getElem_cons_succ, Act.put, List.setIfInBounds_toArray, List.set_cons_zero, List.set_cons_succ]
  refine wpAnyH_take (i := 7) (v := ?_) rfl (by kernel_rfl) (by kernel_rfl) (by kernel_rfl) (fun _ _ _ h => h) (Or.inl ⟨by rfl, ?z18⟩) (by assumption) ?_
  case z18 =>
   intro w hSw
   (try dsimp only at hSw)
   go_simp
   all_goals with_reducible rfl
  try simp only [List.getElem_toArray, List.getElem_cons_zero, List.getElem_cons_succ, Act.put, List.setIfInBounds_toArray, List.set_cons_zero, List.set_cons_succ]
  refine wpAnyH_take (i := 8) (v := ?_) rfl (by kernel_rfl) (by kernel_rfl) (by kernel_rfl) (fun _ _ _ h => h) (Or.inl ⟨by rfl, ?z19⟩) (by assumption) ?_
  case z19 =>
   intro w hSw
   (try dsimp only at hSw)
   go_simp
   all_goals with_reducible rfl
  try simp only [List.getElem_toArray, List.getElem_cons_zero, List.getElem_cons_succ, Act.put, List.setIfInBounds_toArray, List.set_cons_zero, List.set_cons_succ]
  refine wpAnyH_ready (rs := [6]) (by kernel_rfl) (by simp) ?_
  refine AllReadyH.cons rfl (fun K hK => ?_) AllReadyH.nil
  go_simp
  with_reducible refine (C1 _).mono ?_
  rintro e w1 ⟨rfl, rfl⟩
  try go_wp2_with fail
  refine hK.out _ _ HW.out.drew.keep.1 (fun hHeld => ?_)
  clear hK K
  try simp only [List.getElem_toArray, List.getElem_cons_zero, List.getElem_cons_succ, Act.put, List.setIfInBounds_toArray, List.set_cons_zero, List.set_cons_succ]
  refine wpAnyH_take (i := 9) (v := ?_) rfl (by kernel_rfl) (by kernel_rfl) (by kernel_rfl) (fun _ _ _ h => h) (Or.inl ⟨by rfl, ?z20⟩) (by assumption) ?_
  case z20 =>
   intro w hSw
   (try dsimp only at hSw)
   go_simp
   all_goals with_reducible rfl
  try simp only [List.getElem_toArray, List.getElem_cons_zero, List.getElem_cons_succ, Act.put, List.setIfInBounds_toArray, List.set_cons_zero, List.set_cons_succ]
  refine wpAnyH_ready (rs := [11]) (by kernel_rfl) (by simp) ?_
  refine AllReadyH.cons rfl (fun K hK => ?_) AllReadyH.nil
  go_simp
  with_reducible refine (HC2.out _ HW.out.drew).mono ?_
  rintro e w1 ⟨rfl, hw1⟩
  try go_wp2_with fail
  refine hK.out _ _ hw1.keep.1 (fun hHeld => ?_)
  clear hK K
  try simp only [List.getElem_toArray, List.getElem_cons_zero, List.getElem_cons_succ, Act.put, List.setIfInBounds_toArray, List.set_cons_zero, List.set_cons_succ]
  refine wpAnyH_done (by kernel_rfl) ?_ _

  have HZ : Hid (WSt now (upd A k (some t)) (plc (upd A k (some t)) now.toNat) p mb w w1 L) := hw1
  clear hw1 HW HC2 C1
  go_wp2_with fail
  go_end0
  exact ⟨rfl, HZ.out⟩
end Wp
end Go.Proofs.Ytfplmefcblkljaa
