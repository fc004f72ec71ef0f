/-
  Ports: a mark turned in its block.
-/
import Derived.Test.YtkbjiackjefkkaaDoorPpSt
import Derived.Deep.MidRow
namespace Go.Proofs.YtkbjiackjefkkaaDoor
open Go.RowKit
open Sm
open Po
open Go.Maps (Keyed)
set_option linter.unusedVariables false
set_option linter.unusedSimpArgs false
set_option maxRecDepth 20000

namespace Po
theorem anyH_letter17 {P : Program} {md : Region.Mode} {ops : Array Oper} {Q : Exit → Act → World → Prop} {S : World → Prop} {fuel : Nat} {listed : Array Bool} {a : Act} {W : World} (R : World → Prop) (h : R W) (k : ∀ W', R W' → wpAnyH P md ops Q S fuel listed a W') : wpAnyH P md ops Q S fuel listed a W := k W h
theorem storeCells_row17 (V : World) (g : Nat) (old tl : Array Value) (t : TypeId) (hg : V.heap[g]? = some (.cells old t (0, 0))) (hs : old.size = tl.size) (h1 : tl.all (·.oneCell') = true) : (storeCells ⟨g, 0, none⟩ tl.toList).run Tryd.prog V = .ok () (V.setRow g tl) := by
  have := run_storeCells_at Tryd.prog g 0 t tl.toList 0 old V hg (by simp; omega) (fun u hu => by
    rw [Array.all_eq_true_iff_forall_mem] at h1
    exact h1 u (by simpa using hu))
  simp only [Nat.add_zero, List.take_zero, List.nil_append, Nat.zero_add, Array.length_toList] at this
  rw [List.drop_of_length_le (by simp; omega), List.append_nil] at this
  simpa using this
theorem blk_part (f : Nat → Nat) : ∀ i, i < 16 → ((blv f).toList.drop (i * 1)).take 1 = [.int .u64 (f i : Nat)] := by
  intro i hi
  match i, hi with
  | 0, _ => rfl | 1, _ => rfl | 2, _ => rfl | 3, _ => rfl | 4, _ => rfl | 5, _ => rfl | 6, _ => rfl | 7, _ => rfl
  | 8, _ => rfl | 9, _ => rfl | 10, _ => rfl | 11, _ => rfl | 12, _ => rfl | 13, _ => rfl | 14, _ => rfl | 15, _ => rfl
  | i + 16, h => omega
theorem lits_map {α β : Type} {g : α → Option β} {h : α → β} : ∀ (l : List α), (∀ i ∈ l, g i = some (h i)) → l.mapM g = some (l.map h)
  | [], _ => rfl
  | a :: l, hl => by
    rw [List.mapM_cons, hl a (List.mem_cons_self ..), lits_map l fun i hi => hl i (List.mem_cons_of_mem _ hi)]
    rfl
def lits (f : Nat → Nat) : List Lit := ((List.range 16).map fun i => [Lit.int .u64 (f i : Nat)]).flatten
theorem blk_lits (f : Nat → Nat) (hf : ∀ i, i < 16 → f i < 18446744073709551616) : Tryd.prog.keyLits 10000 67 (Value.agg (blv f)).cells.toList = some (lits f) := by
  have c67 : Tryd.prog.cellsOf 67 = 16 := by kernel_rfl
  have c59 : Tryd.prog.cellsOf 59 = 1 := by kernel_rfl
  have hw : ∀ i, i < 16 → (Lit.int .u64 (f i : Nat)).wf = true := fun i hi => by
    have := hf i hi
    simp [Lit.wf, IntKind.min, IntKind.max, IntKind.signed, IntKind.bits]
    omega
  rw [show (10000 : Nat) = 9998 + 1 + 1 from rfl]
  have hlen : (Value.agg (blv f)).cells.toList.length = 16 := rfl
  have hm : (List.range 16).mapM (fun i => Tryd.prog.keyLits (9998 + 1) 59 (((blv f).toList.drop (i * 1)).take 1)) = some ((List.range 16).map fun i => [Lit.int .u64 (f i : Nat)]) := lits_map _ fun i hi => by
    have hi' : i < 16 := List.mem_range.1 hi
    rw [blk_part f i hi']
    unfold Program.keyLits
    simp only [Tryd.underlying59, hw i hi', and_self, if_true]
  have hc : (Value.agg (blv f)).cells.toList = (blv f).toList := rfl
  unfold Program.keyLits
  simp only [Tryd.underlying67, c67, c59, hlen, if_true]
  rw [hc, hm]
  rfl
theorem lits_at (f : Nat → Nat) (i : Nat) (hi : i < 16) : (lits f)[i]? = some (.int .u64 (f i : Nat)) := by
  match i, hi with
  | 0, _ => rfl | 1, _ => rfl | 2, _ => rfl | 3, _ => rfl | 4, _ => rfl | 5, _ => rfl | 6, _ => rfl | 7, _ => rfl
  | 8, _ => rfl | 9, _ => rfl | 10, _ => rfl | 11, _ => rfl | 12, _ => rfl | 13, _ => rfl | 14, _ => rfl | 15, _ => rfl
  | i + 16, h => omega
theorem blk_eq (f : Nat → Nat) (hf : ∀ i, i < 16 → f i < 18446744073709551616) (w : World) : ∃ r : Bool, (Op.equalIn 10000 67 (.agg (blv f)) (.agg (blv fun _ => 0))).run Tryd.prog w = .ok r w ∧ (r = true ↔ ∀ i, i < 16 → f i = 0) := by
  have F := fun g => show (Value.agg (blv g)).formed Tryd.prog 67 = true by
    simp [Value.formed, Tryd.underlying67]
    kernel_rfl
  obtain ⟨r, h1, h2⟩ := run_equalIn_deep (P := Tryd.prog) 9998 2 67 (by kernel_rfl) w 10000 10000 _ _ _ _ (F f) (F fun _ => 0) (blk_lits f hf) (blk_lits (fun _ => 0) (fun _ _ => by decide))
  refine ⟨r, h1, h2.trans ⟨fun h => ?_, fun h => ?_⟩⟩
  · intro i hi
    have h1 := lits_at f i hi
    rw [h, lits_at _ i hi] at h1
    simp only [Option.some.injEq, Lit.int.injEq, true_and] at h1
    omega
  · unfold lits
    refine congrArg List.flatten (List.map_congr_left fun i hi => ?_)
    rw [h i (List.mem_range.1 hi)]
theorem flp_lt {f : Nat → Nat} {k : Nat} (hf : ∀ i, i < 16 → f i < 18446744073709551616) : ∀ i, i < 16 → flp f k i < 18446744073709551616 := by
  intro i hi
  unfold flp
  split
  · have := hf i hi
    rw [← p64] at this ⊢
    exact Nat.xor_lt_two_pow this (p64 ▸ pow_lt k)
  · exact hf i hi
theorem blv_eq {f g : Nat → Nat} (h : blv f = blv g) {i : Nat} (hi : i < 16) : f i = g i := by
  have h1 := blv_at f i hi
  rw [h, blv_at g i hi] at h1
  simp only [Option.some.injEq, Value.int.injEq, true_and] at h1
  omega
theorem none_at {f : Nat → Nat} {xs : List Mk} {pr a nb : Int} (hF : blv f = blv (wdp xs pr a nb)) (h0 : ∀ i, i < 16 → f i = 0) {q : Mk} (hq : q ∈ xs) (e : pkey q = plv pr a nb) : False := by
  obtain ⟨q0, q1, q2⟩ := q
  obtain ⟨e0, e1, e2⟩ := plv_inj e
  simp only at e0 e1 e2
  subst e0 e1
  have h1 := blv_eq hF (i := (q2 % 1024 / 64).toNat) (by omega)
  rw [h0 _ (by omega)] at h1
  have h2 := mkw_zero.1 h1.symm (q2 % 64).toNat (by omega)
  unfold hld at h2
  rw [decide_eq_false_iff_not] at h2
  refine h2 ?_
  rw [show nb * 1024 + (((q2 % 1024 / 64).toNat : Nat) : Int) * 64 + (((q2 % 64).toNat : Nat) : Int) = q2 by omega]
  exact hq
theorem some_at {f : Nat → Nat} {xs : List Mk} {pr a nb : Int} (hF : blv f = blv (wdp xs pr a nb)) (h0 : ¬ ∀ i, i < 16 → f i = 0) : ∃ q ∈ xs, pkey q = plv pr a nb := by
  classical
  apply Classical.byContradiction
  intro hno
  refine h0 fun i hi => ?_
  rw [blv_eq hF hi]
  refine mkw_zero.2 fun j hj => ?_
  unfold hld
  rw [decide_eq_false_iff_not]
  intro hm
  refine hno ⟨_, hm, ?_⟩
  unfold pkey
  simp only
  rw [show (nb * 1024 + (i : Int) * 64 + (j : Int)) / 1024 = nb by omega]
theorem step_del {ops : Array Oper} {o : Oper} {a : Act} {W : World} {K : Act → World → Prop} {Q : Exit → Act → World → Prop} {E : Prop} (hgd : o.guard = none)
    (m x : Operand) (t k : TypeId) (ho : o.op = .call { callee := .builtin .delete, args := #[m, x], argTypes := #[t, k] }) {vm vx : Value} (hm : a.eval m = vm) (hx : a.eval x = vx)
    {v' : Value} {w' : World} {ty : TypeId} (hr : (Builtin.delete_ #[t, k] ty #[vm, vx]).run Tryd.prog W = .ok v' w') (hty : o.type = ty) (h : K (a.put o.dst v') w') :
    if Region.wanted o (yielded ops a.tmps) = true then Oper.wp Tryd.prog o a W K Q else E := by
  have hw : Region.wanted o (yielded ops a.tmps) = true := by simp [Region.wanted, hgd]
  rw [if_pos hw]
  subst hty
  unfold Oper.wp
  simp [execOp, ho, resolve, invoke, builtin, hm, hx, hr, Result.andThen]
  exact h
theorem blv_one (f : Nat → Nat) : (blv f).all (·.oneCell') = true := by simp [Value.oneCell']
theorem mem_front {w V : World} {L : List (Nat × Obj)} {g : Nat} (h : Mem w V L) (hg : V.heap.size = g) (o : Obj) : Mem w (V.alloc o) ((g, o) :: L) := (h.push g o hg.symm).perm List.perm_append_comm
theorem mem_block {w V : World} {L : List (Nat × Obj)} {b : Nat} {o o' : Obj} (h : Mem w V ((b, o) :: L)) : Mem w (Go.ChangeMaps.setBlock V b o') ((b, o') :: L) := by
  have hlt : b < V.heap.size := h.lt (List.mem_cons_self ..)
  have hlow : w.heap.size ≤ b := h.low _ (List.mem_cons_self ..)
  have hat : ∀ k, (Go.ChangeMaps.setBlock V b o').heap[k]? = if k = b then some o' else V.heap[k]? := fun k => by
    show (V.heap.setIfInBounds b o')[k]? = _
    rw [Array.getElem?_setIfInBounds]
    by_cases e : b = k
    · subst e; simp [hlt]
    · simp [e, Ne.symm e]
  have hap := h.apart
  simp only [List.map_cons, List.nodup_cons] at hap
  refine ⟨⟨h.below.os, h.below.tape, h.below.output, ?_, fun k hk => ?_⟩, fun q hq => ?_, fun q hq => ?_, by simpa using hap⟩
  · show _ ≤ (V.heap.setIfInBounds b o').size
    rw [Array.size_setIfInBounds]
    exact h.below.size
  · rw [hat, if_neg (by omega)]
    exact h.below.block k hk
  · rcases List.mem_cons.1 hq with rfl | hq
    · exact hlow
    · exact h.low q (List.mem_cons_of_mem _ hq)
  · rcases List.mem_cons.1 hq with rfl | hq
    · rw [hat, if_pos rfl]
    · have hne : q.1 ≠ b := fun e => hap.1 (e ▸ List.mem_map_of_mem hq)
      rw [hat, if_neg hne]
      exact h.at_ q (List.mem_cons_of_mem _ hq)
theorem blk_all (f : Nat → Nat) (hf : ∀ i, i < 16 → f i < 18446744073709551616) : ∃ r : Bool, (∀ W, (Op.equalIn 10000 67 (.agg (blv f)) (.agg (blv fun _ => 0))).run Tryd.prog W = .ok r W) ∧ (r = true ↔ ∀ i, i < 16 → f i = 0) := by
  by_cases h : ∀ i, i < 16 → f i = 0
  · refine ⟨true, fun W => ?_, fun _ => h, fun _ => rfl⟩
    obtain ⟨r, h1, h2⟩ := blk_eq f hf W
    rw [h1, h2.2 h]
  · refine ⟨false, fun W => ?_, fun e => (by cases e), fun e => absurd e h⟩
    obtain ⟨r, h1, h2⟩ := blk_eq f hf W
    rw [h1]
    cases r
    · rfl
    · exact absurd (h2.1 rfl) h
theorem mem_block_in {w V : World} {L2 : List (Nat × Obj)} {b : Nat} {o o' : Obj} (L1 : List (Nat × Obj)) (h : Mem w V (L1 ++ (b, o) :: L2)) : Mem w (Go.ChangeMaps.setBlock V b o') (L1 ++ (b, o') :: L2) :=
  (mem_block (h.perm List.perm_middle)).perm List.perm_middle.symm
set_option maxHeartbeats 8000000 in
theorem turn_raw {w W : World} {p mb : Nat} {n : Int} {xs xs' : List Mk} {es : Array MapEntry} {clock : Nat} {L : List (Nat × Obj)} (hM : Mem w W ((p, .cells #[.map (some mb), .int .i64 n] 58 (0, 0)) :: (mb, .map es clock) :: L)) (hE : MB xs es clock) {pr a b : Int} (hm : MOk (pr, a, b)) (hT : Trn xs xs' (pr, a, b)) (hroom : xs.length < maxLen) :
    Calls Tryd.prog 22 #[.pointer (some ⟨p, 0, none⟩), .int .u8 pr, .agg #[.int .u32 a, .int .u16 b]] W fun e W' => e = .returned (.tuple #[]) ∧ ∃ es' clock', MB xs' es' clock' ∧ Mem w W' ((p, .cells #[.map (some mb), .int .i64 n] 58 (0, 0)) :: (mb, .map es' clock') :: L) := by
  obtain ⟨hpr, ha, hb⟩ := hm
  simp only at hpr ha hb
  obtain ⟨k, rfl⟩ : ∃ k : Nat, b = (k : Int) := ⟨b.toNat, by omega⟩
  obtain ⟨g, hg⟩ : ∃ g, W.heap.size = g := ⟨_, rfl⟩
  have HM0 : Hid (Mem w (W.alloc (.cells #[.int .u32 a, .int .u16 (k : Int)] 35)) ((g, .cells #[.int .u32 a, .int .u16 (k : Int)] 35 (0, 0)) :: (p, .cells #[.map (some mb), .int .i64 n] 58 (0, 0)) :: (mb, .map es clock) :: L)) := mem_front hM hg _
  have HC1 := fun V => placeOf_any V pr a k hb
  unfold plv at HC1
  obtain ⟨nb, hnb⟩ : ∃ nb, (k : Int) / 1024 = nb := ⟨_, rfl⟩
  have hnb2 : 0 ≤ nb ∧ nb ≤ 70000 := by omega
  obtain ⟨f0, hf0⟩ : ∃ f, wdp xs pr a nb = f := ⟨_, rfl⟩
  have hfl : ∀ i, i < 16 → f0 i < 18446744073709551616 := fun i _ => by rw [← hf0]; exact mkw64 _
  have hk2 : k < 65536 := by omega
  have HF : Hid (blv (flp f0 k) = blv (wdp xs' pr a nb)) := by
    rw [← hf0, ← hnb]
    exact hT.turned
  obtain ⟨A0, hA0⟩ : ∃ A, blv f0 = A := ⟨_, rfl⟩
  have HA0 : Hid (blv f0 = A0) := hA0
  have HS : Hid (∀ V g1, Mem w V ((g1, .cells #[.int .u8 pr, .int .u32 a, .int .i64 nb] 69 (0, 0)) :: (g, .cells #[.int .u32 a, .int .u16 (k : Int)] 35 (0, 0)) :: (p, .cells #[.map (some mb), .int .i64 n] 58 (0, 0)) :: (mb, .map es clock) :: L) → (fun V => V.cell? ⟨g1, 0, none⟩ = some (.int .u8 pr) ∧ V.cell? ⟨g1, 1, none⟩ = some (.int .u32 a) ∧ V.cell? ⟨g1, 2, none⟩ = some (.int .i64 nb) ∧ V.cell? ⟨p, 0, none⟩ = some (.map (some mb)) ∧ (Instr.lookup 56 (.map (some mb)) (.agg #[.int .u8 pr, .int .u32 a, .int .i64 nb]) false).run Tryd.prog V = .ok (.agg A0) V) V) := fun V g1 h => ⟨h.cell 0 rfl 0, h.cell 0 rfl 1, h.cell 0 rfl 2, h.cell 2 rfl 0, by
    rw [← hA0, ← hf0]
    exact hE.look (h.get 3 rfl) hpr ha hnb2⟩
  have hA0s : A0.size = 16 := by rw [← hA0]; rfl
  clear hA0
  have HSt : Hid (∀ V g1 g2 (m0 : Mk), Mem w V ((g2, .cells (blv (flp f0 k)) 67 (0, 0)) :: (g1, .cells #[.int .u8 pr, .int .u32 a, .int .i64 nb] 69 (0, 0)) :: (g, .cells #[.int .u32 a, .int .u16 (k : Int)] 35 (0, 0)) :: (p, .cells #[.map (some mb), .int .i64 n] 58 (0, 0)) :: (mb, .map es clock) :: L) → m0 ∈ xs' → pkey m0 = plv pr a nb → ∃ es' clock', (Instr.mapUpdate 56 (.map (some mb)) (.agg #[.int .u8 pr, .int .u32 a, .int .i64 nb]) (.agg (blv (flp f0 k)))).run Tryd.prog V = .ok () (Go.ChangeMaps.setBlock V mb (.map es' clock')) ∧ MB xs' es' clock') := fun V g1 g2 m0 h hm0 hk0 => by
    have := hE.store (h.get 4 rfl) hT hm0 (by rw [hk0]; unfold pkey; simp only; rw [hnb]) hroom hpr ha hb
    unfold pkey plv at this
    simp only at this
    rw [hnb, ← HF.out] at this
    exact this
  have HDr : Hid (∀ V g1 g2, Mem w V ((g2, .cells (blv (flp f0 k)) 67 (0, 0)) :: (g1, .cells #[.int .u8 pr, .int .u32 a, .int .i64 nb] 69 (0, 0)) :: (g, .cells #[.int .u32 a, .int .u16 (k : Int)] 35 (0, 0)) :: (p, .cells #[.map (some mb), .int .i64 n] 58 (0, 0)) :: (mb, .map es clock) :: L) → (∀ q ∈ xs', pkey q ≠ plv pr a nb) → ∃ es', (Builtin.delete_ #[56, 69] 0 #[.map (some mb), (.agg #[.int .u8 pr, .int .u32 a, .int .i64 nb])]).run Tryd.prog V = .ok (.tuple #[]) (Go.ChangeMaps.setBlock V mb (.map es' clock)) ∧ MB xs' es' clock) := fun V g1 g2 h hno => by
    have := hE.drop (h.get 4 rfl) hT (by unfold pkey; unfold pkey at hno; simp only at hno ⊢; rw [hnb]; exact hno) 0 hpr ha hb
    unfold pkey plv at this
    simp only at this
    rw [hnb] at this
    exact this
  rw [hnb] at HC1
  clear hM
  go_enter Tryd.func22, Tryd.ntmps22
  go_upto_region 1 with fail
  refine wp_letter (fun X => Mem w X ((g, .cells #[.int .u32 a, .int .u16 (k : Int)] 35 (0, 0)) :: (p, .cells #[.map (some mb), .int .i64 n] 58 (0, 0)) :: (mb, .map es clock) :: L)) (by exact HM0.out) ?_
  intro V0 hM0
  try simp only [hg]
  have HM : Hid (Mem w V0 ((g, .cells #[.int .u32 a, .int .u16 (k : Int)] 35 (0, 0)) :: (p, .cells #[.map (some mb), .int .i64 n] 58 (0, 0)) :: (mb, .map es clock) :: L)) := hM0
  have a0 : V0.cell? ⟨g, 0, none⟩ = some (.int .u32 a) := hM0.cell 0 rfl 0
  have a1 : V0.cell? ⟨g, 1, none⟩ = some (.int .u16 (k : Int)) := hM0.cell 0 rfl 1
  clear HM0 hM0
  have C1 := HC1 V0
  clear HC1
  go_wp2_with fail
  refine C1.mono ?_
  rintro e V1 ⟨rfl, hV⟩
  have HM1 : Hid (Mem w V1 ((g, .cells #[.int .u32 a, .int .u16 (k : Int)] 35 (0, 0)) :: (p, .cells #[.map (some mb), .int .i64 n] 58 (0, 0)) :: (mb, .map es clock) :: L)) := HM.out.after hV
  clear C1 hV HM a0 a1
  obtain ⟨g1, hg1⟩ : ∃ g, V1.heap.size = g := ⟨_, rfl⟩
  have HMk : Hid (Mem w (V1.alloc (.cells #[.int .u8 pr, .int .u32 a, .int .i64 nb] 69)) ((g1, .cells #[.int .u8 pr, .int .u32 a, .int .i64 nb] 69 (0, 0)) :: (g, .cells #[.int .u32 a, .int .u16 (k : Int)] 35 (0, 0)) :: (p, .cells #[.map (some mb), .int .i64 n] 58 (0, 0)) :: (mb, .map es clock) :: L)) := mem_front HM1.out hg1 _
  go_upto_region 2 with fail
  refine wp_letter (fun X => Mem w X ((g1, .cells #[.int .u8 pr, .int .u32 a, .int .i64 nb] 69 (0, 0)) :: (g, .cells #[.int .u32 a, .int .u16 (k : Int)] 35 (0, 0)) :: (p, .cells #[.map (some mb), .int .i64 n] 58 (0, 0)) :: (mb, .map es clock) :: L)) (by exact HMk.out) ?_
  intro V2 hM2
  try simp only [hg1]
  have HM2 : Hid (Mem w V2 ((g1, .cells #[.int .u8 pr, .int .u32 a, .int .i64 nb] 69 (0, 0)) :: (g, .cells #[.int .u32 a, .int .u16 (k : Int)] 35 (0, 0)) :: (p, .cells #[.map (some mb), .int .i64 n] 58 (0, 0)) :: (mb, .map es clock) :: L)) := hM2
  clear HMk hM2 HM1
  refine wp_region_held_drew (S := (fun V => V.cell? ⟨g1, 0, none⟩ = some (.int .u8 pr) ∧ V.cell? ⟨g1, 1, none⟩ = some (.int .u32 a) ∧ V.cell? ⟨g1, 2, none⟩ = some (.int .i64 nb) ∧ V.cell? ⟨p, 0, none⟩ = some (.map (some mb)) ∧ (Instr.lookup 56 (.map (some mb)) (.agg #[.int .u8 pr, .int .u32 a, .int .i64 nb]) false).run Tryd.prog V = .ok (.agg A0) V)) (by kernel_rfl) (HS.out _ _ HM2.out.drew) (fun hHeld => ?_)
  refine wpAnyH_take (i := 0) (v := ?_) rfl (by kernel_rfl) (by kernel_rfl) (by kernel_rfl) (fun _ _ _ h => h) (Or.inl ⟨by rfl, ?z1⟩) (by assumption) ?_
  case z1 =>
   intro w hSw
   (try dsimp only at hSw)
   go_simp
   all_goals with_reducible rfl
  try simp only [List.getElem_toArray, List.getElem_cons_zero, List.getElem_cons_succ, Act.put, List.setIfInBounds_toArray, List.set_cons_zero, List.set_cons_succ]
  refine wpAnyH_take (i := 1) (v := ?_) rfl (by kernel_rfl) (by kernel_rfl) (by kernel_rfl) (fun _ _ _ h => h) (Or.inl ⟨by rfl, ?z2⟩) (by assumption) ?_
  case z2 =>
   intro w hSw
   (try dsimp only at hSw)
   go_simp
   all_goals with_reducible rfl
  try simp only [List.getElem_toArray, List.getElem_cons_zero, List.getElem_cons_succ, Act.put, List.setIfInBounds_toArray, List.set_cons_zero, List.set_cons_succ]
  refine wpAnyH_take (i := 2) (v := ?_) rfl (by kernel_rfl) (by kernel_rfl) (by kernel_rfl) (fun _ _ _ h => h) (Or.inl ⟨by rfl, ?z3⟩) (by assumption) ?_
  case z3 =>
   intro w hSw
   (try dsimp only at hSw)
   go_simp
   all_goals with_reducible rfl
  try simp only [List.getElem_toArray, List.getElem_cons_zero, List.getElem_cons_succ, Act.put, List.setIfInBounds_toArray, List.set_cons_zero, List.set_cons_succ]
  refine wpAnyH_take (i := 3) (v := ?_) rfl (by kernel_rfl) (by kernel_rfl) (by kernel_rfl) (fun _ _ _ h => h) (Or.inl ⟨by rfl, ?z4⟩) (by assumption) ?_
  case z4 =>
   intro w hSw
   (try dsimp only at hSw)
   go_simp
   all_goals with_reducible rfl
  try simp only [List.getElem_toArray, List.getElem_cons_zero, List.getElem_cons_succ, Act.put, List.setIfInBounds_toArray, List.set_cons_zero, List.set_cons_succ]
  refine wpAnyH_take (i := 4) (v := ?_) rfl (by kernel_rfl) (by kernel_rfl) (by kernel_rfl) (fun _ _ _ h => h) (Or.inl ⟨by rfl, ?z5⟩) (by assumption) ?_
  case z5 =>
   intro w hSw
   (try dsimp only at hSw)
   go_simp
   all_goals with_reducible rfl
  try simp only [List.getElem_toArray, List.getElem_cons_zero, List.getElem_cons_succ, Act.put, List.setIfInBounds_toArray, List.set_cons_zero, List.set_cons_succ]
  refine wpAnyH_take (i := 5) (v := ?_) rfl (by kernel_rfl) (by kernel_rfl) (by kernel_rfl) (fun _ _ _ h => h) (Or.inl ⟨by rfl, ?z6⟩) (by assumption) ?_
  case z6 =>
   intro w hSw
   (try dsimp only at hSw)
   go_simp
   all_goals with_reducible rfl
  try simp only [List.getElem_toArray, List.getElem_cons_zero, List.getElem_cons_succ, Act.put, List.setIfInBounds_toArray, List.set_cons_zero, List.set_cons_succ]
  obtain ⟨V2d, hV2d⟩ : ∃ X, V2.drew = X := ⟨_, rfl⟩
  have HM2d : Hid (Mem w V2d ((g1, .cells #[.int .u8 pr, .int .u32 a, .int .i64 nb] 69 (0, 0)) :: (g, .cells #[.int .u32 a, .int .u16 (k : Int)] 35 (0, 0)) :: (p, .cells #[.map (some mb), .int .i64 n] 58 (0, 0)) :: (mb, .map es clock) :: L)) := hV2d ▸ HM2.out.drew
  rw [hV2d]
  obtain ⟨g2, hg2⟩ : ∃ g, V2d.heap.size = g := ⟨_, rfl⟩
  have HA : Mem w (V2d.alloc (.cells (blv (fun _ => 0)) 67)) ((g2, .cells (blv (fun _ => 0)) 67 (0, 0)) :: (g1, .cells #[.int .u8 pr, .int .u32 a, .int .i64 nb] 69 (0, 0)) :: (g, .cells #[.int .u32 a, .int .u16 (k : Int)] 35 (0, 0)) :: (p, .cells #[.map (some mb), .int .i64 n] 58 (0, 0)) :: (mb, .map es clock) :: L) := mem_front HM2d.out hg2 _
  refine wpAnyH_ready (rs := [6]) (by kernel_rfl) (by simp) ?_
  refine AllReadyH.cons rfl (fun K hK => ?_) AllReadyH.nil
  go_simp
  try simp only [hg2]
  refine hK.out _ _ (HS.out _ _ HA.sub) (fun hHeld => ?_)
  clear hK K
  try simp only [List.getElem_toArray, List.getElem_cons_zero, List.getElem_cons_succ, Act.put, List.setIfInBounds_toArray, List.set_cons_zero, List.set_cons_succ]
  refine anyH_letter17 (fun X => Mem w X ((g2, .cells (blv (fun _ => 0)) 67 (0, 0)) :: (g1, .cells #[.int .u8 pr, .int .u32 a, .int .i64 nb] 69 (0, 0)) :: (g, .cells #[.int .u32 a, .int .u16 (k : Int)] 35 (0, 0)) :: (p, .cells #[.map (some mb), .int .i64 n] 58 (0, 0)) :: (mb, .map es clock) :: L)) (by exact HA) ?_
  intro V3 hV3
  clear HA HM2d hV2d hg2
  have hst := storeCells_row17 V3 g2 (blv (fun _ => 0)) A0 _ (hV3.get 0 rfl) (by rw [← HA0.out]; rfl) (by rw [← HA0.out]; exact blv_one f0)
  have HB : Mem w (V3.setRow g2 A0) ((g2, .cells A0 67 (0, 0)) :: (g1, .cells #[.int .u8 pr, .int .u32 a, .int .i64 nb] 69 (0, 0)) :: (g, .cells #[.int .u32 a, .int .u16 (k : Int)] 35 (0, 0)) :: (p, .cells #[.map (some mb), .int .i64 n] 58 (0, 0)) :: (mb, .map es clock) :: L) := hV3.wrote 0 rfl (wrote_setRow V3 g2 _ _ _ (hV3.get 0 rfl))
  refine wpAnyH_ready (rs := [7]) (by kernel_rfl) (by simp) ?_
  refine AllReadyH.cons rfl (fun K hK => ?_) AllReadyH.nil
  go_simp
  refine hK.out _ _ (HS.out _ _ HB.sub) (fun hHeld => ?_)
  clear hK K
  try simp only [List.getElem_toArray, List.getElem_cons_zero, List.getElem_cons_succ, Act.put, List.setIfInBounds_toArray, List.set_cons_zero, List.set_cons_succ]
  refine anyH_letter17 (fun X => Mem w X ((g2, .cells A0 67 (0, 0)) :: (g1, .cells #[.int .u8 pr, .int .u32 a, .int .i64 nb] 69 (0, 0)) :: (g, .cells #[.int .u32 a, .int .u16 (k : Int)] 35 (0, 0)) :: (p, .cells #[.map (some mb), .int .i64 n] 58 (0, 0)) :: (mb, .map es clock) :: L)) (by exact HB) ?_
  intro V4 hV4
  have HM4 : Hid (Mem w V4 ((g2, .cells (blv f0) 67 (0, 0)) :: (g1, .cells #[.int .u8 pr, .int .u32 a, .int .i64 nb] 69 (0, 0)) :: (g, .cells #[.int .u32 a, .int .u16 (k : Int)] 35 (0, 0)) :: (p, .cells #[.map (some mb), .int .i64 n] 58 (0, 0)) :: (mb, .map es clock) :: L)) := by rw [HA0.out]; exact hV4
  clear HB hst hV3 hV4 HS HM2
  refine wpAnyH_done (by kernel_rfl) ?_ _
  have C2 := turnb_any HM4.out hfl k hk2
  have b1 : V4.cell? ⟨g, 1, none⟩ = some (.int .u16 (k : Int)) := HM4.out.cell 2 rfl 1
  clear HM4
  go_wp2_with fail
  refine C2.mono ?_
  rintro e V5 ⟨rfl, hM5⟩
  clear C2 b1
  have HM5 : Hid (Mem w V5 ((g2, .cells (blv (flp f0 k)) 67 (0, 0)) :: (g1, .cells #[.int .u8 pr, .int .u32 a, .int .i64 nb] 69 (0, 0)) :: (g, .cells #[.int .u32 a, .int .u16 (k : Int)] 35 (0, 0)) :: (p, .cells #[.map (some mb), .int .i64 n] 58 (0, 0)) :: (mb, .map es clock) :: L)) := hM5
  clear hM5
  obtain ⟨f1, hf1⟩ : ∃ f, flp f0 k = f := ⟨_, rfl⟩
  obtain ⟨r, hr1, hr2⟩ := blk_all f1 (by rw [← hf1]; exact flp_lt hfl)
  rw [hf1] at HM5 HF HSt HDr
  have cc := blv_cell HM5.out
  have u0 : V5.cell? ⟨g2, 0, none⟩ = some (.int .u64 (f1 0 : Nat)) := cc 0 (by decide)
  have u1 : V5.cell? ⟨g2, 1, none⟩ = some (.int .u64 (f1 1 : Nat)) := cc 1 (by decide)
  have u2 : V5.cell? ⟨g2, 2, none⟩ = some (.int .u64 (f1 2 : Nat)) := cc 2 (by decide)
  have u3 : V5.cell? ⟨g2, 3, none⟩ = some (.int .u64 (f1 3 : Nat)) := cc 3 (by decide)
  have u4 : V5.cell? ⟨g2, 4, none⟩ = some (.int .u64 (f1 4 : Nat)) := cc 4 (by decide)
  have u5 : V5.cell? ⟨g2, 5, none⟩ = some (.int .u64 (f1 5 : Nat)) := cc 5 (by decide)
  have u6 : V5.cell? ⟨g2, 6, none⟩ = some (.int .u64 (f1 6 : Nat)) := cc 6 (by decide)
  have u7 : V5.cell? ⟨g2, 7, none⟩ = some (.int .u64 (f1 7 : Nat)) := cc 7 (by decide)
  have u8 : V5.cell? ⟨g2, 8, none⟩ = some (.int .u64 (f1 8 : Nat)) := cc 8 (by decide)
  have u9 : V5.cell? ⟨g2, 9, none⟩ = some (.int .u64 (f1 9 : Nat)) := cc 9 (by decide)
  have u10 : V5.cell? ⟨g2, 10, none⟩ = some (.int .u64 (f1 10 : Nat)) := cc 10 (by decide)
  have u11 : V5.cell? ⟨g2, 11, none⟩ = some (.int .u64 (f1 11 : Nat)) := cc 11 (by decide)
  have u12 : V5.cell? ⟨g2, 12, none⟩ = some (.int .u64 (f1 12 : Nat)) := cc 12 (by decide)
  have u13 : V5.cell? ⟨g2, 13, none⟩ = some (.int .u64 (f1 13 : Nat)) := cc 13 (by decide)
  have u14 : V5.cell? ⟨g2, 14, none⟩ = some (.int .u64 (f1 14 : Nat)) := cc 14 (by decide)
  have u15 : V5.cell? ⟨g2, 15, none⟩ = some (.int .u64 (f1 15 : Nat)) := cc 15 (by decide)
  have E := hr1
  simp only [blv, Int.ofNat_eq_natCast, Int.natCast_zero] at E
  cases r with
  | true =>
    have hno : ∀ q ∈ xs', pkey q ≠ plv pr a nb := fun q hq e => none_at HF.out (hr2.1 rfl) hq e
    clear hr1 hr2 HSt HF cc hf1
    have HS5 : Hid (∀ V es clock, Mem w V ((g2, .cells (blv f1) 67 (0, 0)) :: (g1, .cells #[.int .u8 pr, .int .u32 a, .int .i64 nb] 69 (0, 0)) :: (g, .cells #[.int .u32 a, .int .u16 (k : Int)] 35 (0, 0)) :: (p, .cells #[.map (some mb), .int .i64 n] 58 (0, 0)) :: (mb, .map es clock) :: L) → (fun V => V.cell? ⟨g1, 0, none⟩ = some (.int .u8 pr) ∧ V.cell? ⟨g1, 1, none⟩ = some (.int .u32 a) ∧ V.cell? ⟨g1, 2, none⟩ = some (.int .i64 nb) ∧ V.cell? ⟨p, 0, none⟩ = some (.map (some mb))) V) := fun V es clock h => ⟨h.cell 1 rfl 0, h.cell 1 rfl 1, h.cell 1 rfl 2, h.cell 3 rfl 0⟩
    go_upto_region 5 with fail
    refine wp_region_held_drew (S := (fun V => V.cell? ⟨g1, 0, none⟩ = some (.int .u8 pr) ∧ V.cell? ⟨g1, 1, none⟩ = some (.int .u32 a) ∧ V.cell? ⟨g1, 2, none⟩ = some (.int .i64 nb) ∧ V.cell? ⟨p, 0, none⟩ = some (.map (some mb)))) (by kernel_rfl) (HS5.out _ _ _ HM5.out.drew) (fun hHeld => ?_)
    refine wpAnyH_take (i := 0) (v := ?_) rfl (by kernel_rfl) (by kernel_rfl) (by kernel_rfl) (fun _ _ _ h => h) (Or.inl ⟨by rfl, ?z7⟩) (by assumption) ?_
    case z7 =>
     intro w hSw
     (try dsimp only at hSw)
     go_simp
     all_goals with_reducible rfl
    try simp only [List.getElem_toArray, List.getElem_cons_zero, List.getElem_cons_succ, Act.put, List.setIfInBounds_toArray, List.set_cons_zero, List.set_cons_succ]
    refine wpAnyH_take (i := 1) (v := ?_) rfl (by kernel_rfl) (by kernel_rfl) (by kernel_rfl) (fun _ _ _ h => h) (Or.inl ⟨by rfl, ?z8⟩) (by assumption) ?_
    case z8 =>
     intro w hSw
     (try dsimp only at hSw)
     go_simp
     all_goals with_reducible rfl
    try simp only [List.getElem_toArray, List.getElem_cons_zero, List.getElem_cons_succ, Act.put, List.setIfInBounds_toArray, List.set_cons_zero, List.set_cons_succ]
    refine wpAnyH_take (i := 2) (v := ?_) rfl (by kernel_rfl) (by kernel_rfl) (by kernel_rfl) (fun _ _ _ h => h) (Or.inl ⟨by rfl, ?z9⟩) (by assumption) ?_
    case z9 =>
     intro w hSw
     (try dsimp only at hSw)
     go_simp
     all_goals with_reducible rfl
    try simp only [List.getElem_toArray, List.getElem_cons_zero, List.getElem_cons_succ, Act.put, List.setIfInBounds_toArray, List.set_cons_zero, List.set_cons_succ]
    refine wpAnyH_take (i := 3) (v := ?_) rfl (by kernel_rfl) (by kernel_rfl) (by kernel_rfl) (fun _ _ _ h => h) (Or.inl ⟨by rfl, ?z10⟩) (by assumption) ?_
    case z10 =>
     intro w hSw
     (try dsimp only at hSw)
     go_simp
     all_goals with_reducible rfl
    try simp only [List.getElem_toArray, List.getElem_cons_zero, List.getElem_cons_succ, Act.put, List.setIfInBounds_toArray, List.set_cons_zero, List.set_cons_succ]
    refine wpAnyH_take (i := 4) (v := ?_) rfl (by kernel_rfl) (by kernel_rfl) (by kernel_rfl) (fun _ _ _ h => h) (Or.inl ⟨by rfl, ?z11⟩) (by assumption) ?_
    case z11 =>
     intro w hSw
     (try dsimp only at hSw)
     go_simp
     all_goals with_reducible rfl
    try simp only [List.getElem_toArray, List.getElem_cons_zero, List.getElem_cons_succ, Act.put, List.setIfInBounds_toArray, List.set_cons_zero, List.set_cons_succ]
    obtain ⟨es', hrun, hE'⟩ := HDr.out _ g1 g2 HM5.out.drew hno
    have HB : Mem w (Go.ChangeMaps.setBlock _ mb (.map es' clock)) ((g2, .cells (blv f1) 67 (0, 0)) :: (g1, .cells #[.int .u8 pr, .int .u32 a, .int .i64 nb] 69 (0, 0)) :: (g, .cells #[.int .u32 a, .int .u16 (k : Int)] 35 (0, 0)) :: (p, .cells #[.map (some mb), .int .i64 n] 58 (0, 0)) :: (mb, .map es' clock) :: L) := mem_block_in [(g2, .cells (blv f1) 67 (0, 0)), (g1, .cells #[.int .u8 pr, .int .u32 a, .int .i64 nb] 69 (0, 0)), (g, .cells #[.int .u32 a, .int .u16 (k : Int)] 35 (0, 0)), (p, .cells #[.map (some mb), .int .i64 n] 58 (0, 0))] HM5.out.drew
    refine wpAnyH_ready (rs := [5]) (by kernel_rfl) (by simp) ?_
    refine AllReadyH.cons rfl (fun K hK => ?_) AllReadyH.nil
    refine step_del (ty := 0) rfl (.tmp 26) (.tmp 27) 56 69 rfl (by simp [Act.eval]) (by simp [Act.eval]) hrun rfl ?_
    refine hK.out _ _ (HS5.out _ _ _ HB) (fun hHeld => ?_)
    clear hK K
    try simp only [List.getElem_toArray, List.getElem_cons_zero, List.getElem_cons_succ, Act.put, List.setIfInBounds_toArray, List.set_cons_zero, List.set_cons_succ]
    refine anyH_letter17 (fun X => Mem w X ((g2, .cells (blv f1) 67 (0, 0)) :: (g1, .cells #[.int .u8 pr, .int .u32 a, .int .i64 nb] 69 (0, 0)) :: (g, .cells #[.int .u32 a, .int .u16 (k : Int)] 35 (0, 0)) :: (p, .cells #[.map (some mb), .int .i64 n] 58 (0, 0)) :: (mb, .map es' clock) :: L)) (by exact HB) ?_
    intro V6 hV6
    have HM6 : Hid (Mem w V6 ((g2, .cells (blv f1) 67 (0, 0)) :: (g1, .cells #[.int .u8 pr, .int .u32 a, .int .i64 nb] 69 (0, 0)) :: (g, .cells #[.int .u32 a, .int .u16 (k : Int)] 35 (0, 0)) :: (p, .cells #[.map (some mb), .int .i64 n] 58 (0, 0)) :: (mb, .map es' clock) :: L)) := hV6
    clear HB hV6 hrun
    refine wpAnyH_done (by kernel_rfl) ?_ _
    clear HS5 HM5 HDr
    have HZ : Hid (Mem w V6 ((p, .cells #[.map (some mb), .int .i64 n] 58 (0, 0)) :: (mb, .map es' clock) :: L)) := HM6.out.sub.sub.sub
    clear HM6
    go_wp2_with fail
    exact bodyPost_end (v := .tuple #[]) (by simp [results, Tryd.results22, go_sem]) rfl ⟨rfl, es', clock, hE', HZ.out⟩
  | false =>
    obtain ⟨m0, hm0, hk0⟩ : ∃ m0 ∈ xs', pkey m0 = plv pr a nb := some_at HF.out (fun h => by have := hr2.2 h; cases this)
    have HS6 : Hid (∀ V es clock, Mem w V ((g2, .cells (blv f1) 67 (0, 0)) :: (g1, .cells #[.int .u8 pr, .int .u32 a, .int .i64 nb] 69 (0, 0)) :: (g, .cells #[.int .u32 a, .int .u16 (k : Int)] 35 (0, 0)) :: (p, .cells #[.map (some mb), .int .i64 n] 58 (0, 0)) :: (mb, .map es clock) :: L) → (fun V => V.cell? ⟨g1, 0, none⟩ = some (.int .u8 pr) ∧ V.cell? ⟨g1, 1, none⟩ = some (.int .u32 a) ∧ V.cell? ⟨g1, 2, none⟩ = some (.int .i64 nb) ∧ V.cell? ⟨p, 0, none⟩ = some (.map (some mb)) ∧ V.cell? ⟨g2, 0, none⟩ = some (.int .u64 (f1 0 : Nat)) ∧ V.cell? ⟨g2, 1, none⟩ = some (.int .u64 (f1 1 : Nat)) ∧ V.cell? ⟨g2, 2, none⟩ = some (.int .u64 (f1 2 : Nat)) ∧ V.cell? ⟨g2, 3, none⟩ = some (.int .u64 (f1 3 : Nat)) ∧ V.cell? ⟨g2, 4, none⟩ = some (.int .u64 (f1 4 : Nat)) ∧ V.cell? ⟨g2, 5, none⟩ = some (.int .u64 (f1 5 : Nat)) ∧ V.cell? ⟨g2, 6, none⟩ = some (.int .u64 (f1 6 : Nat)) ∧ V.cell? ⟨g2, 7, none⟩ = some (.int .u64 (f1 7 : Nat)) ∧ V.cell? ⟨g2, 8, none⟩ = some (.int .u64 (f1 8 : Nat)) ∧ V.cell? ⟨g2, 9, none⟩ = some (.int .u64 (f1 9 : Nat)) ∧ V.cell? ⟨g2, 10, none⟩ = some (.int .u64 (f1 10 : Nat)) ∧ V.cell? ⟨g2, 11, none⟩ = some (.int .u64 (f1 11 : Nat)) ∧ V.cell? ⟨g2, 12, none⟩ = some (.int .u64 (f1 12 : Nat)) ∧ V.cell? ⟨g2, 13, none⟩ = some (.int .u64 (f1 13 : Nat)) ∧ V.cell? ⟨g2, 14, none⟩ = some (.int .u64 (f1 14 : Nat)) ∧ V.cell? ⟨g2, 15, none⟩ = some (.int .u64 (f1 15 : Nat))) V) := fun V es clock h => ⟨h.cell 1 rfl 0, h.cell 1 rfl 1, h.cell 1 rfl 2, h.cell 3 rfl 0, blv_cell h 0 (by decide), blv_cell h 1 (by decide), blv_cell h 2 (by decide), blv_cell h 3 (by decide), blv_cell h 4 (by decide), blv_cell h 5 (by decide), blv_cell h 6 (by decide), blv_cell h 7 (by decide), blv_cell h 8 (by decide), blv_cell h 9 (by decide), blv_cell h 10 (by decide), blv_cell h 11 (by decide), blv_cell h 12 (by decide), blv_cell h 13 (by decide), blv_cell h 14 (by decide), blv_cell h 15 (by decide)⟩
    clear hr1 hr2 HDr HF cc hf1
    go_upto_region 6 with fail
    refine wp_region_held_drew (S := (fun V => V.cell? ⟨g1, 0, none⟩ = some (.int .u8 pr) ∧ V.cell? ⟨g1, 1, none⟩ = some (.int .u32 a) ∧ V.cell? ⟨g1, 2, none⟩ = some (.int .i64 nb) ∧ V.cell? ⟨p, 0, none⟩ = some (.map (some mb)) ∧ V.cell? ⟨g2, 0, none⟩ = some (.int .u64 (f1 0 : Nat)) ∧ V.cell? ⟨g2, 1, none⟩ = some (.int .u64 (f1 1 : Nat)) ∧ V.cell? ⟨g2, 2, none⟩ = some (.int .u64 (f1 2 : Nat)) ∧ V.cell? ⟨g2, 3, none⟩ = some (.int .u64 (f1 3 : Nat)) ∧ V.cell? ⟨g2, 4, none⟩ = some (.int .u64 (f1 4 : Nat)) ∧ V.cell? ⟨g2, 5, none⟩ = some (.int .u64 (f1 5 : Nat)) ∧ V.cell? ⟨g2, 6, none⟩ = some (.int .u64 (f1 6 : Nat)) ∧ V.cell? ⟨g2, 7, none⟩ = some (.int .u64 (f1 7 : Nat)) ∧ V.cell? ⟨g2, 8, none⟩ = some (.int .u64 (f1 8 : Nat)) ∧ V.cell? ⟨g2, 9, none⟩ = some (.int .u64 (f1 9 : Nat)) ∧ V.cell? ⟨g2, 10, none⟩ = some (.int .u64 (f1 10 : Nat)) ∧ V.cell? ⟨g2, 11, none⟩ = some (.int .u64 (f1 11 : Nat)) ∧ V.cell? ⟨g2, 12, none⟩ = some (.int .u64 (f1 12 : Nat)) ∧ V.cell? ⟨g2, 13, none⟩ = some (.int .u64 (f1 13 : Nat)) ∧ V.cell? ⟨g2, 14, none⟩ = some (.int .u64 (f1 14 : Nat)) ∧ V.cell? ⟨g2, 15, none⟩ = some (.int .u64 (f1 15 : Nat)))) (by kernel_rfl) (HS6.out _ _ _ HM5.out.drew) (fun hHeld => ?_)
    refine wpAnyH_take (i := 0) (v := ?_) rfl (by kernel_rfl) (by kernel_rfl) (by kernel_rfl) (fun _ _ _ h => h) (Or.inl ⟨by rfl, ?z12⟩) (by assumption) ?_
    case z12 =>
     intro w hSw
     (try dsimp only at hSw)
     go_simp
     all_goals with_reducible rfl
    try simp only [List.getElem_toArray, List.getElem_cons_zero, List.getElem_cons_succ, Act.put, List.setIfInBounds_toArray, List.set_cons_zero, List.set_cons_succ]
    refine wpAnyH_take (i := 1) (v := ?_) rfl (by kernel_rfl) (by kernel_rfl) (by kernel_rfl) (fun _ _ _ h => h) (Or.inl ⟨by rfl, ?z13⟩) (by assumption) ?_
    case z13 =>
     intro w hSw
     (try dsimp only at hSw)
     go_simp
     all_goals with_reducible rfl
    try simp only [List.getElem_toArray, List.getElem_cons_zero, List.getElem_cons_succ, Act.put, List.setIfInBounds_toArray, List.set_cons_zero, List.set_cons_succ]
    refine wpAnyH_take (i := 2) (v := ?_) rfl (by kernel_rfl) (by kernel_rfl) (by kernel_rfl) (fun _ _ _ h => h) (Or.inl ⟨by rfl, ?z14⟩) (by assumption) ?_
    case z14 =>
     intro w hSw
     (try dsimp only at hSw)
     go_simp
     all_goals with_reducible rfl
    try simp only [List.getElem_toArray, List.getElem_cons_zero, List.getElem_cons_succ, Act.put, List.setIfInBounds_toArray, List.set_cons_zero, List.set_cons_succ]
    refine wpAnyH_take (i := 3) (v := ?_) rfl (by kernel_rfl) (by kernel_rfl) (by kernel_rfl) (fun _ _ _ h => h) (Or.inl ⟨by rfl, ?z15⟩) (by assumption) ?_
    case z15 =>
     intro w hSw
     (try dsimp only at hSw)
     go_simp
     all_goals with_reducible rfl
    try simp only [List.getElem_toArray, List.getElem_cons_zero, List.getElem_cons_succ, Act.put, List.setIfInBounds_toArray, List.set_cons_zero, List.set_cons_succ]
    refine wpAnyH_take (i := 4) (v := ?_) rfl (by kernel_rfl) (by kernel_rfl) (by kernel_rfl) (fun _ _ _ h => h) (Or.inl ⟨by rfl, ?z16⟩) (by assumption) ?_
    case z16 =>
     intro w hSw
     (try dsimp only at hSw)
     go_simp
     all_goals with_reducible rfl
    try simp only [List.getElem_toArray, List.getElem_cons_zero, List.getElem_cons_succ, Act.put, List.setIfInBounds_toArray, List.set_cons_zero, List.set_cons_succ]
    refine wpAnyH_take (i := 5) (v := ?_) rfl (by kernel_rfl) (by kernel_rfl) (by kernel_rfl) (fun _ _ _ h => h) (Or.inl ⟨by rfl, ?z17⟩) (by assumption) ?_
    case z17 =>
     intro w hSw
     (try dsimp only at hSw)
     go_simp
     all_goals with_reducible rfl
    try simp only [List.getElem_toArray, List.getElem_cons_zero, List.getElem_cons_succ, Act.put, List.setIfInBounds_toArray, List.set_cons_zero, List.set_cons_succ]
    obtain ⟨es', clock', hrun, hE'⟩ := HSt.out _ g1 g2 m0 HM5.out.drew hm0 hk0
    have HB : Mem w (Go.ChangeMaps.setBlock _ mb (.map es' clock')) ((g2, .cells (blv f1) 67 (0, 0)) :: (g1, .cells #[.int .u8 pr, .int .u32 a, .int .i64 nb] 69 (0, 0)) :: (g, .cells #[.int .u32 a, .int .u16 (k : Int)] 35 (0, 0)) :: (p, .cells #[.map (some mb), .int .i64 n] 58 (0, 0)) :: (mb, .map es' clock') :: L) := mem_block_in [(g2, .cells (blv f1) 67 (0, 0)), (g1, .cells #[.int .u8 pr, .int .u32 a, .int .i64 nb] 69 (0, 0)), (g, .cells #[.int .u32 a, .int .u16 (k : Int)] 35 (0, 0)), (p, .cells #[.map (some mb), .int .i64 n] 58 (0, 0))] HM5.out.drew
    refine wpAnyH_ready (rs := [6]) (by kernel_rfl) (by simp) ?_
    refine AllReadyH.cons rfl (fun K hK => ?_) AllReadyH.nil
    go_simp
    refine hK.out _ _ (HS6.out _ _ _ HB) (fun hHeld => ?_)
    clear hK K
    try simp only [List.getElem_toArray, List.getElem_cons_zero, List.getElem_cons_succ, Act.put, List.setIfInBounds_toArray, List.set_cons_zero, List.set_cons_succ]
    refine anyH_letter17 (fun X => Mem w X ((g2, .cells (blv f1) 67 (0, 0)) :: (g1, .cells #[.int .u8 pr, .int .u32 a, .int .i64 nb] 69 (0, 0)) :: (g, .cells #[.int .u32 a, .int .u16 (k : Int)] 35 (0, 0)) :: (p, .cells #[.map (some mb), .int .i64 n] 58 (0, 0)) :: (mb, .map es' clock') :: L)) (by exact HB) ?_
    intro V6 hV6
    have HM6 : Hid (Mem w V6 ((g2, .cells (blv f1) 67 (0, 0)) :: (g1, .cells #[.int .u8 pr, .int .u32 a, .int .i64 nb] 69 (0, 0)) :: (g, .cells #[.int .u32 a, .int .u16 (k : Int)] 35 (0, 0)) :: (p, .cells #[.map (some mb), .int .i64 n] 58 (0, 0)) :: (mb, .map es' clock') :: L)) := hV6
    clear HB hV6 hrun
    refine wpAnyH_done (by kernel_rfl) ?_ _
    clear HS6 HM5 HSt
    have HZ : Hid (Mem w V6 ((p, .cells #[.map (some mb), .int .i64 n] 58 (0, 0)) :: (mb, .map es' clock') :: L)) := HM6.out.sub.sub.sub
    clear HM6
    go_wp2_with fail
    exact bodyPost_end (v := .tuple #[]) (by simp [results, Tryd.results22, go_sem]) rfl ⟨rfl, es', clock', hE', HZ.out⟩
end Po
end Go.Proofs.YtkbjiackjefkkaaDoor
