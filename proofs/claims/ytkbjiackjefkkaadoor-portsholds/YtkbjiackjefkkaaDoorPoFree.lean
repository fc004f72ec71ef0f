/-
  Ports: the document's own: Free.
-/
import Derived.Test.YtkbjiackjefkkaaDoorPoHold
namespace Go.Proofs.YtkbjiackjefkkaaDoor
open Go.RowKit
open Sm
open Po
set_option linter.unusedVariables false
set_option linter.unusedSimpArgs false
set_option maxRecDepth 20000

namespace Po
theorem flat_len : ∀ (xs : List Mk), (mx xs).flatten.length = xs.length * 3
  | [] => rfl
  | x :: xs => by
    have := flat_len xs
    show (mc x ++ (mx xs).flatten).length = _
    rw [List.length_append, this, List.length_cons]
    show 3 + _ = _
    omega
theorem flat_drop : ∀ (xs : List Mk) (k : Nat), (mx (xs.drop k)).flatten = (mx xs).flatten.drop (k * 3)
  | xs, 0 => by simp
  | [], k + 1 => by simp [mx]
  | x :: xs, k + 1 => by
    rw [List.drop_succ_cons, flat_drop xs k]
    show _ = (mc x ++ (mx xs).flatten).drop _
    have e1 : (mc x).drop ((k + 1) * 3) = [] := List.drop_eq_nil_of_le (by show 3 ≤ _; omega)
    rw [List.drop_append, e1, List.nil_append, show (mc x).length = 3 from rfl, show (k + 1) * 3 - 3 = k * 3 by omega]
theorem flat_take : ∀ (xs : List Mk) (k : Nat), (mx (xs.take k)).flatten = (mx xs).flatten.take (k * 3)
  | xs, 0 => by simp [mx]
  | [], k + 1 => by simp [mx]
  | x :: xs, k + 1 => by
    rw [List.take_succ_cons]
    show mc x ++ (mx (xs.take k)).flatten = (mc x ++ (mx xs).flatten).take _
    have e1 : (mc x).take ((k + 1) * 3) = mc x := List.take_of_length_le (by show 3 ≤ _; omega)
    rw [flat_take xs k, List.take_append, e1, show (mc x).length = 3 from rfl, show (k + 1) * 3 - 3 = k * 3 by omega]
theorem mx_one {xs : List Mk} : ∀ u ∈ (mx xs).flatten, u.oneCell' = true := by
  intro u hu
  rw [List.mem_flatten] at hu
  obtain ⟨l, hl, hu⟩ := hu
  obtain ⟨m, -, rfl⟩ := List.mem_map.1 hl
  simp only [mc, List.mem_cons, List.not_mem_nil, or_false] at hu
  rcases hu with rfl | rfl | rfl <;> rfl
/-- s[:i:i]. -/
theorem slice_ii (V : World) (a : Option Addr) (n c i : Nat) (hi : i ≤ c) : (Instr.slice 28 (.slice a n c) none (some (.int .i64 i)) (some (.int .i64 i))).run Tryd.prog V = .ok (.slice a i i) V := by
  have hT : Tryd.prog.underlying 28 = some (.slice (Tryd.prog.elem 28)) := by kernel_rfl
  rw [run_slice_any V 28 a n c hT]
  have e : (Instr.sliceBounds true n c none (some (.int .i64 i)) (some (.int .i64 i))).run Tryd.prog V = .ok (0, i, i) V := by
    simp [Instr.sliceBounds, run_sliceBound, hi]
  rw [e]
  have hs : (sizeOf (Tryd.prog.elem 28)).run Tryd.prog V = .ok 3 V := by kernel_rfl
  simp only [Result.andThen_ok, hs, sliced]
  by_cases h0 : i = 0
  · subst h0; simp
  · rw [if_neg h0]
    cases a with
    | none => rfl
    | some a => simp [Addr.add]
/-- s[k:]. -/
theorem slice_from (V : World) (a : Option Addr) (n c k : Nat) (hk : k ≤ n) : (Instr.slice 28 (.slice a n c) (some (.int .i64 k)) none none).run Tryd.prog V = .ok (.slice (if c = k then a else a.map (·.add (k * 3))) (n - k) (c - k)) V := by
  have hT : Tryd.prog.underlying 28 = some (.slice (Tryd.prog.elem 28)) := by kernel_rfl
  rw [run_slice_l V 28 a n c hT .i64 k (by omega) (by omega)]
  have hs : (sizeOf (Tryd.prog.elem 28)).run Tryd.prog V = .ok 3 V := by kernel_rfl
  simp only [Result.andThen_ok, hs, sliced, Int.toNat_natCast]
set_option maxHeartbeats 8000000 in
theorem rfree17_any {w W : World} {p : Nat} {xs : List Mk} {B L : List (Nat × Obj)} (h : RPs xs p B) (hM : Mem w W (B ++ L)) (hn : xs.length ≤ 100000) (pr a b : Int) :
    Calls Tryd.prog 16 #[.pointer (some ⟨p, 0, none⟩), .int .u8 pr, .agg #[.int .u32 a, .int .u16 b]] W fun e W' => e = .returned (.int .i64 (if (pr, a, b) ∈ xs then 0 else 121)) ∧ ∃ B', RPs (xs.erase (pr, a, b)) p B' ∧ Mem w W' (B' ++ L) := by
  obtain ⟨vv, hcv, hrv⟩ := h.cell hM
  have HC : Hid (∀ V, Below W.heap.size W V → Calls Tryd.prog 23 #[.pointer (some ⟨p, 0, none⟩), .int .u8 pr, .agg #[.int .u32 a, .int .u16 b]] V fun e W' => e = .returned (.int .i64 (fnd (pr, a, b) xs 0)) ∧ Below V.heap.size V W') := fun V hV => rfind17_any (by rw [hV.cell (p := ⟨p, 0, none⟩) (cell_lt hcv)]; exact hcv) (hrv.below mx_ne hV (Nat.le_refl _)) pr a b
  obtain ⟨g, hg⟩ : ∃ g, W.heap.size = g := ⟨_, rfl⟩
  have HM0 : Hid (Mem w (W.alloc (.cells #[.int .u32 a, .int .u16 b] 35)) ((B ++ L) ++ [(g, .cells #[.int .u32 a, .int .u16 b] 35 (0, 0))])) := hM.push g _ hg.symm
  have HB0 : Hid (Below W.heap.size W (W.alloc (.cells #[.int .u32 a, .int .u16 b] 35))) := (Below.refl _ _).alloc (Nat.le_refl _) _
  have HR : Hid (RPs xs p B) := h
  clear h hM hcv hrv
  have hmm := fnd_mem (m := (pr, a, b)) xs 0
  by_cases hin : (pr, a, b) ∈ xs
  · rw [decide_eq_true hin, decide_eq_true_iff] at hmm
    obtain ⟨hlt, her⟩ := fnd_erase (m := (pr, a, b)) xs 0 hmm
    rw [← her]
    simp only [hin, if_true]
    obtain ⟨i, hi⟩ : ∃ i : Nat, fnd (pr, a, b) xs 0 = (i : Int) := ⟨(fnd (pr, a, b) xs 0).toNat, by omega⟩
    rw [hi] at HC hlt ⊢
    simp only [Int.natCast_zero, Int.sub_zero, Int.toNat_natCast] at hlt ⊢
    have hneg : ¬ ((i : Int) < 0) := by omega
    clear hmm her hi hin
    go_enter Tryd.func16, Tryd.ntmps16
    go_upto_region 1 with fail
    refine wp_letter (fun X => Mem w X ((B ++ L) ++ [(g, .cells #[.int .u32 a, .int .u16 b] 35 (0, 0))]) ∧ Below W.heap.size W X) (by exact ⟨HM0.out, HB0.out⟩) ?_
    rintro V0 ⟨hM0, hB0⟩
    try simp only [hg]
    have hM0' := hM0.perm List.perm_append_comm
    have q0 : V0.cell? ⟨g, 0, none⟩ = some (.int .u32 a) := hM0'.cell 0 rfl 0
    have q1 : V0.cell? ⟨g, 1, none⟩ = some (.int .u16 b) := hM0'.cell 0 rfl 1
    have C := HC.out V0 hB0
    have HM1 : Hid (Mem w V0 (B ++ L)) := hM0'.sub
    clear HM0 hM0 HC hg hM0' hB0 HB0
    go_wp2_with fail
    refine C.mono ?_
    rintro e V1 ⟨rfl, hb⟩
    have hM1 := HM1.out.after hb
    clear C hb HM1 q0 q1
    obtain ⟨v, C, hs, rfl⟩ := HR.out
    clear HR
    obtain ⟨hfl, hs⟩ := hs
    rcases hs with ⟨-, e0, -⟩ | ⟨gb, cap, cur, rfl, rfl, h1, h2, h3, h4⟩
    · exfalso; omega
    have p1 : V1.cell? ⟨p, 0, none⟩ = some (.slice (some ⟨gb, 0, none⟩) xs.length cap) := hM1.cell 0 rfl 0
    have hM3 : Mem w V1.drew ([(gb, .cells cur 40 (0, 0))] ++ ((p, .cells #[.slice (some ⟨gb, 0, none⟩) xs.length cap] 30 (0, 0)) :: L)) := (hM1.drew).perm (List.Perm.swap _ _ _)
    have hsi : SlB 40 3 (.slice (some ⟨gb, 0, none⟩) i i) i (mx (xs.take i)).flatten [(gb, .cells cur 40 (0, 0))] := by
      refine ⟨by rw [flat_len, List.length_take]; omega, Or.inr ⟨gb, i, cur, rfl, rfl, Nat.le_refl _, by omega, by omega, ?_⟩⟩
      rw [flat_take, ← h4, List.take_take]
      congr 1
      omega
    have s1 := fun V => slice_ii V (some ⟨gb, 0, none⟩) xs.length cap i (by omega)
    have s2 := fun V => slice_from V (some ⟨gb, 0, none⟩) xs.length cap (i + 1) (by omega)
    obtain ⟨ad, had, hnews⟩ : ∃ ad : Addr, (if cap = i + 1 then some (⟨gb, 0, none⟩ : Addr) else (some (⟨gb, 0, none⟩ : Addr)).map (·.add ((i + 1) * 3))) = some ad ∧ ∀ j u, (mx (xs.drop (i + 1))).flatten[j]? = some u → V1.drew.cell? (ad.add j) = some u := by
      by_cases hc : cap = i + 1
      · refine ⟨⟨gb, 0, none⟩, by rw [if_pos hc], fun j u hj => ?_⟩
        rw [List.drop_eq_nil_of_le (by omega)] at hj
        simp [mx] at hj
      · refine ⟨⟨gb, 0 + (i + 1) * 3, none⟩, by rw [if_neg hc, Option.map_some, Addr.add_mid], fun j u hj => ?_⟩
        rw [flat_drop, ← h4, List.getElem?_drop, List.getElem?_take] at hj
        rw [Addr.add_mid, hM3.cell 0 rfl, Nat.zero_add, ← Array.getElem?_toList]
        split at hj
        · exact hj
        · cases hj
    simp only [had] at s2
    have s2' : ∀ V : World, (Instr.slice 28 (.slice (some ⟨gb, 0, none⟩) xs.length cap) (some (.int .i64 ((i : Int) + 1))) none none).run Tryd.prog V = .ok (.slice (some ad) (xs.length - (i + 1)) (cap - (i + 1))) V := fun V => by
      have := s2 V
      rwa [show ((i + 1 : Nat) : Int) = (i : Int) + 1 by omega] at this
    have hw : IntKind.i64.wrap ((i : Int) + 1) = (i : Int) + 1 := by rw [IntKind.wrap_i64]; omega
    obtain ⟨v', V4, C', hrun, hM4, hs4⟩ := slb_append (ty := 28) (V := V1.drew) Tryd.underlying28 infoMk (by kernel_rfl) (by decide) hsi hM3 ad (xs.length - (i + 1)) (cap - (i + 1)) (mx (xs.drop (i + 1))).flatten (by rw [flat_len, List.length_drop]) hnews mx_one (by unfold maxLen; omega) (by omega)
    obtain ⟨qa, qc, rfl, -, -⟩ := hs4.slice
    have hM5 := hM4.perm (List.perm_middle (l₁ := C') (l₂ := L) (a := (p, .cells #[.slice (some ⟨gb, 0, none⟩) xs.length cap] 30 (0, 0))))
    have hM6 := hM5.set 0 rfl 0 (.slice qa (i + (xs.length - (i + 1))) qc)
    have c4 : V4.cell? ⟨p, 0, none⟩ = some (.slice (some ⟨gb, 0, none⟩) xs.length cap) := hM5.cell 0 rfl 0
    have f4 : V4.frozen? ⟨p, 0, none⟩ = false := hM5.free 0 rfl 0
    have HQ : Hid (∃ B', RPs (xs.take i ++ xs.drop (i + 1)) p B' ∧ Mem w (V4.setCell ⟨p, 0, none⟩ (.slice qa (i + (xs.length - (i + 1))) qc)) (B' ++ L)) := by
      refine ⟨_, ⟨.slice qa (i + (xs.length - (i + 1))) qc, C', ?_, rfl⟩, hM6⟩
      have e : (xs.take i ++ xs.drop (i + 1)).length = i + (xs.length - (i + 1)) := by simp; omega
      have e' : (mx (xs.take i ++ xs.drop (i + 1))).flatten = (mx (xs.take i)).flatten ++ (mx (xs.drop (i + 1))).flatten := by simp [mx]
      rw [e, e']
      exact hs4
    clear hM1 hM3 hM4 hM5 hM6 hs4 hn hsi hnews had s2 h1 h2 h3 h4 hlt hfl
    generalize i + (xs.length - (i + 1)) = N at *
    generalize xs.length - (i + 1) = N1 at *
    generalize cap - (i + 1) = N2 at *
    go_upto_region 4 with fail
    refine wp_region_held_drew (S := fun _ => True) (by kernel_rfl) trivial (fun hHeld => ?_)
    refine wpAnyH_take (i := 0) (v := ?_) rfl (by kernel_rfl) (by kernel_rfl) (by kernel_rfl) (fun _ _ _ h => h) (Or.inl ⟨by rfl, ?ay0⟩) (by assumption) ?ar0
    case ay0 =>
      intro w hSw
      (try dsimp only at hSw)
      go_simp
      all_goals with_reducible rfl
    try simp only [List.getElem_toArray, List.getElem_cons_zero, List.getElem_cons_succ, Act.put, List.setIfInBounds_toArray, List.set_cons_zero, List.set_cons_succ]
    refine wpAnyH_take (i := 1) (v := ?_) rfl (by kernel_rfl) (by kernel_rfl) (by kernel_rfl) (fun _ _ _ h => h) (Or.inl ⟨by rfl, ?ay1⟩) (by assumption) ?ar1
    case ay1 =>
      intro w hSw
      (try dsimp only at hSw)
      go_simp
      all_goals with_reducible rfl
    try simp only [List.getElem_toArray, List.getElem_cons_zero, List.getElem_cons_succ, Act.put, List.setIfInBounds_toArray, List.set_cons_zero, List.set_cons_succ]
    refine wpAnyH_take (i := 2) (v := ?_) rfl (by kernel_rfl) (by kernel_rfl) (by kernel_rfl) (fun _ _ _ h => h) (Or.inl ⟨by rfl, ?ay2⟩) (by assumption) ?ar2
    case ay2 =>
      intro w hSw
      (try dsimp only at hSw)
      go_simp
      all_goals with_reducible rfl
    try simp only [List.getElem_toArray, List.getElem_cons_zero, List.getElem_cons_succ, Act.put, List.setIfInBounds_toArray, List.set_cons_zero, List.set_cons_succ]
    refine wpAnyH_take (i := 3) (v := ?_) rfl (by kernel_rfl) (by kernel_rfl) (by kernel_rfl) (fun _ _ _ h => h) (Or.inl ⟨by rfl, ?ay3⟩) (by assumption) ?ar3
    case ay3 =>
      intro w hSw
      (try dsimp only at hSw)
      go_simp
      all_goals with_reducible rfl
    try simp only [List.getElem_toArray, List.getElem_cons_zero, List.getElem_cons_succ, Act.put, List.setIfInBounds_toArray, List.set_cons_zero, List.set_cons_succ]
    refine wpAnyH_take (i := 5) (v := ?_) rfl (by kernel_rfl) (by kernel_rfl) (by kernel_rfl) (fun _ _ _ h => h) (Or.inl ⟨by rfl, ?ay5⟩) (by assumption) ?ar5
    case ay5 =>
      intro w hSw
      (try dsimp only at hSw)
      go_simp
      all_goals with_reducible rfl
    try simp only [List.getElem_toArray, List.getElem_cons_zero, List.getElem_cons_succ, Act.put, List.setIfInBounds_toArray, List.set_cons_zero, List.set_cons_succ]
    refine wpAnyH_take (i := 6) (v := ?_) rfl (by kernel_rfl) (by kernel_rfl) (by kernel_rfl) (fun _ _ _ h => h) (Or.inl ⟨by rfl, ?ay6⟩) (by assumption) ?ar6
    case ay6 =>
      intro w hSw
      (try dsimp only at hSw)
      go_simp
      all_goals with_reducible rfl
    try simp only [List.getElem_toArray, List.getElem_cons_zero, List.getElem_cons_succ, Act.put, List.setIfInBounds_toArray, List.set_cons_zero, List.set_cons_succ]
    refine wpAnyH_take (i := 8) (v := ?_) rfl (by kernel_rfl) (by kernel_rfl) (by kernel_rfl) (fun _ _ _ h => h) (Or.inl ⟨by rfl, ?ay8⟩) (by assumption) ?ar8
    case ay8 =>
      intro w hSw
      (try dsimp only at hSw)
      go_simp
      all_goals with_reducible rfl
    try simp only [List.getElem_toArray, List.getElem_cons_zero, List.getElem_cons_succ, Act.put, List.setIfInBounds_toArray, List.set_cons_zero, List.set_cons_succ]
    refine wpAnyH_take (i := 9) (v := ?_) rfl (by kernel_rfl) (by kernel_rfl) (by kernel_rfl) (fun _ _ _ h => h) (Or.inl ⟨by rfl, ?ay9⟩) (by assumption) ?ar9
    case ay9 =>
      intro w hSw
      (try dsimp only at hSw)
      go_simp
      all_goals with_reducible rfl
    try simp only [List.getElem_toArray, List.getElem_cons_zero, List.getElem_cons_succ, Act.put, List.setIfInBounds_toArray, List.set_cons_zero, List.set_cons_succ]
    refine wpAnyH_take (i := 10) (v := ?_) rfl (by kernel_rfl) (by kernel_rfl) (by kernel_rfl) (fun _ _ _ h => h) (Or.inl ⟨by rfl, ?ay10⟩) (by assumption) ?ar10
    case ay10 =>
      intro w hSw
      (try dsimp only at hSw)
      go_simp
      all_goals with_reducible rfl
    try simp only [List.getElem_toArray, List.getElem_cons_zero, List.getElem_cons_succ, Act.put, List.setIfInBounds_toArray, List.set_cons_zero, List.set_cons_succ]
    refine wpAnyH_take (i := 12) (v := ?_) rfl (by kernel_rfl) (by kernel_rfl) (by kernel_rfl) (fun _ _ _ h => h) (Or.inl ⟨by rfl, ?ay12⟩) (by assumption) ?ar12
    case ay12 =>
      intro w hSw
      (try dsimp only at hSw)
      go_simp
      all_goals with_reducible rfl
    try simp only [List.getElem_toArray, List.getElem_cons_zero, List.getElem_cons_succ, Act.put, List.setIfInBounds_toArray, List.set_cons_zero, List.set_cons_succ]
    refine wpAnyH_take (i := 13) (v := ?_) rfl (by kernel_rfl) (by kernel_rfl) (by kernel_rfl) (fun _ _ _ h => h) (Or.inl ⟨by rfl, ?ay13⟩) (by assumption) ?ar13
    case ay13 =>
      intro w hSw
      (try dsimp only at hSw)
      go_simp
      all_goals with_reducible rfl
    try simp only [List.getElem_toArray, List.getElem_cons_zero, List.getElem_cons_succ, Act.put, List.setIfInBounds_toArray, List.set_cons_zero, List.set_cons_succ]
    refine wpAnyH_ready (rs := [4, 11]) (by kernel_rfl) (by simp) ?_
    refine AllReadyH.cons rfl (fun KK hK => ?_) (AllReadyH.cons rfl (fun KK hK => ?_) AllReadyH.nil)
    · go_simp
      refine hK.out _ _ trivial (fun hHeld => ?_)
      clear hK KK
      try simp only [List.getElem_toArray, List.getElem_cons_zero, List.getElem_cons_succ, Act.put, List.setIfInBounds_toArray, List.set_cons_zero, List.set_cons_succ]
      refine wpAnyH_take (i := 7) (v := ?_) rfl (by kernel_rfl) (by kernel_rfl) (by kernel_rfl) (fun _ _ _ h => h) (Or.inl ⟨by rfl, ?bsy7⟩) (by assumption) ?bsr7
      case bsy7 =>
        intro w hSw
        (try dsimp only at hSw)
        go_simp
        all_goals with_reducible rfl
      try simp only [List.getElem_toArray, List.getElem_cons_zero, List.getElem_cons_succ, Act.put, List.setIfInBounds_toArray, List.set_cons_zero, List.set_cons_succ]
      refine wpAnyH_ready (rs := [11]) (by kernel_rfl) (by simp) ?_
      refine AllReadyH.cons rfl (fun KK hK => ?_) AllReadyH.nil
      go_simp
      refine hK.out _ _ trivial (fun hHeld => ?_)
      clear hK KK
      try simp only [List.getElem_toArray, List.getElem_cons_zero, List.getElem_cons_succ, Act.put, List.setIfInBounds_toArray, List.set_cons_zero, List.set_cons_succ]
      refine wpAnyH_take (i := 14) (v := ?_) rfl (by kernel_rfl) (by kernel_rfl) (by kernel_rfl) (fun _ _ _ h => h) (Or.inl ⟨by rfl, ?bty14⟩) (by assumption) ?btr14
      case bty14 =>
        intro w hSw
        (try dsimp only at hSw)
        go_simp
        all_goals with_reducible rfl
      try simp only [List.getElem_toArray, List.getElem_cons_zero, List.getElem_cons_succ, Act.put, List.setIfInBounds_toArray, List.set_cons_zero, List.set_cons_succ]
      refine wpAnyH_ready (rs := [15]) (by kernel_rfl) (by simp) ?_
      refine AllReadyH.cons rfl (fun KK hK => ?_) AllReadyH.nil
      refine step_app (ty := 28) rfl (.tmp 21) (.tmp 28) 28 28 rfl (by simp [Act.eval]) (by simp [Act.eval]) hrun rfl ?_
      refine hK.out _ _ trivial (fun hHeld => ?_)
      clear hK KK
      try simp only [List.getElem_toArray, List.getElem_cons_zero, List.getElem_cons_succ, Act.put, List.setIfInBounds_toArray, List.set_cons_zero, List.set_cons_succ]
      refine wpAnyH_take (i := 16) (v := ?_) rfl (by kernel_rfl) (by kernel_rfl) (by kernel_rfl) (fun _ _ _ h => h) (Or.inl ⟨by rfl, ?bzy16⟩) (by assumption) ?bzr16
      case bzy16 =>
        intro w hSw
        (try dsimp only at hSw)
        go_simp
        all_goals with_reducible rfl
      try simp only [List.getElem_toArray, List.getElem_cons_zero, List.getElem_cons_succ, Act.put, List.setIfInBounds_toArray, List.set_cons_zero, List.set_cons_succ]
      refine wpAnyH_take (i := 17) (v := ?_) rfl (by kernel_rfl) (by kernel_rfl) (by kernel_rfl) (fun _ _ _ h => h) (Or.inl ⟨by rfl, ?bzy17⟩) (by assumption) ?bzr17
      case bzy17 =>
        intro w hSw
        (try dsimp only at hSw)
        go_simp
        all_goals with_reducible rfl
      try simp only [List.getElem_toArray, List.getElem_cons_zero, List.getElem_cons_succ, Act.put, List.setIfInBounds_toArray, List.set_cons_zero, List.set_cons_succ]
      refine wpAnyH_ready (rs := [18]) (by kernel_rfl) (by simp) ?_
      refine AllReadyH.cons rfl (fun KK hK => ?_) AllReadyH.nil
      go_simp
      refine hK.out _ _ trivial (fun hHeld => ?_)
      clear hK KK
      try simp only [List.getElem_toArray, List.getElem_cons_zero, List.getElem_cons_succ, Act.put, List.setIfInBounds_toArray, List.set_cons_zero, List.set_cons_succ]
      refine wpAnyH_done (by kernel_rfl) ?_ _
      go_wp2_with fail
      go_ret
      exact ⟨rfl, HQ.out⟩
    · go_simp
      refine hK.out _ _ trivial (fun hHeld => ?_)
      clear hK KK
      try simp only [List.getElem_toArray, List.getElem_cons_zero, List.getElem_cons_succ, Act.put, List.setIfInBounds_toArray, List.set_cons_zero, List.set_cons_succ]
      refine wpAnyH_take (i := 14) (v := ?_) rfl (by kernel_rfl) (by kernel_rfl) (by kernel_rfl) (fun _ _ _ h => h) (Or.inl ⟨by rfl, ?csy14⟩) (by assumption) ?csr14
      case csy14 =>
        intro w hSw
        (try dsimp only at hSw)
        go_simp
        all_goals with_reducible rfl
      try simp only [List.getElem_toArray, List.getElem_cons_zero, List.getElem_cons_succ, Act.put, List.setIfInBounds_toArray, List.set_cons_zero, List.set_cons_succ]
      refine wpAnyH_ready (rs := [4]) (by kernel_rfl) (by simp) ?_
      refine AllReadyH.cons rfl (fun KK hK => ?_) AllReadyH.nil
      go_simp
      refine hK.out _ _ trivial (fun hHeld => ?_)
      clear hK KK
      try simp only [List.getElem_toArray, List.getElem_cons_zero, List.getElem_cons_succ, Act.put, List.setIfInBounds_toArray, List.set_cons_zero, List.set_cons_succ]
      refine wpAnyH_take (i := 7) (v := ?_) rfl (by kernel_rfl) (by kernel_rfl) (by kernel_rfl) (fun _ _ _ h => h) (Or.inl ⟨by rfl, ?cty7⟩) (by assumption) ?ctr7
      case cty7 =>
        intro w hSw
        (try dsimp only at hSw)
        go_simp
        all_goals with_reducible rfl
      try simp only [List.getElem_toArray, List.getElem_cons_zero, List.getElem_cons_succ, Act.put, List.setIfInBounds_toArray, List.set_cons_zero, List.set_cons_succ]
      refine wpAnyH_ready (rs := [15]) (by kernel_rfl) (by simp) ?_
      refine AllReadyH.cons rfl (fun KK hK => ?_) AllReadyH.nil
      refine step_app (ty := 28) rfl (.tmp 21) (.tmp 28) 28 28 rfl (by simp [Act.eval]) (by simp [Act.eval]) hrun rfl ?_
      refine hK.out _ _ trivial (fun hHeld => ?_)
      clear hK KK
      try simp only [List.getElem_toArray, List.getElem_cons_zero, List.getElem_cons_succ, Act.put, List.setIfInBounds_toArray, List.set_cons_zero, List.set_cons_succ]
      refine wpAnyH_take (i := 16) (v := ?_) rfl (by kernel_rfl) (by kernel_rfl) (by kernel_rfl) (fun _ _ _ h => h) (Or.inl ⟨by rfl, ?czy16⟩) (by assumption) ?czr16
      case czy16 =>
        intro w hSw
        (try dsimp only at hSw)
        go_simp
        all_goals with_reducible rfl
      try simp only [List.getElem_toArray, List.getElem_cons_zero, List.getElem_cons_succ, Act.put, List.setIfInBounds_toArray, List.set_cons_zero, List.set_cons_succ]
      refine wpAnyH_take (i := 17) (v := ?_) rfl (by kernel_rfl) (by kernel_rfl) (by kernel_rfl) (fun _ _ _ h => h) (Or.inl ⟨by rfl, ?czy17⟩) (by assumption) ?czr17
      case czy17 =>
        intro w hSw
        (try dsimp only at hSw)
        go_simp
        all_goals with_reducible rfl
      try simp only [List.getElem_toArray, List.getElem_cons_zero, List.getElem_cons_succ, Act.put, List.setIfInBounds_toArray, List.set_cons_zero, List.set_cons_succ]
      refine wpAnyH_ready (rs := [18]) (by kernel_rfl) (by simp) ?_
      refine AllReadyH.cons rfl (fun KK hK => ?_) AllReadyH.nil
      go_simp
      refine hK.out _ _ trivial (fun hHeld => ?_)
      clear hK KK
      try simp only [List.getElem_toArray, List.getElem_cons_zero, List.getElem_cons_succ, Act.put, List.setIfInBounds_toArray, List.set_cons_zero, List.set_cons_succ]
      refine wpAnyH_done (by kernel_rfl) ?_ _
      go_wp2_with fail
      go_ret
      exact ⟨rfl, HQ.out⟩
  · rw [decide_eq_false hin] at hmm
    have hm1 : fnd (pr, a, b) xs 0 = -1 := by
      have := of_decide_eq_false hmm
      rcases fnd_ge (m := (pr, a, b)) xs 0 with h | h
      · exact h
      · simp at h; omega
    rw [List.erase_of_not_mem hin]
    rw [hm1] at HC
    simp only [hin, if_false]
    clear hmm hm1 hin
    go_enter Tryd.func16, Tryd.ntmps16
    go_upto_region 1 with fail
    refine wp_letter (fun X => Mem w X ((B ++ L) ++ [(g, .cells #[.int .u32 a, .int .u16 b] 35 (0, 0))]) ∧ Below W.heap.size W X) (by exact ⟨HM0.out, HB0.out⟩) ?_
    rintro V0 ⟨hM0, hB0⟩
    try simp only [hg]
    have hM0' := hM0.perm List.perm_append_comm
    have q0 : V0.cell? ⟨g, 0, none⟩ = some (.int .u32 a) := hM0'.cell 0 rfl 0
    have q1 : V0.cell? ⟨g, 1, none⟩ = some (.int .u16 b) := hM0'.cell 0 rfl 1
    have C := HC.out V0 hB0
    have HM1 : Hid (Mem w V0 (B ++ L)) := hM0'.sub
    clear HM0 hM0 HC hg hM0' hB0 HB0
    go_wp2_with fail
    refine C.mono ?_
    rintro e V1 ⟨rfl, hb⟩
    have HQ : Hid (Mem w V1 (B ++ L)) := HM1.out.after hb
    clear C hb HM1 q0 q1
    go_wp2_with fail
    go_ret
    exact ⟨rfl, B, HR.out, HQ.out⟩
end Po
end Go.Proofs.YtkbjiackjefkkaaDoor
