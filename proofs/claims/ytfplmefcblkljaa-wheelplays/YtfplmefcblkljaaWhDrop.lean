/-
  Wheel: the document's own: Drop.
-/
import Derived.Test.YtfplmefcblkljaaWhAt
namespace Go.Proofs.Ytfplmefcblkljaa
open Go.RowKit
open Sm
open Po
open Wh
set_option linter.unusedVariables false
set_option linter.unusedSimpArgs false
set_option maxRecDepth 20000

namespace Wh
theorem infoDu : (Try.prog.info? 59).map (fun i => (i.zero, i.size, i.bytes)) = some (some (.agg #[.int .i64 0, .int .u32 0]), 2, 16) := by kernel_rfl
/-- s[:i:i]. -/
theorem dslice_ii (V : World) (a : Option Addr) (n c i : Nat) (hi : i ≤ c) : (Instr.slice 28 (.slice a n c) none (some (.int .i64 i)) (some (.int .i64 i))).run Try.prog V = .ok (.slice a i i) V := by
  have hT : Try.prog.underlying 28 = some (.slice (Try.prog.elem 28)) := by kernel_rfl
  rw [run_slice_any V 28 a n c hT]
  have e : (Instr.sliceBounds true n c none (some (.int .i64 i)) (some (.int .i64 i))).run Try.prog V = .ok (0, i, i) V := by
    simp [Instr.sliceBounds, run_sliceBound, hi]
  rw [e]
  have hs : (sizeOf (Try.prog.elem 28)).run Try.prog V = .ok 2 V := by kernel_rfl
  simp only [Result.andThen_ok, hs, sliced]
  by_cases h0 : i = 0
  · subst h0; simp
  · rw [if_neg h0]
    cases a with
    | none => rfl
    | some a => simp [Addr.add]
/-- s[k:]. -/
theorem dslice_from (V : World) (a : Option Addr) (n c k : Nat) (hk : k ≤ n) : (Instr.slice 28 (.slice a n c) (some (.int .i64 k)) none none).run Try.prog V = .ok (.slice (if c = k then a else a.map (·.add (k * 2))) (n - k) (c - k)) V := by
  have hT : Try.prog.underlying 28 = some (.slice (Try.prog.elem 28)) := by kernel_rfl
  rw [run_slice_l V 28 a n c hT .i64 k (by omega) (by omega)]
  have hs : (sizeOf (Try.prog.elem 28)).run Try.prog V = .ok 2 V := by kernel_rfl
  simp only [Result.andThen_ok, hs, sliced, Int.toNat_natCast]
/-- Of a list the first k, full; what stands from k on. -/
theorem slf_ii {xs : List Du} {a : Option Addr} {cap : Nat} {B : List (Nat × Obj)} {T : TypeId} (h : SlF T 2 (.slice a xs.length cap) xs.length (dx xs).flatten B) {i : Nat} (hi : i ≤ xs.length) : SlF T 2 (.slice a i i) i (dx (xs.take i)).flatten B := by
  obtain ⟨h1, a', cap', e, h3, h4, h5, h6⟩ := h
  simp only [Value.slice.injEq, true_and] at e
  obtain ⟨rfl, rfl⟩ := e
  refine ⟨by rw [df_len, List.length_take]; omega, a, i, rfl, Nat.le_refl _, by omega, fun e => by have := h5 e; omega, ?_⟩
  by_cases h0 : i = 0
  · exact Or.inl h0
  · rcases h6 with h6 | ⟨g, off, cur, e1, e2, e3⟩
    · omega
    · refine Or.inr ⟨g, off, cur, e1, e2, ?_⟩
      rw [df_take, ← e3, List.take_take]
      congr 1
      omega
theorem slf_from {xs : List Du} {a : Option Addr} {cap : Nat} {B : List (Nat × Obj)} {T : TypeId} (h : SlF T 2 (.slice a xs.length cap) xs.length (dx xs).flatten B) {k : Nat} (hk : k ≤ xs.length) : SlF T 2 (.slice (if cap = k then a else a.map (·.add (k * 2))) (xs.length - k) (cap - k)) (xs.drop k).length (dx (xs.drop k)).flatten B := by
  obtain ⟨h1, a', cap', e, h3, h4, h5, h6⟩ := h
  simp only [Value.slice.injEq, true_and] at e
  obtain ⟨rfl, rfl⟩ := e
  have hl : (xs.drop k).length = xs.length - k := List.length_drop
  refine ⟨df_len _, _, cap - k, by rw [hl], by omega, by omega, fun e => ?_, ?_⟩
  · split at e
    · have := h5 e; omega
    · cases a with
      | none => have := h5 rfl; omega
      | some a => cases e
  · by_cases h0 : (xs.drop k).length = 0
    · exact Or.inl h0
    · rcases h6 with h6 | ⟨g, off, cur, e1, e2, e3⟩
      · omega
      · refine Or.inr ⟨g, off + k * 2, cur, ?_, e2, ?_⟩
        · rw [if_neg (by omega), e1, Option.map_some, Addr.add_mid]
        · rw [df_drop, ← e3, hl, List.drop_take, List.drop_drop]
          congr 1
          omega
/-- Two lists joined, the first one full. -/
theorem slf_join {w V : World} {xs ys : List Du} {a a2 : Option Addr} {c2 : Nat} {B L : List (Nat × Obj)} (ty : TypeId) (h : SlF 59 2 (.slice a xs.length xs.length) xs.length (dx xs).flatten B) (h2 : SlF 59 2 (.slice a2 ys.length c2) ys.length (dx ys).flatten B) (hM : Mem w V (B ++ L)) (hn : xs.length + ys.length ≤ 1000000) :
    ∃ qa qc V' B', (Builtin.append_ #[28, 28] ty #[.slice a xs.length xs.length, .slice a2 ys.length c2]).run Try.prog V = .ok (.slice qa (xs ++ ys).length qc) V' ∧ Mem w V' (B' ++ L) ∧ SlF 59 2 (.slice qa (xs ++ ys).length qc) (xs ++ ys).length (dx (xs ++ ys)).flatten B' ∧ Below V.heap.size V V' ∧ (∀ q ∈ B, q ∈ B') := by
  by_cases h0 : ys.length = 0
  · obtain rfl : ys = [] := List.eq_nil_of_length_eq_zero h0
    have hh := h
    obtain ⟨i, hI, -⟩ := info_parts infoDu
    obtain ⟨-, a', cap', e, h3, h4, h5, -⟩ := h
    simp only [Value.slice.injEq, true_and] at e
    obtain ⟨rfl, rfl⟩ := e
    refine ⟨a, xs.length, V, B, ?_, hM, ?_, Below.refl _ _, fun q hq => hq⟩
    · rw [List.append_nil]
      exact run_append_zero V Try.underlying28 hI a a2 xs.length xs.length c2 (Nat.le_refl _) h5
    · rw [List.append_nil]
      exact hh
  · obtain ⟨b2, cap2, e, -, -, h5, h6⟩ := h2.read hM
    simp only [Value.slice.injEq, true_and] at e
    obtain ⟨rfl, rfl⟩ := e
    rcases h6 with h6 | ⟨g, off, rfl, hc⟩
    · omega
    obtain ⟨g2, qc, cur, hr, hg, hs⟩ := slf_append (ty := ty) Try.underlying28 infoDu (by kernel_rfl) h hM ⟨g, off, none⟩ ys.length c2 (by omega) (dx ys).flatten (df_len ys) (fun j u hj => by rw [Addr.add_mid]; exact hc j u hj) (by simp only [maxLen]; omega) (by omega)
    have el : (xs ++ ys).length = xs.length + ys.length := List.length_append
    refine ⟨some ⟨g2, 0, none⟩, qc, _, B ++ [(g2, .cells cur 59 (0, 0))], by rw [el]; exact hr, ?_, ?_, ((Below.refl _ _).drew).alloc (Nat.le_refl _) _, fun q hq => List.mem_append_left _ hq⟩
    · have := hM.drew.push g2 (.cells cur 59) (by rw [hg]; rfl)
      refine this.perm ?_
      rw [List.append_assoc, List.append_assoc]
      exact List.Perm.append_left B List.perm_append_comm
    · rw [el, df_app]
      exact hs.mono fun q hq => List.mem_append_right _ hq
set_option maxHeartbeats 8000000 in
theorem rdrop_any {w W : World} {m : Nat} {xs : List Du} {now : Int} {B L : List (Nat × Obj)} (h : RW xs now m B) (hM : Mem w W (B ++ L)) (hn : xs.length ≤ 100000) (id : Int) :
    Calls Try.prog 12 #[.pointer (some ⟨m, 0, none⟩), .int .i64 id] W fun e W' => e = .returned (.bool (wat id xs).isSome) ∧ ∃ B', RW (wdel id xs) now m B' ∧ Mem w W' (B' ++ L) := by
  obtain ⟨R, hR⟩ : ∃ R, (wat id xs).isSome = R := ⟨_, rfl⟩
  rw [hR]
  have HR : Hid ((wat id xs).isSome = R) := hR
  clear hR
  obtain ⟨v, C, hs, rfl⟩ := h
  have c0 : W.cell? ⟨m, 0, none⟩ = some v := hM.cell 0 rfl 0
  have hMC : Mem w W (C ++ ((m, .cells #[v, .int .u32 now] 30 (0, 0)) :: L)) := hM.perm (List.perm_middle (l₁ := C) (l₂ := L)).symm
  obtain ⟨a, cap, rfl, h1, h2, hx⟩ := slf_cells hs hMC
  have HX : Hid (∀ i (hi : i < xs.length), ∃ b off, a = some ⟨b, off, none⟩ ∧ W.cell? ⟨b, off + i * 2, none⟩ = some (.int .i64 xs[i].1) ∧ W.cell? ⟨b, off + i * 2 + 1, none⟩ = some (.int .u32 xs[i].2)) := hx
  have h2' : cap ≤ 9223372036854775807 := by simp only [maxLen] at h2; omega
  have HM : Hid (Mem w W (C ++ ((m, .cells #[.slice a xs.length cap, .int .u32 now] 30 (0, 0)) :: L))) := hMC
  have HSl : Hid (SlF 59 2 (.slice a xs.length cap) xs.length (dx xs).flatten C) := hs
  clear hx hM hMC h2 hs
  go_enter Try.func12, Try.ntmps12
  go_wp2_with fail
  go_loopw [5] (fun u5 w' => ∃ i : Nat, i ≤ xs.length ∧ u5 = .int .i64 i ∧ W = w' ∧ Hid (∀ d ∈ xs.take i, d.1 ≠ id)) (fun u5 w' => xs.length - (intOf u5).toNat)
  case atStart => exact ⟨0, Nat.zero_le _, rfl, rfl, fun d hd => by simp at hd⟩
  case round =>
    obtain ⟨i, hi, rfl, rfl, HN⟩ := hrel
    by_cases hlt : i < xs.length
    · have k1 : (i : Int) < xs.length := by omega
      obtain ⟨b, off, hab, q0, q1⟩ := HX.out i hlt
      have HB : Hid (xs[i].1 ≠ id → ∀ d ∈ xs.take (i + 1), d.1 ≠ id) := fun e d hd => by
        rw [List.take_add_one, List.getElem?_eq_getElem hlt] at hd
        rcases List.mem_append.1 hd with hd | hd
        · exact HN.out d hd
        · simp at hd; subst hd; exact e
      by_cases e : xs[i].1 = id
      · have hq : (xs[i].1 == id) = true := by simpa using e
        obtain ⟨e1, e2⟩ := wat_at hlt HN.out e
        have s1 := fun V => dslice_ii V a xs.length cap i (by omega)
        have s2 := fun V => dslice_from V a xs.length cap (i + 1) (by omega)
        have s2' : ∀ V : World, (Instr.slice 28 (.slice a xs.length cap) (some (.int .i64 ((i : Int) + 1))) none none).run Try.prog V = .ok (.slice (if cap = i + 1 then a else a.map (·.add ((i + 1) * 2))) (xs.length - (i + 1)) (cap - (i + 1))) V := fun V => by
          have := s2 V
          rwa [show ((i + 1 : Nat) : Int) = (i : Int) + 1 by omega] at this
        have hw : IntKind.i64.wrap ((i : Int) + 1) = (i : Int) + 1 := by rw [IntKind.wrap_i64]; omega
        have hii := slf_ii HSl.out (i := i) (by omega)
        have hff := slf_from HSl.out (k := i + 1) (by omega)
        have el : (xs.drop (i + 1)).length = xs.length - (i + 1) := List.length_drop
        have el2 : (xs.take i).length = i := by rw [List.length_take]; omega
        obtain ⟨qa, qc, V4, C', hrun, hM4, hs4, hb4, -⟩ := slf_join (xs := xs.take i) (ys := xs.drop (i + 1)) (c2 := cap - (i + 1)) (a := a) (a2 := if cap = i + 1 then a else a.map (·.add ((i + 1) * 2))) 28 (by rw [el2]; exact hii) (by rw [el]; rw [el] at hff; exact hff) HM.out.drew (by rw [el, el2]; omega)
        rw [el, el2] at hrun
        have hM5 := hM4.perm (List.perm_middle (l₁ := C') (l₂ := L))
        have hM6 := hM5.set 0 rfl 0 (.slice qa (xs.take i ++ xs.drop (i + 1)).length qc)
        have c4 : V4.cell? ⟨m, 0, none⟩ = some (.slice a xs.length cap) := hM5.cell 0 rfl 0
        have f4 : V4.frozen? ⟨m, 0, none⟩ = false := hM5.free 0 rfl 0
        have HQ : Hid (∃ B', RW (wdel id xs) now m B' ∧ Mem w (V4.setCell ⟨m, 0, none⟩ (.slice qa (xs.take i ++ xs.drop (i + 1)).length qc)) (B' ++ L)) := by
          rw [e2]
          exact ⟨_, ⟨.slice qa (xs.take i ++ xs.drop (i + 1)).length qc, C', hs4, rfl⟩, hM6⟩
        have HRR : Hid (R = true) := by
          show R = true
          rw [← HR.out, e1]
          rfl
        clear HR HX HN HB HM HSl hM4 hM5 hM6 hs4 hb4 hii hff s2 h1 e e1 e2 el el2
        obtain ⟨a2, ha2⟩ : ∃ x, (if cap = i + 1 then a else a.map (·.add ((i + 1) * 2))) = x := ⟨_, rfl⟩
        rw [ha2] at s2' hrun
        clear ha2
        generalize (xs.take i ++ xs.drop (i + 1)).length = N at *
        generalize xs.length - (i + 1) = N1 at *
        generalize cap - (i + 1) = N2 at *
        subst hab
        go_upto_region 5 with fail
        refine wp_region_held_drew (S := fun _ => True) (by kernel_rfl) trivial (fun hHeld => ?_)
        refine wpAnyH_take (i := 0) (v := ?_) rfl (by kernel_rfl) (by kernel_rfl) (by kernel_rfl) (fun _ _ _ h => h) (Or.inl ⟨by rfl, ?ay0⟩) (by assumption) ?ar0
        case ay0 =>
          intro w hSw
          (try dsimp only at hSw)
          go_simp
          all_goals with_reducible rfl
        try simp only [List.getElem_toArray, List.getElem_cons_zero, List.getElem_cons_succ, Act.put, List.setIfInBounds_toArray, List.set_cons_zero, List.set_cons_succ]
        refine wpAnyH_take (i := 1) (v := ?_) rfl (by kernel_rfl) (by kernel_rfl) (by kernel_rfl) (fun _ _ _ h => h) (Or.inl ⟨by rfl, ?ay1⟩) (by assumption) ?ar1
        case ay1 =>
          intro w hSw
          (try dsimp only at hSw)
          go_simp
          all_goals with_reducible rfl
        try simp only [List.getElem_toArray, List.getElem_cons_zero, List.getElem_cons_succ, Act.put, List.setIfInBounds_toArray, List.set_cons_zero, List.set_cons_succ]
        refine wpAnyH_take (i := 2) (v := ?_) rfl (by kernel_rfl) (by kernel_rfl) (by kernel_rfl) (fun _ _ _ h => h) (Or.inl ⟨by rfl, ?ay2⟩) (by assumption) ?ar2
        case ay2 =>
          intro w hSw
          (try dsimp only at hSw)
          go_simp
          all_goals with_reducible rfl
        try simp only [List.getElem_toArray, List.getElem_cons_zero, List.getElem_cons_succ, Act.put, List.setIfInBounds_toArray, List.set_cons_zero, List.set_cons_succ]
        refine wpAnyH_take (i := 3) (v := ?_) rfl (by kernel_rfl) (by kernel_rfl) (by kernel_rfl) (fun _ _ _ h => h) (Or.inl ⟨by rfl, ?ay3⟩) (by assumption) ?ar3
        case ay3 =>
          intro w hSw
          (try dsimp only at hSw)
          go_simp
          all_goals with_reducible rfl
        try simp only [List.getElem_toArray, List.getElem_cons_zero, List.getElem_cons_succ, Act.put, List.setIfInBounds_toArray, List.set_cons_zero, List.set_cons_succ]
        refine wpAnyH_take (i := 5) (v := ?_) rfl (by kernel_rfl) (by kernel_rfl) (by kernel_rfl) (fun _ _ _ h => h) (Or.inl ⟨by rfl, ?ay5⟩) (by assumption) ?ar5
        case ay5 =>
          intro w hSw
          (try dsimp only at hSw)
          go_simp
          all_goals with_reducible rfl
        try simp only [List.getElem_toArray, List.getElem_cons_zero, List.getElem_cons_succ, Act.put, List.setIfInBounds_toArray, List.set_cons_zero, List.set_cons_succ]
        refine wpAnyH_take (i := 6) (v := ?_) rfl (by kernel_rfl) (by kernel_rfl) (by kernel_rfl) (fun _ _ _ h => h) (Or.inl ⟨by rfl, ?ay6⟩) (by assumption) ?ar6
        case ay6 =>
          intro w hSw
          (try dsimp only at hSw)
          go_simp
          all_goals with_reducible rfl
        try simp only [List.getElem_toArray, List.getElem_cons_zero, List.getElem_cons_succ, Act.put, List.setIfInBounds_toArray, List.set_cons_zero, List.set_cons_succ]
        refine wpAnyH_take (i := 8) (v := ?_) rfl (by kernel_rfl) (by kernel_rfl) (by kernel_rfl) (fun _ _ _ h => h) (Or.inl ⟨by rfl, ?ay8⟩) (by assumption) ?ar8
        case ay8 =>
          intro w hSw
          (try dsimp only at hSw)
          go_simp
          all_goals with_reducible rfl
        try simp only [List.getElem_toArray, List.getElem_cons_zero, List.getElem_cons_succ, Act.put, List.setIfInBounds_toArray, List.set_cons_zero, List.set_cons_succ]
        refine wpAnyH_take (i := 9) (v := ?_) rfl (by kernel_rfl) (by kernel_rfl) (by kernel_rfl) (fun _ _ _ h => h) (Or.inl ⟨by rfl, ?ay9⟩) (by assumption) ?ar9
        case ay9 =>
          intro w hSw
          (try dsimp only at hSw)
          go_simp
          all_goals with_reducible rfl
        try simp only [List.getElem_toArray, List.getElem_cons_zero, List.getElem_cons_succ, Act.put, List.setIfInBounds_toArray, List.set_cons_zero, List.set_cons_succ]
        refine wpAnyH_take (i := 10) (v := ?_) rfl (by kernel_rfl) (by kernel_rfl) (by kernel_rfl) (fun _ _ _ h => h) (Or.inl ⟨by rfl, ?ay10⟩) (by assumption) ?ar10
        case ay10 =>
          intro w hSw
          (try dsimp only at hSw)
          go_simp
          all_goals with_reducible rfl
        try simp only [List.getElem_toArray, List.getElem_cons_zero, List.getElem_cons_succ, Act.put, List.setIfInBounds_toArray, List.set_cons_zero, List.set_cons_succ]
        refine wpAnyH_take (i := 12) (v := ?_) rfl (by kernel_rfl) (by kernel_rfl) (by kernel_rfl) (fun _ _ _ h => h) (Or.inl ⟨by rfl, ?ay12⟩) (by assumption) ?ar12
        case ay12 =>
          intro w hSw
          (try dsimp only at hSw)
          go_simp
          all_goals with_reducible rfl
        try simp only [List.getElem_toArray, List.getElem_cons_zero, List.getElem_cons_succ, Act.put, List.setIfInBounds_toArray, List.set_cons_zero, List.set_cons_succ]
        refine wpAnyH_take (i := 13) (v := ?_) rfl (by kernel_rfl) (by kernel_rfl) (by kernel_rfl) (fun _ _ _ h => h) (Or.inl ⟨by rfl, ?ay13⟩) (by assumption) ?ar13
        case ay13 =>
          intro w hSw
          (try dsimp only at hSw)
          go_simp
          all_goals with_reducible rfl
        try simp only [List.getElem_toArray, List.getElem_cons_zero, List.getElem_cons_succ, Act.put, List.setIfInBounds_toArray, List.set_cons_zero, List.set_cons_succ]
        refine wpAnyH_ready (rs := [4, 11]) (by kernel_rfl) (by simp) ?_
        refine AllReadyH.cons rfl (fun KK hK => ?_) (AllReadyH.cons rfl (fun KK hK => ?_) AllReadyH.nil)
        · go_simp
          refine hK.out _ _ trivial (fun hHeld => ?_)
          clear hK KK
          try simp only [List.getElem_toArray, List.getElem_cons_zero, List.getElem_cons_succ, Act.put, List.setIfInBounds_toArray, List.set_cons_zero, List.set_cons_succ]
          refine wpAnyH_take (i := 7) (v := ?_) rfl (by kernel_rfl) (by kernel_rfl) (by kernel_rfl) (fun _ _ _ h => h) (Or.inl ⟨by rfl, ?bsy7⟩) (by assumption) ?bsr7
          case bsy7 =>
            intro w hSw
            (try dsimp only at hSw)
            go_simp
            all_goals with_reducible rfl
          try simp only [List.getElem_toArray, List.getElem_cons_zero, List.getElem_cons_succ, Act.put, List.setIfInBounds_toArray, List.set_cons_zero, List.set_cons_succ]
          refine wpAnyH_ready (rs := [11]) (by kernel_rfl) (by simp) ?_
          refine AllReadyH.cons rfl (fun KK hK => ?_) AllReadyH.nil
          go_simp
          refine hK.out _ _ trivial (fun hHeld => ?_)
          clear hK KK
          try simp only [List.getElem_toArray, List.getElem_cons_zero, List.getElem_cons_succ, Act.put, List.setIfInBounds_toArray, List.set_cons_zero, List.set_cons_succ]
          refine wpAnyH_take (i := 14) (v := ?_) rfl (by kernel_rfl) (by kernel_rfl) (by kernel_rfl) (fun _ _ _ h => h) (Or.inl ⟨by rfl, ?bty14⟩) (by assumption) ?btr14
          case bty14 =>
            intro w hSw
            (try dsimp only at hSw)
            go_simp
            all_goals with_reducible rfl
          try simp only [List.getElem_toArray, List.getElem_cons_zero, List.getElem_cons_succ, Act.put, List.setIfInBounds_toArray, List.set_cons_zero, List.set_cons_succ]
          refine wpAnyH_ready (rs := [15]) (by kernel_rfl) (by simp) ?_
          refine AllReadyH.cons rfl (fun KK hK => ?_) AllReadyH.nil
          refine step_app (ty := 28) rfl (.tmp 32) (.tmp 39) 28 28 rfl (by simp [Act.eval]) (by simp [Act.eval]) hrun rfl ?_
          refine hK.out _ _ trivial (fun hHeld => ?_)
          clear hK KK
          try simp only [List.getElem_toArray, List.getElem_cons_zero, List.getElem_cons_succ, Act.put, List.setIfInBounds_toArray, List.set_cons_zero, List.set_cons_succ]
          refine wpAnyH_take (i := 16) (v := ?_) rfl (by kernel_rfl) (by kernel_rfl) (by kernel_rfl) (fun _ _ _ h => h) (Or.inl ⟨by rfl, ?bzy16⟩) (by assumption) ?bzr16
          case bzy16 =>
            intro w hSw
            (try dsimp only at hSw)
            go_simp
            all_goals with_reducible rfl
          try simp only [List.getElem_toArray, List.getElem_cons_zero, List.getElem_cons_succ, Act.put, List.setIfInBounds_toArray, List.set_cons_zero, List.set_cons_succ]
          refine wpAnyH_take (i := 17) (v := ?_) rfl (by kernel_rfl) (by kernel_rfl) (by kernel_rfl) (fun _ _ _ h => h) (Or.inl ⟨by rfl, ?bzy17⟩) (by assumption) ?bzr17
          case bzy17 =>
            intro w hSw
            (try dsimp only at hSw)
            go_simp
            all_goals with_reducible rfl
          try simp only [List.getElem_toArray, List.getElem_cons_zero, List.getElem_cons_succ, Act.put, List.setIfInBounds_toArray, List.set_cons_zero, List.set_cons_succ]
          refine wpAnyH_ready (rs := [18]) (by kernel_rfl) (by simp) ?_
          refine AllReadyH.cons rfl (fun KK hK => ?_) AllReadyH.nil
          go_simp
          refine hK.out _ _ trivial (fun hHeld => ?_)
          clear hK KK
          try simp only [List.getElem_toArray, List.getElem_cons_zero, List.getElem_cons_succ, Act.put, List.setIfInBounds_toArray, List.set_cons_zero, List.set_cons_succ]
          refine wpAnyH_done (by kernel_rfl) ?_ _
          go_wp2_with fail
          go_ret
          exact ⟨by rw [HRR.out]; rfl, HQ.out⟩
        · go_simp
          refine hK.out _ _ trivial (fun hHeld => ?_)
          clear hK KK
          try simp only [List.getElem_toArray, List.getElem_cons_zero, List.getElem_cons_succ, Act.put, List.setIfInBounds_toArray, List.set_cons_zero, List.set_cons_succ]
          refine wpAnyH_take (i := 14) (v := ?_) rfl (by kernel_rfl) (by kernel_rfl) (by kernel_rfl) (fun _ _ _ h => h) (Or.inl ⟨by rfl, ?csy14⟩) (by assumption) ?csr14
          case csy14 =>
            intro w hSw
            (try dsimp only at hSw)
            go_simp
            all_goals with_reducible rfl
          try simp only [List.getElem_toArray, List.getElem_cons_zero, List.getElem_cons_succ, Act.put, List.setIfInBounds_toArray, List.set_cons_zero, List.set_cons_succ]
          refine wpAnyH_ready (rs := [4]) (by kernel_rfl) (by simp) ?_
          refine AllReadyH.cons rfl (fun KK hK => ?_) AllReadyH.nil
          go_simp
          refine hK.out _ _ trivial (fun hHeld => ?_)
          clear hK KK
          try simp only [List.getElem_toArray, List.getElem_cons_zero, List.getElem_cons_succ, Act.put, List.setIfInBounds_toArray, List.set_cons_zero, List.set_cons_succ]
          refine wpAnyH_take (i := 7) (v := ?_) rfl (by kernel_rfl) (by kernel_rfl) (by kernel_rfl) (fun _ _ _ h => h) (Or.inl ⟨by rfl, ?cty7⟩) (by assumption) ?ctr7
          case cty7 =>
            intro w hSw
            (try dsimp only at hSw)
            go_simp
            all_goals with_reducible rfl
          try simp only [List.getElem_toArray, List.getElem_cons_zero, List.getElem_cons_succ, Act.put, List.setIfInBounds_toArray, List.set_cons_zero, List.set_cons_succ]
          refine wpAnyH_ready (rs := [15]) (by kernel_rfl) (by simp) ?_
          refine AllReadyH.cons rfl (fun KK hK => ?_) AllReadyH.nil
          refine step_app (ty := 28) rfl (.tmp 32) (.tmp 39) 28 28 rfl (by simp [Act.eval]) (by simp [Act.eval]) hrun rfl ?_
          refine hK.out _ _ trivial (fun hHeld => ?_)
          clear hK KK
          try simp only [List.getElem_toArray, List.getElem_cons_zero, List.getElem_cons_succ, Act.put, List.setIfInBounds_toArray, List.set_cons_zero, List.set_cons_succ]
          refine wpAnyH_take (i := 16) (v := ?_) rfl (by kernel_rfl) (by kernel_rfl) (by kernel_rfl) (fun _ _ _ h => h) (Or.inl ⟨by rfl, ?czy16⟩) (by assumption) ?czr16
          case czy16 =>
            intro w hSw
            (try dsimp only at hSw)
            go_simp
            all_goals with_reducible rfl
          try simp only [List.getElem_toArray, List.getElem_cons_zero, List.getElem_cons_succ, Act.put, List.setIfInBounds_toArray, List.set_cons_zero, List.set_cons_succ]
          refine wpAnyH_take (i := 17) (v := ?_) rfl (by kernel_rfl) (by kernel_rfl) (by kernel_rfl) (fun _ _ _ h => h) (Or.inl ⟨by rfl, ?czy17⟩) (by assumption) ?czr17
          case czy17 =>
            intro w hSw
            (try dsimp only at hSw)
            go_simp
            all_goals with_reducible rfl
          try simp only [List.getElem_toArray, List.getElem_cons_zero, List.getElem_cons_succ, Act.put, List.setIfInBounds_toArray, List.set_cons_zero, List.set_cons_succ]
          refine wpAnyH_ready (rs := [18]) (by kernel_rfl) (by simp) ?_
          refine AllReadyH.cons rfl (fun KK hK => ?_) AllReadyH.nil
          go_simp
          refine hK.out _ _ trivial (fun hHeld => ?_)
          clear hK KK
          try simp only [List.getElem_toArray, List.getElem_cons_zero, List.getElem_cons_succ, Act.put, List.setIfInBounds_toArray, List.set_cons_zero, List.set_cons_succ]
          refine wpAnyH_done (by kernel_rfl) ?_ _
          go_wp2_with fail
          go_ret
          exact ⟨by rw [HRR.out]; rfl, HQ.out⟩
      · have hq : (xs[i].1 == id) = false := by simpa using e
        have HN : Hid (∀ d ∈ xs.take (i + 1), d.1 ≠ id) := HB.out e
        clear HB
        subst hab
        go_wp2_with fail
        go_roundw
        case rel => exact ⟨i + 1, by omega, by go_num, by first | rfl | trivial, HN.out⟩
        case measure => simp [intOf]; omega
    · obtain rfl : i = xs.length := by omega
      obtain ⟨e1, e2⟩ := wat_no fun d hd => HN.out d (by rw [List.take_length]; exact hd)
      have k1 : ¬ ((xs.length : Int) < xs.length) := by omega
      have HQ : Hid (∃ B', RW (wdel id xs) now m B' ∧ Mem w W (B' ++ L)) := by
        rw [e2]
        exact ⟨_, ⟨.slice a xs.length cap, C, HSl.out, rfl⟩, HM.out.perm List.perm_middle⟩
      have HRR : Hid (R = false) := by
        show R = false
        rw [← HR.out, e1]
        rfl
      clear HR HN HX HM HSl e1 e2
      go_wp2_with fail
      go_ret
      exact ⟨by rw [HRR.out]; rfl, HQ.out⟩
end Wh
end Go.Proofs.Ytfplmefcblkljaa
