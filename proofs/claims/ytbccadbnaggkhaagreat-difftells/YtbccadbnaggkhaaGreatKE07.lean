/-
  Settings as bytes: the field of a list's length (lych/api.Tenant, lych/api.Pair).
  Settings as bytes: the field of a list's length (lych/api.Tenant, uint32).
  Settings as bytes: what is asked of a field: its three functions, in every world that keeps what they captured.
  Settings as bytes: the field of a list's length (lych/api.Config, lych/api.Tenant).
-/
import Derived.Test.YtbccadbnaggkhaaGreatKE04
namespace Go.Proofs.YtbccadbnaggkhaaGreat
open Go.RowKit
open Sm
open Cf
set_option linter.unusedVariables false
set_option maxRecDepth 20000

set_option maxHeartbeats 4000000 in
theorem counted_TP (W : World) (a : Option Addr) (n c : Nat) (hc : n ≤ c) (hb : c ≤ 9223372036854775807) (ha : a = none → c = 0) :
    Calls Tryz.prog 104 #[.slice a n c] W fun e W' => e = .returned (.slice a (min n 255) c) ∧ W = W' := by
  by_cases h : n ≤ 255
  · have h1 : (n : Int) ≤ 255 := by omega
    have h2 : ¬ ((255 : Int) < n) := by omega
    have h3 : (n : Int) ≤ c := by omega
    rw [Nat.min_eq_left h]
    cases a with
    | none =>
      obtain rfl : c = 0 := ha rfl
      obtain rfl : n = 0 := by omega
      go_enter Tryz.func104, Tryz.ntmps104
      go_wp2_with fail
      go_ret
      exact ⟨rfl, rfl⟩
    | some ad =>
      go_enter Tryz.func104, Tryz.ntmps104
      go_wp2_with fail
      go_ret
      exact ⟨rfl, rfl⟩
  · have h1 : ¬ ((n : Int) ≤ 255) := by omega
    have h2 : (255 : Int) < n := by omega
    have h3 : (255 : Int) ≤ c := by omega
    rw [Nat.min_eq_right (by omega)]
    cases a with
    | none =>
      obtain rfl : c = 0 := ha rfl
      omega
    | some ad =>
      go_enter Tryz.func104, Tryz.ntmps104
      go_wp2_with fail
      go_ret
      exact ⟨rfl, rfl⟩

set_option maxHeartbeats 4000000 in
theorem cwr_TP {w W : World} {v : Value} {l : List Int} {L : List (Nat × Obj)} (h : Out w W v l L) (bo ko : Nat) (p p' : Addr) (a : Option Addr) (n c : Nat) (hc : n ≤ c) (hcb : c ≤ 9223372036854775807) (ha : a = none → c = 0)
    (co : ∀ V, Mem w V L → V.cell? ⟨bo, 0, none⟩ = some (.func (.func ko) #[] #[]))
    (eo : ∀ args V, (callFunc ko args).run Tryz.prog V = .ok (.enter ko args) V) (ho : ∀ V, Calls Tryz.prog ko #[.pointer (some p)] V fun e V' => e = .returned (.pointer (some p')) ∧ V = V')
    (cx : ∀ V, Mem w V L → V.cell? p' = some (.slice a n c)) (hb : l.length + 1 ≤ 1000000000) :
    Calls Tryz.prog 103 #[v, .pointer (some p), .pointer (some ⟨bo, 0, none⟩)] W fun e W' => ∃ v', e = .returned v' ∧ Out w W' v' (l ++ [((min n 255 : Nat) : Int)]) L := by
  have c2 := co _ h.mem
  have c3 := cx _ h.mem
  have CC := counted_TP W a n c hc hcb ha
  have hk : min n 255 ≤ 255 := Nat.min_le_right _ _
  generalize min n 255 = k at CC hk
  have e1 : IntKind.u8.wrap (k : Int) = k := by rw [wrapu8]; omega
  have e2 : (k : Int) % 256 = k := by omega
  obtain ⟨v1, W1, hr1, hO1⟩ := out_one h (k : Int) (by omega) (by omega) 87
  have HO : Hid (Out w W1 v1 (l ++ [(k : Int)]) L) := hO1
  clear h co cx hO1
  go_enter Tryz.func103, Tryz.ntmps103
  go_wp2_with fail
  refine (ho _).mono ?_
  rintro e V ⟨rfl, rfl⟩
  go_wp2_with fail
  refine CC.mono ?_
  rintro e V ⟨rfl, rfl⟩
  go_wp2_with (at_builtin; refine wpList_append_run (.tmp 6) (.tmp 15) 87 87 (by with_reducible rfl) hr1 rfl rfl (by simp [Act.eval]) (by simp [Act.eval]) ?_)
  go_ret
  exact ⟨_, rfl, HO.out⟩

set_option maxHeartbeats 4000000 in
theorem csm_TP {w W : World} {L : List (Nat × Obj)} (h : Mem w W L) (bo ko : Nat) (p p' q q' : Addr) (a a' : Option Addr) (n n' c c' : Nat)
    (co : ∀ V, Mem w V L → V.cell? ⟨bo, 0, none⟩ = some (.func (.func ko) #[] #[]))
    (eo : ∀ args V, (callFunc ko args).run Tryz.prog V = .ok (.enter ko args) V) (ho : ∀ V, Calls Tryz.prog ko #[.pointer (some p)] V fun e V' => e = .returned (.pointer (some p')) ∧ V = V')
    (hq : ∀ V, Calls Tryz.prog ko #[.pointer (some q)] V fun e V' => e = .returned (.pointer (some q')) ∧ V = V')
    (cx : ∀ V, Mem w V L → V.cell? p' = some (.slice a n c)) (cy : ∀ V, Mem w V L → V.cell? q' = some (.slice a' n' c')) :
    Calls Tryz.prog 106 #[.pointer (some p), .pointer (some q), .pointer (some ⟨bo, 0, none⟩)] W fun e W' => e = .returned (.bool (decide (n = n'))) ∧ Mem w W' L := by
  have HM : Hid (Mem w W.drew L) := h.drew
  have c2 := co _ HM.out
  have c3 := cx _ HM.out
  have c4 := cy _ HM.out
  obtain ⟨D, hD⟩ : ∃ D, decide (n = n') = D := ⟨_, rfl⟩
  have hD2 : ((n : Int) == (n' : Int)) = D := by
    rw [← hD]
    by_cases e : n = n'
    · subst e; simp
    · rw [decide_eq_false e]; simp; omega
  rw [hD]
  clear h co cx cy hD
  go_enter Tryz.func106, Tryz.ntmps106
  go_upto_region 1 with fail
  go_region_held3 (fun V => V.cell? ⟨bo, 0, none⟩ = some (.func (.func ko) #[] #[]) ∧ V.cell? p' = some (.slice a n c) ∧ V.cell? q' = some (.slice a' n' c')) (go_keep)
    (first | (go_at_fn ko; with_reducible refine (ho _).mono ?_; rintro e V ⟨rfl, rfl⟩) | (go_at_fn ko; with_reducible refine (hq _).mono ?_; rintro e V ⟨rfl, rfl⟩))
  go_wp2_with fail
  go_ret
  exact ⟨rfl, HM.out⟩

/-- What a list's length that is read makes: a list of so many noughts, or nothing. -/
def CMade_TP (w W : World) (g : Nat) (A : Array Value) (T : TypeId) (j : Nat) (L : List (Nat × Obj)) (m : Nat) : Prop :=
  (m = 0 ∧ Mem w W ((g, .cells A T (0, 0)) :: L)) ∨ (0 < m ∧ ∃ h, Mem w W ((g, .cells (A.setIfInBounds j (.slice (some ⟨h, 0, none⟩) m m)) T (0, 0)) :: (h, .cells (madeCells (Value.agg #[.int .u32 0, .int .u32 0]).cells (m * 2)) 62 (0, 0)) :: L))

set_option maxHeartbeats 4000000 in
theorem crd_TP {w W : World} {a : Option Addr} {l : List Int} {c : Nat} {L : List (Nat × Obj)} {g : Nat} {A : Array Value} {T : TypeId} (hM : Mem w W ((g, .cells A T (0, 0)) :: L)) (hS : Sl w a l c) (bo ko j : Nat) (p : Addr) (y : Value)
    (hj : A[j]? = some y)
    (co : ∀ V, Mem w V L → V.cell? ⟨bo, 0, none⟩ = some (.func (.func ko) #[] #[]))
    (eo : ∀ args V, (callFunc ko args).run Tryz.prog V = .ok (.enter ko args) V) (ho : ∀ V, Calls Tryz.prog ko #[.pointer (some p)] V fun e V' => e = .returned (.pointer (some ⟨g, j, none⟩)) ∧ V = V') :
    Calls Tryz.prog 105 #[.slice a l.length c, .pointer (some p), .pointer (some ⟨bo, 0, none⟩)] W (RPost w L (fun m W' => CMade_TP w W' g A T j L m) (match l with | [] => none | b :: r => some (b.toNat, r))) := by
  cases l with
  | nil =>
    have C := split_no W a 0 c 1 (by omega) (by omega)
    go_enter Tryz.func105, Tryz.ntmps105
    go_wp2_with fail
    refine C.mono ?_
    rintro e V ⟨rfl, rfl⟩
    go_wp2_with fail
    go_ret2
    exact ⟨rfl, hM.sub⟩
  | cons b r =>
    have C := split_yes (hM.sl hS) 1 (by simp) (by omega)
    have hbb : 0 ≤ b ∧ b ≤ 255 := by have := hS.row.bytes 0; simpa using this
    obtain ⟨n, hn⟩ : ∃ n : Nat, (b : Int) = n := ⟨b.toNat, by omega⟩
    subst hn
    have hSP : ∀ V, Mem w V ((g, .cells A T (0, 0)) :: L) → ∀ a1 k1 a2 k2, (∀ V, Sl V a ((n : Int) :: r) c → Sl V a1 (((n : Int) :: r).take 1) k1 ∧ Sl V a2 (((n : Int) :: r).drop 1) k2) →
        Sl w a2 r k2 ∧ ∃ b0 off, a1 = some ⟨b0, off, none⟩ ∧ ∀ V, Mem w V L → V.cell? ⟨b0, off, none⟩ = some (.int .u8 n) := by
      intro V hM1 a1 k1 a2 k2 hSp
      have hp := (hSp w hS).1
      have hq := (hSp w hS).2
      simp only [List.take_succ_cons, List.take_zero, List.drop_succ_cons, List.drop_zero] at hp hq
      refine ⟨hq, ?_⟩
      rcases hp.row.cells with e | ⟨b0, off, e, hc⟩
      · simp at e
      · refine ⟨b0, off, e, fun V hV => ?_⟩
        have h1 := hc 0 (by simp)
        rw [hV.old (cell_lt h1)]
        simpa using h1
    by_cases h0 : n = 0
    · subst h0
      simp only [Int.cast_ofNat_Int, Int.toNat_zero] at *
      go_enter Tryz.func105, Tryz.ntmps105
      go_wp2_with fail
      refine C.mono ?_
      rintro e V ⟨v1, v2, rfl, ⟨a1, k1, a2, k2, rfl, rfl, hSp⟩, q, rfl⟩
      have hM1 := hM.drewN q
      generalize W.drewN q = V at hM1
      obtain ⟨hq, b0, off, rfl, hc0⟩ := hSP V hM1 _ _ _ _ hSp
      have c0 := hc0 V hM1.sub
      clear hSp hS C hSP hc0
      go_wp2_with fail
      go_ret2
      exact ⟨a2, k2, rfl, hq, Or.inl ⟨rfl, hM1⟩⟩
    · have hpos : (0 : Int) < n := by omega
      have hpos2 : 0 < n := by omega
      simp only [Int.toNat_natCast]
      go_enter Tryz.func105, Tryz.ntmps105
      go_wp2_with fail
      refine C.mono ?_
      rintro e V ⟨v1, v2, rfl, ⟨a1, k1, a2, k2, rfl, rfl, hSp⟩, q, rfl⟩
      have hM1 := hM.drewN q
      generalize W.drewN q = V at hM1
      obtain ⟨hq, b0, off, rfl, hc0⟩ := hSP V hM1 _ _ _ _ hSp
      have c0 := hc0 V hM1.sub
      have hM2 := hM1.drew
      have c1 := hc0 _ hM2.sub
      have c2 := co _ hM2.sub
      have c3 := (hM2.cell 0 rfl j).trans hj
      have f3 := hM2.free 0 rfl j
      have KS : Hid (∀ V, Mem w V L → V.cell? ⟨bo, 0, none⟩ = some (.func (.func ko) #[] #[]) ∧ V.cell? ⟨b0, off, none⟩ = some (.int .u8 n)) := fun V hV => ⟨co V hV, hc0 V hV⟩
      obtain ⟨i0, hi0, hz0, hs0, hby0⟩ := info_parts infoP
      have hmk : ∀ V : World, (Instr.makeSlice 32 (.int .u8 (n : Int)) (.int .u8 (n : Int))).run Tryz.prog V = .ok (.slice (some ⟨V.heap.size, 0, none⟩) n n) (V.alloc (.cells (madeCells (Value.agg #[.int .u32 0, .int .u32 0]).cells (n * 2)) 62)) := by
        intro V
        have := run_make (P := Tryz.prog) V 32 62 i0 (Value.agg #[.int .u32 0, .int .u32 0]) Tryz.underlying32 hi0 hz0 .u8 .u8 n n (by omega) (by omega) (by rw [hby0]; omega) (by omega)
        rw [hs0, Int.toNat_natCast] at this
        exact this
      clear hi0 hz0 hs0 hby0
      have hM3 : Mem w (V.drew.alloc (.cells (madeCells (Value.agg #[.int .u32 0, .int .u32 0]).cells (n * 2)) 62)) ((g, .cells A T (0, 0)) :: (V.heap.size, .cells (madeCells (Value.agg #[.int .u32 0, .int .u32 0]).cells (n * 2)) 62 (0, 0)) :: L) :=
        (hM2.push V.heap.size _ rfl).perm (by
          refine List.Perm.trans List.perm_append_comm ?_
          exact List.Perm.swap _ _ _)
      have HM4 : Hid (Mem w ((V.drew.alloc (.cells (madeCells (Value.agg #[.int .u32 0, .int .u32 0]).cells (n * 2)) 62)).setCell ⟨g, j, none⟩ (.slice (some ⟨V.heap.size, 0, none⟩) n n)) ((g, .cells (A.setIfInBounds j (.slice (some ⟨V.heap.size, 0, none⟩) n n)) T (0, 0)) :: (V.heap.size, .cells (madeCells (Value.agg #[.int .u32 0, .int .u32 0]).cells (n * 2)) 62 (0, 0)) :: L)) := by
        have := hM3.set 0 rfl j (.slice (some ⟨V.heap.size, 0, none⟩) n n)
        exact this
      have c5 := (hM3.cell 0 rfl j).trans hj
      have f5 := hM3.free 0 rfl j
      have c6 : (V.alloc (.cells (madeCells (Value.agg #[.int .u32 0, .int .u32 0]).cells (n * 2)) 62)).cell? ⟨g, j, none⟩ = some y := c5
      have f6 : (V.alloc (.cells (madeCells (Value.agg #[.int .u32 0, .int .u32 0]).cells (n * 2)) 62)).frozen? ⟨g, j, none⟩ = false := f5
      have c7 : V.cell? ⟨g, j, none⟩ = some y := c3
      have f7 : V.frozen? ⟨g, j, none⟩ = false := f3
      have hne : g ≠ V.heap.size := by have := cell_lt c7; simp at this; omega
      have hne2 : V.heap.size ≠ g := fun e => hne e.symm
      have HA : Hid (Mem w (V.drew.alloc (.cells (madeCells (Value.agg #[.int .u32 0, .int .u32 0]).cells (n * 2)) 62)) L) := hM3.sub.sub
      clear hSp hS C hSP hc0 hM hM1 hj co hM2 hM3 h0
      obtain ⟨Y, hY⟩ : ∃ Y, madeCells (Value.agg #[.int .u32 0, .int .u32 0]).cells (n * 2) = Y := ⟨_, rfl⟩
      rw [hY] at HM4 c5 f5 HA c6 f6
      simp only [hY] at hmk
      have HY : Hid (madeCells (Value.agg #[.int .u32 0, .int .u32 0]).cells (n * 2) = Y) := hY
      clear hY
      have hmk2 := hmk V.drew
      go_upto_region 3 with fail
      go_region_held3 (fun V => V.cell? ⟨bo, 0, none⟩ = some (.func (.func ko) #[] #[]) ∧ V.cell? ⟨b0, off, none⟩ = some (.int .u8 n)) (first | assumption | exact KS.out _ HA.out | exact KS.out _ HM4.out.sub.sub | go_keep)
        (first | (go_at_fn ko; refine (ho _).mono ?_; rintro e V ⟨rfl, rfl⟩))
      all_goals
        go_wp2_with fail
        go_ret2
        refine ⟨a2, k2, rfl, hq, Or.inr ⟨hpos2, V.heap.size, ?_⟩⟩
        rw [HY.out]
        exact HM4.out
end Go.Proofs.YtbccadbnaggkhaaGreat

namespace Go.Proofs.YtbccadbnaggkhaaGreat
open Go.RowKit
open Sm
open Cf
set_option linter.unusedVariables false
set_option maxRecDepth 20000

set_option maxHeartbeats 4000000 in
theorem counted_TU (W : World) (a : Option Addr) (n c : Nat) (hc : n ≤ c) (hb : c ≤ 9223372036854775807) (ha : a = none → c = 0) :
    Calls Tryz.prog 100 #[.slice a n c] W fun e W' => e = .returned (.slice a (min n 255) c) ∧ W = W' := by
  by_cases h : n ≤ 255
  · have h1 : (n : Int) ≤ 255 := by omega
    have h2 : ¬ ((255 : Int) < n) := by omega
    have h3 : (n : Int) ≤ c := by omega
    rw [Nat.min_eq_left h]
    cases a with
    | none =>
      obtain rfl : c = 0 := ha rfl
      obtain rfl : n = 0 := by omega
      go_enter Tryz.func100, Tryz.ntmps100
      go_wp2_with fail
      go_ret
      exact ⟨rfl, rfl⟩
    | some ad =>
      go_enter Tryz.func100, Tryz.ntmps100
      go_wp2_with fail
      go_ret
      exact ⟨rfl, rfl⟩
  · have h1 : ¬ ((n : Int) ≤ 255) := by omega
    have h2 : (255 : Int) < n := by omega
    have h3 : (255 : Int) ≤ c := by omega
    rw [Nat.min_eq_right (by omega)]
    cases a with
    | none =>
      obtain rfl : c = 0 := ha rfl
      omega
    | some ad =>
      go_enter Tryz.func100, Tryz.ntmps100
      go_wp2_with fail
      go_ret
      exact ⟨rfl, rfl⟩

set_option maxHeartbeats 4000000 in
theorem cwr_TU {w W : World} {v : Value} {l : List Int} {L : List (Nat × Obj)} (h : Out w W v l L) (bo ko : Nat) (p p' : Addr) (a : Option Addr) (n c : Nat) (hc : n ≤ c) (hcb : c ≤ 9223372036854775807) (ha : a = none → c = 0)
    (co : ∀ V, Mem w V L → V.cell? ⟨bo, 0, none⟩ = some (.func (.func ko) #[] #[]))
    (eo : ∀ args V, (callFunc ko args).run Tryz.prog V = .ok (.enter ko args) V) (ho : ∀ V, Calls Tryz.prog ko #[.pointer (some p)] V fun e V' => e = .returned (.pointer (some p')) ∧ V = V')
    (cx : ∀ V, Mem w V L → V.cell? p' = some (.slice a n c)) (hb : l.length + 1 ≤ 1000000000) :
    Calls Tryz.prog 99 #[v, .pointer (some p), .pointer (some ⟨bo, 0, none⟩)] W fun e W' => ∃ v', e = .returned v' ∧ Out w W' v' (l ++ [((min n 255 : Nat) : Int)]) L := by
  have c2 := co _ h.mem
  have c3 := cx _ h.mem
  have CC := counted_TU W a n c hc hcb ha
  have hk : min n 255 ≤ 255 := Nat.min_le_right _ _
  generalize min n 255 = k at CC hk
  have e1 : IntKind.u8.wrap (k : Int) = k := by rw [wrapu8]; omega
  have e2 : (k : Int) % 256 = k := by omega
  obtain ⟨v1, W1, hr1, hO1⟩ := out_one h (k : Int) (by omega) (by omega) 87
  have HO : Hid (Out w W1 v1 (l ++ [(k : Int)]) L) := hO1
  clear h co cx hO1
  go_enter Tryz.func99, Tryz.ntmps99
  go_wp2_with fail
  refine (ho _).mono ?_
  rintro e V ⟨rfl, rfl⟩
  go_wp2_with fail
  refine CC.mono ?_
  rintro e V ⟨rfl, rfl⟩
  go_wp2_with (at_builtin; refine wpList_append_run (.tmp 6) (.tmp 15) 87 87 (by with_reducible rfl) hr1 rfl rfl (by simp [Act.eval]) (by simp [Act.eval]) ?_)
  go_ret
  exact ⟨_, rfl, HO.out⟩

set_option maxHeartbeats 4000000 in
theorem csm_TU {w W : World} {L : List (Nat × Obj)} (h : Mem w W L) (bo ko : Nat) (p p' q q' : Addr) (a a' : Option Addr) (n n' c c' : Nat)
    (co : ∀ V, Mem w V L → V.cell? ⟨bo, 0, none⟩ = some (.func (.func ko) #[] #[]))
    (eo : ∀ args V, (callFunc ko args).run Tryz.prog V = .ok (.enter ko args) V) (ho : ∀ V, Calls Tryz.prog ko #[.pointer (some p)] V fun e V' => e = .returned (.pointer (some p')) ∧ V = V')
    (hq : ∀ V, Calls Tryz.prog ko #[.pointer (some q)] V fun e V' => e = .returned (.pointer (some q')) ∧ V = V')
    (cx : ∀ V, Mem w V L → V.cell? p' = some (.slice a n c)) (cy : ∀ V, Mem w V L → V.cell? q' = some (.slice a' n' c')) :
    Calls Tryz.prog 102 #[.pointer (some p), .pointer (some q), .pointer (some ⟨bo, 0, none⟩)] W fun e W' => e = .returned (.bool (decide (n = n'))) ∧ Mem w W' L := by
  have HM : Hid (Mem w W.drew L) := h.drew
  have c2 := co _ HM.out
  have c3 := cx _ HM.out
  have c4 := cy _ HM.out
  obtain ⟨D, hD⟩ : ∃ D, decide (n = n') = D := ⟨_, rfl⟩
  have hD2 : ((n : Int) == (n' : Int)) = D := by
    rw [← hD]
    by_cases e : n = n'
    · subst e; simp
    · rw [decide_eq_false e]; simp; omega
  rw [hD]
  clear h co cx cy hD
  go_enter Tryz.func102, Tryz.ntmps102
  go_upto_region 1 with fail
  go_region_held3 (fun V => V.cell? ⟨bo, 0, none⟩ = some (.func (.func ko) #[] #[]) ∧ V.cell? p' = some (.slice a n c) ∧ V.cell? q' = some (.slice a' n' c')) (go_keep)
    (first | (go_at_fn ko; with_reducible refine (ho _).mono ?_; rintro e V ⟨rfl, rfl⟩) | (go_at_fn ko; with_reducible refine (hq _).mono ?_; rintro e V ⟨rfl, rfl⟩))
  go_wp2_with fail
  go_ret
  exact ⟨rfl, HM.out⟩

/-- What a list's length that is read makes: a list of so many noughts, or nothing. -/
def CMade_TU (w W : World) (g : Nat) (A : Array Value) (T : TypeId) (j : Nat) (L : List (Nat × Obj)) (m : Nat) : Prop :=
  (m = 0 ∧ Mem w W ((g, .cells A T (0, 0)) :: L)) ∨ (0 < m ∧ ∃ h, Mem w W ((g, .cells (A.setIfInBounds j (.slice (some ⟨h, 0, none⟩) m m)) T (0, 0)) :: (h, .cells (madeCells (Value.int .u32 0).cells (m * 1)) 26 (0, 0)) :: L))

set_option maxHeartbeats 4000000 in
theorem crd_TU {w W : World} {a : Option Addr} {l : List Int} {c : Nat} {L : List (Nat × Obj)} {g : Nat} {A : Array Value} {T : TypeId} (hM : Mem w W ((g, .cells A T (0, 0)) :: L)) (hS : Sl w a l c) (bo ko j : Nat) (p : Addr) (y : Value)
    (hj : A[j]? = some y)
    (co : ∀ V, Mem w V L → V.cell? ⟨bo, 0, none⟩ = some (.func (.func ko) #[] #[]))
    (eo : ∀ args V, (callFunc ko args).run Tryz.prog V = .ok (.enter ko args) V) (ho : ∀ V, Calls Tryz.prog ko #[.pointer (some p)] V fun e V' => e = .returned (.pointer (some ⟨g, j, none⟩)) ∧ V = V') :
    Calls Tryz.prog 101 #[.slice a l.length c, .pointer (some p), .pointer (some ⟨bo, 0, none⟩)] W (RPost w L (fun m W' => CMade_TU w W' g A T j L m) (match l with | [] => none | b :: r => some (b.toNat, r))) := by
  cases l with
  | nil =>
    have C := split_no W a 0 c 1 (by omega) (by omega)
    go_enter Tryz.func101, Tryz.ntmps101
    go_wp2_with fail
    refine C.mono ?_
    rintro e V ⟨rfl, rfl⟩
    go_wp2_with fail
    go_ret2
    exact ⟨rfl, hM.sub⟩
  | cons b r =>
    have C := split_yes (hM.sl hS) 1 (by simp) (by omega)
    have hbb : 0 ≤ b ∧ b ≤ 255 := by have := hS.row.bytes 0; simpa using this
    obtain ⟨n, hn⟩ : ∃ n : Nat, (b : Int) = n := ⟨b.toNat, by omega⟩
    subst hn
    have hSP : ∀ V, Mem w V ((g, .cells A T (0, 0)) :: L) → ∀ a1 k1 a2 k2, (∀ V, Sl V a ((n : Int) :: r) c → Sl V a1 (((n : Int) :: r).take 1) k1 ∧ Sl V a2 (((n : Int) :: r).drop 1) k2) →
        Sl w a2 r k2 ∧ ∃ b0 off, a1 = some ⟨b0, off, none⟩ ∧ ∀ V, Mem w V L → V.cell? ⟨b0, off, none⟩ = some (.int .u8 n) := by
      intro V hM1 a1 k1 a2 k2 hSp
      have hp := (hSp w hS).1
      have hq := (hSp w hS).2
      simp only [List.take_succ_cons, List.take_zero, List.drop_succ_cons, List.drop_zero] at hp hq
      refine ⟨hq, ?_⟩
      rcases hp.row.cells with e | ⟨b0, off, e, hc⟩
      · simp at e
      · refine ⟨b0, off, e, fun V hV => ?_⟩
        have h1 := hc 0 (by simp)
        rw [hV.old (cell_lt h1)]
        simpa using h1
    by_cases h0 : n = 0
    · subst h0
      simp only [Int.cast_ofNat_Int, Int.toNat_zero] at *
      go_enter Tryz.func101, Tryz.ntmps101
      go_wp2_with fail
      refine C.mono ?_
      rintro e V ⟨v1, v2, rfl, ⟨a1, k1, a2, k2, rfl, rfl, hSp⟩, q, rfl⟩
      have hM1 := hM.drewN q
      generalize W.drewN q = V at hM1
      obtain ⟨hq, b0, off, rfl, hc0⟩ := hSP V hM1 _ _ _ _ hSp
      have c0 := hc0 V hM1.sub
      clear hSp hS C hSP hc0
      go_wp2_with fail
      go_ret2
      exact ⟨a2, k2, rfl, hq, Or.inl ⟨rfl, hM1⟩⟩
    · have hpos : (0 : Int) < n := by omega
      have hpos2 : 0 < n := by omega
      simp only [Int.toNat_natCast]
      go_enter Tryz.func101, Tryz.ntmps101
      go_wp2_with fail
      refine C.mono ?_
      rintro e V ⟨v1, v2, rfl, ⟨a1, k1, a2, k2, rfl, rfl, hSp⟩, q, rfl⟩
      have hM1 := hM.drewN q
      generalize W.drewN q = V at hM1
      obtain ⟨hq, b0, off, rfl, hc0⟩ := hSP V hM1 _ _ _ _ hSp
      have c0 := hc0 V hM1.sub
      have hM2 := hM1.drew
      have c1 := hc0 _ hM2.sub
      have c2 := co _ hM2.sub
      have c3 := (hM2.cell 0 rfl j).trans hj
      have f3 := hM2.free 0 rfl j
      have KS : Hid (∀ V, Mem w V L → V.cell? ⟨bo, 0, none⟩ = some (.func (.func ko) #[] #[]) ∧ V.cell? ⟨b0, off, none⟩ = some (.int .u8 n)) := fun V hV => ⟨co V hV, hc0 V hV⟩
      obtain ⟨i0, hi0, hz0, hs0, hby0⟩ := info_parts infoU
      have hmk : ∀ V : World, (Instr.makeSlice 30 (.int .u8 (n : Int)) (.int .u8 (n : Int))).run Tryz.prog V = .ok (.slice (some ⟨V.heap.size, 0, none⟩) n n) (V.alloc (.cells (madeCells (Value.int .u32 0).cells (n * 1)) 26)) := by
        intro V
        have := run_make (P := Tryz.prog) V 30 26 i0 (Value.int .u32 0) Tryz.underlying30 hi0 hz0 .u8 .u8 n n (by omega) (by omega) (by rw [hby0]; omega) (by omega)
        rw [hs0, Int.toNat_natCast] at this
        exact this
      clear hi0 hz0 hs0 hby0
      have hM3 : Mem w (V.drew.alloc (.cells (madeCells (Value.int .u32 0).cells (n * 1)) 26)) ((g, .cells A T (0, 0)) :: (V.heap.size, .cells (madeCells (Value.int .u32 0).cells (n * 1)) 26 (0, 0)) :: L) :=
        (hM2.push V.heap.size _ rfl).perm (by
          refine List.Perm.trans List.perm_append_comm ?_
          exact List.Perm.swap _ _ _)
      have HM4 : Hid (Mem w ((V.drew.alloc (.cells (madeCells (Value.int .u32 0).cells (n * 1)) 26)).setCell ⟨g, j, none⟩ (.slice (some ⟨V.heap.size, 0, none⟩) n n)) ((g, .cells (A.setIfInBounds j (.slice (some ⟨V.heap.size, 0, none⟩) n n)) T (0, 0)) :: (V.heap.size, .cells (madeCells (Value.int .u32 0).cells (n * 1)) 26 (0, 0)) :: L)) := by
        have := hM3.set 0 rfl j (.slice (some ⟨V.heap.size, 0, none⟩) n n)
        exact this
      have c5 := (hM3.cell 0 rfl j).trans hj
      have f5 := hM3.free 0 rfl j
      have c6 : (V.alloc (.cells (madeCells (Value.int .u32 0).cells (n * 1)) 26)).cell? ⟨g, j, none⟩ = some y := c5
      have f6 : (V.alloc (.cells (madeCells (Value.int .u32 0).cells (n * 1)) 26)).frozen? ⟨g, j, none⟩ = false := f5
      have c7 : V.cell? ⟨g, j, none⟩ = some y := c3
      have f7 : V.frozen? ⟨g, j, none⟩ = false := f3
      have hne : g ≠ V.heap.size := by have := cell_lt c7; simp at this; omega
      have hne2 : V.heap.size ≠ g := fun e => hne e.symm
      have HA : Hid (Mem w (V.drew.alloc (.cells (madeCells (Value.int .u32 0).cells (n * 1)) 26)) L) := hM3.sub.sub
      clear hSp hS C hSP hc0 hM hM1 hj co hM2 hM3 h0
      obtain ⟨Y, hY⟩ : ∃ Y, madeCells (Value.int .u32 0).cells (n * 1) = Y := ⟨_, rfl⟩
      rw [hY] at HM4 c5 f5 HA c6 f6
      simp only [hY] at hmk
      have HY : Hid (madeCells (Value.int .u32 0).cells (n * 1) = Y) := hY
      clear hY
      have hmk2 := hmk V.drew
      go_upto_region 3 with fail
      go_region_held3 (fun V => V.cell? ⟨bo, 0, none⟩ = some (.func (.func ko) #[] #[]) ∧ V.cell? ⟨b0, off, none⟩ = some (.int .u8 n)) (first | assumption | exact KS.out _ HA.out | exact KS.out _ HM4.out.sub.sub | go_keep)
        (first | (go_at_fn ko; refine (ho _).mono ?_; rintro e V ⟨rfl, rfl⟩))
      all_goals
        go_wp2_with fail
        go_ret2
        refine ⟨a2, k2, rfl, hq, Or.inr ⟨hpos2, V.heap.size, ?_⟩⟩
        rw [HY.out]
        exact HM4.out
end Go.Proofs.YtbccadbnaggkhaaGreat

namespace Go.Proofs.YtbccadbnaggkhaaGreat
open Go.RowKit
open Sm
open Cf
set_option linter.unusedVariables false
set_option maxRecDepth 20000

/-- A field's three functions: their numbers and what they captured. -/
structure Fv where
  kw : Nat
  kr : Nat
  ks : Nat
  cw : Array Value
  cr : Array Value
  cs : Array Value
def Fv.cells (f : Fv) : List Value := [.func (.func f.kw) #[] f.cw, .func (.func f.kr) #[] f.cr, .func (.func f.ks) #[] f.cs]
def Fv.val (f : Fv) : Value := .agg #[.func (.func f.kw) #[] f.cw, .func (.func f.kr) #[] f.cr, .func (.func f.ks) #[] f.cs]
def Ent (k : Nat) : Prop := ∀ args V, (callFunc k args).run Tryz.prog V = .ok (.enter k args) V
/-- x lies at a place of a world, its lists where r says. -/
abbrev Rp (α ρ : Type) := α → ρ → World → Nat → Nat → Prop
/-- x lies in a block of the call's own, between other cells, and may be written over. -/
abbrev St' (α : Type) := World → α → Nat → TypeId → List Value → List Value → World → List (Nat × Obj) → Prop
/-- What a field writes, reads, holds to be the same. -/
structure Sp (α : Type) where
  enc : α → List Int
  dec : List Int → α → Option (α × List Int)
  eq : α → α → Bool
def Sub (L K : List (Nat × Obj)) : Prop := ∀ q ∈ L, q ∈ K
theorem Sub.refl (L : List (Nat × Obj)) : Sub L L := fun _ h => h
theorem Sub.trans {A B C : List (Nat × Obj)} (h : Sub A B) (k : Sub B C) : Sub A C := fun q hq => k q (h q hq)
theorem Sub.cons {L K : List (Nat × Obj)} (h : Sub L K) (p : Nat × Obj) : Sub L (p :: K) := fun q hq => List.mem_cons_of_mem _ (h q hq)
theorem Sub.app {L K : List (Nat × Obj)} (h : Sub L K) (M : List (Nat × Obj)) : Sub L (M ++ K) := fun q hq => List.mem_append_right _ (h q hq)
structure Fd {α ρ : Type} (w : World) (L : List (Nat × Obj)) (I : Rp α ρ) (J : St' α) (f : Fv) (s : Sp α) : Prop where
  ew : Ent f.kw
  er : Ent f.kr
  es : Ent f.ks
  wr : ∀ K, Sub L K → ∀ x r g off, (∀ V, Mem w V K → I x r V g off) → ∀ v l V, Out w V v l K → l.length + (s.enc x).length ≤ 1000000000 →
    Calls Tryz.prog f.kw (#[v, .pointer (some ⟨g, off, none⟩)] ++ f.cw) V fun e V' => ∃ v', e = .returned v' ∧ Out w V' v' (l ++ s.enc x) K
  rd : ∀ K, Sub L K → ∀ x g T pre post a l c V, J w x g T pre post V K → Sl w a l c →
    Calls Tryz.prog f.kr (#[.slice a l.length c, .pointer (some ⟨g, pre.length, none⟩)] ++ f.cr) V (RPost w K (fun y V' => J w y g T pre post V' K) (s.dec l x))
  sm : ∀ K, Sub L K → ∀ x y r r' g off h of', (∀ V, Mem w V K → I x r V g off ∧ I y r' V h of') → ∀ V, Mem w V K →
    Calls Tryz.prog f.ks (#[.pointer (some ⟨g, off, none⟩), .pointer (some ⟨h, of', none⟩)] ++ f.cs) V fun e V' => e = .returned (.bool (s.eq x y)) ∧ Mem w V' K
theorem Fd.more {α ρ : Type} {w : World} {L K : List (Nat × Obj)} {I : Rp α ρ} {J : St' α} {f : Fv} {s : Sp α} (h : Fd w L I J f s) (hs : Sub L K) : Fd w K I J f s :=
  ⟨h.ew, h.er, h.es, fun M hM => h.wr M (hs.trans hM), fun M hM => h.rd M (hs.trans hM), fun M hM => h.sm M (hs.trans hM)⟩
/-- Fields, one by one. -/
inductive FdAll {α ρ : Type} (w : World) (L : List (Nat × Obj)) (I : Rp α ρ) (J : St' α) : List Fv → List (Sp α) → Prop
  | nil : FdAll w L I J [] []
  | cons {f : Fv} {s : Sp α} {fs : List Fv} {ss : List (Sp α)} : Fd w L I J f s → FdAll w L I J fs ss → FdAll w L I J (f :: fs) (s :: ss)
def fv0 : Fv := ⟨0, 0, 0, #[], #[], #[]⟩
def sp0 {α : Type} : Sp α := ⟨fun _ => [], fun _ _ => none, fun _ _ => false⟩
theorem FdAll.at_ {α ρ : Type} {w : World} {L : List (Nat × Obj)} {I : Rp α ρ} {J : St' α} {fs : List Fv} {ss : List (Sp α)} (h : FdAll w L I J fs ss) : ∀ i, i < fs.length → Fd w L I J (fs.getD i fv0) (ss.getD i sp0) := by
  induction h with
  | nil => intro i hi; simp at hi
  | cons h1 h2 ih =>
    intro i hi
    cases i with
    | zero => exact h1
    | succ i => exact ih i (by simpa using hi)
theorem FdAll.len {α ρ : Type} {w : World} {L : List (Nat × Obj)} {I : Rp α ρ} {J : St' α} {fs : List Fv} {ss : List (Sp α)} (h : FdAll w L I J fs ss) : fs.length = ss.length := by
  induction h with
  | nil => rfl
  | cons _ _ ih => simp [ih]
/-- Fields in a row. -/
def spAll {α : Type} (ss : List (Sp α)) : Sp α :=
  ⟨fun x => cat (fun i => (ss.getD i sp0).enc x) ss.length, fun l x => sq (fun i => (ss.getD i sp0).dec) 0 ss.length l x, fun x y => decide (∀ i, i < ss.length → (ss.getD i sp0).eq x y = true)⟩
theorem flat_get (fs : List Fv) : ∀ i, i < fs.length → (fs.flatMap Fv.cells)[i * 3]? = some (.func (.func (fs.getD i fv0).kw) #[] (fs.getD i fv0).cw) ∧
    (fs.flatMap Fv.cells)[i * 3 + 1]? = some (.func (.func (fs.getD i fv0).kr) #[] (fs.getD i fv0).cr) ∧ (fs.flatMap Fv.cells)[i * 3 + 2]? = some (.func (.func (fs.getD i fv0).ks) #[] (fs.getD i fv0).cs) := by
  induction fs with
  | nil => intro i hi; simp at hi
  | cons f fs ih =>
    intro i hi
    cases i with
    | zero => exact ⟨rfl, rfl, rfl⟩
    | succ i =>
      obtain ⟨h1, h2, h3⟩ := ih i (by simpa using hi)
      have e : ∀ k, ((f :: fs).flatMap Fv.cells)[(i + 1) * 3 + k]? = (fs.flatMap Fv.cells)[i * 3 + k]? := by
        intro k
        rw [List.flatMap_cons, List.getElem?_append_right (by simp [Fv.cells]; omega)]
        congr 1
        simp [Fv.cells]; omega
      refine ⟨?_, ?_, ?_⟩
      · rw [show (i + 1) * 3 = (i + 1) * 3 + 0 by omega, e 0]; exact h1
      · rw [e 1]; exact h2
      · rw [e 2]; exact h3
theorem mem_box {w V : World} {L : List (Nat × Obj)} {b : Nat} {A : Array Value} {t : TypeId} (hM : Mem w V L) (h : (b, .cells A t (0, 0)) ∈ L) (j : Nat) : V.cell? ⟨b, j, none⟩ = A[j]? := cell_of (hM.at_ _ h) j
theorem be_wrap (n : Nat) (h : n ≤ 7) (x : Int) : be n (IntKind.u64.wrap x) = be n x := by
  have key : ∀ k : Nat, k ≤ 7 → (x % 18446744073709551616) / 256 ^ k % 256 = x / 256 ^ k % 256 := by
    intro k hk
    match k, hk with
    | 0, _ => omega
    | 1, _ => omega
    | 2, _ => omega
    | 3, _ => omega
    | 4, _ => omega
    | 5, _ => omega
    | 6, _ => omega
    | 7, _ => omega
  rw [wrapu64]
  induction n with
  | zero => rfl
  | succ n ih => rw [be, be, key n (by omega), ih (by omega)]
def spNum {α : Type} (sz : Nat) (fg : α → Int) (fs : α → Int → α) : Sp α :=
  ⟨fun x => be sz (fg x), fun l x => if l.length < sz then none else some (fs x (num (l.take sz)), l.drop sz), fun x y => decide (fg x = fg y)⟩
theorem heap_alloc3_new (w : World) (a b c : Obj) : (((w.alloc a).alloc b).alloc c).heap[w.heap.size + 1 + 1]? = some c := by
  have h := heap_alloc_new ((w.alloc a).alloc b) c
  have e : ((w.alloc a).alloc b).heap.size = w.heap.size + 1 + 1 := by
    show ((w.heap.push a).push b).size = _
    simp
  rwa [e] at h
theorem RPost.mono2 {σ τ : Type} {w : World} {L K : List (Nat × Obj)} {J : σ → World → Prop} {H : τ → World → Prop} {r : Option (σ × List Int)} {q : Option (τ × List Int)} {e : Ending} {W' : World} (f : σ → τ) (hq : q = r.map (fun x => (f x.1, x.2)))
    (h : RPost w L J r e W') (hn : Mem w W' L → Mem w W' K) (hs : ∀ s l', r = some (s, l') → J s W' → H (f s) W') : RPost w K H q e W' := by
  subst hq
  cases r with
  | none => exact ⟨h.1, hn h.2⟩
  | some x => obtain ⟨a, c, h1, h2, h3⟩ := h; exact ⟨a, c, h1, h2, hs _ _ rfl h3⟩
def spOct {α : Type} (n : Nat) (fg : α → List Int) (fs : α → List Int → α) : Sp α :=
  ⟨fg, fun l x => if l.length < n then none else some (fs x (l.take n), l.drop n), fun x y => decide (fg x = fg y)⟩
def spTxt {α : Type} (fg : α → ByteArray) (fs : α → ByteArray → α) : Sp α :=
  ⟨fun x => nm (fg x), fun l x => (dtxt l).map (fun q => (fs x q.1, q.2)), fun x y => decide (sb (fg x) = sb (fg y))⟩
def spCnt {α : Type} (fl : α → Nat) (fs : α → Nat → α) : Sp α :=
  ⟨fun x => [((min (fl x) 255 : Nat) : Int)], fun l x => match l with | [] => none | b :: r => some (fs x b.toNat, r), fun x y => decide (fl x = fl y)⟩
/-- Elements one by one into a list. -/
def itd {β : Type} (d : β) (se : Sp β) : Nat → List Int → List β → Option (List β × List Int) := fun i l xs => (se.dec l (xs.getD i d)).map (fun q => (xs.set i q.1, q.2))
def spItm {α β : Type} [DecidableEq β] (d : β) (se : Sp β) (fl : α → List β) (fs : α → List β → α) : Sp α :=
  ⟨fun x => cat (fun i => se.enc ((fl x).getD i d)) (min (fl x).length 255), fun l x => (sq (itd d se) 0 (fl x).length l (fl x)).map (fun q => (fs x q.1, q.2)), fun x y => decide (fl x = fl y)⟩
/-- One cell of what is read: where it lies, and what is left when it is written over. -/
structure Lens {α : Type} (w : World) (J : St' α) (o : Nat) (x : α) (g : Nat) (T : TypeId) (pre post : List Value) (V : World) (K M : List (Nat × Obj)) (A : Array Value) : Prop where
  mem : Mem w V ((g, .cells A T (0, 0)) :: M)
  sub : Sub K M
  back : ∀ V', Mem w V' M → Mem w V' K
end Go.Proofs.YtbccadbnaggkhaaGreat

namespace Go.Proofs.YtbccadbnaggkhaaGreat
open Go.RowKit
open Sm
open Cf
set_option linter.unusedVariables false
set_option maxRecDepth 20000

end Go.Proofs.YtbccadbnaggkhaaGreat

