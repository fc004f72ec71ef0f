/-
  Settings as bytes: the field of a list's length (lych/api.Tenant, uint32).
  Settings as bytes: the field of a list's length (lych/api.Tenant, lych/api.Pair).
-/
import Derived.Test.YtngegdamcfmonaaGreatM08
namespace Go.Proofs.YtngegdamcfmonaaGreat
open Go.RowKit
open Sm
open Cf
set_option linter.unusedVariables false
set_option maxRecDepth 20000

set_option maxHeartbeats 4000000 in
/-- The first 255 of a list. -/
theorem counted_TU (W : World) (a : Option Addr) (n c : Nat) (hc : n ≤ c) (hb : c ≤ 9223372036854775807) (ha : a = none → c = 0) :
    Calls Tryz.prog 134 #[.slice a n c] W fun e W' => e = .returned (.slice a (min n 255) c) ∧ W = W' := by
  by_cases h : n ≤ 255
  · have h1 : (n : Int) ≤ 255 := by omega
    have h2 : ¬ ((255 : Int) < n) := by omega
    have h3 : (n : Int) ≤ c := by omega
    rw [Nat.min_eq_left h]
    cases a with
    | none =>
      obtain rfl : c = 0 := ha rfl
      obtain rfl : n = 0 := by omega
      go_enter Tryz.func134, Tryz.ntmps134
      go_wp2_with fail
      go_ret
      exact ⟨rfl, rfl⟩
    | some ad =>
      go_enter Tryz.func134, Tryz.ntmps134
      go_wp2_with fail
      go_ret
      exact ⟨rfl, rfl⟩
  · have h1 : ¬ ((n : Int) ≤ 255) := by omega
    have h2 : (255 : Int) < n := by omega
    have h3 : (255 : Int) ≤ c := by omega
    rw [Nat.min_eq_right (by omega)]
    cases a with
    | none =>
      obtain rfl : c = 0 := ha rfl
      omega
    | some ad =>
      go_enter Tryz.func134, Tryz.ntmps134
      go_wp2_with fail
      go_ret
      exact ⟨rfl, rfl⟩

set_option maxHeartbeats 4000000 in
theorem cwr_TU {w W : World} {v : Value} {l : List Int} {L : List (Nat × Obj)} (h : Out w W v l L) (bo ko : Nat) (p p' : Addr) (a : Option Addr) (n c : Nat) (hc : n ≤ c) (hcb : c ≤ 9223372036854775807) (ha : a = none → c = 0)
    (co : ∀ V, Mem w V L → V.cell? ⟨bo, 0, none⟩ = some (.func (.func ko) #[] #[]))
    (eo : ∀ args V, (callFunc ko args).run Tryz.prog V = .ok (.enter ko args) V) (ho : ∀ V, Calls Tryz.prog ko #[.pointer (some p)] V fun e V' => e = .returned (.pointer (some p')) ∧ V = V')
    (cx : ∀ V, Mem w V L → V.cell? p' = some (.slice a n c)) (hb : l.length + 1 ≤ 1000000000) :
    Calls Tryz.prog 133 #[v, .pointer (some p), .pointer (some ⟨bo, 0, none⟩)] W fun e W' => ∃ v', e = .returned v' ∧ Out w W' v' (l ++ [((min n 255 : Nat) : Int)]) L := by
  have c2 := co _ h.mem
  have c3 := cx _ h.mem
  have CC := counted_TU W a n c hc hcb ha
  have hk : min n 255 ≤ 255 := Nat.min_le_right _ _
  generalize min n 255 = k at CC hk
  have e1 : IntKind.u8.wrap (k : Int) = k := by rw [wrapu8]; omega
  have e2 : (k : Int) % 256 = k := by omega
  obtain ⟨v1, W1, hr1, hO1⟩ := out_one h (k : Int) (by omega) (by omega) 40
  have HO : Hid (Out w W1 v1 (l ++ [(k : Int)]) L) := hO1
  clear h co cx hO1
  go_enter Tryz.func133, Tryz.ntmps133
  go_wp2_with fail
  refine (ho _).mono ?_
  rintro e V ⟨rfl, rfl⟩
  go_wp2_with fail
  refine CC.mono ?_
  rintro e V ⟨rfl, rfl⟩
  go_wp2_with (at_builtin; refine wpList_append_run (.tmp 6) (.tmp 15) 40 40 (by with_reducible rfl) hr1 rfl rfl (by simp [Act.eval]) (by simp [Act.eval]) ?_)
  go_ret
  exact ⟨_, rfl, HO.out⟩

set_option maxHeartbeats 4000000 in
theorem csm_TU {w W : World} {L : List (Nat × Obj)} (h : Mem w W L) (bo ko : Nat) (p p' q q' : Addr) (a a' : Option Addr) (n n' c c' : Nat)
    (co : ∀ V, Mem w V L → V.cell? ⟨bo, 0, none⟩ = some (.func (.func ko) #[] #[]))
    (eo : ∀ args V, (callFunc ko args).run Tryz.prog V = .ok (.enter ko args) V) (ho : ∀ V, Calls Tryz.prog ko #[.pointer (some p)] V fun e V' => e = .returned (.pointer (some p')) ∧ V = V')
    (hq : ∀ V, Calls Tryz.prog ko #[.pointer (some q)] V fun e V' => e = .returned (.pointer (some q')) ∧ V = V')
    (cx : ∀ V, Mem w V L → V.cell? p' = some (.slice a n c)) (cy : ∀ V, Mem w V L → V.cell? q' = some (.slice a' n' c')) :
    Calls Tryz.prog 136 #[.pointer (some p), .pointer (some q), .pointer (some ⟨bo, 0, none⟩)] W fun e W' => e = .returned (.bool (decide (n = n'))) ∧ Mem w W' L := by
  have HM : Hid (Mem w W.drew L) := h.drew
  have c2 := co _ HM.out
  have c3 := cx _ HM.out
  have c4 := cy _ HM.out
  obtain ⟨D, hD⟩ : ∃ D, decide (n = n') = D := ⟨_, rfl⟩
  have hD2 : ((n : Int) == (n' : Int)) = D := by
    rw [← hD]
    by_cases e : n = n'
    · subst e; simp
    · rw [decide_eq_false e]; simp; omega
  rw [hD]
  clear h co cx cy hD
  go_enter Tryz.func136, Tryz.ntmps136
  go_upto_region 1 with fail
  go_region_held3 (fun V => V.cell? ⟨bo, 0, none⟩ = some (.func (.func ko) #[] #[]) ∧ V.cell? p' = some (.slice a n c) ∧ V.cell? q' = some (.slice a' n' c')) (go_keep)
    (first | (go_at_fn ko; with_reducible refine (ho _).mono ?_; rintro e V ⟨rfl, rfl⟩) | (go_at_fn ko; with_reducible refine (hq _).mono ?_; rintro e V ⟨rfl, rfl⟩))
  go_wp2_with fail
  go_ret
  exact ⟨rfl, HM.out⟩

/-- What a list's length that is read makes: a list of so many noughts, or nothing. -/
def CMade_TU (w W : World) (g : Nat) (A : Array Value) (T : TypeId) (j : Nat) (L : List (Nat × Obj)) (m : Nat) : Prop :=
  (m = 0 ∧ Mem w W ((g, .cells A T (0, 0)) :: L)) ∨ (0 < m ∧ ∃ h, Mem w W ((g, .cells (A.setIfInBounds j (.slice (some ⟨h, 0, none⟩) m m)) T (0, 0)) :: (h, .cells (madeCells (Value.int .u32 0).cells (m * 1)) 22 (0, 0)) :: L))

set_option maxHeartbeats 4000000 in
theorem crd_TU {w W : World} {a : Option Addr} {l : List Int} {c : Nat} {L : List (Nat × Obj)} {g : Nat} {A : Array Value} {T : TypeId} (hM : Mem w W ((g, .cells A T (0, 0)) :: L)) (hS : Sl w a l c) (bo ko j : Nat) (p : Addr) (y : Value)
    (hj : A[j]? = some y)
    (co : ∀ V, Mem w V L → V.cell? ⟨bo, 0, none⟩ = some (.func (.func ko) #[] #[]))
    (eo : ∀ args V, (callFunc ko args).run Tryz.prog V = .ok (.enter ko args) V) (ho : ∀ V, Calls Tryz.prog ko #[.pointer (some p)] V fun e V' => e = .returned (.pointer (some ⟨g, j, none⟩)) ∧ V = V') :
    Calls Tryz.prog 135 #[.slice a l.length c, .pointer (some p), .pointer (some ⟨bo, 0, none⟩)] W (RPost w L (fun m W' => CMade_TU w W' g A T j L m) (match l with | [] => none | b :: r => some (b.toNat, r))) := by
  cases l with
  | nil =>
    have C := split_no W a 0 c 1 (by omega) (by omega)
    go_enter Tryz.func135, Tryz.ntmps135
    go_wp2_with fail
    refine C.mono ?_
    rintro e V ⟨rfl, rfl⟩
    go_wp2_with fail
    go_ret2
    exact ⟨rfl, hM.sub⟩
  | cons b r =>
    have C := split_yes (hM.sl hS) 1 (by simp) (by omega)
    have hbb : 0 ≤ b ∧ b ≤ 255 := by have := hS.row.bytes 0; simpa using this
    obtain ⟨n, hn⟩ : ∃ n : Nat, (b : Int) = n := ⟨b.toNat, by omega⟩
    subst hn
    have hSP : ∀ V, Mem w V ((g, .cells A T (0, 0)) :: L) → ∀ a1 k1 a2 k2, (∀ V, Sl V a ((n : Int) :: r) c → Sl V a1 (((n : Int) :: r).take 1) k1 ∧ Sl V a2 (((n : Int) :: r).drop 1) k2) →
        Sl w a2 r k2 ∧ ∃ b0 off, a1 = some ⟨b0, off, none⟩ ∧ ∀ V, Mem w V L → V.cell? ⟨b0, off, none⟩ = some (.int .u8 n) := by
      intro V hM1 a1 k1 a2 k2 hSp
      have hp := (hSp w hS).1
      have hq := (hSp w hS).2
      simp only [List.take_succ_cons, List.take_zero, List.drop_succ_cons, List.drop_zero] at hp hq
      refine ⟨hq, ?_⟩
      rcases hp.row.cells with e | ⟨b0, off, e, hc⟩
      · simp at e
      · refine ⟨b0, off, e, fun V hV => ?_⟩
        have h1 := hc 0 (by simp)
        rw [hV.old (cell_lt h1)]
        simpa using h1
    by_cases h0 : n = 0
    · subst h0
      simp only [Int.cast_ofNat_Int, Int.toNat_zero] at *
      go_enter Tryz.func135, Tryz.ntmps135
      go_wp2_with fail
      refine C.mono ?_
      rintro e V ⟨v1, v2, rfl, ⟨a1, k1, a2, k2, rfl, rfl, hSp⟩, q, rfl⟩
      have hM1 := hM.drewN q
      generalize W.drewN q = V at hM1
      obtain ⟨hq, b0, off, rfl, hc0⟩ := hSP V hM1 _ _ _ _ hSp
      have c0 := hc0 V hM1.sub
      clear hSp hS C hSP hc0
      go_wp2_with fail
      go_ret2
      exact ⟨a2, k2, rfl, hq, Or.inl ⟨rfl, hM1⟩⟩
    · have hpos : (0 : Int) < n := by omega
      have hpos2 : 0 < n := by omega
      simp only [Int.toNat_natCast]
      go_enter Tryz.func135, Tryz.ntmps135
      go_wp2_with fail
      refine C.mono ?_
      rintro e V ⟨v1, v2, rfl, ⟨a1, k1, a2, k2, rfl, rfl, hSp⟩, q, rfl⟩
      have hM1 := hM.drewN q
      generalize W.drewN q = V at hM1
      obtain ⟨hq, b0, off, rfl, hc0⟩ := hSP V hM1 _ _ _ _ hSp
      have c0 := hc0 V hM1.sub
      have hM2 := hM1.drew
      have c1 := hc0 _ hM2.sub
      have c2 := co _ hM2.sub
      have c3 := (hM2.cell 0 rfl j).trans hj
      have f3 := hM2.free 0 rfl j
      have KS : Hid (∀ V, Mem w V L → V.cell? ⟨bo, 0, none⟩ = some (.func (.func ko) #[] #[]) ∧ V.cell? ⟨b0, off, none⟩ = some (.int .u8 n)) := fun V hV => ⟨co V hV, hc0 V hV⟩
      obtain ⟨i0, hi0, hz0, hs0, hby0⟩ := info_parts infoU
      have hmk : ∀ V : World, (Instr.makeSlice 29 (.int .u8 (n : Int)) (.int .u8 (n : Int))).run Tryz.prog V = .ok (.slice (some ⟨V.heap.size, 0, none⟩) n n) (V.alloc (.cells (madeCells (Value.int .u32 0).cells (n * 1)) 22)) := by
        intro V
        have := run_make (P := Tryz.prog) V 29 22 i0 (Value.int .u32 0) Tryz.underlying29 hi0 hz0 .u8 .u8 n n (by omega) (by omega) (by rw [hby0]; omega) (by omega)
        rw [hs0, Int.toNat_natCast] at this
        exact this
      clear hi0 hz0 hs0 hby0
      have hM3 : Mem w (V.drew.alloc (.cells (madeCells (Value.int .u32 0).cells (n * 1)) 22)) ((g, .cells A T (0, 0)) :: (V.heap.size, .cells (madeCells (Value.int .u32 0).cells (n * 1)) 22 (0, 0)) :: L) :=
        (hM2.push V.heap.size _ rfl).perm (by
          refine List.Perm.trans List.perm_append_comm ?_
          exact List.Perm.swap _ _ _)
      have HM4 : Hid (Mem w ((V.drew.alloc (.cells (madeCells (Value.int .u32 0).cells (n * 1)) 22)).setCell ⟨g, j, none⟩ (.slice (some ⟨V.heap.size, 0, none⟩) n n)) ((g, .cells (A.setIfInBounds j (.slice (some ⟨V.heap.size, 0, none⟩) n n)) T (0, 0)) :: (V.heap.size, .cells (madeCells (Value.int .u32 0).cells (n * 1)) 22 (0, 0)) :: L)) := by
        have := hM3.set 0 rfl j (.slice (some ⟨V.heap.size, 0, none⟩) n n)
        exact this
      have c5 := (hM3.cell 0 rfl j).trans hj
      have f5 := hM3.free 0 rfl j
      have c6 : (V.alloc (.cells (madeCells (Value.int .u32 0).cells (n * 1)) 22)).cell? ⟨g, j, none⟩ = some y := c5
      have f6 : (V.alloc (.cells (madeCells (Value.int .u32 0).cells (n * 1)) 22)).frozen? ⟨g, j, none⟩ = false := f5
      have c7 : V.cell? ⟨g, j, none⟩ = some y := c3
      have f7 : V.frozen? ⟨g, j, none⟩ = false := f3
      have hne : g ≠ V.heap.size := by have := cell_lt c7; simp at this; omega
      have hne2 : V.heap.size ≠ g := fun e => hne e.symm
      have HA : Hid (Mem w (V.drew.alloc (.cells (madeCells (Value.int .u32 0).cells (n * 1)) 22)) L) := hM3.sub.sub
      clear hSp hS C hSP hc0 hM hM1 hj co hM2 hM3 h0
      obtain ⟨Y, hY⟩ : ∃ Y, madeCells (Value.int .u32 0).cells (n * 1) = Y := ⟨_, rfl⟩
      rw [hY] at HM4 c5 f5 HA c6 f6
      simp only [hY] at hmk
      have HY : Hid (madeCells (Value.int .u32 0).cells (n * 1) = Y) := hY
      clear hY
      have hmk2 := hmk V.drew
      go_upto_region 3 with fail
      go_region_held3 (fun V => V.cell? ⟨bo, 0, none⟩ = some (.func (.func ko) #[] #[]) ∧ V.cell? ⟨b0, off, none⟩ = some (.int .u8 n)) (first | assumption | exact KS.out _ HA.out | exact KS.out _ HM4.out.sub.sub | go_keep)
        (first | (go_at_fn ko; refine (ho _).mono ?_; rintro e V ⟨rfl, rfl⟩))
      all_goals
        go_wp2_with fail
        go_ret2
        refine ⟨a2, k2, rfl, hq, Or.inr ⟨hpos2, V.heap.size, ?_⟩⟩
        rw [HY.out]
        exact HM4.out
end Go.Proofs.YtngegdamcfmonaaGreat

namespace Go.Proofs.YtngegdamcfmonaaGreat
open Go.RowKit
open Sm
open Cf
set_option linter.unusedVariables false
set_option maxRecDepth 20000

set_option maxHeartbeats 4000000 in
/-- The first 255 of a list. -/
theorem counted_TP (W : World) (a : Option Addr) (n c : Nat) (hc : n ≤ c) (hb : c ≤ 9223372036854775807) (ha : a = none → c = 0) :
    Calls Tryz.prog 138 #[.slice a n c] W fun e W' => e = .returned (.slice a (min n 255) c) ∧ W = W' := by
  by_cases h : n ≤ 255
  · have h1 : (n : Int) ≤ 255 := by omega
    have h2 : ¬ ((255 : Int) < n) := by omega
    have h3 : (n : Int) ≤ c := by omega
    rw [Nat.min_eq_left h]
    cases a with
    | none =>
      obtain rfl : c = 0 := ha rfl
      obtain rfl : n = 0 := by omega
      go_enter Tryz.func138, Tryz.ntmps138
      go_wp2_with fail
      go_ret
      exact ⟨rfl, rfl⟩
    | some ad =>
      go_enter Tryz.func138, Tryz.ntmps138
      go_wp2_with fail
      go_ret
      exact ⟨rfl, rfl⟩
  · have h1 : ¬ ((n : Int) ≤ 255) := by omega
    have h2 : (255 : Int) < n := by omega
    have h3 : (255 : Int) ≤ c := by omega
    rw [Nat.min_eq_right (by omega)]
    cases a with
    | none =>
      obtain rfl : c = 0 := ha rfl
      omega
    | some ad =>
      go_enter Tryz.func138, Tryz.ntmps138
      go_wp2_with fail
      go_ret
      exact ⟨rfl, rfl⟩

set_option maxHeartbeats 4000000 in
theorem cwr_TP {w W : World} {v : Value} {l : List Int} {L : List (Nat × Obj)} (h : Out w W v l L) (bo ko : Nat) (p p' : Addr) (a : Option Addr) (n c : Nat) (hc : n ≤ c) (hcb : c ≤ 9223372036854775807) (ha : a = none → c = 0)
    (co : ∀ V, Mem w V L → V.cell? ⟨bo, 0, none⟩ = some (.func (.func ko) #[] #[]))
    (eo : ∀ args V, (callFunc ko args).run Tryz.prog V = .ok (.enter ko args) V) (ho : ∀ V, Calls Tryz.prog ko #[.pointer (some p)] V fun e V' => e = .returned (.pointer (some p')) ∧ V = V')
    (cx : ∀ V, Mem w V L → V.cell? p' = some (.slice a n c)) (hb : l.length + 1 ≤ 1000000000) :
    Calls Tryz.prog 137 #[v, .pointer (some p), .pointer (some ⟨bo, 0, none⟩)] W fun e W' => ∃ v', e = .returned v' ∧ Out w W' v' (l ++ [((min n 255 : Nat) : Int)]) L := by
  have c2 := co _ h.mem
  have c3 := cx _ h.mem
  have CC := counted_TP W a n c hc hcb ha
  have hk : min n 255 ≤ 255 := Nat.min_le_right _ _
  generalize min n 255 = k at CC hk
  have e1 : IntKind.u8.wrap (k : Int) = k := by rw [wrapu8]; omega
  have e2 : (k : Int) % 256 = k := by omega
  obtain ⟨v1, W1, hr1, hO1⟩ := out_one h (k : Int) (by omega) (by omega) 40
  have HO : Hid (Out w W1 v1 (l ++ [(k : Int)]) L) := hO1
  clear h co cx hO1
  go_enter Tryz.func137, Tryz.ntmps137
  go_wp2_with fail
  refine (ho _).mono ?_
  rintro e V ⟨rfl, rfl⟩
  go_wp2_with fail
  refine CC.mono ?_
  rintro e V ⟨rfl, rfl⟩
  go_wp2_with (at_builtin; refine wpList_append_run (.tmp 6) (.tmp 15) 40 40 (by with_reducible rfl) hr1 rfl rfl (by simp [Act.eval]) (by simp [Act.eval]) ?_)
  go_ret
  exact ⟨_, rfl, HO.out⟩

set_option maxHeartbeats 4000000 in
theorem csm_TP {w W : World} {L : List (Nat × Obj)} (h : Mem w W L) (bo ko : Nat) (p p' q q' : Addr) (a a' : Option Addr) (n n' c c' : Nat)
    (co : ∀ V, Mem w V L → V.cell? ⟨bo, 0, none⟩ = some (.func (.func ko) #[] #[]))
    (eo : ∀ args V, (callFunc ko args).run Tryz.prog V = .ok (.enter ko args) V) (ho : ∀ V, Calls Tryz.prog ko #[.pointer (some p)] V fun e V' => e = .returned (.pointer (some p')) ∧ V = V')
    (hq : ∀ V, Calls Tryz.prog ko #[.pointer (some q)] V fun e V' => e = .returned (.pointer (some q')) ∧ V = V')
    (cx : ∀ V, Mem w V L → V.cell? p' = some (.slice a n c)) (cy : ∀ V, Mem w V L → V.cell? q' = some (.slice a' n' c')) :
    Calls Tryz.prog 140 #[.pointer (some p), .pointer (some q), .pointer (some ⟨bo, 0, none⟩)] W fun e W' => e = .returned (.bool (decide (n = n'))) ∧ Mem w W' L := by
  have HM : Hid (Mem w W.drew L) := h.drew
  have c2 := co _ HM.out
  have c3 := cx _ HM.out
  have c4 := cy _ HM.out
  obtain ⟨D, hD⟩ : ∃ D, decide (n = n') = D := ⟨_, rfl⟩
  have hD2 : ((n : Int) == (n' : Int)) = D := by
    rw [← hD]
    by_cases e : n = n'
    · subst e; simp
    · rw [decide_eq_false e]; simp; omega
  rw [hD]
  clear h co cx cy hD
  go_enter Tryz.func140, Tryz.ntmps140
  go_upto_region 1 with fail
  go_region_held3 (fun V => V.cell? ⟨bo, 0, none⟩ = some (.func (.func ko) #[] #[]) ∧ V.cell? p' = some (.slice a n c) ∧ V.cell? q' = some (.slice a' n' c')) (go_keep)
    (first | (go_at_fn ko; with_reducible refine (ho _).mono ?_; rintro e V ⟨rfl, rfl⟩) | (go_at_fn ko; with_reducible refine (hq _).mono ?_; rintro e V ⟨rfl, rfl⟩))
  go_wp2_with fail
  go_ret
  exact ⟨rfl, HM.out⟩

/-- What a list's length that is read makes: a list of so many noughts, or nothing. -/
def CMade_TP (w W : World) (g : Nat) (A : Array Value) (T : TypeId) (j : Nat) (L : List (Nat × Obj)) (m : Nat) : Prop :=
  (m = 0 ∧ Mem w W ((g, .cells A T (0, 0)) :: L)) ∨ (0 < m ∧ ∃ h, Mem w W ((g, .cells (A.setIfInBounds j (.slice (some ⟨h, 0, none⟩) m m)) T (0, 0)) :: (h, .cells (madeCells (Value.agg #[.int .u32 0, .int .u32 0]).cells (m * 2)) 142 (0, 0)) :: L))

set_option maxHeartbeats 4000000 in
theorem crd_TP {w W : World} {a : Option Addr} {l : List Int} {c : Nat} {L : List (Nat × Obj)} {g : Nat} {A : Array Value} {T : TypeId} (hM : Mem w W ((g, .cells A T (0, 0)) :: L)) (hS : Sl w a l c) (bo ko j : Nat) (p : Addr) (y : Value)
    (hj : A[j]? = some y)
    (co : ∀ V, Mem w V L → V.cell? ⟨bo, 0, none⟩ = some (.func (.func ko) #[] #[]))
    (eo : ∀ args V, (callFunc ko args).run Tryz.prog V = .ok (.enter ko args) V) (ho : ∀ V, Calls Tryz.prog ko #[.pointer (some p)] V fun e V' => e = .returned (.pointer (some ⟨g, j, none⟩)) ∧ V = V') :
    Calls Tryz.prog 139 #[.slice a l.length c, .pointer (some p), .pointer (some ⟨bo, 0, none⟩)] W (RPost w L (fun m W' => CMade_TP w W' g A T j L m) (match l with | [] => none | b :: r => some (b.toNat, r))) := by
  cases l with
  | nil =>
    have C := split_no W a 0 c 1 (by omega) (by omega)
    go_enter Tryz.func139, Tryz.ntmps139
    go_wp2_with fail
    refine C.mono ?_
    rintro e V ⟨rfl, rfl⟩
    go_wp2_with fail
    go_ret2
    exact ⟨rfl, hM.sub⟩
  | cons b r =>
    have C := split_yes (hM.sl hS) 1 (by simp) (by omega)
    have hbb : 0 ≤ b ∧ b ≤ 255 := by have := hS.row.bytes 0; simpa using this
    obtain ⟨n, hn⟩ : ∃ n : Nat, (b : Int) = n := ⟨b.toNat, by omega⟩
    subst hn
    have hSP : ∀ V, Mem w V ((g, .cells A T (0, 0)) :: L) → ∀ a1 k1 a2 k2, (∀ V, Sl V a ((n : Int) :: r) c → Sl V a1 (((n : Int) :: r).take 1) k1 ∧ Sl V a2 (((n : Int) :: r).drop 1) k2) →
        Sl w a2 r k2 ∧ ∃ b0 off, a1 = some ⟨b0, off, none⟩ ∧ ∀ V, Mem w V L → V.cell? ⟨b0, off, none⟩ = some (.int .u8 n) := by
      intro V hM1 a1 k1 a2 k2 hSp
      have hp := (hSp w hS).1
      have hq := (hSp w hS).2
      simp only [List.take_succ_cons, List.take_zero, List.drop_succ_cons, List.drop_zero] at hp hq
      refine ⟨hq, ?_⟩
      rcases hp.row.cells with e | ⟨b0, off, e, hc⟩
      · simp at e
      · refine ⟨b0, off, e, fun V hV => ?_⟩
        have h1 := hc 0 (by simp)
        rw [hV.old (cell_lt h1)]
        simpa using h1
    by_cases h0 : n = 0
    · subst h0
      simp only [Int.cast_ofNat_Int, Int.toNat_zero] at *
      go_enter Tryz.func139, Tryz.ntmps139
      go_wp2_with fail
      refine C.mono ?_
      rintro e V ⟨v1, v2, rfl, ⟨a1, k1, a2, k2, rfl, rfl, hSp⟩, q, rfl⟩
      have hM1 := hM.drewN q
      generalize W.drewN q = V at hM1
      obtain ⟨hq, b0, off, rfl, hc0⟩ := hSP V hM1 _ _ _ _ hSp
      have c0 := hc0 V hM1.sub
      clear hSp hS C hSP hc0
      go_wp2_with fail
      go_ret2
      exact ⟨a2, k2, rfl, hq, Or.inl ⟨rfl, hM1⟩⟩
    · have hpos : (0 : Int) < n := by omega
      have hpos2 : 0 < n := by omega
      simp only [Int.toNat_natCast]
      go_enter Tryz.func139, Tryz.ntmps139
      go_wp2_with fail
      refine C.mono ?_
      rintro e V ⟨v1, v2, rfl, ⟨a1, k1, a2, k2, rfl, rfl, hSp⟩, q, rfl⟩
      have hM1 := hM.drewN q
      generalize W.drewN q = V at hM1
      obtain ⟨hq, b0, off, rfl, hc0⟩ := hSP V hM1 _ _ _ _ hSp
      have c0 := hc0 V hM1.sub
      have hM2 := hM1.drew
      have c1 := hc0 _ hM2.sub
      have c2 := co _ hM2.sub
      have c3 := (hM2.cell 0 rfl j).trans hj
      have f3 := hM2.free 0 rfl j
      have KS : Hid (∀ V, Mem w V L → V.cell? ⟨bo, 0, none⟩ = some (.func (.func ko) #[] #[]) ∧ V.cell? ⟨b0, off, none⟩ = some (.int .u8 n)) := fun V hV => ⟨co V hV, hc0 V hV⟩
      obtain ⟨i0, hi0, hz0, hs0, hby0⟩ := info_parts infoP
      have hmk : ∀ V : World, (Instr.makeSlice 31 (.int .u8 (n : Int)) (.int .u8 (n : Int))).run Tryz.prog V = .ok (.slice (some ⟨V.heap.size, 0, none⟩) n n) (V.alloc (.cells (madeCells (Value.agg #[.int .u32 0, .int .u32 0]).cells (n * 2)) 142)) := by
        intro V
        have := run_make (P := Tryz.prog) V 31 142 i0 (Value.agg #[.int .u32 0, .int .u32 0]) Tryz.underlying31 hi0 hz0 .u8 .u8 n n (by omega) (by omega) (by rw [hby0]; omega) (by omega)
        rw [hs0, Int.toNat_natCast] at this
        exact this
      clear hi0 hz0 hs0 hby0
      have hM3 : Mem w (V.drew.alloc (.cells (madeCells (Value.agg #[.int .u32 0, .int .u32 0]).cells (n * 2)) 142)) ((g, .cells A T (0, 0)) :: (V.heap.size, .cells (madeCells (Value.agg #[.int .u32 0, .int .u32 0]).cells (n * 2)) 142 (0, 0)) :: L) :=
        (hM2.push V.heap.size _ rfl).perm (by
          refine List.Perm.trans List.perm_append_comm ?_
          exact List.Perm.swap _ _ _)
      have HM4 : Hid (Mem w ((V.drew.alloc (.cells (madeCells (Value.agg #[.int .u32 0, .int .u32 0]).cells (n * 2)) 142)).setCell ⟨g, j, none⟩ (.slice (some ⟨V.heap.size, 0, none⟩) n n)) ((g, .cells (A.setIfInBounds j (.slice (some ⟨V.heap.size, 0, none⟩) n n)) T (0, 0)) :: (V.heap.size, .cells (madeCells (Value.agg #[.int .u32 0, .int .u32 0]).cells (n * 2)) 142 (0, 0)) :: L)) := by
        have := hM3.set 0 rfl j (.slice (some ⟨V.heap.size, 0, none⟩) n n)
        exact this
      have c5 := (hM3.cell 0 rfl j).trans hj
      have f5 := hM3.free 0 rfl j
      have c6 : (V.alloc (.cells (madeCells (Value.agg #[.int .u32 0, .int .u32 0]).cells (n * 2)) 142)).cell? ⟨g, j, none⟩ = some y := c5
      have f6 : (V.alloc (.cells (madeCells (Value.agg #[.int .u32 0, .int .u32 0]).cells (n * 2)) 142)).frozen? ⟨g, j, none⟩ = false := f5
      have c7 : V.cell? ⟨g, j, none⟩ = some y := c3
      have f7 : V.frozen? ⟨g, j, none⟩ = false := f3
      have hne : g ≠ V.heap.size := by have := cell_lt c7; simp at this; omega
      have hne2 : V.heap.size ≠ g := fun e => hne e.symm
      have HA : Hid (Mem w (V.drew.alloc (.cells (madeCells (Value.agg #[.int .u32 0, .int .u32 0]).cells (n * 2)) 142)) L) := hM3.sub.sub
      clear hSp hS C hSP hc0 hM hM1 hj co hM2 hM3 h0
      obtain ⟨Y, hY⟩ : ∃ Y, madeCells (Value.agg #[.int .u32 0, .int .u32 0]).cells (n * 2) = Y := ⟨_, rfl⟩
      rw [hY] at HM4 c5 f5 HA c6 f6
      simp only [hY] at hmk
      have HY : Hid (madeCells (Value.agg #[.int .u32 0, .int .u32 0]).cells (n * 2) = Y) := hY
      clear hY
      have hmk2 := hmk V.drew
      go_upto_region 3 with fail
      go_region_held3 (fun V => V.cell? ⟨bo, 0, none⟩ = some (.func (.func ko) #[] #[]) ∧ V.cell? ⟨b0, off, none⟩ = some (.int .u8 n)) (first | assumption | exact KS.out _ HA.out | exact KS.out _ HM4.out.sub.sub | go_keep)
        (first | (go_at_fn ko; refine (ho _).mono ?_; rintro e V ⟨rfl, rfl⟩))
      all_goals
        go_wp2_with fail
        go_ret2
        refine ⟨a2, k2, rfl, hq, Or.inr ⟨hpos2, V.heap.size, ?_⟩⟩
        rw [HY.out]
        exact HM4.out
end Go.Proofs.YtngegdamcfmonaaGreat

