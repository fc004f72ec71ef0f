/-
  Wheel, the program's own: open: a slot emptied, what is due told, the rest laid lower.
-/
import Derived.Test.YtfplmefcblkljaaWpNew
import Derived.LoopN
namespace Go.Proofs.Ytfplmefcblkljaa
open Go.RowKit
open Sm
open Po
open Wh
set_option linter.unusedVariables false
set_option linter.unusedSimpArgs false
set_option maxRecDepth 20000

namespace Wp
/-- Where each lies once these of a slot have been gone through. -/
def opv (A : Int → Option Int) (F : Int → Option Nat) (n i : Nat) (vis : List Int) : Int → Option Nat := fun k =>
  if F k = some i then (if k ∈ vis then (match A k with | none => none | some t => if t.toNat ≤ n then none else some (pl t.toNat n)) else none) else F k
theorem opv_nil (A : Int → Option Int) (F : Int → Option Nat) (n i : Nat) : opv A F n i [] = clr F i := by
  funext k
  unfold opv clr
  simp
theorem opv_all (A : Int → Option Int) (F : Int → Option Nat) (n i : Nat) {vis : List Int} (h : ∀ k, k ∈ vis ↔ F k = some i) : opv A F n i vis = opn A F n i := by
  funext k
  unfold opv opn
  by_cases hk : F k = some i
  · rw [if_pos hk, if_pos ((h k).2 hk), if_pos hk]
    cases A k <;> rfl
  · rw [if_neg hk, if_neg hk]
theorem opv_due {A : Int → Option Int} {F : Int → Option Nat} {n i : Nat} {vis : List Int} {k t : Int} (hk : k ∉ vis) (hA : A k = some t) (ht : t.toNat ≤ n) : opv A F n i (vis ++ [k]) = opv A F n i vis := by
  funext q
  unfold opv
  by_cases hq : q = k
  · subst hq
    simp [hk, hA, ht]
  · simp [hq]
theorem opv_put {A : Int → Option Int} {F : Int → Option Nat} {n i : Nat} {vis : List Int} {k t : Int} (hF : F k = some i) (hk : k ∉ vis) (hA : A k = some t) (ht : ¬ t.toNat ≤ n) : upd (opv A F n i vis) k (some (pl t.toNat n)) = opv A F n i (vis ++ [k]) := by
  funext q
  by_cases hq : q = k
  · subst hq
    rw [upd_at]
    unfold opv
    simp [hF, hA, ht]
  · rw [upd_off _ _ hq]
    unfold opv
    simp [hq]
theorem opv_none {A : Int → Option Int} {F : Int → Option Nat} {n i : Nat} {vis : List Int} {k : Int} (hF : F k = some i) (hk : k ∉ vis) : opv A F n i vis k = none := by
  unfold opv
  simp [hF, hk]
/-- What of these is due. -/
def due1 (A : Int → Option Int) (n : Nat) (k : Int) : Option Du := match A k with | none => none | some t => if t.toNat ≤ n then some (k, t) else none
theorem due1_yes {A : Int → Option Int} {n : Nat} {k t : Int} (hA : A k = some t) (ht : t.toNat ≤ n) : due1 A n k = some (k, t) := by
  unfold due1
  rw [hA]
  exact if_pos ht
theorem due1_no {A : Int → Option Int} {n : Nat} {k t : Int} (hA : A k = some t) (ht : ¬ t.toNat ≤ n) : due1 A n k = none := by
  unfold due1
  rw [hA]
  exact if_neg ht
def dues (A : Int → Option Int) (n : Nat) (vis : List Int) : List Du := vis.filterMap (due1 A n)
theorem dues_len (A : Int → Option Int) (n : Nat) (vis : List Int) : (dues A n vis).length ≤ vis.length := List.length_filterMap_le _ _
theorem dues_yes {A : Int → Option Int} {n : Nat} {vis : List Int} {k t : Int} (hA : A k = some t) (ht : t.toNat ≤ n) : dues A n (vis ++ [k]) = dues A n vis ++ [(k, t)] := by
  unfold dues
  rw [List.filterMap_append, List.filterMap_cons, due1_yes hA ht, List.filterMap_nil]
theorem dues_no {A : Int → Option Int} {n : Nat} {vis : List Int} {k t : Int} (hA : A k = some t) (ht : ¬ t.toNat ≤ n) : dues A n (vis ++ [k]) = dues A n vis := by
  unfold dues
  rw [List.filterMap_append, List.filterMap_cons, due1_no hA ht, List.filterMap_nil, List.append_nil]
theorem dues_mem {A : Int → Option Int} {n : Nat} {vis : List Int} {d : Du} : d ∈ dues A n vis ↔ d.1 ∈ vis ∧ A d.1 = some d.2 ∧ d.2.toNat ≤ n := by
  unfold dues
  rw [List.mem_filterMap]
  constructor
  · rintro ⟨k, hk, h⟩
    unfold due1 at h
    cases hA : A k with
    | none => rw [hA] at h; cases h
    | some t =>
      rw [hA] at h
      simp only at h
      split at h
      · obtain rfl := Option.some.inj h
        exact ⟨hk, hA, by assumption⟩
      · cases h
  · rintro ⟨h1, h2, h3⟩
    exact ⟨d.1, h1, due1_yes h2 h3⟩
theorem dues_nodup {A : Int → Option Int} {n : Nat} : ∀ {vis : List Int}, vis.Nodup → (dues A n vis).Nodup
  | [], _ => List.nodup_nil
  | k :: vis, h => by
    obtain ⟨h1, h2⟩ := List.nodup_cons.1 h
    have ih := dues_nodup (A := A) (n := n) h2
    have hd : dues A n (k :: vis) = dues A n ([k]) ++ dues A n vis := by
      unfold dues
      rw [← List.filterMap_append]
      rfl
    rw [hd, List.nodup_append]
    refine ⟨?_, ih, fun x hx y hy e => ?_⟩
    · unfold dues
      rw [List.filterMap_cons]
      cases due1 A n k <;> simp
    · have a := (dues_mem.1 hx).1
      have b := (dues_mem.1 hy).1
      simp at a
      rw [e] at a
      exact h1 (a ▸ b)
variable {now : Int} {A : Int → Option Int} {F : Int → Option Nat} {p mb : Nat} {w V : World} {L : List (Nat × Obj)}
theorem WSt.few (h : WSt now A F p mb w V L) {vis : List Int} (hn : vis.Nodup) (hv : ∀ k ∈ vis, A k ≠ none) : vis.length ≤ 2000 := by
  obtain ⟨C, es, clock, sl, hS, hM⟩ := h
  obtain ⟨l, h1, h2⟩ := hS.dom
  exact Nat.le_trans (nodup_len' hn fun k hk => h2 k (hv k hk)) h1
/-- One block of the rest turned. -/
theorem WSt.turnb {b : Nat} {o : Obj} (o' : Obj) (h : WSt now A F p mb w V ((b, o) :: L)) : WSt now A F p mb w (Go.ChangeMaps.setBlock V b o') ((b, o') :: L) := by
  obtain ⟨B, hM, hB⟩ := h.rest
  exact hB _ _ (mem_blk (o' := o') hM)
theorem WSt.get (h : WSt now A F p mb w V L) (j : Nat) {g : Nat} {o : Obj} (hj : L[j]? = some (g, o)) : V.heap[g]? = some o := by
  obtain ⟨B, hM, -⟩ := h.rest
  refine hM.get j (by rw [List.getElem?_append_left (List.getElem?_eq_some_iff.mp hj).1]; exact hj)
theorem WSt.push (h : WSt now A F p mb w V L) {g : Nat} (o : Obj) (hg : V.heap.size = g) : WSt now A F p mb w (V.alloc o) ((g, o) :: L) := by
  obtain ⟨B, hM, hB⟩ := h.rest
  exact hB _ _ ((hM.push g o hg.symm).perm List.perm_append_comm)
theorem WSt.sub {q : Nat × Obj} (h : WSt now A F p mb w V (q :: L)) : WSt now A F p mb w V L := by
  obtain ⟨B, hM, hB⟩ := h.rest
  exact hB _ _ hM.sub
/-- The loop's state. -/
def LpQ (now : Int) (A : Int → Option Int) (F : Int → Option Nat) (p mb : Nat) (w : World) (L : List (Nat × Obj)) (b r : Nat) (es0 : Array MapEntry) (clock0 i : Nat) (u : Value) (wr : World) (vis : List Int) (seen : Array Nat) (c0 : Nat) : Prop :=
  Itr es0 seen vis ∧ clock0 ≤ c0 ∧ ∃ D, SlB 64 2 u (dues A now.toNat vis).length (ex (dues A now.toNat vis)).flatten D ∧ WSt now A (opv A F now.toNat i vis) p mb w wr ((r, .mapIter (some b) clock0 seen c0) :: (b, .map es0 clock0) :: (D ++ L))
def OpQ (now : Int) (A : Int → Option Int) (F : Int → Option Nat) (p mb : Nat) (w : World) (L : List (Nat × Obj)) (i : Nat) (e : Ending) (V' : World) : Prop :=
  ∃ v vis D, e = .returned v ∧ vis.Nodup ∧ (∀ k, k ∈ vis ↔ F k = some i) ∧ SlB 64 2 v (dues A now.toNat vis).length (ex (dues A now.toNat vis)).flatten D ∧ WSt now A (opn A F now.toNat i) p mb w V' (D ++ L)
theorem lp_left {L' : List (Nat × Obj)} {b r : Nat} {es0 : Array MapEntry} {clock0 cc : Nat} {seen : Array Nat} (h : WSt now A F p mb w V ((r, .mapIter (some b) clock0 seen cc) :: (b, .map es0 clock0) :: L')) : V.rangeLeft b r = (leftOf es0 seen).size := by
  simp only [World.rangeLeft, h.get 1 rfl, h.get 0 rfl]
theorem infoOne : (Try.prog.info? 64).map (fun i => (i.zero, i.size, i.bytes)) = some (some (.agg #[.int .u32 0, .int .i64 0]), 2, 16) := by kernel_rfl
theorem bsl_one (k t : Int) (X : World) : (Instr.buildSlice 60 1 #[(0, .agg #[.int .u32 t, .int .i64 k])]).run Try.prog X = .ok (.slice (some ⟨X.heap.size, 0, none⟩) 1 1) (X.alloc (.cells #[.int .u32 t, .int .i64 k] 64)) := by kernel_rfl
theorem range_map {X : World} {b : Nat} {es : Array MapEntry} {clock : Nat} (hb : X.heap[b]? = some (.map es clock)) : (Instr.range 52 (.map (some b))).run Try.prog X = .ok (.pointer (some ⟨X.heap.size, 0, none⟩)) (X.alloc (.mapIter (some b) clock #[] clock)) := run_range_map X 52 3 _ b es clock Try.underlying52 hb
theorem range_nil (X : World) : (Instr.range 52 (.map none)).run Try.prog X = .ok (.pointer (some ⟨X.heap.size, 0, none⟩)) (X.alloc (.mapIter none 0 #[] 0)) := by kernel_rfl
theorem next_nil {X : World} {r : Nat} (h : X.heap[r]? = some (.mapIter none 0 #[] 0)) : (Instr.next (.pointer (some ⟨r, 0, none⟩)) false 0).run Try.prog X = .ok (.tuple #[.bool false]) X := by
  simp only [Instr.next, getObj, Sem.run_bind, Sem.run, h, Result.andThen]
  rfl
set_option maxHeartbeats 8000000 in
theorem open_any (h : WSt now A F p mb w V L) {l : Nat} (hl : l ≤ 7) : Calls Try.prog 23 #[.pointer (some ⟨p, 0, none⟩), .int .i64 l] V (OpQ now A F p mb w L (slo now.toNat l)) := by
  obtain ⟨c0, c1, n0, n1⟩ := h.keep
  have C1 := slotOf_any now ⟨n0, n1⟩ l hl V
  have hil : slo now.toNat l < 128 := slo_lt hl
  generalize slo now.toNat l = i at *
  obtain ⟨C, es, clock, sl, hS, hM⟩ := h
  have hi0 : (0 : Int) ≤ (i : Int) := by omega
  have hi1 : (i : Int) < 128 := by omega
  have hci := hS.cs i hil
  have k1 : V.cell? ⟨p, 2 + i, none⟩ = some (.map ((sl i).map (·.1))) := by rw [hM.cell 0 rfl, Nat.add_comm 2 i]; exact hci
  have k2 : V.frozen? ⟨p, 2 + i, none⟩ = false := hM.free 0 rfl _
  have hM2 := hM.set 0 rfl (2 + i) (.map none)
  have hS2 := hS.clear hil
  rw [Nat.add_comm i 2] at hS2
  obtain ⟨L0, hL0⟩ : ∃ L0 : Int, (l : Int) = L0 := ⟨_, rfl⟩
  rw [hL0] at C1 ⊢
  clear hL0
  cases hsl : sl i with
  | none =>
    rw [hsl] at k1
    simp only [Option.map_none] at k1
    have hno := (hS.slots i hil).1 hsl
    have HW0 : Hid (WSt now A (opn A F now.toNat i) p mb w (V.setCell ⟨p, 2 + i, none⟩ (.map none)) L) := by
      have e1 : opn A F now.toNat i = clr F i := by
        funext k
        unfold opn clr
        rw [if_neg (hno k), if_neg (hno k)]
      rw [e1]
      refine ⟨_, es, clock, _, hS2, ?_⟩
      rw [blk_none hsl]
      exact hM2
    have HE : Hid (∀ k, k ∈ ([] : List Int) ↔ F k = some i) := fun k => ⟨fun h => (by cases h), fun h => absurd h (hno k)⟩
    clear hS hM hS2 hM2 hci hsl hno
    go_enter Try.func23, Try.ntmps23
    go_wp2_with fail
    with_reducible refine C1.mono ?_
    rintro e w1 ⟨rfl, rfl⟩
    go_upto_region 4 with fail
    refine wp_letter (fun X => WSt now A (opn A F now.toNat i) p mb w X L) (by exact HW0.out) ?_
    intro V0 hV0
    clear HW0 C1 k1 k2
    obtain ⟨r, hr⟩ : ∃ r, V0.heap.size = r := ⟨_, rfl⟩
    have hrg := range_nil V0
    rw [hr] at hrg
    have HZ : Hid (WSt now A (opn A F now.toNat i) p mb w (V0.alloc (.mapIter none 0 #[] 0)) L) := (hV0.push _ hr).sub
    have hnx := next_nil (X := V0.alloc (.mapIter none 0 #[] 0)) ((hV0.push _ hr).get 0 rfl)
    clear hV0
    go_wp2_with fail
    refine wp_loop_rounds 1 ?_
    rw [rounds_succ]
    go_wp2_with fail
    go_ret
    exact ⟨_, [], [], rfl, List.nodup_nil, HE.out, SlB.nil _ _, HZ.out⟩
  | some x =>
    obtain ⟨b, es0, clock0⟩ := x
    rw [hsl] at k1
    simp only [Option.map_some] at k1
    have HMI : Hid (MI (mrk F i) es0 clock0) := (hS.slots i hil).2 _ hsl
    have HW0 : Hid (WSt now A (clr F i) p mb w (V.setCell ⟨p, 2 + i, none⟩ (.map none)) ((b, .map es0 clock0) :: L)) := by
      refine ⟨_, es, clock, _, hS2, ?_⟩
      have h3 : Mem w (V.setCell ⟨p, 2 + i, none⟩ (.map none)) ((p, .cells (C.setIfInBounds (2 + i) (.map none)) 55 (0, 0)) :: (mb, .map es clock) :: (blk sl ++ L)) := hM2
      refine h3.perm (((?_ : List.Perm _ _).cons _).cons _)
      refine ((blk_some hil hsl).append_right L).trans ?_
      exact List.perm_middle.symm
    have HA : Hid (∀ k, F k ≠ none → A k ≠ none) := hS.inA
    have HV : Hid (∀ k t, A k = some t → 0 ≤ t ∧ t ≤ 4294967295) := hS.vals
    clear hS hM hS2 hM2 hci hsl
    go_enter Try.func23, Try.ntmps23
    go_wp2_with fail
    with_reducible refine C1.mono ?_
    rintro e w1 ⟨rfl, rfl⟩
    go_upto_region 4 with fail
    refine wp_letter (fun X => WSt now A (clr F i) p mb w X ((b, .map es0 clock0) :: L)) (by exact HW0.out) ?_
    intro V0 hV0
    clear HW0 C1 k1 k2
    obtain ⟨r, hr⟩ : ∃ r, V0.heap.size = r := ⟨_, rfl⟩
    have hrg := range_map (hV0.get 0 rfl)
    rw [hr] at hrg
    have HL0 : Hid (LpQ now A F p mb w L b r es0 clock0 i (.slice none 0 0) (V0.alloc (.mapIter (some b) clock0 #[] clock0)) [] #[] clock0) := by
      refine ⟨Itr.nil es0, Nat.le_refl _, [], SlB.nil _ _, ?_⟩
      rw [opv_nil]
      exact hV0.push _ hr
    clear hV0
    go_wp2_with fail
    go_loopw [7] (fun u7 wr => ∃ (vis : List Int) (seen : Array Nat) (cc : Nat), LpQ now A F p mb w L b r es0 clock0 i u7 wr vis seen cc) (fun _ wr => wr.rangeLeft b r)
    case atStart => exact ⟨[], #[], clock0, HL0.out⟩
    case round =>
      obtain ⟨vis, seen, cc, HR⟩ := hrel
      clear HL0 hrg
      obtain ⟨hI, hcc, D, hD, hW⟩ := HR
      have hn := hI.next HMI.out (ty := 0) (hW.get 0 rfl) (hW.get 1 rfl) rfl hcc
      have hms := lp_left hW
      obtain ⟨ua, uc, rfl, q1, q2⟩ := hD.slice
      rcases hn with ⟨hall, hrun⟩ | ⟨k, v, w1, seen', hk, hv, hno, hw1, hI', hlt, hrun, hent⟩
      · have HE : Hid (OpQ now A F p mb w L i (.returned (.slice ua (dues A now.toNat vis).length uc)) wr) := by
          have hs : ∀ k, k ∈ vis ↔ F k = some i := fun k => by
            rw [← hall k]
            unfold mrk
            by_cases e : F k = some i
            · rw [if_pos e]; simp [e]
            · rw [if_neg e]; simp [e]
          refine ⟨_, vis, D, rfl, hI.nodup, hs, hD, ?_⟩
          rw [opv_all A F now.toNat i hs] at hW
          exact hW.sub.sub
        generalize (dues A now.toNat vis).length = nd at *
        clear hI hD hW hall hms HMI HA HV
        go_wp2_with fail
        go_ret
        exact HE.out
      · have hF : F k = some i := by
          unfold mrk at hv
          split at hv
          · assumption
          · cases hv
        obtain rfl : unit = v := by
          unfold mrk at hv
          rw [if_pos hF] at hv
          exact Option.some.inj hv
        obtain ⟨t, hA⟩ := Option.ne_none_iff_exists'.1 (HA.out k (by rw [hF]; simp))
        have ht := HV.out k t hA
        have hW1 : WSt now A (opv A F now.toNat i vis) p mb w w1 ((r, .mapIter (some b) clock0 seen cc) :: (b, .map es0 clock0) :: (D ++ L)) := by
          rcases hw1 with rfl | rfl
          · exact hW
          · exact hW.drew
        have hX := hW1.turnb (.mapIter (some b) clock0 seen' clock0)
        generalize Go.ChangeMaps.setBlock w1 r (.mapIter (some b) clock0 seen' clock0) = X at hrun hX
        have hen := hent X (hX.get 0 rfl) (hX.get 1 rfl)
        have hlk := hX.look1 hk
        rw [hA, Option.getD_some] at hlk
        obtain ⟨d0, d1, -, -⟩ := hX.keep
        have hvl := hX.few (vis := vis ++ [k]) hI'.nodup (fun q hq => by
          rcases List.mem_append.1 hq with hq | hq
          · obtain ⟨e, he, hke, -⟩ := hI.came q hq
            have := HMI.out.at_ he hke
            refine HA.out q fun e1 => ?_
            unfold mrk at this
            rw [e1] at this
            cases this
          · simp at hq
            rw [hq, hA]
            simp)
        have hdl := dues_len A now.toNat vis
        rw [List.length_append] at hvl
        unfold kv unit at hrun hen
        clear hent hW hW1 hw1 hv
        by_cases hd : t ≤ now
        · have hdn : t.toNat ≤ now.toNat := by omega
          have hdd : decide (t ≤ now) = true := decide_eq_true hd
          obtain ⟨g, hg⟩ : ∃ g, X.heap.size = g := ⟨_, rfl⟩
          have hbs := bsl_one k t X
          rw [hg] at hbs
          obtain ⟨B, hB, hback⟩ := hX.rest
          have hB1 := hB.perm (show List.Perm _ (D ++ (((r, .mapIter (some b) clock0 seen' clock0) :: (b, .map es0 clock0) :: L) ++ B)) by
            classical
            rw [List.perm_iff_count]
            intro q
            simp only [List.count_append, List.count_cons]
            omega)
          have hA1 := hB1.after ((Below.refl _ _).alloc (Nat.le_refl _) (.cells #[.int .u32 t, .int .i64 k] 64))
          obtain ⟨v', V2, D', hap, hM2, hD2⟩ := slb_append (ty := 60) (V := X.alloc (.cells #[.int .u32 t, .int .i64 k] 64)) Try.underlying60 infoOne (by kernel_rfl) (by decide) hD hA1 ⟨g, 0, none⟩ 1 1 [.int .u32 t, .int .i64 k] rfl (fun j u hj => by
            subst hg
            match j, hj with
            | 0, hj => simp at hj; subst hj; simp [Addr.add, World.cell?_alloc_new]
            | 1, hj => simp at hj; subst hj; simp [Addr.add, World.cell?_alloc_new]
            | j + 2, hj => simp at hj) (by intro u hu; simp at hu; rcases hu with rfl | rfl <;> rfl) (by simp only [maxLen]; omega) (by omega)
          have hL2 : LpQ now A F p mb w L b r es0 clock0 i v' V2 (vis ++ [k]) seen' clock0 := by
            refine ⟨hI', Nat.le_refl _, D', ?_, ?_⟩
            · rw [dues_yes hA hdn, List.length_append, ef_app]
              exact hD2
            · rw [opv_due hno hA hdn]
              refine hback _ _ (hM2.perm ?_)
              classical
              rw [List.perm_iff_count]
              intro q
              simp only [List.count_append, List.count_cons]
              omega
          obtain ⟨va, vc, rfl, -, -⟩ := hD2.slice
          have HL2 : Hid (LpQ now A F p mb w L b r es0 clock0 i (.slice va ((dues A now.toNat vis).length + 1) vc) V2 (vis ++ [k]) seen' clock0) := hL2
          have hm2 := lp_left hL2.2.2.choose_spec.2
          generalize (dues A now.toNat vis).length = nd at *
          clear hI hD hI' hX hB hB1 hA1 hM2 hD2 hback hL2
          go_wp2_with (first | (refine wpList_append_run (.tmp 45) (.tmp 49) 60 60 rfl hap rfl (by rfl) (by simp [Act.eval]) (by simp [Act.eval]) ?_) | fail)
          exact ⟨⟨_, _, _, HL2.out⟩, by rw [hm2, hms]; exact hlt⟩
        · have hdn : ¬ t.toNat ≤ now.toNat := by omega
          have hdd : decide (t ≤ now) = false := decide_eq_false hd
          obtain ⟨j, hj⟩ : ∃ j, pl t.toNat now.toNat = j := ⟨_, rfl⟩
          have hjl : j < 128 := by rw [← hj]; exact pl_lt (by omega) (by omega)
          have hj0 : (0 : Int) ≤ (j : Int) := by omega
          have hj1 : (j : Int) < 128 := by omega
          have C1 := fun X => placeOf_any t now ht ⟨n0, n1⟩ X
          rw [hj] at C1
          have HC2 : Hid (∀ Y, WSt now A (opv A F now.toNat i vis) p mb w Y ((r, .mapIter (some b) clock0 seen' clock0) :: (b, .map es0 clock0) :: (D ++ L)) → Calls Try.prog 21 #[.pointer (some ⟨p, 2 + j, none⟩), .int .i64 k] Y fun e V' => e = .returned (.tuple #[]) ∧ WSt now A (opv A F now.toNat i (vis ++ [k])) p mb w V' ((r, .mapIter (some b) clock0 seen' clock0) :: (b, .map es0 clock0) :: (D ++ L))) := fun Y hY => by
            rw [Nat.add_comm 2 j]
            have := put_any hY hjl (k := k) (by rw [hA]; simp) (Or.inl (opv_none hF hno))
            rwa [← hj, opv_put hF hno hA hdn, hj] at this
          have HW : Hid (WSt now A (opv A F now.toNat i vis) p mb w X ((r, .mapIter (some b) clock0 seen' clock0) :: (b, .map es0 clock0) :: (D ++ L))) := hX
          have HI : Hid (Itr es0 seen' (vis ++ [k]) ∧ SlB 64 2 (.slice ua (dues A now.toNat (vis ++ [k])).length uc) (dues A now.toNat (vis ++ [k])).length (ex (dues A now.toNat (vis ++ [k]))).flatten D) := by
            refine ⟨hI', ?_⟩
            rw [dues_no hA hdn]
            exact hD
          have hdq : dues A now.toNat vis = dues A now.toNat (vis ++ [k]) := (dues_no hA hdn).symm
          obtain ⟨nd, hnd⟩ : ∃ nd, (dues A now.toNat (vis ++ [k])).length = nd := ⟨_, rfl⟩
          have HN : Hid ((dues A now.toNat (vis ++ [k])).length = nd) := hnd
          rw [hdq, hnd]
          clear hI hD hI' hX hj hjl hdq hdl hnd
          go_upto_region 11 with fail
          refine wp_region_held_drew (S := (fun X => X.cell? ⟨p, 0, none⟩ = some (.int .u32 now))) (by kernel_rfl) HW.out.drew.keep.1 (fun hHeld => ?_)
          refine wpAnyH_take (i := 0) (v := ?_) rfl (by kernel_rfl) (by kernel_rfl) (by kernel_rfl) (fun _ _ _ h => h) (Or.inl ⟨by rfl, ?z1⟩) (by assumption) ?_
          case z1 =>
           intro w hSw
           (try dsimp only at hSw)
           go_simp
           all_goals with_reducible rfl
          try simp only [List.getElem_toArray, List.getElem_cons_zero, List.getElem_cons_succ, Act.put, List.setIfInBounds_toArray, List.set_cons_zero, List.set_cons_succ]
          refine wpAnyH_take (i := 1) (v := ?_) rfl (by kernel_rfl) (by kernel_rfl) (by kernel_rfl) (fun _ _ _ h => h) (Or.inl ⟨by rfl, ?z2⟩) (by assumption) ?_
          case z2 =>
           intro w hSw
           (try dsimp only at hSw)
           go_simp
           all_goals with_reducible rfl
          try simp only [List.getElem_toArray, List.getElem_cons_zero, List.getElem_cons_succ, Act.put, List.setIfInBounds_toArray, List.set_cons_zero, List.set_cons_succ]
          refine wpAnyH_take (i := 2) (v := ?_) rfl (by kernel_rfl) (by kernel_rfl) (by kernel_rfl) (fun _ _ _ h => h) (Or.inl ⟨by rfl, ?z3⟩) (by assumption) ?_
          case z3 =>
           intro w hSw
           (try dsimp only at hSw)
           go_simp
           all_goals with_reducible rfl
          try simp only [List.getElem_toArray, List.getElem_cons_zero, List.getElem_cons_succ, Act.put, List.setIfInBounds_toArray, List.set_cons_zero, List.set_cons_succ]
          refine wpAnyH_take (i := 10) (v := ?_) rfl (by kernel_rfl) (by kernel_rfl) (by kernel_rfl) (fun _ _ _ h => h) (Or.inl ⟨by rfl, ?z4⟩) (by assumption) ?_
          case z4 =>
           intro w hSw
           (try dsimp only at hSw)
           go_simp
           all_goals with_reducible rfl
          try simp only [List.getElem_toArray, List.getElem_cons_zero, List.getElem_cons_succ, Act.put, List.setIfInBounds_toArray, List.set_cons_zero, List.set_cons_succ]
          refine wpAnyH_take (i := 3) (v := ?_) rfl (by kernel_rfl) (by kernel_rfl) (by kernel_rfl) (fun _ _ _ h => h) (Or.inl ⟨by rfl, ?z5⟩) (by assumption) ?_
          case z5 =>
           intro w hSw
           (try dsimp only at hSw)
           go_simp
           all_goals with_reducible rfl
          try simp only [List.getElem_toArray, List.getElem_cons_zero, List.getElem_cons_succ, Act.put, List.setIfInBounds_toArray, List.set_cons_zero, List.set_cons_succ]
          refine wpAnyH_take (i := 4) (v := ?_) rfl (by kernel_rfl) (by kernel_rfl) (by kernel_rfl) (fun _ _ _ h => h) (Or.inl ⟨by rfl, ?z6⟩) (by assumption) ?_
          case z6 =>
           intro w hSw
           (try dsimp only at hSw)
           go_simp
           all_goals with_reducible rfl
          try simp only [List.getElem_toArray, List.getElem_cons_zero, List.getElem_cons_succ, Act.put, List.setIfInBounds_toArray, List.set_cons_zero, List.set_cons_succ]
          refine wpAnyH_take (i := 5) (v := ?_) rfl (by kernel_rfl) (by kernel_rfl) (by kernel_rfl) (fun _ _ _ h => h) (Or.inl ⟨by rfl, ?z7⟩) (by assumption) ?_
          case z7 =>
           intro w hSw
           (try dsimp only at hSw)
           go_simp
           all_goals with_reducible rfl
          try simp only [List.getElem_toArray, List.getElem_cons_zero, List.getElem_cons_succ, Act.put, List.setIfInBounds_toArray, List.set_cons_zero, List.set_cons_succ]
          refine wpAnyH_take (i := 7) (v := ?_) rfl (by kernel_rfl) (by kernel_rfl) (by kernel_rfl) (fun _ _ _ h => h) (Or.inl ⟨by rfl, ?z8⟩) (by assumption) ?_
          case z8 =>
           intro w hSw
           (try dsimp only at hSw)
           go_simp
           all_goals with_reducible rfl
          try simp only [List.getElem_toArray, List.getElem_cons_zero, List.getElem_cons_succ, Act.put, List.setIfInBounds_toArray, List.set_cons_zero, List.set_cons_succ]
          refine wpAnyH_take (i := 8) (v := ?_) rfl (by kernel_rfl) (by kernel_rfl) (by kernel_rfl) (fun _ _ _ h => h) (Or.inl ⟨by rfl, ?z9⟩) (by assumption) ?_
          case z9 =>
           intro w hSw
           (try dsimp only at hSw)
           go_simp
           all_goals with_reducible rfl
          try simp only [List.getElem_toArray, List.getElem_cons_zero, List.getElem_cons_succ, Act.put, List.setIfInBounds_toArray, List.set_cons_zero, List.set_cons_succ]
          refine wpAnyH_ready (rs := [6]) (by kernel_rfl) (by simp) ?_
          refine AllReadyH.cons rfl (fun K hK => ?_) AllReadyH.nil
          go_simp
          with_reducible refine (C1 _).mono ?_
          rintro e w1 ⟨rfl, rfl⟩
          try go_wp2_with fail
          refine hK.out _ _ HW.out.drew.keep.1 (fun hHeld => ?_)
          clear hK K
          try simp only [List.getElem_toArray, List.getElem_cons_zero, List.getElem_cons_succ, Act.put, List.setIfInBounds_toArray, List.set_cons_zero, List.set_cons_succ]
          refine wpAnyH_take (i := 9) (v := ?_) rfl (by kernel_rfl) (by kernel_rfl) (by kernel_rfl) (fun _ _ _ h => h) (Or.inl ⟨by rfl, ?z10⟩) (by assumption) ?_
          case z10 =>
           intro w hSw
           (try dsimp only at hSw)
           go_simp
           all_goals with_reducible rfl
          try simp only [List.getElem_toArray, List.getElem_cons_zero, List.getElem_cons_succ, Act.put, List.setIfInBounds_toArray, List.set_cons_zero, List.set_cons_succ]
          refine wpAnyH_ready (rs := [11]) (by kernel_rfl) (by simp) ?_
          refine AllReadyH.cons rfl (fun K hK => ?_) AllReadyH.nil
          go_simp
          with_reducible refine (HC2.out _ HW.out.drew).mono ?_
          rintro e w1 ⟨rfl, hw1⟩
          try go_wp2_with fail
          refine hK.out _ _ hw1.keep.1 (fun hHeld => ?_)
          clear hK K
          try simp only [List.getElem_toArray, List.getElem_cons_zero, List.getElem_cons_succ, Act.put, List.setIfInBounds_toArray, List.set_cons_zero, List.set_cons_succ]
          refine wpAnyH_done (by kernel_rfl) ?_ _

          have hZ : LpQ now A F p mb w L b r es0 clock0 i (.slice ua nd uc) w1 (vis ++ [k]) seen' clock0 := by
            rw [← HN.out]
            exact ⟨HI.out.1, Nat.le_refl _, D, HI.out.2, hw1⟩
          have HZ : Hid (LpQ now A F p mb w L b r es0 clock0 i (.slice ua nd uc) w1 (vis ++ [k]) seen' clock0) := hZ
          have hm2 := lp_left hw1
          clear hw1 hZ HI HN HW HC2 C1
          go_wp2_with fail
          exact ⟨⟨_, _, _, HZ.out⟩, by rw [hm2, hms]; exact hlt⟩
end Wp
end Go.Proofs.Ytfplmefcblkljaa
