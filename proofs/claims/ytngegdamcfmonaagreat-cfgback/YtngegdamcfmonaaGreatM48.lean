/-
  What is written is read back, but for what was cut off; and no shorter, and no longer (P12.4): the statement's walk.
-/
import Derived.Test.YtngegdamcfmonaaGreatM47
import Derived.Test.YtngegdamcfmonaaGreatM44
namespace Go.Proofs.YtngegdamcfmonaaGreat
open Go.RowKit
open Sm
open Cf
set_option linter.unusedVariables false
set_option linter.unusedSimpArgs false
set_option maxRecDepth 20000

/-- Blocks from n on are as they were. -/
def Ab (n : Nat) (V V' : World) : Prop := V.heap.size ≤ V'.heap.size ∧ ∀ b, n ≤ b → b < V.heap.size → V'.heap[b]? = V.heap[b]?
theorem Ab.refl (n : Nat) (V : World) : Ab n V V := ⟨Nat.le_refl _, fun _ _ _ => rfl⟩
theorem Ab.trans {n : Nat} {V V1 V2 : World} (h : Ab n V V1) (k : Ab n V1 V2) : Ab n V V2 := ⟨Nat.le_trans h.1 k.1, fun b h1 h2 => (k.2 b h1 (Nat.lt_of_lt_of_le h2 h.1)).trans (h.2 b h1 h2)⟩
theorem Ab.of {n : Nat} {V V1 : World} (h : Below V.heap.size V V1) : Ab n V V1 := ⟨h.size, fun b _ h2 => h.block b h2⟩
theorem Ab.set {n : Nat} {V V1 : World} (h : Ab n V V1) (b j : Nat) (hb : b < n) (v : Value) : Ab n V (V1.setCell ⟨b, j, none⟩ v) :=
  ⟨by simpa using h.1, fun k h1 h2 => (Below.heap_setCell V1 ⟨b, j, none⟩ v k (show k ≠ b by omega)).trans (h.2 k h1 h2)⟩
def setL (A : Array Value) : Nat → List Value → Array Value
  | _, [] => A
  | o, v :: r => setL (A.setIfInBounds o v) (o + 1) r
theorem mem_setCells {w : World} {b : Nat} {t : TypeId} {K : List (Nat × Obj)} : ∀ (vs : List Value) (o : Nat) (A : Array Value) (V : World), Mem w V ((b, .cells A t (0, 0)) :: K) → Mem w (V.setCells b o vs) ((b, .cells (setL A o vs) t (0, 0)) :: K)
  | [], o, A, V, h => h
  | v :: r, o, A, V, h => mem_setCells r (o + 1) _ _ (h.set 0 rfl o v)
theorem ab_setCells {n b : Nat} (hb : b < n) {V : World} : ∀ (vs : List Value) (o : Nat) (V1 : World), Ab n V V1 → Ab n V (V1.setCells b o vs)
  | [], _, _, h => h
  | v :: r, o, V1, h => ab_setCells hb r (o + 1) _ (h.set b o hb v)
theorem setL_mid (pre : List Value) : ∀ (vs mid : List Value), mid.length = vs.length → ∀ pre, setL (pre ++ mid).toArray pre.length vs = (pre ++ vs).toArray
  | [], mid, h, pre => by
    have : mid = [] := List.eq_nil_of_length_eq_zero h
    subst this
    rfl
  | v :: vs, [], h, pre => by simp at h
  | v :: vs, m :: mid, h, pre => by
    have hs : (pre ++ m :: mid).toArray.setIfInBounds pre.length v = ((pre ++ [v]) ++ mid).toArray := by
      rw [List.setIfInBounds_toArray, List.set_append_right _ _ (Nat.le_refl _), Nat.sub_self, List.set_cons_zero, List.append_assoc]
      rfl
    rw [setL, hs]
    have := setL_mid [] vs mid (by simpa using h) (pre ++ [v])
    rw [List.length_append, List.length_cons, List.length_nil] at this
    rw [this, List.append_assoc]
    rfl
theorem hc_set (name : ByteArray) (t : Ten) (p s q : Value) (hl : TLen t) : setL (hc ⟨false, name, t⟩ p s q).toArray 2 (tz : Array Value).toList = (hc ⟨false, name, ten0⟩ nilV nilV nilV).toArray := by
  have h := setL_mid [] (tc ten0 nilV nilV nilV) (tc t p s q) (by rw [tc_len hl, tc_len ten0_len]) [.bool false, .string name]
  exact h
theorem hc_name (put : Bool) (name x : ByteArray) (t : Ten) (p s q : Value) : (hc ⟨put, name, t⟩ p s q).toArray.setIfInBounds 1 (.string x) = (hc ⟨put, x, t⟩ p s q).toArray := by
  rw [List.setIfInBounds_toArray]
  rfl
theorem bslice (h : Chg) (hl : TLen h.t) (p s q : Value) (V : World) : (Instr.buildSlice 61 1 #[(0, .agg (hc h p s q).toArray)]).run Tryz.prog V = .ok (.slice (some ⟨V.heap.size, 0, none⟩) 1 1) (V.alloc (.cells (hc h p s q).toArray 35)) := by
  obtain ⟨put, name, n, vn, key, vt, vm, ho, po, lo, hi, fi, st, tw, se, qu, ra, bu⟩ := h
  obtain ⟨h1, h2, h3⟩ := hl
  obtain ⟨a, b, c, d, f, g, x, y, rfl⟩ := eight8 h1
  obtain ⟨a1, b1, c1, d1, f1, g1, rfl⟩ := six6 h2
  obtain ⟨a2, b2, c2, d2, f2, g2, rfl⟩ := six6 h3
  obtain ⟨os, tape, heap⟩ := V
  kernel_rfl
theorem wpList_bslice_run {ops : Array Oper} {rest : List Oper} {o : Oper} {a : Act} {w w' : World} {Q : Exit → Act → World → Prop} (hw : Region.wanted o (yielded ops a.tmps) = true) (ty : TypeId) (n : Nat) (parts : Array (Nat × Operand)) (ho : o.op = .buildSlice ty n parts) {vs : Array (Nat × Value)} {v : Value}
    (hr : (Instr.buildSlice ty n vs).run Tryz.prog w = .ok v w') (hv : (parts.map fun (i, x) => (i, a.eval x)) = vs) (h : wpList Tryz.prog ops Q rest (a.put o.dst v) w') : wpList Tryz.prog ops Q (o :: rest) a w :=
  wpList_wanted hw fun _ hK => by
    subst hv
    unfold Oper.wp execOp
    simp only [ho, Sem.run_bind, hr, Result.andThen_ok, Sem.run_pure]
    exact hK _ _ h
theorem hdec_put (t : Ten) (hl : TLen t) : hdec (1 :: tenc t) = some ⟨true, (tcut t).name, tcut t⟩ := by
  have := tdec_back t hl []
  rw [List.append_nil] at this
  simp [hdec, this]
theorem hdec_name (x : ByteArray) : hdec (0 :: nm x) = some ⟨false, strOfNums ((sb x).take 255), ten0⟩ := by
  have := (rb_txt id (fun _ y => y) x ByteArray.empty (sb_len _)).1 []
  rw [List.append_nil] at this
  have e : spN.dec (nm x) ByteArray.empty = some (strOfNums ((sb x).take 255), []) := this
  simp [hdec, e]
theorem few0 : TFew ten0 := ⟨by decide, by decide, by decide⟩
theorem fit0 : Fit ten0 := by decide
theorem rg0 : TRg ten0 := ⟨by decide, by decide, by decide, by decide, by decide, by decide, by decide, by decide, by decide, by simp [ten0], by simp [ten0], by simp [ten0]⟩

set_option maxHeartbeats 16000000 in
theorem back_law {w : World} {vc vh : Value} {c : Cgf} {h : Chg} (more : Int) (hmo : 0 ≤ more ∧ more ≤ 255) (hC : CV w vc c) (hi : CIn c) (hcr : CRg c) (hts : ∀ t ∈ c.ten, TBy t ∧ TRg t) (hH : HV w vh h) (hby : TBy h.t) (hrg : TRg h.t) :
    Calls Tryz.prog 5 #[vc, vh, .int .u8 more] w fun e w' => e = .returned (.bool true) ∧ Below w.heap.size w w' := by
  have HCV : Hid (∀ V, Below w.heap.size w V → CV V vc c) := fun V hV => hC.at_ hV (Nat.le_refl _)
  obtain ⟨hcl, u, rfl, hT⟩ := hC
  obtain ⟨hhl, p, s, q, rfl, r1, r2, r3⟩ := hH
  obtain ⟨put, name, t⟩ := h
  simp only at hhl r1 r2 r3 hby hrg
  have HTS : Hid (∀ V, Below w.heap.size w V → TSV V u c.ten) := fun V hV => hT.at_ hV (Nat.le_refl _)
  have HTV : Hid (∀ V, Below w.heap.size w V → ∀ name, TV V (.agg (tc t p s q).toArray) t ∧ HV V (.agg (hc ⟨put, name, t⟩ p s q).toArray) ⟨put, name, t⟩) := fun V hV name => HV.tv hhl r1 r2 r3 hV
  obtain ⟨la, lc, hu, hlc, hlb, hx⟩ := hT.parts
  obtain ⟨g, hg⟩ : ∃ g, w.heap.size = g := ⟨_, rfl⟩
  have hM0 := two_blocks' w (.cells (cc c u).toArray 28) (.cells (hc ⟨put, name, t⟩ p s q).toArray 35)
  rw [hg] at hM0
  have h28 : (cc c u)[28]? = some u := cget hcl (by rintro ip a b c d f g a1 b1 c1 d1 f1 g1 a2 b2 c2 d2 f2 g2 k1 k2 k3 k4 k5 k6 k7 k8 dr te rfl; rfl)
  have KS : Hid (∀ V L, Mem w V ((g + 1, .cells (hc ⟨put, name, t⟩ p s q).toArray 35 (0, 0)) :: (g, .cells (cc c u).toArray 28 (0, 0)) :: L) → V.cell? ⟨g, 28, none⟩ = some u ∧ V.cell? ⟨g + 1, 0, none⟩ = some (.bool put) ∧ V.cell? ⟨g + 1, 1, none⟩ = some (.string name) ∧ V.rangeAt (g + 1) 2 (tc t p s q)) := by
    intro V L hV
    refine ⟨?_, ?_, ?_, fun j v hj => ?_⟩
    · rw [hV.cell 1 rfl, List.getElem?_toArray]; exact h28
    · rw [hV.cell 0 rfl]; rfl
    · rw [hV.cell 0 rfl]; rfl
    · rw [hV.cell 0 rfl, Nat.add_comm]; simpa [hc] using hj
  have hs1 : (cc c u).length = 29 := cc_len hcl _
  have hs3 : (tc t p s q).length = 33 := tc_len hhl _ _ _
  have hs2 : ∀ pu x, (hc ⟨pu, x, t⟩ p s q).length = 35 := fun pu x => by simp only [hc, List.length_cons, hs3]
  have i1 : (Tryz.prog.info? 28).map (·.size) = some (cc c u).toArray.size := by rw [List.size_toArray, hs1]; kernel_rfl
  have i2 : (Tryz.prog.info? 35).map (·.size) = some (hc ⟨put, name, t⟩ p s q).toArray.size := by rw [List.size_toArray, hs2]; kernel_rfl
  have i3 : (Tryz.prog.info? 33).map (·.size) = some (tc t p s q).length := by rw [hs3]; kernel_rfl
  have HLN : Hid (∀ t ∈ c.ten, TLen t) := hT.len_at
  have HIN : Hid (CIn c ∧ (∀ t ∈ c.ten, TBy t ∧ TRg t) ∧ TLen t ∧ TBy t ∧ CLen c ∧ TRg t ∧ CRg c ∧ (0 ≤ more ∧ more ≤ 255)) := ⟨hi, hts, hhl, hby, hcl, hrg, hcr, hmo⟩
  have hpsq : Hid ((∃ a n c, p = .slice a n c) ∧ (∃ a n c, s = .slice a n c) ∧ ∃ a n c, q = .slice a n c) := by
    obtain ⟨a, c, e, -⟩ := r1
    obtain ⟨a', c', e', -⟩ := r2
    obtain ⟨a2, c2, e2, -⟩ := r3
    exact ⟨⟨a, _, c, e⟩, ⟨a', _, c', e'⟩, a2, _, c2, e2⟩
  obtain ⟨N, hN⟩ : ∃ N, c.ten.length = N := ⟨_, rfl⟩
  rw [hN] at hu hx hlc
  have HX : Hid (∀ i, i < N → ∃ b off x, la = some ⟨b, off, none⟩ ∧ x.length = 33 ∧ x.toArray.all (·.oneCell') = true ∧ ∀ V, Below w.heap.size w V → V.rangeAt b (off + i * 33) x ∧ TV V (.agg x.toArray) (c.ten.getD i ten0)) := hx
  have HNN : Hid (c.ten.length = N) := hN
  have HM0 : Hid (Mem w ((w.alloc (.cells (cc c u).toArray 28)).alloc (.cells (hc ⟨put, name, t⟩ p s q).toArray 35)) [(g + 1, .cells (hc ⟨put, name, t⟩ p s q).toArray 35 (0, 0)), (g, .cells (cc c u).toArray 28 (0, 0))]) := hM0
  obtain ⟨CL0, hCL0⟩ : ∃ A, (cc c u).toArray = A := ⟨_, rfl⟩
  obtain ⟨HL0, hHL0⟩ : ∃ A, (hc ⟨put, name, t⟩ p s q).toArray = A := ⟨_, rfl⟩
  obtain ⟨xl, hxl⟩ : ∃ A, tc t p s q = A := ⟨_, rfl⟩
  rw [hCL0, hHL0] at HM0 KS
  rw [hCL0] at HCV i1 ⊢
  rw [hHL0] at i2 ⊢
  rw [hxl] at KS i3 HTV
  have HXL : Hid (tc t p s q = xl ∧ (hc ⟨put, name, t⟩ p s q).toArray = HL0) := ⟨hxl, hHL0⟩
  subst hu
  clear hx hT r1 r2 r3 hi hts hby hrg hcr hmo hhl hcl hM0 hs1 hs2 hs3 h28 hN hCL0 hHL0 hxl
  go_enter Tryz.func5, Tryz.ntmps5
  go_upto_region 1 with fail
  refine wp_letter (fun V => Mem w V [(g + 1, .cells HL0 35 (0, 0)), (g, .cells CL0 28 (0, 0))]) HM0.out ?_
  intro V0 hM0
  clear HM0
  go_wp2_with fail
  refine (known_any V0).mono ?_
  rintro e V1 ⟨rfl, hb1⟩
  have HM1 : Hid (Mem w V1 [(g + 1, .cells HL0 35 (0, 0)), (g, .cells CL0 28 (0, 0))]) := hM0.after hb1
  clear hM0 hb1
  obtain ⟨c28, -⟩ := KS.out _ _ HM1.out
  have CL := lights_any (HTS.out _ HM1.out.below) 20 (by omega)
  by_cases q1 : Lgts c.ten 20
  rotate_left
  · rw [decide_eq_false q1] at CL
    go_wp2_with fail
    refine CL.mono ?_
    rintro e V2 ⟨rfl, hb2⟩
    have HB : Hid (Below w.heap.size w V2) := (HM1.out.after hb2).below
    clear CL hb2
    go_wp2_with fail
    go_ret
    exact ⟨rfl, HB.out⟩
  rw [decide_eq_true q1] at CL
  go_wp2_with fail
  refine CL.mono ?_
  rintro e V2 ⟨rfl, hb2⟩
  have HM2 : Hid (Mem w V2 [(g + 1, .cells HL0 35 (0, 0)), (g, .cells CL0 28 (0, 0))]) := HM1.out.after hb2
  obtain ⟨-, -, -, hra⟩ := KS.out _ _ HM2.out
  have CG := light_any (HTV.out _ HM2.out.below name).1
  clear CL hb2 HM1 c28
  by_cases q2 : Lgt t
  rotate_left
  · rw [decide_eq_false q2] at CG
    go_wp2_with (refine wpList_load_mid_g rfl 33 (.tmp 27) (by with_reducible rfl) (g + 1) 2 (by first | rfl | simp [Act.eval]) xl _ hra Tryz.underlying33 rfl i3 ?_)
    refine CG.mono ?_
    rintro e V3 ⟨rfl, hb3⟩
    have HB : Hid (Below w.heap.size w V3) := (HM2.out.after hb3).below
    clear CG hb3
    go_wp2_with fail
    go_ret
    exact ⟨rfl, HB.out⟩
  rw [decide_eq_true q2] at CG
  go_wp2_with (refine wpList_load_mid_g rfl 33 (.tmp 27) (by with_reducible rfl) (g + 1) 2 (by first | rfl | simp [Act.eval]) xl _ hra Tryz.underlying33 rfl i3 ?_)
  refine CG.mono ?_
  rintro e V3 ⟨rfl, hb3⟩
  have HM3 : Hid (Mem w V3 [(g + 1, .cells HL0 35 (0, 0)), (g, .cells CL0 28 (0, 0))]) := HM2.out.after hb3
  obtain ⟨-, -, c1, hra3⟩ := KS.out _ _ HM3.out
  clear CG hb3 HM2 hra
  by_cases q3 : name.size ≤ 255
  rotate_left
  · have h3 : (255 : Int) < name.size := by omega
    have h3d : decide ((255 : Int) < name.size) = true := decide_eq_true h3
    have HB : Hid (Below w.heap.size w V3) := HM3.out.below
    go_wp2_with fail
    go_ret
    exact ⟨rfl, HB.out⟩
  have h3 : ¬ ((255 : Int) < name.size) := by omega
  have h3d : decide ((255 : Int) < name.size) = false := decide_eq_false h3
  have CF := fits_any (HTV.out _ HM3.out.below name).1
  by_cases q4 : Fit t
  rotate_left
  · rw [decide_eq_false q4] at CF
    go_wp2_with (refine wpList_load_mid_g rfl 33 (.tmp 39) (by with_reducible rfl) (g + 1) 2 (by first | rfl | simp [Act.eval]) xl _ hra3 Tryz.underlying33 rfl i3 ?_)
    refine CF.mono ?_
    rintro e V4 ⟨rfl, hb4⟩
    have HB : Hid (Below w.heap.size w V4) := (HM3.out.after hb4).below
    clear CF hb4
    go_wp2_with fail
    go_ret
    exact ⟨rfl, HB.out⟩
  rw [decide_eq_true q4] at CF
  go_wp2_with (refine wpList_load_mid_g rfl 33 (.tmp 39) (by with_reducible rfl) (g + 1) 2 (by first | rfl | simp [Act.eval]) xl _ hra3 Tryz.underlying33 rfl i3 ?_)
  refine CF.mono ?_
  rintro e V4 ⟨rfl, hb4⟩
  have HM4 : Hid (Mem w V4 [(g + 1, .cells HL0 35 (0, 0)), (g, .cells CL0 28 (0, 0))]) := HM3.out.after hb4
  have HQ : Hid (Lgts c.ten 20 ∧ Lgt t ∧ name.size ≤ 255 ∧ Fit t) := ⟨q1, q2, q3, q4⟩
  have hN20 : N ≤ 20 := by have := q1.1; rw [HNN.out] at this; exact this
  clear CF hb4 HM3 hra3 c1 q1 q2 q3 q4 h3 h3d
  go_wp2_with fail
  go_loopw [7] (fun u7 w' => ∃ i : Nat, i ≤ N ∧ u7 = .int .i64 i ∧ Hid (Mem w w' [(g + 1, .cells HL0 35 (0, 0)), (g, .cells CL0 28 (0, 0))] ∧ ∀ j, j < i → Fit (c.ten.getD j ten0))) (fun u7 w' => N - (intOf u7).toNat)
  case atStart => exact ⟨0, Nat.zero_le _, rfl, HM4.out, fun j hj => absurd hj (by omega)⟩
  case round =>
    obtain ⟨i, hi, rfl, HR⟩ := hrel
    clear HM4
    obtain ⟨c28, -⟩ := KS.out _ _ HR.out.1
    by_cases hlt : i < N
    · have h1 : (i : Int) < N := by omega
      obtain ⟨b, off, x, rfl, hsz, hox, hV⟩ := HX.out i hlt
      obtain ⟨hra, hTV⟩ := hV _ HR.out.1.below
      have CF := fits_any hTV
      have i4 : (Tryz.prog.info? 33).map (·.size) = some x.length := by rw [hsz]; kernel_rfl
      clear hV hTV
      by_cases q2 : Fit (c.ten.getD i ten0)
      rotate_left
      · rw [decide_eq_false q2] at CF
        go_wp2_with (refine wpList_load_mid rfl 33 (.tmp 54) (by with_reducible rfl) b (off + i * 33) (by simp [Act.eval]) x _ hra Tryz.underlying33 rfl i4 ?_)
        refine CF.mono ?_
        rintro e W1 ⟨rfl, hb1⟩
        have HH : Hid (Below w.heap.size w W1) := (HR.out.1.after hb1).below
        clear CF hb1 hra
        go_wp2_with fail
        go_ret
        exact ⟨rfl, HH.out⟩
      rw [decide_eq_true q2] at CF
      go_wp2_with (refine wpList_load_mid rfl 33 (.tmp 54) (by with_reducible rfl) b (off + i * 33) (by simp [Act.eval]) x _ hra Tryz.underlying33 rfl i4 ?_)
      refine CF.mono ?_
      rintro e W1 ⟨rfl, hb1⟩
      have HH : Hid (Mem w W1 [(g + 1, .cells HL0 35 (0, 0)), (g, .cells CL0 28 (0, 0))] ∧ ∀ j, j < i + 1 → Fit (c.ten.getD j ten0)) := ⟨HR.out.1.after hb1, fun j hj => by
        rcases Nat.lt_or_ge j i with h | h
        · exact HR.out.2 j h
        · obtain rfl : j = i := by omega
          exact q2⟩
      clear CF hb1 hra HR q2 c28
      go_wp2_with fail
      go_roundw
      case rel => exact ⟨i + 1, by omega, by go_num, HH⟩
      case measure => simp [intOf]; omega
    · have h1 : ¬ ((i : Int) < N) := by omega
      obtain rfl : i = N := by omega
      obtain ⟨I1, I2, I3, I4, I5, I6, I7, I8⟩ := HIN.out
      obtain ⟨q1, q2, q3, q4⟩ := HQ.out
      have hgetm : ∀ i (hi : i < c.ten.length), c.ten.getD i ten0 = c.ten[i] := fun i hi => by rw [List.getD_eq_getElem?_getD, List.getElem?_eq_getElem hi, Option.getD_some]
      have J1 : ∀ t ∈ c.ten, TIn t := fun t ht => by
        obtain ⟨j, hj, rfl⟩ := List.getElem_of_mem ht
        have := q1.2 j hj
        rw [hgetm j hj] at this
        exact lgt_in2 this (HLN.out _ ht) (I2 _ ht).1
      have J2 : TIn t := lgt_in2 q2 I3 I4
      have J3 : ∀ t ∈ c.ten, Fit t ∧ TRg t := fun t ht => by
        obtain ⟨j, hj, rfl⟩ := List.getElem_of_mem ht
        have := HR.out.2 j (by rw [← HNN.out]; exact hj)
        rw [hgetm j hj] at this
        exact ⟨this, (I2 _ ht).2⟩
      have J4 : ∀ t ∈ c.ten, TFew t := fun t ht => ⟨(J1 t ht).pool, (J1 t ht).stat, (J1 t ht).twi⟩
      have b1 := cenc_le2 c I5 HLN.out
      have hsame := csame_cut c I7 (by rw [HNN.out]; omega) J3
      have dB := cdec_back c I5 HLN.out
      have dM := cdec_more c I5 HLN.out more
      have dC := fun l h1 h2 => cdec_cut c I5 HLN.out l h1 h2
      have hpos : 0 < (cenc c).length := by
        rw [cenc_eq, List.length_append, chead_len c I5]
        omega
      have CA := cfgConfig_any (HCV.out _ HR.out.1.below) I1 J1 (by omega)
      obtain ⟨L, hL⟩ : ∃ L, cenc c = L := ⟨_, rfl⟩
      obtain ⟨cd, hcd⟩ : ∃ x, ccut c = x := ⟨_, rfl⟩
      rw [hL] at b1 dB dM dC hpos CA
      rw [hcd] at dB hsame
      have HP : Hid (cdec L = some cd ∧ cdec (L ++ [more]) = none ∧ (∀ l, l <+: L → l.length < L.length → cdec l = none) ∧ 0 < L.length ∧ L.length ≤ 1500000 ∧ CSame c cd ∧ (∀ t ∈ c.ten, TFew t)) := ⟨dB, dM, dC, hpos, b1, hsame, J4⟩
      have HJ : Hid (TIn t ∧ TLen t ∧ TRg t ∧ Fit t ∧ name.size ≤ 255 ∧ (0 ≤ more ∧ more ≤ 255)) := ⟨J2, I3, I6, q4, q3, I8⟩
      have HMa : Hid (Mem w wr [(g + 1, .cells HL0 35 (0, 0)), (g, .cells CL0 28 (0, 0))]) := HR.out.1
      have hk10 := HMa.out.get 1 rfl
      clear I1 I2 I3 I4 I5 I6 I7 I8 q1 q2 q3 q4 hgetm J1 J2 J3 J4 hsame dB dM dC hpos b1 HR HX HQ HIN HTS HLN hL hcd
      go_wp2_with (refine wpList_load_row rfl 28 (.tmp 3) (by with_reducible rfl) g rfl 28 CL0 (0, 0) _ hk10 Tryz.underlying28 rfl i1 ?_)
      refine CA.mono ?_
      rintro e V5 ⟨ub, rfl, hO⟩
      obtain ⟨ab, cb, rfl, hSb⟩ := hO.sl (by have := HP.out; omega)
      have HM5 : Hid (Mem w V5 [(g + 1, .cells HL0 35 (0, 0)), (g, .cells CL0 28 (0, 0))]) := HMa.out.after hO.mem.below
      have HG2 : Hid (g + 2 ≤ V5.heap.size) := HM5.out.lt (p := (g + 1, _)) (List.mem_cons_self ..)
      have HSb : Hid (Sl V5 ab L cb) := hSb
      have CO := openConfig_any hSb
      rw [HP.out.1] at CO
      obtain ⟨n, hn⟩ : ∃ n, L.length = n := ⟨_, rfl⟩
      have HLn : Hid (L.length = n) := hn
      rw [hn] at CO ⊢
      clear CA hO hk10 HMa hSb hn c28
      go_wp2_with fail
      refine CO.mono ?_
      rintro e V6 ⟨hb6, vd, rfl, hCVs⟩
      obtain ⟨dl, rfl, hd1, hd2⟩ := (hCVs V5 V6 (Nat.le_refl _) hb6 (fun _ _ _ => rfl)).row
      have HCVs : Hid (CVs V5.heap.size V6 (.agg dl) cd) := hCVs
      have i29 : (Tryz.prog.info? 28).map (·.size) = some dl.size := by rw [hd1]; kernel_rfl
      have HM7 : Hid (Mem w (V6.alloc (.cells dl 28)) [(g + 1, .cells HL0 35 (0, 0)), (g, .cells CL0 28 (0, 0)), (V6.heap.size, .cells dl 28 (0, 0))] ∧ Below V5.heap.size V5 (V6.alloc (.cells dl 28)) ∧ Below V6.heap.size V6 (V6.alloc (.cells dl 28))) :=
        ⟨(HM5.out.after hb6).push V6.heap.size _ rfl, hb6.alloc hb6.size _, (Below.refl _ _).alloc (Nat.le_refl _) _⟩
      clear CO hb6 hCVs HM5
      go_upto_region 12 with (refine wpList_store_row rfl 28 (.tmp 9) (.tmp 63) (by with_reducible rfl) V6.heap.size dl rfl rfl 28 _ (heap_alloc_new V6 _) i29 (by rw [hd1]; rfl) hd2 ?_)
      refine wp_letter (fun V => Mem w V [(g + 1, .cells HL0 35 (0, 0)), (g, .cells CL0 28 (0, 0)), (V6.heap.size, .cells dl 28 (0, 0))] ∧ Below V5.heap.size V5 V ∧ Below V6.heap.size V6 V) (by
        rw [World.setRow_alloc_new]
        exact HM7.out) ?_
      rintro V7 hM7
      clear HM7
      have HM8 : Hid (Mem w V7 [(g + 1, .cells HL0 35 (0, 0)), (g, .cells CL0 28 (0, 0)), (V6.heap.size, .cells dl 28 (0, 0))] ∧ Below V5.heap.size V5 V7 ∧ Below V6.heap.size V6 V7) := hM7
      obtain ⟨gd, hgd⟩ : ∃ gd, V6.heap.size = gd := ⟨_, rfl⟩
      rw [hgd] at HM8
      have HGD : Hid (V6.heap.size = gd) := hgd
      simp only [hgd]
      clear hM7 hgd
      obtain ⟨b0, o0, hab, hr0⟩ : ∃ b0 o0, ab = some ⟨b0, o0, none⟩ ∧ Row V7 (some ⟨b0, o0, none⟩) L := by
        have hr := HSb.out.row.below HM8.out.2.1 (Nat.le_refl _)
        rcases hr.cells with e | ⟨b0, o0, e, -⟩
        · have := HP.out.2.2.2.1
          rw [e] at this
          simp at this
        · exact ⟨b0, o0, e, by rw [← e]; exact hr⟩
      obtain ⟨v1, W1, hr1, hO1⟩ := out_append (Out.nil (Mem.nil V7)) ⟨b0, o0, none⟩ n cb L HLn.out hr0 (by have := HP.out; have := HLn.out; simp; omega) 40
      rw [List.nil_append] at hO1
      obtain ⟨v2, W2, hr2, hO2⟩ := out_one hO1 more HJ.out.2.2.2.2.2 (by have := HP.out; omega) 40
      obtain ⟨a3, c3, rfl, hS3⟩ := hO2.sl (by have := HP.out; simp only [List.length_append, List.length_cons, List.length_nil]; omega)
      have CO2 := openConfig_any hS3
      rw [HP.out.2.1] at CO2
      have HB2 : Hid (Below V7.heap.size V7 W2) := hO2.mem.below
      have hczz : (Tryz.prog.info? 28).map (·.size) = some (cz : Array Value).size := by kernel_rfl
      have hcz1 : (cz : Array Value).all (·.oneCell') = true := by kernel_rfl
      generalize (L ++ [more]).length = n3 at *
      subst hab
      clear hO1 hO2 hS3 hr0
      go_wp2_with (first | (at_builtin; refine wpList_append_run _ (.tmp 66) 40 40 (by with_reducible rfl) hr1 rfl rfl (by first | rfl | simp [Act.eval]) (by simp [Act.eval]) ?_) | (at_builtin; refine wpList_append_run (.tmp 67) (.tmp 69) 40 40 (by with_reducible rfl) hr2 rfl rfl (by simp [Act.eval]) (by simp [Act.eval]) ?_))
      refine CO2.mono ?_
      rintro e V8 ⟨hb8, rfl⟩
      have HM9 : Hid (Mem w (V8.alloc (.cells cz 28)) [(g + 1, .cells HL0 35 (0, 0)), (g, .cells CL0 28 (0, 0)), (gd, .cells dl 28 (0, 0))] ∧ Below V7.heap.size V7 (V8.alloc (.cells cz 28))) := by
        have hb := HB2.out.trans (hb8.mono HB2.out.size)
        have hb' := hb.alloc hb.size (.cells cz 28 (0, 0))
        exact ⟨HM8.out.1.after hb', hb'⟩
      clear CO2 hb8 hr1 hr2 HB2
      go_upto_region 13 with (refine wpList_store_row rfl 28 (.tmp 11) (.tmp 72) (by with_reducible rfl) V8.heap.size cz rfl rfl 28 _ (heap_alloc_new V8 _) hczz rfl hcz1 ?_)
      refine wp_letter (fun V => Mem w V [(g + 1, .cells HL0 35 (0, 0)), (g, .cells CL0 28 (0, 0)), (gd, .cells dl 28 (0, 0))] ∧ Below V7.heap.size V7 V) (by
        rw [World.setRow_alloc_new]
        exact HM9.out) ?_
      rintro V9 hM9
      clear HM9
      have HM10 : Hid (Mem w V9 [(g + 1, .cells HL0 35 (0, 0)), (g, .cells CL0 28 (0, 0)), (gd, .cells dl 28 (0, 0))]) := hM9.1
      have HB9 : Hid (Below V7.heap.size V7 V9) := hM9.2
      clear hM9
      have HS9 : Hid (Sl V9 (some ⟨b0, o0, none⟩) L cb) := by
        have hb := HM8.out.2.1.trans (HB9.out.mono HM8.out.2.1.size)
        exact ⟨HSb.out.row.below hb (Nat.le_refl _), HSb.out.le, HSb.out.big, HSb.out.nil⟩
      have hpn := HP.out.2.2.2
      have hln := HLn.out
      obtain ⟨T1, hS4⟩ := sl_head HS9.out ((n : Int) - 1) (by omega) (by omega)
      have hk4 : (L.take ((n : Int) - 1).toNat).length < L.length := by rw [List.length_take]; omega
      have CO3 := openConfig_any hS4
      rw [HP.out.2.2.1 _ (List.take_prefix _ _) hk4] at CO3
      rw [hln] at T1
      have n0 : ¬ ((n : Int) = 0) := by omega
      have n1 : ((n : Int) == 0) = false := by simp; omega
      have n2 : IntKind.i64.wrap ((n : Int) - 1) = (n : Int) - 1 := wrap64n (by omega) (by omega)
      generalize (L.take ((n : Int) - 1).toNat).length = n4 at *
      clear hpn hln hS4 hk4
      go_wp2_with fail
      refine CO3.mono ?_
      rintro e V10 ⟨hb10, rfl⟩
      have HM11 : Hid (Mem w (V10.alloc (.cells cz 28)) [(g + 1, .cells HL0 35 (0, 0)), (g, .cells CL0 28 (0, 0)), (gd, .cells dl 28 (0, 0))] ∧ Below V9.heap.size V9 (V10.alloc (.cells cz 28))) := by
        have hb' := hb10.alloc hb10.size (.cells cz 28 (0, 0))
        exact ⟨HM10.out.after hb', hb'⟩
      clear CO3 hb10 T1 n0 n1 n2 HSb HS9
      go_upto_region 16 with (refine wpList_store_row rfl 28 (.tmp 13) (.tmp 84) (by with_reducible rfl) V10.heap.size cz rfl rfl 28 _ (heap_alloc_new V10 _) hczz rfl hcz1 ?_)
      refine wp_letter (fun V => Mem w V [(g + 1, .cells HL0 35 (0, 0)), (g, .cells CL0 28 (0, 0)), (gd, .cells dl 28 (0, 0))] ∧ Below V9.heap.size V9 V) (by
        rw [World.setRow_alloc_new]
        exact HM11.out) ?_
      rintro V11 hM11
      clear HM11 hczz hcz1
      have HM12 : Hid (Mem w V11 [(g + 1, .cells HL0 35 (0, 0)), (g, .cells CL0 28 (0, 0)), (gd, .cells dl 28 (0, 0))]) := hM11.1
      have HA11 : Hid (Ab (g + 2) V6 V11) := (Ab.of (show Below V6.heap.size V6 V7 by rw [HGD.out]; exact HM8.out.2.2)).trans ((Ab.of HB9.out).trans (Ab.of hM11.2))
      clear hM11 HB9 HM8 HM10
      have hk12 := HM12.out.get 0 rfl
      have CC := cfgChange_any (HTV.out _ HM12.out.below name).2 HJ.out.1 (show name.size ≤ _ by have := HJ.out; omega) (by have := henc_le2 ⟨put, name, t⟩ HJ.out.2.1; omega)
      rw [HXL.out.2] at CC
      have hhb := henc_le2 ⟨put, name, t⟩ HJ.out.2.1
      obtain ⟨xx, t', name', p', s', q', hx1, hx2, hx3, hx4, hx5, hx6, hx7, hx8, hx9⟩ : ∃ (xx : Chg) (t' : Ten) (name' : ByteArray) (p' s' q' : Value), hdec (henc ⟨put, name, t⟩) = some xx ∧ xx.put = put ∧ sb xx.name = sb name' ∧ TSame xx.t t' ∧ TFew xx.t ∧ (TLen t' ∧ TIn t' ∧ Fit t' ∧ TRg t') ∧ ((∃ a n c, p' = .slice a n c) ∧ (∃ a n c, s' = .slice a n c) ∧ ∃ a n c, q' = .slice a n c) ∧ (∀ V, Below w.heap.size w V → TV V (.agg (tc t' p' s' q').toArray) t') ∧
          ((put = true ∧ name' = t.name ∧ t' = t ∧ p' = p ∧ s' = s ∧ q' = q) ∨ (put = false ∧ name' = name ∧ t' = ten0 ∧ p' = nilV ∧ s' = nilV ∧ q' = nilV)) := by
        obtain ⟨J1, J2, J3, J4, J5, -⟩ := HJ.out
        cases put with
        | true =>
          have hs := same_cut t J4 J3
          refine ⟨⟨true, (tcut t).name, tcut t⟩, t, t.name, p, s, q, hdec_put t J2, rfl, hs.1.symm, hs.symm, ?_, ⟨J2, J1, J4, J3⟩, hpsq.out, fun V hV => by have := (HTV.out V hV name).1; rw [← HXL.out.1] at this; exact this, Or.inl ⟨rfl, rfl, rfl, rfl, rfl, rfl⟩⟩
          obtain ⟨-, -, -, -, -, -, p1, -, -, -, p2, p3, -⟩ := hs
          show TFew (tcut t)
          rw [TFew, ← p1, ← p2, ← p3]
          exact ⟨J1.pool, J1.stat, J1.twi⟩
        | false =>
          refine ⟨⟨false, strOfNums ((sb name).take 255), ten0⟩, ten0, name, nilV, nilV, nilV, hdec_name name, rfl, ?_, ⟨rfl, rfl, rfl, rfl, rfl, rfl, rfl, rfl, rfl, rfl, rfl, rfl, rfl, rfl, rfl, rfl⟩, few0, ⟨ten0_len, ⟨ten0_len, z8b, z6b, z6b, by decide, by decide, by decide, by decide⟩, fit0, rg0⟩, ⟨⟨_, _, _, rfl⟩, ⟨_, _, _, rfl⟩, _, _, _, rfl⟩, fun V hV => ⟨ten0_len, _, _, _, rfl, ⟨none, 0, rfl, Nat.le_refl _, by omega, fun _ => rfl, Or.inl rfl⟩, ⟨none, 0, rfl, Nat.le_refl _, by omega, fun _ => rfl, Or.inl rfl⟩, ⟨none, 0, rfl, Nat.le_refl _, by omega, fun _ => rfl, Or.inl rfl⟩⟩, Or.inr ⟨rfl, rfl, rfl, rfl, rfl, rfl⟩⟩
          show sb (strOfNums ((sb name).take 255)) = sb name
          rw [List.take_of_length_le (by rw [sb_len]; exact J5), sb_str (sb_bytes _)]
      obtain ⟨HE, hHE⟩ : ∃ l, henc ⟨put, name, t⟩ = l := ⟨_, rfl⟩
      rw [hHE] at CC hx1 hhb
      have HXX : Hid (xx.put = put ∧ sb xx.name = sb name' ∧ TSame xx.t t' ∧ TFew xx.t ∧ (TLen t' ∧ TIn t' ∧ Fit t' ∧ TRg t')) := ⟨hx2, hx3, hx4, hx5, hx6⟩
      have HT' : Hid (∀ V, Below w.heap.size w V → TV V (.agg (tc t' p' s' q').toArray) t') := hx8
      have HWH : Hid ((put = true ∧ name' = t.name ∧ t' = t ∧ p' = p ∧ s' = s ∧ q' = q) ∨ (put = false ∧ name' = name ∧ t' = ten0 ∧ p' = nilV ∧ s' = nilV ∧ q' = nilV)) := hx9
      have HSL' : Hid ((∃ a n c, p' = .slice a n c) ∧ (∃ a n c, s' = .slice a n c) ∧ ∃ a n c, q' = .slice a n c) := hx7
      clear hx2 hx3 hx4 hx5 hx6 hx7 hx8 hx9 hHE
      go_wp2_with (refine wpList_load_row rfl 35 (.tmp 4) (by with_reducible rfl) (g + 1) rfl 35 HL0 (0, 0) _ hk12 Tryz.underlying35 rfl i2 ?_)
      refine CC.mono ?_
      rintro e V12 ⟨uh, rfl, hOh⟩
      obtain ⟨ah, ch, rfl, hSh⟩ := hOh.sl (by omega)
      have CX := openChange_any hSh
      rw [hx1] at CX
      have HB12 : Hid (Below V11.heap.size V11 V12) := hOh.mem.below
      clear CC hOh hSh hk12 hx1 hhb
      generalize HE.length = nh at *
      go_wp2_with fail
      refine CX.mono ?_
      rintro e V13 ⟨hb13, vx, rfl, hHVs⟩
      obtain ⟨xr, xq, rfl, hxr1, hxr2, hxr3, hxr4⟩ : ∃ (xr : Array Value) (xq : List Value), vx = .agg xr ∧ xr = (.bool xx.put :: .string xx.name :: xq).toArray ∧ xq.length = 33 ∧ xr.all (·.oneCell') = true ∧ (TLen xx.t ∧ (∃ p s q, xr = (hc xx p s q).toArray) ∧ ∀ V', (∀ b, V12.heap.size ≤ b → b < V13.heap.size → V'.heap[b]? = V13.heap[b]?) → TV V' (.agg xq.toArray) xx.t) := by
        obtain ⟨hl, p2, s2, q2, rfl, h1, h2, h3⟩ := hHVs V13 (fun _ _ _ => rfl)
        refine ⟨_, tc xx.t p2 s2 q2, rfl, rfl, tc_len hl _ _ _, ?_, hl, ⟨p2, s2, q2, rfl⟩, fun V' hV' => ?_⟩
        · apply all_oneCell_toArray
          intro v hv
          simp only [hc, List.mem_cons] at hv
          rcases hv with rfl | rfl | hv
          · rfl
          · rfl
          · have := tc_one2 xx.t (rw_one h1) (rw_one h2) (rw_one h3)
            rw [Array.all_eq_true_iff_forall_mem] at this
            exact this v (by simpa using hv)
        · obtain ⟨-, p3, s3, q3, e, k1, k2, k3⟩ := hHVs V' hV'
          refine ⟨hl, p3, s3, q3, ?_, k1, k2, k3⟩
          simp only [hc, Value.agg.injEq] at e
          have e2 := congrArg Array.toList e
          simp only [List.cons.injEq, true_and] at e2
          rw [e2]
      have hxs : xr.size = 35 := by rw [hxr1]; simp [hxr2]
      have i35 : (Tryz.prog.info? 35).map (·.size) = some xr.size := by rw [hxs]; kernel_rfl
      have HXR : Hid (xr = (.bool xx.put :: .string xx.name :: xq).toArray ∧ xq.length = 33 ∧ (TLen xx.t ∧ (∃ p s q, xr = (hc xx p s q).toArray) ∧ ∀ V', (∀ b, V12.heap.size ≤ b → b < V13.heap.size → V'.heap[b]? = V13.heap[b]?) → TV V' (.agg xq.toArray) xx.t)) := ⟨hxr1, hxr2, hxr4⟩
      have HM14 : Hid (Mem w (V13.alloc (.cells xr 35)) [(g + 1, .cells HL0 35 (0, 0)), (g, .cells CL0 28 (0, 0)), (gd, .cells dl 28 (0, 0)), (V13.heap.size, .cells xr 35 (0, 0))] ∧ Ab (g + 2) V6 (V13.alloc (.cells xr 35)) ∧ Ab (g + 2) V13 (V13.alloc (.cells xr 35)) ∧ g + 2 ≤ V12.heap.size) := by
        have hb := HB12.out.trans (hb13.mono HB12.out.size)
        refine ⟨(HM12.out.after hb).push V13.heap.size _ rfl, (HA11.out.trans (Ab.of hb)).trans (Ab.of ((Below.refl _ _).alloc (Nat.le_refl _) _)), Ab.of ((Below.refl _ _).alloc (Nat.le_refl _) _), ?_⟩
        have h1 : g + 1 < V11.heap.size := HM12.out.lt (p := (g + 1, _)) (List.mem_cons_self ..)
        have h2 := HB12.out.size
        omega
      clear CX hb13 hHVs hxr1 hxr2 hxr4 HM12 HA11 HB12
      go_upto_region 17 with (refine wpList_store_row rfl 35 (.tmp 15) (.tmp 90) (by with_reducible rfl) V13.heap.size xr rfl rfl 35 _ (heap_alloc_new V13 _) i35 (by rw [hxs]; rfl) hxr3 ?_)
      refine wp_letter (fun V => Mem w V [(g + 1, .cells HL0 35 (0, 0)), (g, .cells CL0 28 (0, 0)), (gd, .cells dl 28 (0, 0)), (V13.heap.size, .cells xr 35 (0, 0))] ∧ Ab (g + 2) V6 V ∧ Ab (g + 2) V13 V ∧ g + 2 ≤ V12.heap.size) (by
        rw [World.setRow_alloc_new]
        exact HM14.out) ?_
      rintro V14 hM14
      clear HM14 hxr3
      obtain ⟨gx, hgx⟩ : ∃ gx, V13.heap.size = gx := ⟨_, rfl⟩
      rw [hgx] at hM14
      simp only [hgx]
      have HM15 : Hid (Mem w V14 [(g + 1, .cells HL0 35 (0, 0)), (g, .cells CL0 28 (0, 0)), (gd, .cells dl 28 (0, 0)), (gx, .cells xr 35 (0, 0))] ∧ Ab (g + 2) V6 V14 ∧ Ab (g + 2) V13 V14 ∧ g + 2 ≤ V12.heap.size) := hM14
      clear hM14 hgx
      obtain ⟨-, cput, cname, hra⟩ := KS.out _ _ HM15.out.1
      have cten : V14.cell? ⟨g + 1, 2, none⟩ = some (.string t.name) := by
        have := hra 0 (.string t.name) (by rw [← HXL.out.1]; rfl)
        simpa using this
      have hfr := HM15.out.1.free 0 rfl
      have hbt := build_T
      have key : ∀ V, Mem w V [(g + 1, .cells (hc ⟨put, name', t'⟩ p' s' q').toArray 35 (0, 0)), (g, .cells CL0 28 (0, 0)), (gd, .cells dl 28 (0, 0)), (gx, .cells xr 35 (0, 0))] ∧ Ab (g + 2) V14 V → Mem w V [(g + 1, .cells (hc ⟨put, name', t'⟩ p' s' q').toArray 35 (0, 0)), (g, .cells CL0 28 (0, 0)), (gd, .cells dl 28 (0, 0)), (gx, .cells xr 35 (0, 0))] ∧ Ab (g + 2) V6 V ∧ Ab (g + 2) V13 V :=
        fun V h => ⟨h.1, HM15.out.2.1.trans h.2, HM15.out.2.2.1.trans h.2⟩
      have KEY : Hid (∀ V, Mem w V [(g + 1, .cells (hc ⟨put, name', t'⟩ p' s' q').toArray 35 (0, 0)), (g, .cells CL0 28 (0, 0)), (gd, .cells dl 28 (0, 0)), (gx, .cells xr 35 (0, 0))] ∧ Ab (g + 2) V14 V → Mem w V [(g + 1, .cells (hc ⟨put, name', t'⟩ p' s' q').toArray 35 (0, 0)), (g, .cells CL0 28 (0, 0)), (gd, .cells dl 28 (0, 0)), (gx, .cells xr 35 (0, 0))] ∧ Ab (g + 2) V6 V ∧ Ab (g + 2) V13 V) := key
      clear key hra
      cases put with
      | true =>
        have HS1 : Hid (Mem w (V14.setCell ⟨g + 1, 1, none⟩ (.string t.name)) [(g + 1, .cells (hc ⟨true, name', t'⟩ p' s' q').toArray 35 (0, 0)), (g, .cells CL0 28 (0, 0)), (gd, .cells dl 28 (0, 0)), (gx, .cells xr 35 (0, 0))] ∧ Ab (g + 2) V14 (V14.setCell ⟨g + 1, 1, none⟩ (.string t.name))) := by
          have h := HM15.out.1.set 0 rfl 1 (.string t.name)
          rw [← HXL.out.2, hc_name] at h
          rcases HWH.out with ⟨-, rfl, rfl, rfl, rfl, rfl⟩ | ⟨e, -⟩
          · exact ⟨h, (Ab.refl _ _).set _ _ (by omega) _⟩
          · cases e
        go_upto_region 20 with fail
        refine wp_letter (fun V => Mem w V [(g + 1, .cells (hc ⟨true, name', t'⟩ p' s' q').toArray 35 (0, 0)), (g, .cells CL0 28 (0, 0)), (gd, .cells dl 28 (0, 0)), (gx, .cells xr 35 (0, 0))] ∧ Ab (g + 2) V14 V) HS1.out ?_
        intro V15 hM15
        clear HS1
        have HM16 : Hid _ := KEY.out _ hM15
        obtain ⟨Z1, Z2, Z3, Z4⟩ := HXX.out.2.2.2.2
        have hte := tenc_le2 t' Z1
        have hry : V15.rangeAt (g + 1) 2 (tc t' p' s' q') := fun j v hj => by
          rw [HM16.out.1.cell 0 rfl, Nat.add_comm]; simpa [hc] using hj
        have i3' : (Tryz.prog.info? 33).map (·.size) = some (tc t' p' s' q').length := by rw [tc_len Z1]; kernel_rfl
        have CT := cfgTenant_any (HT'.out _ HM16.out.1.below) Z2 (by omega)
        have htd := tdec_back t' Z1 [more]
        have hsm := (same_cut t' Z3 Z4).symm
        have hfew : TFew (tcut t') := by
          obtain ⟨-, -, -, -, -, -, p1, -, -, -, p2, p3, -⟩ := hsm
          rw [TFew, p1, p2, p3]
          exact ⟨Z2.pool, Z2.stat, Z2.twi⟩
        have hTLY : (hc ⟨true, name', t'⟩ p' s' q').toArray.size = 35 := by rw [List.size_toArray]; simp only [hc, List.length_cons, tc_len Z1]
        have hbs := bslice ⟨true, name', t'⟩ Z1 p' s' q'
        have i35y : (Tryz.prog.info? 35).map (·.size) = some (hc ⟨true, name', t'⟩ p' s' q').toArray.size := by rw [hTLY]; kernel_rfl
        have hHY : (hc ⟨true, name', t'⟩ p' s' q').toArray = (.bool true :: .string name' :: tc t' p' s' q').toArray := rfl
        obtain ⟨yl, hyl⟩ : ∃ l, tc t' p' s' q' = l := ⟨_, rfl⟩
        have hyl33 : yl.length = 33 := by rw [← hyl]; exact tc_len Z1 _ _ _
        obtain ⟨HY, hHY2⟩ : ∃ A, (hc ⟨true, name', t'⟩ p' s' q').toArray = A := ⟨_, rfl⟩
        rw [hyl] at hry i3' CT HT' hHY
        rw [hHY2] at HM16 hbs i35y hHY
        obtain ⟨TE, hTE⟩ : ∃ l, tenc t' = l := ⟨_, rfl⟩
        rw [hTE] at CT htd hte
        have HZ : Hid (HY = (.bool true :: .string name' :: yl).toArray ∧ yl.length = 33 ∧ TSame (tcut t') t' ∧ TFew (tcut t') ∧ TIn t' ∧ tenc t' = TE ∧ TE.length ≤ 5500) := ⟨hHY, hyl33, hsm, hfew, Z2, hTE, hte⟩
        have HBS : Hid (∀ V, (Instr.buildSlice 61 1 #[(0, .agg HY)]).run Tryz.prog V = .ok (.slice (some ⟨V.heap.size, 0, none⟩) 1 1) (V.alloc (.cells HY 35))) := hbs
        clear hHY hyl33 hsm hfew Z2 hTE hbs hTLY Z1 Z3 Z4 KEY hM15 cput cname cten hfr hbt hHY2 hyl
        go_wp2_with (refine wpList_load_mid rfl 33 (.tmp 101) (by with_reducible rfl) (g + 1) 2 (by first | rfl | simp [Act.eval]) yl _ hry Tryz.underlying33 rfl i3' ?_)
        refine CT.mono ?_
        rintro e V16 ⟨ut, rfl, hOt⟩
        obtain ⟨v5, W5, hr5, hO5⟩ := out_one hOt more HJ.out.2.2.2.2.2 (by omega) 40
        obtain ⟨a5, c5, rfl, hS5⟩ := hO5.sl (by simp only [List.length_append, List.length_cons, List.length_nil]; omega)
        have CO := openTenant_any hS5 (by simp only [List.length_append, List.length_cons, List.length_nil]; omega)
        rw [htd] at CO
        have e9 : (((TE ++ [more]).length : Nat) : Int) - (([more] : List Int).length : Nat) = (TE.length : Nat) := by simp only [List.length_append, List.length_cons, List.length_nil]; omega
        simp only [e9] at CO
        have HB5 : Hid (Below V15.heap.size V15 W5) := hO5.mem.below
        obtain ⟨tn, htn⟩ : ∃ n, TE.length = n := ⟨_, rfl⟩
        rw [htn] at CO
        have HTN : Hid (TE.length = tn) := htn
        generalize (TE ++ [more]).length = n5 at *
        clear CT hOt hO5 hS5 htd e9 hte htn hry
        go_wp2_with (at_builtin; refine wpList_append_run (.tmp 103) (.tmp 105) 40 40 (by with_reducible rfl) hr5 rfl rfl (by simp [Act.eval]) (by simp [Act.eval]) ?_)
        refine CO.mono ?_
        rintro e V17 ⟨hb17, vt, rfl, hTVt⟩
        obtain ⟨tl, rfl, ht1, ht2⟩ := hTVt.row2
        have hs33 : tl.toArray.size = 33 := by rw [List.size_toArray, ht1]
        have i33t : (Tryz.prog.info? 33).map (·.size) = some tl.toArray.size := by rw [hs33]; kernel_rfl
        have HTVt : Hid (TV V17 (.agg tl.toArray) (tcut t')) := hTVt
        have HM18 : Hid (Mem w (V17.alloc (.cells tl.toArray 33)) [(g + 1, .cells HY 35 (0, 0)), (g, .cells CL0 28 (0, 0)), (gd, .cells dl 28 (0, 0)), (gx, .cells xr 35 (0, 0)), (V17.heap.size, .cells tl.toArray 33 (0, 0))] ∧ Ab (g + 2) V6 (V17.alloc (.cells tl.toArray 33)) ∧ Ab (g + 2) V13 (V17.alloc (.cells tl.toArray 33)) ∧ Below V17.heap.size V17 (V17.alloc (.cells tl.toArray 33))) := by
          have hb := HB5.out.trans (hb17.mono HB5.out.size)
          have hb2 : Below V17.heap.size V17 (V17.alloc (.cells tl.toArray 33)) := (Below.refl _ _).alloc (Nat.le_refl _) _
          exact ⟨(HM16.out.1.after hb).push V17.heap.size _ rfl, (HM16.out.2.1.trans (Ab.of hb)).trans (Ab.of hb2), (HM16.out.2.2.trans (Ab.of hb)).trans (Ab.of hb2), hb2⟩
        clear CO hb17 hTVt HM16 HB5 hr5
        go_upto_region 21 with (refine wpList_store_row rfl 33 (.tmp 17) (.tmp 108) (by with_reducible rfl) V17.heap.size tl.toArray rfl rfl 33 _ (heap_alloc_new V17 _) i33t (by rw [hs33]; rfl) ht2 ?_)
        refine wp_letter (fun V => Mem w V [(g + 1, .cells HY 35 (0, 0)), (g, .cells CL0 28 (0, 0)), (gd, .cells dl 28 (0, 0)), (gx, .cells xr 35 (0, 0)), (V17.heap.size, .cells tl.toArray 33 (0, 0))] ∧ Ab (g + 2) V6 V ∧ Ab (g + 2) V13 V ∧ Below V17.heap.size V17 V) (by
          rw [World.setRow_alloc_new]
          exact HM18.out) ?_
        intro V18 hM18
        clear HM18
        have KF : Hid (∀ V, Below V18.heap.size V18 V → Mem w V [(g + 1, .cells HY 35 (0, 0)), (g, .cells CL0 28 (0, 0)), (gd, .cells dl 28 (0, 0)), (gx, .cells xr 35 (0, 0)), (V17.heap.size, .cells tl.toArray 33 (0, 0))] ∧ CV V (.agg CL0) c ∧ CV V (.agg dl) cd ∧ TV V (.agg xq.toArray) xx.t ∧ TV V (.agg yl.toArray) t' ∧ TV V (.agg tl.toArray) (tcut t')) := by
          intro V hV
          have hm := hM18.1.after hV
          refine ⟨hm, HCV.out _ hm.below, HCVs.out w V (by have := HG2.out; omega) hm.below (fun b h1 h2 => (hM18.2.1.trans (Ab.of hV)).2 b (Nat.le_trans HG2.out h1) h2), HXR.out.2.2.2.2 V (fun b h1 h2 => (hM18.2.2.1.trans (Ab.of hV)).2 b (Nat.le_trans HM15.out.2.2.2 h1) h2), HT'.out _ hm.below, ?_⟩
          exact HTVt.out.at2 (hM18.2.2.2.trans (hV.mono hM18.2.2.2.size))
        obtain ⟨gt, hgt⟩ : ∃ x, V17.heap.size = x := ⟨_, rfl⟩
        rw [hgt] at KF
        simp only [hgt]
        clear hM18 hgt HM15 HTVt
        obtain ⟨m18, v1, v2, -⟩ := KF.out _ (Below.refl _ _)
        have CConf := hconfig_yes v1 v2 HP.out.2.2.2.2.2.2 HP.out.2.2.2.2.2.1
        have kC := m18.get 1 rfl
        have kD := m18.get 2 rfl
        clear m18 v1 v2
        go_wp2_with (first | (refine wpList_load_row_g rfl 28 (.tmp 3) (by with_reducible rfl) g (by first | rfl | simp [Act.eval]) 28 CL0 (0, 0) _ kC Tryz.underlying28 i1 ?_) | (refine wpList_load_row_g rfl 28 (.tmp 9) (by with_reducible rfl) gd (by first | rfl | simp [Act.eval]) 28 dl (0, 0) _ kD Tryz.underlying28 i29 ?_))
        refine CConf.mono ?_
        rintro e V19 ⟨rfl, hb19⟩
        have HB19 : Hid (Below V18.heap.size V18 V19) := hb19
        clear CConf kC kD hb19
        obtain ⟨m19, -⟩ := KF.out _ HB19.out
        have kX := m19.get 3 rfl
        have hM21 := two_blocks' V19 (.cells xr 35) (.cells HY 35)
        have kY : (V19.alloc (.cells xr 35)).heap[g + 1]? = some (.cells HY 35 (0, 0)) := (m19.push V19.heap.size (.cells xr 35 (0, 0)) rfl).get 0 rfl
        have hB1 : (Instr.buildSlice 61 1 #[(0, .agg xr)]).run Tryz.prog V19 = .ok (.slice (some ⟨V19.heap.size, 0, none⟩) 1 1) (V19.alloc (.cells xr 35)) := by
          obtain ⟨hl, ⟨p9, s9, q9, e9⟩, -⟩ := HXR.out.2.2
          rw [e9]
          exact bslice xx hl p9 s9 q9 V19
        have hB2 : (Instr.buildSlice 61 1 #[(0, .agg HY)]).run Tryz.prog (V19.alloc (.cells xr 35)) = .ok (.slice (some ⟨V19.heap.size + 1, 0, none⟩) 1 1) ((V19.alloc (.cells xr 35)).alloc (.cells HY 35)) := by
          have := HBS.out (V19.alloc (.cells xr 35))
          rw [this]
          simp
        have CCh := hchanges_yes (w := (V19.alloc (.cells xr 35)).alloc (.cells HY 35)) (b := V19.heap.size) (b' := V19.heap.size + 1) (c := 1) (c' := 1) (px' := xx.put) (py := true) (nx := xx.name) (ny := name') (xl := xq) (yl := yl) HXR.out.2.1 HZ.out.2.1 (fun V hV => by
            have h := hM21.after hV
            refine ⟨?_, ?_, fun j v hj => ?_, ?_, ?_, fun j v hj => ?_⟩
            · rw [h.cell 1 rfl, HXR.out.1]; rfl
            · rw [h.cell 1 rfl, HXR.out.1]; rfl
            · rw [h.cell 1 rfl, HXR.out.1, Nat.add_comm]; simpa using hj
            · rw [h.cell 0 rfl, HZ.out.1]; rfl
            · rw [h.cell 0 rfl, HZ.out.1]; rfl
            · rw [h.cell 0 rfl, HZ.out.1, Nat.add_comm]; simpa using hj) HXX.out.1 HXX.out.2.1 (fun V hV => by
            have h19 := (HB19.out.trans (hM21.below.mono HB19.out.size))
            have h := h19.trans (hV.mono h19.size)
            obtain ⟨-, -, -, k3, k4, -⟩ := KF.out V h
            exact htenant_yes k3 k4 HXX.out.2.2.2.1 HXX.out.2.2.1)
        have HB21 : Hid (Below V18.heap.size V18 ((V19.alloc (.cells xr 35)).alloc (.cells HY 35))) := HB19.out.trans (hM21.below.mono HB19.out.size)
        clear m19 hM21
        go_wp2_with ((refine wpList_load_row_g rfl 35 (.tmp 15) (by with_reducible rfl) gx rfl 35 xr (0, 0) _ kX Tryz.underlying35 i35 ?_); (refine wpList_bslice_run rfl 61 1 _ (by with_reducible rfl) hB1 (by kernel_rfl) ?_); (refine wpList_load_row_g rfl 35 (.tmp 4) (by with_reducible rfl) (g + 1) rfl 35 HY (0, 0) _ kY Tryz.underlying35 i35y ?_); (refine wpList_bslice_run rfl 61 1 _ (by with_reducible rfl) hB2 (by kernel_rfl) ?_))
        refine CCh.mono ?_
        rintro e V22 ⟨rfl, hb22⟩
        have HB22 : Hid (Below V18.heap.size V18 V22) := HB21.out.trans (hb22.mono HB21.out.size)
        clear CCh hb22 HB21 kX kY hB1 hB2
        obtain ⟨m22, -, -, -, k22, -⟩ := KF.out _ HB22.out
        have hry : V22.rangeAt (g + 1) 2 yl := fun j v hj => by
          rw [m22.cell 0 rfl, HZ.out.1, Nat.add_comm]; simpa using hj
        have CT2 := cfgTenant_any k22 HZ.out.2.2.2.2.1 (by have := HZ.out.2.2.2.2.2; rw [this.1]; omega)
        rw [HZ.out.2.2.2.2.2.1] at CT2
        clear m22 k22
        go_wp2_with (refine wpList_load_mid_g rfl 33 (.tmp 143) (by with_reducible rfl) (g + 1) 2 (by first | rfl | simp [Act.eval]) yl _ hry Tryz.underlying33 rfl i3' ?_)
        refine CT2.mono ?_
        rintro e V23 ⟨u2, rfl, hO23⟩
        obtain ⟨a6, c6, rfl, -⟩ := hO23.sl (by have := HZ.out.2.2.2.2.2.2; omega)
        rw [HTN.out]
        have HB23 : Hid (Below V18.heap.size V18 V23) := HB22.out.trans (hO23.mem.below.mono HB22.out.size)
        clear CT2 hO23 hry HB22
        obtain ⟨m23, -, -, -, k5, k6⟩ := KF.out _ HB23.out
        have hry : V23.rangeAt (g + 1) 2 yl := fun j v hj => by
          rw [m23.cell 0 rfl, HZ.out.1, Nat.add_comm]; simpa using hj
        have kT := m23.get 4 rfl
        have CF := htenant_yes k6 k5 HZ.out.2.2.2.1 HZ.out.2.2.1
        have HBF : Hid (Below w.heap.size w V23) := m23.below
        clear m23 k5 k6
        go_wp2_with (first | (refine wpList_load_row_g rfl 33 (.tmp 17) (by with_reducible rfl) gt (by first | rfl | simp [Act.eval]) 33 tl.toArray (0, 0) _ kT Tryz.underlying33 i33t ?_) | (refine wpList_load_mid_g rfl 33 (.tmp 151) (by with_reducible rfl) (g + 1) 2 (by first | rfl | simp [Act.eval]) yl _ hry Tryz.underlying33 rfl i3' ?_))
        refine CF.mono ?_
        rintro e V24 ⟨rfl, hb24⟩
        have HB24 : Hid (Below w.heap.size w V24) := HBF.out.trans (hb24.mono HBF.out.size)
        clear CF hb24 hry kT
        go_wp2_with fail
        go_ret
        exact ⟨rfl, HB24.out⟩
      | false =>
        have hth : V14.there (g + 1) 2 (tz : Array Value).size := fun j hj => by
          have hj' : j < 33 := hj
          refine ⟨?_, hfr _⟩
          have hsz : HL0.size = 35 := by rw [← HXL.out.2, List.size_toArray]; simp only [hc, List.length_cons, tc_len HJ.out.2.1]
          rw [HM15.out.1.cell 0 rfl, Array.getElem?_eq_getElem (by omega)]
          rfl
        have HS1 : Hid (Mem w (V14.setCells (g + 1) 2 (tz : Array Value).toList) [(g + 1, .cells (hc ⟨false, name', t'⟩ p' s' q').toArray 35 (0, 0)), (g, .cells CL0 28 (0, 0)), (gd, .cells dl 28 (0, 0)), (gx, .cells xr 35 (0, 0))] ∧ Ab (g + 2) V14 (V14.setCells (g + 1) 2 (tz : Array Value).toList)) := by
          have h := mem_setCells (tz : Array Value).toList 2 _ _ HM15.out.1
          rw [← HXL.out.2, hc_set _ _ _ _ _ HJ.out.2.1] at h
          rcases HWH.out with ⟨e, -⟩ | ⟨-, rfl, rfl, rfl, rfl, rfl⟩
          · cases e
          · exact ⟨h, ab_setCells (by omega) _ _ _ (Ab.refl _ _)⟩
        have itz : (Tryz.prog.info? 33).map (·.size) = some (tz : Array Value).size := by kernel_rfl
        have itz1 := tz_one
        go_upto_region 20 with (refine wpList_store_mid rfl 33 (.tmp 99) (.tmp 98) (by with_reducible rfl) (g + 1) 2 tz (by first | rfl | simp [Act.eval]) (by first | rfl | simp [Act.eval]) hth itz itz1 ?_)
        refine wp_letter (fun V => Mem w V [(g + 1, .cells (hc ⟨false, name', t'⟩ p' s' q').toArray 35 (0, 0)), (g, .cells CL0 28 (0, 0)), (gd, .cells dl 28 (0, 0)), (gx, .cells xr 35 (0, 0))] ∧ Ab (g + 2) V14 V) HS1.out ?_
        intro V15 hM15
        clear HS1 hth itz itz1
        have HM16 : Hid _ := KEY.out _ hM15
        obtain ⟨Z1, Z2, Z3, Z4⟩ := HXX.out.2.2.2.2
        have hte := tenc_le2 t' Z1
        have hry : V15.rangeAt (g + 1) 2 (tc t' p' s' q') := fun j v hj => by
          rw [HM16.out.1.cell 0 rfl, Nat.add_comm]; simpa [hc] using hj
        have i3' : (Tryz.prog.info? 33).map (·.size) = some (tc t' p' s' q').length := by rw [tc_len Z1]; kernel_rfl
        have CT := cfgTenant_any (HT'.out _ HM16.out.1.below) Z2 (by omega)
        have htd := tdec_back t' Z1 [more]
        have hsm := (same_cut t' Z3 Z4).symm
        have hfew : TFew (tcut t') := by
          obtain ⟨-, -, -, -, -, -, p1, -, -, -, p2, p3, -⟩ := hsm
          rw [TFew, p1, p2, p3]
          exact ⟨Z2.pool, Z2.stat, Z2.twi⟩
        have hTLY : (hc ⟨false, name', t'⟩ p' s' q').toArray.size = 35 := by rw [List.size_toArray]; simp only [hc, List.length_cons, tc_len Z1]
        have hbs := bslice ⟨false, name', t'⟩ Z1 p' s' q'
        have i35y : (Tryz.prog.info? 35).map (·.size) = some (hc ⟨false, name', t'⟩ p' s' q').toArray.size := by rw [hTLY]; kernel_rfl
        have hHY : (hc ⟨false, name', t'⟩ p' s' q').toArray = (.bool false :: .string name' :: tc t' p' s' q').toArray := rfl
        obtain ⟨yl, hyl⟩ : ∃ l, tc t' p' s' q' = l := ⟨_, rfl⟩
        have hyl33 : yl.length = 33 := by rw [← hyl]; exact tc_len Z1 _ _ _
        obtain ⟨HY, hHY2⟩ : ∃ A, (hc ⟨false, name', t'⟩ p' s' q').toArray = A := ⟨_, rfl⟩
        rw [hyl] at hry i3' CT HT' hHY
        rw [hHY2] at HM16 hbs i35y hHY
        obtain ⟨TE, hTE⟩ : ∃ l, tenc t' = l := ⟨_, rfl⟩
        rw [hTE] at CT htd hte
        have HZ : Hid (HY = (.bool false :: .string name' :: yl).toArray ∧ yl.length = 33 ∧ TSame (tcut t') t' ∧ TFew (tcut t') ∧ TIn t' ∧ tenc t' = TE ∧ TE.length ≤ 5500) := ⟨hHY, hyl33, hsm, hfew, Z2, hTE, hte⟩
        have HBS : Hid (∀ V, (Instr.buildSlice 61 1 #[(0, .agg HY)]).run Tryz.prog V = .ok (.slice (some ⟨V.heap.size, 0, none⟩) 1 1) (V.alloc (.cells HY 35))) := hbs
        clear hHY hyl33 hsm hfew Z2 hTE hbs hTLY Z1 Z3 Z4 KEY hM15 cput cname cten hfr hbt hHY2 hyl
        go_wp2_with (refine wpList_load_mid rfl 33 (.tmp 101) (by with_reducible rfl) (g + 1) 2 (by first | rfl | simp [Act.eval]) yl _ hry Tryz.underlying33 rfl i3' ?_)
        refine CT.mono ?_
        rintro e V16 ⟨ut, rfl, hOt⟩
        obtain ⟨v5, W5, hr5, hO5⟩ := out_one hOt more HJ.out.2.2.2.2.2 (by omega) 40
        obtain ⟨a5, c5, rfl, hS5⟩ := hO5.sl (by simp only [List.length_append, List.length_cons, List.length_nil]; omega)
        have CO := openTenant_any hS5 (by simp only [List.length_append, List.length_cons, List.length_nil]; omega)
        rw [htd] at CO
        have e9 : (((TE ++ [more]).length : Nat) : Int) - (([more] : List Int).length : Nat) = (TE.length : Nat) := by simp only [List.length_append, List.length_cons, List.length_nil]; omega
        simp only [e9] at CO
        have HB5 : Hid (Below V15.heap.size V15 W5) := hO5.mem.below
        obtain ⟨tn, htn⟩ : ∃ n, TE.length = n := ⟨_, rfl⟩
        rw [htn] at CO
        have HTN : Hid (TE.length = tn) := htn
        generalize (TE ++ [more]).length = n5 at *
        clear CT hOt hO5 hS5 htd e9 hte htn hry
        go_wp2_with (at_builtin; refine wpList_append_run (.tmp 103) (.tmp 105) 40 40 (by with_reducible rfl) hr5 rfl rfl (by simp [Act.eval]) (by simp [Act.eval]) ?_)
        refine CO.mono ?_
        rintro e V17 ⟨hb17, vt, rfl, hTVt⟩
        obtain ⟨tl, rfl, ht1, ht2⟩ := hTVt.row2
        have hs33 : tl.toArray.size = 33 := by rw [List.size_toArray, ht1]
        have i33t : (Tryz.prog.info? 33).map (·.size) = some tl.toArray.size := by rw [hs33]; kernel_rfl
        have HTVt : Hid (TV V17 (.agg tl.toArray) (tcut t')) := hTVt
        have HM18 : Hid (Mem w (V17.alloc (.cells tl.toArray 33)) [(g + 1, .cells HY 35 (0, 0)), (g, .cells CL0 28 (0, 0)), (gd, .cells dl 28 (0, 0)), (gx, .cells xr 35 (0, 0)), (V17.heap.size, .cells tl.toArray 33 (0, 0))] ∧ Ab (g + 2) V6 (V17.alloc (.cells tl.toArray 33)) ∧ Ab (g + 2) V13 (V17.alloc (.cells tl.toArray 33)) ∧ Below V17.heap.size V17 (V17.alloc (.cells tl.toArray 33))) := by
          have hb := HB5.out.trans (hb17.mono HB5.out.size)
          have hb2 : Below V17.heap.size V17 (V17.alloc (.cells tl.toArray 33)) := (Below.refl _ _).alloc (Nat.le_refl _) _
          exact ⟨(HM16.out.1.after hb).push V17.heap.size _ rfl, (HM16.out.2.1.trans (Ab.of hb)).trans (Ab.of hb2), (HM16.out.2.2.trans (Ab.of hb)).trans (Ab.of hb2), hb2⟩
        clear CO hb17 hTVt HM16 HB5 hr5
        go_upto_region 21 with (refine wpList_store_row rfl 33 (.tmp 17) (.tmp 108) (by with_reducible rfl) V17.heap.size tl.toArray rfl rfl 33 _ (heap_alloc_new V17 _) i33t (by rw [hs33]; rfl) ht2 ?_)
        refine wp_letter (fun V => Mem w V [(g + 1, .cells HY 35 (0, 0)), (g, .cells CL0 28 (0, 0)), (gd, .cells dl 28 (0, 0)), (gx, .cells xr 35 (0, 0)), (V17.heap.size, .cells tl.toArray 33 (0, 0))] ∧ Ab (g + 2) V6 V ∧ Ab (g + 2) V13 V ∧ Below V17.heap.size V17 V) (by
          rw [World.setRow_alloc_new]
          exact HM18.out) ?_
        intro V18 hM18
        clear HM18
        have KF : Hid (∀ V, Below V18.heap.size V18 V → Mem w V [(g + 1, .cells HY 35 (0, 0)), (g, .cells CL0 28 (0, 0)), (gd, .cells dl 28 (0, 0)), (gx, .cells xr 35 (0, 0)), (V17.heap.size, .cells tl.toArray 33 (0, 0))] ∧ CV V (.agg CL0) c ∧ CV V (.agg dl) cd ∧ TV V (.agg xq.toArray) xx.t ∧ TV V (.agg yl.toArray) t' ∧ TV V (.agg tl.toArray) (tcut t')) := by
          intro V hV
          have hm := hM18.1.after hV
          refine ⟨hm, HCV.out _ hm.below, HCVs.out w V (by have := HG2.out; omega) hm.below (fun b h1 h2 => (hM18.2.1.trans (Ab.of hV)).2 b (Nat.le_trans HG2.out h1) h2), HXR.out.2.2.2.2 V (fun b h1 h2 => (hM18.2.2.1.trans (Ab.of hV)).2 b (Nat.le_trans HM15.out.2.2.2 h1) h2), HT'.out _ hm.below, ?_⟩
          exact HTVt.out.at2 (hM18.2.2.2.trans (hV.mono hM18.2.2.2.size))
        obtain ⟨gt, hgt⟩ : ∃ x, V17.heap.size = x := ⟨_, rfl⟩
        rw [hgt] at KF
        simp only [hgt]
        clear hM18 hgt HM15 HTVt
        obtain ⟨m18, v1, v2, -⟩ := KF.out _ (Below.refl _ _)
        have CConf := hconfig_yes v1 v2 HP.out.2.2.2.2.2.2 HP.out.2.2.2.2.2.1
        have kC := m18.get 1 rfl
        have kD := m18.get 2 rfl
        clear m18 v1 v2
        go_wp2_with (first | (refine wpList_load_row_g rfl 28 (.tmp 3) (by with_reducible rfl) g (by first | rfl | simp [Act.eval]) 28 CL0 (0, 0) _ kC Tryz.underlying28 i1 ?_) | (refine wpList_load_row_g rfl 28 (.tmp 9) (by with_reducible rfl) gd (by first | rfl | simp [Act.eval]) 28 dl (0, 0) _ kD Tryz.underlying28 i29 ?_))
        refine CConf.mono ?_
        rintro e V19 ⟨rfl, hb19⟩
        have HB19 : Hid (Below V18.heap.size V18 V19) := hb19
        clear CConf kC kD hb19
        obtain ⟨m19, -⟩ := KF.out _ HB19.out
        have kX := m19.get 3 rfl
        have hM21 := two_blocks' V19 (.cells xr 35) (.cells HY 35)
        have kY : (V19.alloc (.cells xr 35)).heap[g + 1]? = some (.cells HY 35 (0, 0)) := (m19.push V19.heap.size (.cells xr 35 (0, 0)) rfl).get 0 rfl
        have hB1 : (Instr.buildSlice 61 1 #[(0, .agg xr)]).run Tryz.prog V19 = .ok (.slice (some ⟨V19.heap.size, 0, none⟩) 1 1) (V19.alloc (.cells xr 35)) := by
          obtain ⟨hl, ⟨p9, s9, q9, e9⟩, -⟩ := HXR.out.2.2
          rw [e9]
          exact bslice xx hl p9 s9 q9 V19
        have hB2 : (Instr.buildSlice 61 1 #[(0, .agg HY)]).run Tryz.prog (V19.alloc (.cells xr 35)) = .ok (.slice (some ⟨V19.heap.size + 1, 0, none⟩) 1 1) ((V19.alloc (.cells xr 35)).alloc (.cells HY 35)) := by
          have := HBS.out (V19.alloc (.cells xr 35))
          rw [this]
          simp
        have CCh := hchanges_yes (w := (V19.alloc (.cells xr 35)).alloc (.cells HY 35)) (b := V19.heap.size) (b' := V19.heap.size + 1) (c := 1) (c' := 1) (px' := xx.put) (py := false) (nx := xx.name) (ny := name') (xl := xq) (yl := yl) HXR.out.2.1 HZ.out.2.1 (fun V hV => by
            have h := hM21.after hV
            refine ⟨?_, ?_, fun j v hj => ?_, ?_, ?_, fun j v hj => ?_⟩
            · rw [h.cell 1 rfl, HXR.out.1]; rfl
            · rw [h.cell 1 rfl, HXR.out.1]; rfl
            · rw [h.cell 1 rfl, HXR.out.1, Nat.add_comm]; simpa using hj
            · rw [h.cell 0 rfl, HZ.out.1]; rfl
            · rw [h.cell 0 rfl, HZ.out.1]; rfl
            · rw [h.cell 0 rfl, HZ.out.1, Nat.add_comm]; simpa using hj) HXX.out.1 HXX.out.2.1 (fun V hV => by
            have h19 := (HB19.out.trans (hM21.below.mono HB19.out.size))
            have h := h19.trans (hV.mono h19.size)
            obtain ⟨-, -, -, k3, k4, -⟩ := KF.out V h
            exact htenant_yes k3 k4 HXX.out.2.2.2.1 HXX.out.2.2.1)
        have HB21 : Hid (Below V18.heap.size V18 ((V19.alloc (.cells xr 35)).alloc (.cells HY 35))) := HB19.out.trans (hM21.below.mono HB19.out.size)
        clear m19 hM21
        go_wp2_with ((refine wpList_load_row_g rfl 35 (.tmp 15) (by with_reducible rfl) gx rfl 35 xr (0, 0) _ kX Tryz.underlying35 i35 ?_); (refine wpList_bslice_run rfl 61 1 _ (by with_reducible rfl) hB1 (by kernel_rfl) ?_); (refine wpList_load_row_g rfl 35 (.tmp 4) (by with_reducible rfl) (g + 1) rfl 35 HY (0, 0) _ kY Tryz.underlying35 i35y ?_); (refine wpList_bslice_run rfl 61 1 _ (by with_reducible rfl) hB2 (by kernel_rfl) ?_))
        refine CCh.mono ?_
        rintro e V22 ⟨rfl, hb22⟩
        have HB22 : Hid (Below V18.heap.size V18 V22) := HB21.out.trans (hb22.mono HB21.out.size)
        clear CCh hb22 HB21 kX kY hB1 hB2
        obtain ⟨m22, -, -, -, k22, -⟩ := KF.out _ HB22.out
        have hry : V22.rangeAt (g + 1) 2 yl := fun j v hj => by
          rw [m22.cell 0 rfl, HZ.out.1, Nat.add_comm]; simpa using hj
        have CT2 := cfgTenant_any k22 HZ.out.2.2.2.2.1 (by have := HZ.out.2.2.2.2.2; rw [this.1]; omega)
        rw [HZ.out.2.2.2.2.2.1] at CT2
        clear m22 k22
        go_wp2_with (refine wpList_load_mid_g rfl 33 (.tmp 143) (by with_reducible rfl) (g + 1) 2 (by first | rfl | simp [Act.eval]) yl _ hry Tryz.underlying33 rfl i3' ?_)
        refine CT2.mono ?_
        rintro e V23 ⟨u2, rfl, hO23⟩
        obtain ⟨a6, c6, rfl, -⟩ := hO23.sl (by have := HZ.out.2.2.2.2.2.2; omega)
        rw [HTN.out]
        have HB23 : Hid (Below V18.heap.size V18 V23) := HB22.out.trans (hO23.mem.below.mono HB22.out.size)
        clear CT2 hO23 hry HB22
        obtain ⟨m23, -, -, -, k5, k6⟩ := KF.out _ HB23.out
        have hry : V23.rangeAt (g + 1) 2 yl := fun j v hj => by
          rw [m23.cell 0 rfl, HZ.out.1, Nat.add_comm]; simpa using hj
        have kT := m23.get 4 rfl
        have CF := htenant_yes k6 k5 HZ.out.2.2.2.1 HZ.out.2.2.1
        have HBF : Hid (Below w.heap.size w V23) := m23.below
        clear m23 k5 k6
        go_wp2_with (first | (refine wpList_load_row_g rfl 33 (.tmp 17) (by with_reducible rfl) gt (by first | rfl | simp [Act.eval]) 33 tl.toArray (0, 0) _ kT Tryz.underlying33 i33t ?_) | (refine wpList_load_mid_g rfl 33 (.tmp 151) (by with_reducible rfl) (g + 1) 2 (by first | rfl | simp [Act.eval]) yl _ hry Tryz.underlying33 rfl i3' ?_))
        refine CF.mono ?_
        rintro e V24 ⟨rfl, hb24⟩
        have HB24 : Hid (Below w.heap.size w V24) := HBF.out.trans (hb24.mono HBF.out.size)
        clear CF hb24 hry kT
        go_wp2_with fail
        go_ret
        exact ⟨rfl, HB24.out⟩
end Go.Proofs.YtngegdamcfmonaaGreat

