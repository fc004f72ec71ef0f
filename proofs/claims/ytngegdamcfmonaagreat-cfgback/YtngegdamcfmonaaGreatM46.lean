/-
  Any settings, tenants, changes are written as just the document's bytes (P12.1, P12.2): the statement's walk.
  Settings held against one another: lychhelp.Tenants, Config and Changes, where both are the same.
-/
import Derived.Test.YtngegdamcfmonaaGreatM45
import Derived.Test.YtngegdamcfmonaaGreatM44
import Derived.Test.YtngegdamcfmonaaGreatM42
namespace Go.Proofs.YtngegdamcfmonaaGreat
open Go.RowKit
open Sm
open Cf
set_option linter.unusedVariables false
set_option linter.unusedSimpArgs false
set_option maxRecDepth 20000

theorem lgt_in2 {t : Ten} (h : Lgt t) (hl : TLen t) (hb : TBy t) : TIn t := by
  obtain ⟨a, b, c, d⟩ := h
  exact ⟨hl, hb.key, hb.vmac, hb.host, by omega, by omega, by omega, by omega⟩
theorem cat_le2 (enc : Nat → List Int) (c : Nat) (h : ∀ i, (enc i).length ≤ c) : ∀ n, (cat enc n).length ≤ n * c
  | 0 => by simp [cat]
  | n + 1 => by
    have := cat_le2 enc c h n
    have := h n
    rw [cat, List.length_append, Nat.succ_mul]
    omega
theorem tenc_le2 (t : Ten) (hl : TLen t) : (tenc t).length ≤ 5500 := by
  have h1 := cat_le2 (fun i => be 4 (t.pool.getD i 0)) 4 (fun i => by simp only [be_len]; omega) (min t.pool.length 255)
  have h2 := cat_le2 (fun i => spP.enc (t.stat.getD i (0, 0))) 8 (fun i => by simp only [spP_enc, List.length_append, be_len]; omega) (min t.stat.length 255)
  have h3 := cat_le2 (fun i => spP.enc (t.twi.getD i (0, 0))) 8 (fun i => by simp only [spP_enc, List.length_append, be_len]; omega) (min t.twi.length 255)
  have h4 : (nm t.name).length ≤ 256 := by simp only [nm, List.length_cons, List.length_take]; omega
  rw [tenc_eq, thead_eq]
  simp only [List.length_append, be_len, hl.key, hl.vmac, hl.host, List.length_cons, List.length_nil]
  omega
theorem TSV.len_at {w : World} {v : Value} {ts : List Ten} (h : TSV w v ts) : ∀ t ∈ ts, TLen t := by
  obtain ⟨zs, rfl, -, h⟩ := h
  intro t ht
  obtain ⟨z, hz, rfl⟩ := List.mem_map.mp ht
  exact (h z hz).1
theorem cenc_le2 (c : Cgf) (hl : CLen c) (ht : ∀ t ∈ c.ten, TLen t) : (cenc c).length ≤ 1500000 := by
  have h1 := cat_le2 (fun i => tenc (c.ten.getD i ten0)) 5500 (fun i => by
    refine tenc_le2 _ ?_
    by_cases h : i < c.ten.length
    · rw [List.getD_eq_getElem?_getD, List.getElem?_eq_getElem h, Option.getD_some]
      exact ht _ (List.getElem_mem _)
    · rw [List.getD_eq_getElem?_getD, List.getElem?_eq_none (by omega), Option.getD_none]
      exact ten0_len) (min c.ten.length 255)
  rw [cenc_eq, chead]
  simp only [List.length_append, be_len, hl.mac, hl.omac, hl.nmac, hl.key, List.length_cons, List.length_nil]
  omega
theorem henc_le2 (h : Chg) (hl : TLen h.t) : (henc h).length ≤ 6000 := by
  have h1 := tenc_le2 h.t hl
  have h4 : (nm h.name).length ≤ 256 := by simp only [nm, List.length_cons, List.length_take]; omega
  unfold henc
  split <;> simp only [List.length_cons] <;> omega
theorem wpList_load_mid_g {ops : Array Oper} {rest : List Oper} {op : Oper} {a : Act} {w : World} {Q : Exit → Act → World → Prop} (hw : Region.wanted op (yielded ops a.tmps) = true) (ty : TypeId) (x : Operand) (ho : op.op = .load ty x)
    (b o : Nat) (hx : a.eval x = .pointer (some ⟨b, o, none⟩)) (cs : List Value) (d : TypeDesc) (hc : w.rangeAt b o cs)
    (hu : Tryz.prog.underlying ty = some d) (hd : d.isRow = true) (hi : (Tryz.prog.info? ty).map (·.size) = some cs.length)
    (h : wpList Tryz.prog ops Q rest (a.put op.dst (.agg cs.toArray)) w) : wpList Tryz.prog ops Q (op :: rest) a w :=
  wpList_wanted hw fun _ hK => wp_load_mid ty x ho b o hx cs d hc hu hd hi (hK _ _ h)
/-- What a call that makes bytes answers. -/
def Mk (l : List Int) (V : World) (e : Ending) (V' : World) : Prop := ∃ a c, e = .returned (.slice a l.length c) ∧ Below V.heap.size V V' ∧ Row V' a l
theorem mk_of {l : List Int} {V V' : World} {u : Value} (h : Out V V' u l []) (hl : l.length ≤ 1000000000) : Mk l V (.returned u) V' := by
  obtain ⟨a, c, rfl, hS⟩ := h.sl hl
  exact ⟨a, c, rfl, h.mem.below, hS.row⟩
theorem bytes_yes {V : World} {a b : Option Addr} {l : List Int} (ha : Row V a l) (hb : Row V b l) (n : Nat) (hn : l.length = n) (ca cb : Nat) : Calls Tryz.prog 12 #[.slice a n ca, .slice b n cb] V fun e V' => e = .returned (.bool true) ∧ V = V' := by
  have := hbytes_any ha hb n n hn hn ca cb
  rwa [decide_eq_true rfl] at this
theorem HV.tv {w V : World} {t : Ten} {put : Bool} {name : ByteArray} {p s q : Value} (hl : TLen t) (h1 : Rw w 1 p (ux t.pool)) (h2 : Rw w 2 s (px t.stat)) (h3 : Rw w 2 q (px t.twi)) (hb : Below w.heap.size w V) : TV V (.agg (tc t p s q).toArray) t ∧ HV V (.agg (hc ⟨put, name, t⟩ p s q).toArray) ⟨put, name, t⟩ :=
  ⟨⟨hl, p, s, q, rfl, h1.below ux_ne hb (Nat.le_refl _), h2.below px_ne hb (Nat.le_refl _), h3.below px_ne hb (Nat.le_refl _)⟩, ⟨hl, p, s, q, rfl, h1.below ux_ne hb (Nat.le_refl _), h2.below px_ne hb (Nat.le_refl _), h3.below px_ne hb (Nat.le_refl _)⟩⟩

set_option maxHeartbeats 8000000 in
theorem writes_law {w : World} {vc vh : Value} {c : Cgf} {h : Chg} (hC : CV w vc c) (hi : CIn c) (hts : ∀ t ∈ c.ten, TBy t ∧ TRg t) (hH : HV w vh h) (hby : TBy h.t) :
    Calls Tryz.prog 3 #[vc, vh] w fun e w' => e = .returned (.bool true) ∧ Below w.heap.size w w' := by
  have HCV : Hid (∀ V, Below w.heap.size w V → CV V vc c) := fun V hV => hC.at_ hV (Nat.le_refl _)
  obtain ⟨hcl, u, rfl, hT⟩ := hC
  obtain ⟨hhl, p, s, q, rfl, r1, r2, r3⟩ := hH
  obtain ⟨put, name, t⟩ := h
  simp only at hhl r1 r2 r3 hby
  have HTS : Hid (∀ V, Below w.heap.size w V → TSV V u c.ten) := fun V hV => hT.at_ hV (Nat.le_refl _)
  have HTV : Hid (∀ V, Below w.heap.size w V → TV V (.agg (tc t p s q).toArray) t ∧ HV V (.agg (hc ⟨put, name, t⟩ p s q).toArray) ⟨put, name, t⟩) := fun V hV => HV.tv hhl r1 r2 r3 hV
  obtain ⟨g, hg⟩ : ∃ g, w.heap.size = g := ⟨_, rfl⟩
  have hM0 := two_blocks' w (.cells (cc c u).toArray 28) (.cells (hc ⟨put, name, t⟩ p s q).toArray 35)
  rw [hg] at hM0
  obtain ⟨L, hL⟩ : ∃ L : List (Nat × Obj), L = [(g + 1, .cells (hc ⟨put, name, t⟩ p s q).toArray 35 (0, 0)), (g, .cells (cc c u).toArray 28 (0, 0))] := ⟨_, rfl⟩
  have KS : Hid (∀ V, Mem w V L → V.rangeAt g 0 (cc c u) ∧ V.rangeAt (g + 1) 0 (hc ⟨put, name, t⟩ p s q) ∧ V.rangeAt (g + 1) 2 (tc t p s q)) := by
    intro V hV
    rw [hL] at hV
    refine ⟨fun j v hj => ?_, fun j v hj => ?_, fun j v hj => ?_⟩
    · rw [hV.cell 1 rfl, Nat.zero_add]; simpa using hj
    · rw [hV.cell 0 rfl, Nat.zero_add]; simpa using hj
    · rw [hV.cell 0 rfl, Nat.add_comm]; simpa [hc] using hj
  have hone := hT.one
  have K1 : Hid (∀ V, Mem w V L → V.cell? ⟨g, 28, none⟩ = some u ∧ V.cell? ⟨g + 1, 1, none⟩ = some (.string name)) := by
    intro V hV
    obtain ⟨h1, h2, -⟩ := KS.out V hV
    have e1 := h1 28 u (cget hcl (by rintro ip a b c d f g a1 b1 c1 d1 f1 g1 a2 b2 c2 d2 f2 g2 k1 k2 k3 k4 k5 k6 k7 k8 dr te rfl; rfl))
    have e2 := h2 1 (.string name) rfl
    rw [Nat.zero_add] at e1 e2
    exact ⟨e1, e2⟩
  have hs1 : (cc c u).length = 29 := cc_len hcl _
  have hs3 : (tc t p s q).length = 33 := tc_len hhl _ _ _
  have hs2 : (hc ⟨put, name, t⟩ p s q).length = 35 := by simp only [hc, List.length_cons, hs3]
  have i1 : (Tryz.prog.info? 28).map (·.size) = some (cc c u).length := by rw [hs1]; kernel_rfl
  have i2 : (Tryz.prog.info? 35).map (·.size) = some (hc ⟨put, name, t⟩ p s q).length := by rw [hs2]; kernel_rfl
  have i3 : (Tryz.prog.info? 33).map (·.size) = some (tc t p s q).length := by rw [hs3]; kernel_rfl
  have HLN : Hid (∀ t ∈ c.ten, TLen t) := hT.len_at
  have HIN : Hid (CIn c ∧ (∀ t ∈ c.ten, TBy t ∧ TRg t) ∧ TLen t ∧ TBy t ∧ CLen c) := ⟨hi, hts, hhl, hby, hcl⟩
  have hul : ∃ sa sn sc, u = .slice sa sn sc := by
    obtain ⟨zs, -, ⟨a, c, e, -⟩, -⟩ := hT
    exact ⟨a, _, c, e⟩
  rw [← hL] at hM0
  have HM0 : Hid (Mem w ((w.alloc (.cells (cc c u).toArray 28)).alloc (.cells (hc ⟨put, name, t⟩ p s q).toArray 35)) L) := hM0
  clear hL hs1 hs2 hs3 hT r1 r2 r3 hone hi hts hby hhl hcl hM0
  generalize cc c u = cl at *
  generalize hc ⟨put, name, t⟩ p s q = hl at *
  generalize tc t p s q = xl at *
  obtain ⟨sa, sn, sc, rfl⟩ := hul
  go_enter Tryz.func3, Tryz.ntmps3
  go_upto_region 1 with fail
  refine wp_letter (fun V => Mem w V L) HM0.out ?_
  intro V0 hM0
  clear HM0
  go_wp2_with fail
  refine (known_any V0).mono ?_
  rintro e V1 ⟨rfl, hb1⟩
  have HM1 : Hid (Mem w V1 L) := hM0.after hb1
  clear hM0 hb1
  obtain ⟨c28, -⟩ := K1.out _ HM1.out
  have CL := lights_any (HTS.out _ HM1.out.below) 20 (by omega)
  by_cases q1 : Lgts c.ten 20
  rotate_left
  · rw [decide_eq_false q1] at CL
    go_wp2_with fail
    refine CL.mono ?_
    rintro e V2 ⟨rfl, hb2⟩
    have HB : Hid (Below w.heap.size w V2) := (HM1.out.after hb2).below
    clear CL hb2
    go_wp2_with fail
    go_ret
    exact ⟨rfl, HB.out⟩
  rw [decide_eq_true q1] at CL
  go_wp2_with fail
  refine CL.mono ?_
  rintro e V2 ⟨rfl, hb2⟩
  have HM2 : Hid (Mem w V2 L) := HM1.out.after hb2
  obtain ⟨-, -, hra⟩ := KS.out _ HM2.out
  have CG := light_any (HTV.out _ HM2.out.below).1
  clear CL hb2 HM1 c28
  by_cases q2 : Lgt t
  rotate_left
  · rw [decide_eq_false q2] at CG
    go_wp2_with (refine wpList_load_mid_g rfl 33 (.tmp 12) (by with_reducible rfl) (g + 1) 2 (by first | rfl | simp [Act.eval]) xl _ hra Tryz.underlying33 rfl i3 ?_)
    refine CG.mono ?_
    rintro e V3 ⟨rfl, hb3⟩
    have HB : Hid (Below w.heap.size w V3) := (HM2.out.after hb3).below
    clear CG hb3
    go_wp2_with fail
    go_ret
    exact ⟨rfl, HB.out⟩
  rw [decide_eq_true q2] at CG
  go_wp2_with (refine wpList_load_mid_g rfl 33 (.tmp 12) (by with_reducible rfl) (g + 1) 2 (by first | rfl | simp [Act.eval]) xl _ hra Tryz.underlying33 rfl i3 ?_)
  refine CG.mono ?_
  rintro e V3 ⟨rfl, hb3⟩
  have HM3 : Hid (Mem w V3 L) := HM2.out.after hb3
  obtain ⟨-, c1⟩ := K1.out _ HM3.out
  clear CG hb3 HM2 hra
  by_cases q3 : name.size ≤ 300
  rotate_left
  · have h3 : (300 : Int) < name.size := by omega
    have HB : Hid (Below w.heap.size w V3) := HM3.out.below
    go_wp2_with fail
    go_ret
    exact ⟨rfl, HB.out⟩
  have h3 : ¬ ((300 : Int) < name.size) := by omega
  obtain ⟨I1, I2, I3, I4, I5⟩ := HIN.out
  have J1 : ∀ t ∈ c.ten, TIn t := fun t ht => by
    obtain ⟨i, hi, rfl⟩ := List.getElem_of_mem ht
    have := q1.2 i hi
    rw [List.getD_eq_getElem?_getD, List.getElem?_eq_getElem hi, Option.getD_some] at this
    exact lgt_in2 this (HLN.out _ ht) (I2 _ ht).1
  have J2 : TIn t := lgt_in2 q2 I3 I4
  have b1 := cenc_le2 c I5 HLN.out
  have b2 := henc_le2 ⟨put, name, t⟩ I3
  have b3 := tenc_le2 t I3
  have hl20 : c.ten.length ≤ 1000000 := by have := q1.1; omega
  obtain ⟨l1, hl1⟩ : ∃ l, cenc c = l := ⟨_, rfl⟩
  obtain ⟨l2, hl2⟩ : ∃ l, henc ⟨put, name, t⟩ = l := ⟨_, rfl⟩
  obtain ⟨l3, hl3⟩ : ∃ l, tenc t = l := ⟨_, rfl⟩
  have CA : Hid (∀ V, Mem w V L → Calls Tryz.prog 13 #[.agg cl.toArray] V (Mk l1 V)) := by
    intro V hV
    have := cfgConfig_any (HCV.out _ hV.below) I1 J1 (by omega)
    rw [hl1] at this b1
    exact this.mono (fun e V' h => by obtain ⟨u, rfl, hO⟩ := h; exact mk_of hO (by omega))
  have CB : Hid (∀ V, Mem w V L → Calls Tryz.prog 14 #[.agg cl.toArray] V (Mk l1 V)) := by
    intro V hV
    have := rconfig_any (HCV.out _ hV.below) I1 J1 hl20
    rw [hl1] at this b1
    exact this.mono (fun e V' h => by obtain ⟨u, rfl, hO⟩ := h; exact mk_of hO.1 (by omega))
  have CC : Hid (∀ V, Mem w V L → Calls Tryz.prog 15 #[.agg hl.toArray] V (Mk l2 V)) := by
    intro V hV
    have := cfgChange_any (HTV.out _ hV.below).2 J2 (by show name.size ≤ _; omega) (by omega)
    rw [hl2] at this b2
    exact this.mono (fun e V' h => by obtain ⟨u, rfl, hO⟩ := h; exact mk_of hO (by omega))
  have CD : Hid (∀ V, Mem w V L → Calls Tryz.prog 16 #[.agg hl.toArray] V (Mk l2 V)) := by
    intro V hV
    have := rchange_any (HTV.out _ hV.below).2 J2
    rw [hl2] at this b2
    exact this.mono (fun e V' h => by obtain ⟨u, rfl, hO⟩ := h; exact mk_of hO.1 (by omega))
  have CE : Hid (∀ V, Mem w V L → Calls Tryz.prog 17 #[.agg xl.toArray] V (Mk l3 V)) := by
    intro V hV
    have := cfgTenant_any (HTV.out _ hV.below).1 J2 (by omega)
    rw [hl3] at this b3
    exact this.mono (fun e V' h => by obtain ⟨u, rfl, hO⟩ := h; exact mk_of hO (by omega))
  have CF : Hid (∀ V, Mem w V L → Calls Tryz.prog 18 #[.agg xl.toArray] V (Mk l3 V)) := by
    intro V hV
    have := rtenant_any (HTV.out _ hV.below).1 J2
    rw [hl3] at this b3
    exact this.mono (fun e V' h => by obtain ⟨u, rfl, hO⟩ := h; exact mk_of hO.1 (by omega))
  have rr := KS.out _ HM3.out.drew
  have hM3 := HM3.out.drew
  clear HM3 I1 I2 I3 I4 I5 J1 J2 b1 b2 b3 hl1 hl2 hl3 hl20 HCV HTS HTV HLN HIN K1 q1 q2 q3
  go_upto_region 5 with fail
  refine wp_region_held_drew (S := fun V => V.rangeAt g 0 cl ∧ V.rangeAt (g + 1) 0 hl ∧ V.rangeAt (g + 1) 2 xl) (by kernel_rfl) rr (fun hHeld => ?_)
  refine wpAnyH_take (i := 0) (v := _) rfl (by kernel_rfl) (by kernel_rfl) (by kernel_rfl) (fun _ _ _ h => h) (yieldsIf_load_mid (by rfl) _ _ rfl _ _ rfl _ _ ?qs0 Tryz.underlying28 rfl i1) (by assumption) ?qr0
  case qs0 =>
    intro w hSw
    (try dsimp only at hSw)
    go_split_ands
    assumption
  try simp only [List.getElem_toArray, List.getElem_cons_zero, List.getElem_cons_succ, Act.put, List.setIfInBounds_toArray, List.set_cons_zero, List.set_cons_succ]
  refine wpAnyH_take (i := 2) (v := _) rfl (by kernel_rfl) (by kernel_rfl) (by kernel_rfl) (fun _ _ _ h => h) (yieldsIf_load_mid (by rfl) _ _ rfl _ _ rfl _ _ ?qs2 Tryz.underlying28 rfl i1) (by assumption) ?qr2
  case qs2 =>
    intro w hSw
    (try dsimp only at hSw)
    go_split_ands
    assumption
  try simp only [List.getElem_toArray, List.getElem_cons_zero, List.getElem_cons_succ, Act.put, List.setIfInBounds_toArray, List.set_cons_zero, List.set_cons_succ]
  refine wpAnyH_ready (rs := [1]) (by kernel_rfl) (by simp) ?_
  refine AllReadyH.cons rfl (fun K hK => ?_) AllReadyH.nil
  go_simp
  with_reducible refine (CA.out _ hM3).mono ?_
  rintro e W1 ⟨a1, n1, rfl, hb1, hr1⟩
  have hM4 := hM3.after hb1
  try go_wp2_with fail
  refine hK.out _ _ (KS.out _ hM4) (fun hHeld => ?_)
  clear hK K
  try simp only [List.getElem_toArray, List.getElem_cons_zero, List.getElem_cons_succ, Act.put, List.setIfInBounds_toArray, List.set_cons_zero, List.set_cons_succ]
  refine wpAnyH_ready (rs := [3]) (by kernel_rfl) (by simp) ?_
  refine AllReadyH.cons rfl (fun K hK => ?_) AllReadyH.nil
  go_simp
  with_reducible refine (CB.out _ hM4).mono ?_
  rintro e W2 ⟨a2, n2, rfl, hb2, hr2⟩
  have hM5 := hM4.after hb2
  have hr1b := hr1.below hb2 (Nat.le_refl _)
  try go_wp2_with fail
  refine hK.out _ _ (KS.out _ hM5) (fun hHeld => ?_)
  clear hK K
  try simp only [List.getElem_toArray, List.getElem_cons_zero, List.getElem_cons_succ, Act.put, List.setIfInBounds_toArray, List.set_cons_zero, List.set_cons_succ]
  refine wpAnyH_ready (rs := [4]) (by kernel_rfl) (by simp) ?_
  refine AllReadyH.cons rfl (fun K hK => ?_) AllReadyH.nil
  go_simp
  with_reducible refine (bytes_yes hr1b hr2 _ rfl n1 n2).mono ?_
  rintro e W3 ⟨rfl, rfl⟩
  try go_wp2_with fail
  refine hK.out _ _ (KS.out _ hM5) (fun hHeld => ?_)
  clear hK K
  try simp only [List.getElem_toArray, List.getElem_cons_zero, List.getElem_cons_succ, Act.put, List.setIfInBounds_toArray, List.set_cons_zero, List.set_cons_succ]
  refine wpAnyH_take (i := 5) (v := ?_) rfl (by kernel_rfl) (by kernel_rfl) (by kernel_rfl) (fun _ _ _ h => h) (Or.inl ⟨by rfl, ?qy5⟩) (by assumption) ?qr5
  case qy5 =>
    intro w hSw
    (try dsimp only at hSw)
    go_simp
    all_goals with_reducible rfl
  try simp only [List.getElem_toArray, List.getElem_cons_zero, List.getElem_cons_succ, Act.put, List.setIfInBounds_toArray, List.set_cons_zero, List.set_cons_succ]
  refine wpAnyH_take (i := 6) (v := _) rfl (by kernel_rfl) (by kernel_rfl) (by kernel_rfl) (fun _ _ _ h => h) (yieldsIf_load_mid (by rfl) _ _ rfl _ _ rfl _ _ ?qs6 Tryz.underlying35 rfl i2) (by assumption) ?qr6
  case qs6 =>
    intro w hSw
    (try dsimp only at hSw)
    go_split_ands
    assumption
  try simp only [List.getElem_toArray, List.getElem_cons_zero, List.getElem_cons_succ, Act.put, List.setIfInBounds_toArray, List.set_cons_zero, List.set_cons_succ]
  refine wpAnyH_take (i := 8) (v := _) rfl (by kernel_rfl) (by kernel_rfl) (by kernel_rfl) (fun _ _ _ h => h) (yieldsIf_load_mid (by rfl) _ _ rfl _ _ rfl _ _ ?qs8 Tryz.underlying35 rfl i2) (by assumption) ?qr8
  case qs8 =>
    intro w hSw
    (try dsimp only at hSw)
    go_split_ands
    assumption
  try simp only [List.getElem_toArray, List.getElem_cons_zero, List.getElem_cons_succ, Act.put, List.setIfInBounds_toArray, List.set_cons_zero, List.set_cons_succ]
  refine wpAnyH_ready (rs := [7]) (by kernel_rfl) (by simp) ?_
  refine AllReadyH.cons rfl (fun K hK => ?_) AllReadyH.nil
  go_simp
  with_reducible refine (CC.out _ hM5).mono ?_
  rintro e W4 ⟨a3, n3, rfl, hb3, hr3⟩
  have hM6 := hM5.after hb3
  try go_wp2_with fail
  refine hK.out _ _ (KS.out _ hM6) (fun hHeld => ?_)
  clear hK K
  try simp only [List.getElem_toArray, List.getElem_cons_zero, List.getElem_cons_succ, Act.put, List.setIfInBounds_toArray, List.set_cons_zero, List.set_cons_succ]
  refine wpAnyH_ready (rs := [9]) (by kernel_rfl) (by simp) ?_
  refine AllReadyH.cons rfl (fun K hK => ?_) AllReadyH.nil
  go_simp
  with_reducible refine (CD.out _ hM6).mono ?_
  rintro e W5 ⟨a4, n4, rfl, hb4, hr4⟩
  have hM7 := hM6.after hb4
  have hr3b := hr3.below hb4 (Nat.le_refl _)
  try go_wp2_with fail
  refine hK.out _ _ (KS.out _ hM7) (fun hHeld => ?_)
  clear hK K
  try simp only [List.getElem_toArray, List.getElem_cons_zero, List.getElem_cons_succ, Act.put, List.setIfInBounds_toArray, List.set_cons_zero, List.set_cons_succ]
  refine wpAnyH_ready (rs := [10]) (by kernel_rfl) (by simp) ?_
  refine AllReadyH.cons rfl (fun K hK => ?_) AllReadyH.nil
  go_simp
  with_reducible refine (bytes_yes hr3b hr4 _ rfl n3 n4).mono ?_
  rintro e W6 ⟨rfl, rfl⟩
  try go_wp2_with fail
  refine hK.out _ _ (KS.out _ hM7) (fun hHeld => ?_)
  clear hK K
  try simp only [List.getElem_toArray, List.getElem_cons_zero, List.getElem_cons_succ, Act.put, List.setIfInBounds_toArray, List.set_cons_zero, List.set_cons_succ]
  refine wpAnyH_take (i := 11) (v := ?_) rfl (by kernel_rfl) (by kernel_rfl) (by kernel_rfl) (fun _ _ _ h => h) (Or.inl ⟨by rfl, ?qy11⟩) (by assumption) ?qr11
  case qy11 =>
    intro w hSw
    (try dsimp only at hSw)
    go_simp
    all_goals with_reducible rfl
  try simp only [List.getElem_toArray, List.getElem_cons_zero, List.getElem_cons_succ, Act.put, List.setIfInBounds_toArray, List.set_cons_zero, List.set_cons_succ]
  refine wpAnyH_take (i := 12) (v := ?_) rfl (by kernel_rfl) (by kernel_rfl) (by kernel_rfl) (fun _ _ _ h => h) (Or.inl ⟨by rfl, ?qy12⟩) (by assumption) ?qr12
  case qy12 =>
    intro w hSw
    (try dsimp only at hSw)
    go_simp
    all_goals with_reducible rfl
  try simp only [List.getElem_toArray, List.getElem_cons_zero, List.getElem_cons_succ, Act.put, List.setIfInBounds_toArray, List.set_cons_zero, List.set_cons_succ]
  refine wpAnyH_take (i := 13) (v := ?_) rfl (by kernel_rfl) (by kernel_rfl) (by kernel_rfl) (fun _ _ _ h => h) (Or.inl ⟨by rfl, ?qy13⟩) (by assumption) ?qr13
  case qy13 =>
    intro w hSw
    (try dsimp only at hSw)
    go_simp
    all_goals with_reducible rfl
  try simp only [List.getElem_toArray, List.getElem_cons_zero, List.getElem_cons_succ, Act.put, List.setIfInBounds_toArray, List.set_cons_zero, List.set_cons_succ]
  refine wpAnyH_take (i := 16) (v := ?_) rfl (by kernel_rfl) (by kernel_rfl) (by kernel_rfl) (fun _ _ _ h => h) (Or.inl ⟨by rfl, ?qy16⟩) (by assumption) ?qr16
  case qy16 =>
    intro w hSw
    (try dsimp only at hSw)
    go_simp
    all_goals with_reducible rfl
  try simp only [List.getElem_toArray, List.getElem_cons_zero, List.getElem_cons_succ, Act.put, List.setIfInBounds_toArray, List.set_cons_zero, List.set_cons_succ]
  refine wpAnyH_take (i := 14) (v := _) rfl (by kernel_rfl) (by kernel_rfl) (by kernel_rfl) (fun _ _ _ h => h) (yieldsIf_load_mid (by rfl) _ _ rfl _ _ rfl _ _ ?qs14 Tryz.underlying33 rfl i3) (by assumption) ?qr14
  case qs14 =>
    intro w hSw
    (try dsimp only at hSw)
    go_split_ands
    assumption
  try simp only [List.getElem_toArray, List.getElem_cons_zero, List.getElem_cons_succ, Act.put, List.setIfInBounds_toArray, List.set_cons_zero, List.set_cons_succ]
  refine wpAnyH_take (i := 17) (v := _) rfl (by kernel_rfl) (by kernel_rfl) (by kernel_rfl) (fun _ _ _ h => h) (yieldsIf_load_mid (by rfl) _ _ rfl _ _ rfl _ _ ?qs17 Tryz.underlying33 rfl i3) (by assumption) ?qr17
  case qs17 =>
    intro w hSw
    (try dsimp only at hSw)
    go_split_ands
    assumption
  try simp only [List.getElem_toArray, List.getElem_cons_zero, List.getElem_cons_succ, Act.put, List.setIfInBounds_toArray, List.set_cons_zero, List.set_cons_succ]
  refine wpAnyH_ready (rs := [15]) (by kernel_rfl) (by simp) ?_
  refine AllReadyH.cons rfl (fun K hK => ?_) AllReadyH.nil
  go_simp
  with_reducible refine (CE.out _ hM7).mono ?_
  rintro e W7 ⟨a5, n5, rfl, hb5, hr5⟩
  have hM8 := hM7.after hb5
  try go_wp2_with fail
  refine hK.out _ _ (KS.out _ hM8) (fun hHeld => ?_)
  clear hK K
  try simp only [List.getElem_toArray, List.getElem_cons_zero, List.getElem_cons_succ, Act.put, List.setIfInBounds_toArray, List.set_cons_zero, List.set_cons_succ]
  refine wpAnyH_ready (rs := [18]) (by kernel_rfl) (by simp) ?_
  refine AllReadyH.cons rfl (fun K hK => ?_) AllReadyH.nil
  go_simp
  with_reducible refine (CF.out _ hM8).mono ?_
  rintro e W8 ⟨a6, n6, rfl, hb6, hr6⟩
  have hM9 := hM8.after hb6
  have hr5b := hr5.below hb6 (Nat.le_refl _)
  try go_wp2_with fail
  refine hK.out _ _ (KS.out _ hM9) (fun hHeld => ?_)
  clear hK K
  try simp only [List.getElem_toArray, List.getElem_cons_zero, List.getElem_cons_succ, Act.put, List.setIfInBounds_toArray, List.set_cons_zero, List.set_cons_succ]
  refine wpAnyH_ready (rs := [19]) (by kernel_rfl) (by simp) ?_
  refine AllReadyH.cons rfl (fun K hK => ?_) AllReadyH.nil
  go_simp
  with_reducible refine (bytes_yes hr5b hr6 _ rfl n5 n6).mono ?_
  rintro e W9 ⟨rfl, rfl⟩
  try go_wp2_with fail
  refine hK.out _ _ (KS.out _ hM9) (fun hHeld => ?_)
  clear hK K
  try simp only [List.getElem_toArray, List.getElem_cons_zero, List.getElem_cons_succ, Act.put, List.setIfInBounds_toArray, List.set_cons_zero, List.set_cons_succ]
  refine wpAnyH_take (i := 20) (v := ?_) rfl (by kernel_rfl) (by kernel_rfl) (by kernel_rfl) (fun _ _ _ h => h) (Or.inl ⟨by rfl, ?qy20⟩) (by assumption) ?qr20
  case qy20 =>
    intro w hSw
    (try dsimp only at hSw)
    go_simp
    all_goals with_reducible rfl
  try simp only [List.getElem_toArray, List.getElem_cons_zero, List.getElem_cons_succ, Act.put, List.setIfInBounds_toArray, List.set_cons_zero, List.set_cons_succ]
  refine wpAnyH_take (i := 21) (v := ?_) rfl (by kernel_rfl) (by kernel_rfl) (by kernel_rfl) (fun _ _ _ h => h) (Or.inl ⟨by rfl, ?qy21⟩) (by assumption) ?qr21
  case qy21 =>
    intro w hSw
    (try dsimp only at hSw)
    go_simp
    all_goals with_reducible rfl
  try simp only [List.getElem_toArray, List.getElem_cons_zero, List.getElem_cons_succ, Act.put, List.setIfInBounds_toArray, List.set_cons_zero, List.set_cons_succ]
  refine wpAnyH_done (by kernel_rfl) ?_ _
  go_wp2_with fail
  go_ret
  exact ⟨rfl, hM9.below⟩
end Go.Proofs.YtngegdamcfmonaaGreat

namespace Go.Proofs.YtngegdamcfmonaaGreat
open Go.RowKit
open Sm
open Cf
set_option linter.unusedVariables false
set_option linter.unusedSimpArgs false
set_option maxRecDepth 20000

/-- A tenant's lists are not too long. -/
def TFew (t : Ten) : Prop := t.pool.length ≤ 1000000 ∧ t.stat.length ≤ 1000000 ∧ t.twi.length ≤ 1000000
theorem htenant_yes {w : World} {va vb : Value} {t z : Ten} (ha : TV w va t) (hb : TV w vb z) (hf : TFew t) (h : TSame t z) :
    Calls Tryz.prog 26 #[va, vb] w fun e w' => e = .returned (.bool true) ∧ Below w.heap.size w w' := by
  have := htenant_any ha hb hf.1 hf.2.1 hf.2.2
  rwa [decide_eq_true h] at this
set_option maxHeartbeats 8000000 in
theorem htenants_yes {w : World} {va vb : Value} {ls ms : List Ten} (ha : TSV w va ls) (hb : TSV w vb ms) (hf : ∀ t ∈ ls, TFew t) (h : TSames ls ms) :
    Calls Tryz.prog 46 #[va, vb] w fun e w' => e = .returned (.bool true) ∧ Below w.heap.size w w' := by
  obtain ⟨sa, sc, rfl, hlc, hcb, hx⟩ := ha.parts
  obtain ⟨ta, tc', rfl, hlc', hcb', hy⟩ := hb.parts
  have hfi : ∀ i, i < ls.length → TFew (ls.getD i ten0) := fun i hi => by
    rw [List.getD_eq_getElem?_getD, List.getElem?_eq_getElem hi, Option.getD_some]
    exact hf _ (List.getElem_mem _)
  obtain ⟨hll, hs⟩ := h
  rw [← hll] at hy hlc' ⊢
  have HX : Hid (∀ i, i < ls.length → ∃ b off x b' off' y, sa = some ⟨b, off, none⟩ ∧ ta = some ⟨b', off', none⟩ ∧ x.length = 33 ∧ y.length = 33 ∧ ∀ V, Below w.heap.size w V → (V.rangeAt b (off + i * 33) x ∧ V.rangeAt b' (off' + i * 33) y) ∧ Calls Tryz.prog 26 #[.agg x.toArray, .agg y.toArray] V fun e V' => e = .returned (.bool true) ∧ Below V.heap.size V V') := by
    intro i hi
    obtain ⟨b, off, x, e1, e2, -, e3⟩ := hx i hi
    obtain ⟨b', off', y, f1, f2, -, f3⟩ := hy i hi
    exact ⟨b, off, x, b', off', y, e1, f1, e2, f2, fun V hV => ⟨⟨(e3 V hV).1, (f3 V hV).1⟩, htenant_yes (e3 V hV).2 (f3 V hV).2 (hfi i hi) (hs i hi)⟩⟩
  have HB : Hid (Below w.heap.size w w) := Below.refl _ _
  clear ha hb hx hy hf hfi hs hll
  generalize ls.length = N at *
  go_enter Tryz.func46, Tryz.ntmps46
  go_wp2_with fail
  go_loopw [5] (fun u5 w' => ∃ i : Nat, i ≤ N ∧ u5 = .int .i64 i ∧ Hid (Below w.heap.size w w')) (fun u5 w' => N - (intOf u5).toNat)
  case atStart => exact ⟨0, Nat.zero_le _, rfl, HB⟩
  case round =>
    obtain ⟨i, hi, rfl, HR⟩ := hrel
    clear HB
    by_cases hlt : i < N
    · have h1 : (i : Int) < N := by omega
      obtain ⟨b, off, x, b', off', y, rfl, rfl, hs1, hs2, hV⟩ := HX.out i hlt
      have i1 : (Tryz.prog.info? 33).map (·.size) = some x.length := by rw [hs1]; kernel_rfl
      have i2 : (Tryz.prog.info? 33).map (·.size) = some y.length := by rw [hs2]; kernel_rfl
      have hd : Below w.heap.size w wr.drew := HR.out.drew
      obtain ⟨rr, CT⟩ := hV _ hd
      have HV' : Hid (∀ V, Below w.heap.size w V → V.rangeAt b (off + i * 33) x ∧ V.rangeAt b' (off' + i * 33) y) := fun V h => (hV V h).1
      have HD : Hid (Below w.heap.size w wr.drew) := hd
      clear hV hd hs1 hs2 HR
      go_upto_region 6 with fail
      refine wp_region_held_drew (S := fun V => V.rangeAt b (off + i * 33) x ∧ V.rangeAt b' (off' + i * 33) y) (by kernel_rfl) rr (fun hHeld => ?_)
      refine wpAnyH_take (i := 0) (v := ?_) rfl (by kernel_rfl) (by kernel_rfl) (by kernel_rfl) (fun _ _ _ h => h) (Or.inl ⟨by rfl, ?qy0⟩) (by assumption) ?qr0
      case qy0 =>
        intro w hSw
        (try dsimp only at hSw)
        go_simp
        all_goals with_reducible rfl
      try simp only [List.getElem_toArray, List.getElem_cons_zero, List.getElem_cons_succ, Act.put, List.setIfInBounds_toArray, List.set_cons_zero, List.set_cons_succ]
      refine wpAnyH_take (i := 1) (v := ?_) rfl (by kernel_rfl) (by kernel_rfl) (by kernel_rfl) (fun _ _ _ h => h) (Or.inl ⟨by rfl, ?qy1⟩) (by assumption) ?qr1
      case qy1 =>
        intro w hSw
        (try dsimp only at hSw)
        go_simp
        all_goals with_reducible rfl
      try simp only [List.getElem_toArray, List.getElem_cons_zero, List.getElem_cons_succ, Act.put, List.setIfInBounds_toArray, List.set_cons_zero, List.set_cons_succ]
      refine wpAnyH_take (i := 2) (v := ?_) rfl (by kernel_rfl) (by kernel_rfl) (by kernel_rfl) (fun _ _ _ h => h) (Or.inl ⟨by rfl, ?qy2⟩) (by assumption) ?qr2
      case qy2 =>
        intro w hSw
        (try dsimp only at hSw)
        go_simp
        all_goals with_reducible rfl
      try simp only [List.getElem_toArray, List.getElem_cons_zero, List.getElem_cons_succ, Act.put, List.setIfInBounds_toArray, List.set_cons_zero, List.set_cons_succ]
      refine wpAnyH_take (i := 3) (v := _) rfl (by kernel_rfl) (by kernel_rfl) (by kernel_rfl) (fun _ _ _ h => h) (yieldsIf_load_mid (by rfl) _ _ rfl _ _ rfl _ _ ?qs3 Tryz.underlying33 rfl i1) (by assumption) ?qr3
      case qs3 =>
        intro w hSw
        (try dsimp only at hSw)
        go_split_ands
        assumption
      try simp only [List.getElem_toArray, List.getElem_cons_zero, List.getElem_cons_succ, Act.put, List.setIfInBounds_toArray, List.set_cons_zero, List.set_cons_succ]
      refine wpAnyH_take (i := 4) (v := ?_) rfl (by kernel_rfl) (by kernel_rfl) (by kernel_rfl) (fun _ _ _ h => h) (Or.inl ⟨by rfl, ?qy4⟩) (by assumption) ?qr4
      case qy4 =>
        intro w hSw
        (try dsimp only at hSw)
        go_simp
        all_goals with_reducible rfl
      try simp only [List.getElem_toArray, List.getElem_cons_zero, List.getElem_cons_succ, Act.put, List.setIfInBounds_toArray, List.set_cons_zero, List.set_cons_succ]
      refine wpAnyH_take (i := 5) (v := ?_) rfl (by kernel_rfl) (by kernel_rfl) (by kernel_rfl) (fun _ _ _ h => h) (Or.inl ⟨by rfl, ?qy5⟩) (by assumption) ?qr5
      case qy5 =>
        intro w hSw
        (try dsimp only at hSw)
        go_simp
        all_goals with_reducible rfl
      try simp only [List.getElem_toArray, List.getElem_cons_zero, List.getElem_cons_succ, Act.put, List.setIfInBounds_toArray, List.set_cons_zero, List.set_cons_succ]
      refine wpAnyH_take (i := 6) (v := ?_) rfl (by kernel_rfl) (by kernel_rfl) (by kernel_rfl) (fun _ _ _ h => h) (Or.inl ⟨by rfl, ?qy6⟩) (by assumption) ?qr6
      case qy6 =>
        intro w hSw
        (try dsimp only at hSw)
        go_simp
        all_goals with_reducible rfl
      try simp only [List.getElem_toArray, List.getElem_cons_zero, List.getElem_cons_succ, Act.put, List.setIfInBounds_toArray, List.set_cons_zero, List.set_cons_succ]
      refine wpAnyH_take (i := 7) (v := _) rfl (by kernel_rfl) (by kernel_rfl) (by kernel_rfl) (fun _ _ _ h => h) (yieldsIf_load_mid (by rfl) _ _ rfl _ _ rfl _ _ ?qs7 Tryz.underlying33 rfl i2) (by assumption) ?qr7
      case qs7 =>
        intro w hSw
        (try dsimp only at hSw)
        go_split_ands
        assumption
      try simp only [List.getElem_toArray, List.getElem_cons_zero, List.getElem_cons_succ, Act.put, List.setIfInBounds_toArray, List.set_cons_zero, List.set_cons_succ]
      refine wpAnyH_ready (rs := [8]) (by kernel_rfl) (by simp) ?_
      refine AllReadyH.cons rfl (fun K hK => ?_) AllReadyH.nil
      go_simp
      with_reducible refine (CT).mono ?_
      rintro e W1 ⟨rfl, hb1⟩
      have hb1b := HD.out.trans (hb1.mono HD.out.size)
      try go_wp2_with fail
      refine hK.out _ _ (HV'.out _ hb1b) (fun hHeld => ?_)
      clear hK K
      try simp only [List.getElem_toArray, List.getElem_cons_zero, List.getElem_cons_succ, Act.put, List.setIfInBounds_toArray, List.set_cons_zero, List.set_cons_succ]
      refine wpAnyH_take (i := 9) (v := ?_) rfl (by kernel_rfl) (by kernel_rfl) (by kernel_rfl) (fun _ _ _ h => h) (Or.inl ⟨by rfl, ?qy9⟩) (by assumption) ?qr9
      case qy9 =>
        intro w hSw
        (try dsimp only at hSw)
        go_simp
        all_goals with_reducible rfl
      try simp only [List.getElem_toArray, List.getElem_cons_zero, List.getElem_cons_succ, Act.put, List.setIfInBounds_toArray, List.set_cons_zero, List.set_cons_succ]
      refine wpAnyH_done (by kernel_rfl) ?_ _
      have HB1 : Hid (Below w.heap.size w W1) := hb1b
      clear hb1 hb1b CT
      go_wp2_with fail
      go_roundw
      case rel => exact ⟨i + 1, by omega, by go_num, HB1⟩
      case measure => simp [intOf]; omega
    · have h1 : ¬ ((i : Int) < N) := by omega
      obtain rfl : i = N := by omega
      go_wp2_with fail
      go_ret
      exact ⟨rfl, HR.out⟩
theorem TSV.slice {w : World} {v : Value} {ts : List Ten} (h : TSV w v ts) : ∃ a n c, v = .slice a n c := by
  obtain ⟨zs, -, ⟨a, c, e, -⟩, -⟩ := h
  exact ⟨a, _, c, e⟩
set_option maxHeartbeats 8000000 in
theorem hconfig_yes {w : World} {va vb : Value} {a b : Cgf} (ha : CV w va a) (hb : CV w vb b) (hf : ∀ t ∈ a.ten, TFew t) (h : CSame a b) :
    Calls Tryz.prog 25 #[va, vb] w fun e w' => e = .returned (.bool true) ∧ Below w.heap.size w w' := by
  obtain ⟨hl, u, rfl, hT⟩ := ha
  obtain ⟨hl', u', rfl, hT'⟩ := hb
  obtain ⟨ip, mac, om, nmac, key, dr, te⟩ := a
  obtain ⟨ip', mac', om', nmac', key', dr', te'⟩ := b
  obtain ⟨rfl, rfl, rfl, rfl, rfl, rfl, hts⟩ := h
  simp only at hT hT' hf hts
  obtain ⟨h1, h2, h3, h4⟩ := hl
  obtain ⟨a, b, c, d, f, g, rfl⟩ := six6 h1
  obtain ⟨a1, b1, c1, d1, f1, g1, rfl⟩ := six6 h2
  obtain ⟨a2, b2, c2, d2, f2, g2, rfl⟩ := six6 h3
  obtain ⟨k1, k2, k3, k4, k5, k6, k7, k8, rfl⟩ := eight8 h4
  obtain ⟨sa, sn, sc, rfl⟩ := hT.slice
  obtain ⟨ta, tn, tc', rfl⟩ := hT'.slice
  have CT : Hid (∀ V, Below w.heap.size w V → Calls Tryz.prog 46 #[.slice sa sn sc, .slice ta tn tc'] V fun e V' => e = .returned (.bool true) ∧ Below V.heap.size V V') := fun V hV => htenants_yes (hT.at_ hV (Nat.le_refl _)) (hT'.at_ hV (Nat.le_refl _)) hf hts
  have e1 : ∀ V, (Op.equalIn 10000 24 (.agg #[.int .u8 a, .int .u8 b, .int .u8 c, .int .u8 d, .int .u8 f, .int .u8 g]) (.agg #[.int .u8 a, .int .u8 b, .int .u8 c, .int .u8 d, .int .u8 f, .int .u8 g])).run Tryz.prog V = .ok true V := fun V => by rw [mac_eq6]; rw [decide_eq_true rfl]
  have e2 : ∀ V, (Op.equalIn 10000 24 (.agg #[.int .u8 a1, .int .u8 b1, .int .u8 c1, .int .u8 d1, .int .u8 f1, .int .u8 g1]) (.agg #[.int .u8 a1, .int .u8 b1, .int .u8 c1, .int .u8 d1, .int .u8 f1, .int .u8 g1])).run Tryz.prog V = .ok true V := fun V => by rw [mac_eq6]; rw [decide_eq_true rfl]
  have e3 : ∀ V, (Op.equalIn 10000 24 (.agg #[.int .u8 a2, .int .u8 b2, .int .u8 c2, .int .u8 d2, .int .u8 f2, .int .u8 g2]) (.agg #[.int .u8 a2, .int .u8 b2, .int .u8 c2, .int .u8 d2, .int .u8 f2, .int .u8 g2])).run Tryz.prog V = .ok true V := fun V => by rw [mac_eq6]; rw [decide_eq_true rfl]
  have e4 : ∀ V, (Op.equalIn 10000 25 (.agg #[.int .u8 k1, .int .u8 k2, .int .u8 k3, .int .u8 k4, .int .u8 k5, .int .u8 k6, .int .u8 k7, .int .u8 k8]) (.agg #[.int .u8 k1, .int .u8 k2, .int .u8 k3, .int .u8 k4, .int .u8 k5, .int .u8 k6, .int .u8 k7, .int .u8 k8])).run Tryz.prog V = .ok true V := fun V => by rw [key_eq]; rw [decide_eq_true rfl]
  have HB : Hid (∀ o1 o2, Below w.heap.size w ((w.alloc o1).alloc o2)) := fun o1 o2 => ((Below.refl _ _).alloc (Nat.le_refl _) _).alloc (by simp) _
  simp only [cc, List.map_cons, List.map_nil, List.cons_append, List.nil_append]
  clear hT hT' hf hts h1 h2 h3 h4 hl'
  go_enter Tryz.func25, Tryz.ntmps25
  go_wp2_with fail
  refine (CT.out _ (HB.out _ _)).mono ?_
  rintro e V ⟨rfl, hb⟩
  have HB2 : Hid (Below w.heap.size w V) := (HB.out _ _).trans (hb.mono (HB.out _ _).size)
  clear hb
  go_wp2_with fail
  go_ret
  exact ⟨rfl, HB2.out⟩
set_option maxHeartbeats 8000000 in
theorem hchanges_yes {w : World} {b b' c c' : Nat} {px' py : Bool} {nx ny : ByteArray} {xl yl : List Value} (kx : xl.length = 33) (ky : yl.length = 33)
    (hS : ∀ V, Below w.heap.size w V → V.cell? ⟨b, 0, none⟩ = some (.bool px') ∧ V.cell? ⟨b, 1, none⟩ = some (.string nx) ∧ V.rangeAt b 2 xl ∧ V.cell? ⟨b', 0, none⟩ = some (.bool py) ∧ V.cell? ⟨b', 1, none⟩ = some (.string ny) ∧ V.rangeAt b' 2 yl)
    (hp : px' = py) (hn : sb nx = sb ny) (hT : ∀ V, Below w.heap.size w V → Calls Tryz.prog 26 #[.agg xl.toArray, .agg yl.toArray] V fun e V' => e = .returned (.bool true) ∧ Below V.heap.size V V') :
    Calls Tryz.prog 27 #[.slice (some ⟨b, 0, none⟩) 1 c, .slice (some ⟨b', 0, none⟩) 1 c'] w fun e w' => e = .returned (.bool true) ∧ Below w.heap.size w w' := by
  have i1 : (Tryz.prog.info? 33).map (·.size) = some xl.length := by rw [kx]; kernel_rfl
  have i2 : (Tryz.prog.info? 33).map (·.size) = some yl.length := by rw [ky]; kernel_rfl
  have en : (nx.toList == ny.toList) = true := by rw [text_same]; exact decide_eq_true hn
  subst hp
  have HS : Hid _ := hS
  have HT : Hid _ := hT
  have HB : Hid (Below w.heap.size w w) := Below.refl _ _
  clear hS hT hn kx ky
  go_enter Tryz.func27, Tryz.ntmps27
  go_wp2_with fail
  go_loopw [5] (fun u5 w' => ∃ i : Nat, i ≤ 1 ∧ u5 = .int .i64 i ∧ Hid (Below w.heap.size w w')) (fun u5 w' => 1 - (intOf u5).toNat)
  case atStart => exact ⟨0, Nat.zero_le _, rfl, HB⟩
  case round =>
    obtain ⟨i, hi, rfl, HR⟩ := hrel
    clear HB
    by_cases hlt : i = 0
    · subst hlt
      simp only [Int.ofNat_zero, Int.cast_ofNat_Int]
      have hd : Below w.heap.size w wr.drew := HR.out.drew
      have rr := HS.out _ hd
      have CT := HT.out _ hd
      have HD : Hid (Below w.heap.size w wr.drew) := hd
      clear hd HR
      go_upto_region 6 with fail
      refine wp_region_held_drew (S := fun V => V.cell? ⟨b, 0, none⟩ = some (.bool px') ∧ V.cell? ⟨b, 1, none⟩ = some (.string nx) ∧ V.rangeAt b 2 xl ∧ V.cell? ⟨b', 0, none⟩ = some (.bool px') ∧ V.cell? ⟨b', 1, none⟩ = some (.string ny) ∧ V.rangeAt b' 2 yl) (by kernel_rfl) rr (fun hHeld => ?_)
      refine wpAnyH_take (i := 0) (v := ?_) rfl (by kernel_rfl) (by kernel_rfl) (by kernel_rfl) (fun _ _ _ h => h) (Or.inl ⟨by rfl, ?qy0⟩) (by assumption) ?qr0
      case qy0 =>
        intro w hSw
        (try dsimp only at hSw)
        go_simp
        all_goals with_reducible rfl
      try simp only [List.getElem_toArray, List.getElem_cons_zero, List.getElem_cons_succ, Act.put, List.setIfInBounds_toArray, List.set_cons_zero, List.set_cons_succ]
      refine wpAnyH_take (i := 1) (v := ?_) rfl (by kernel_rfl) (by kernel_rfl) (by kernel_rfl) (fun _ _ _ h => h) (Or.inl ⟨by rfl, ?qy1⟩) (by assumption) ?qr1
      case qy1 =>
        intro w hSw
        (try dsimp only at hSw)
        go_simp
        all_goals with_reducible rfl
      try simp only [List.getElem_toArray, List.getElem_cons_zero, List.getElem_cons_succ, Act.put, List.setIfInBounds_toArray, List.set_cons_zero, List.set_cons_succ]
      refine wpAnyH_take (i := 2) (v := ?_) rfl (by kernel_rfl) (by kernel_rfl) (by kernel_rfl) (fun _ _ _ h => h) (Or.inl ⟨by rfl, ?qy2⟩) (by assumption) ?qr2
      case qy2 =>
        intro w hSw
        (try dsimp only at hSw)
        go_simp
        all_goals with_reducible rfl
      try simp only [List.getElem_toArray, List.getElem_cons_zero, List.getElem_cons_succ, Act.put, List.setIfInBounds_toArray, List.set_cons_zero, List.set_cons_succ]
      refine wpAnyH_take (i := 3) (v := ?_) rfl (by kernel_rfl) (by kernel_rfl) (by kernel_rfl) (fun _ _ _ h => h) (Or.inl ⟨by rfl, ?qy3⟩) (by assumption) ?qr3
      case qy3 =>
        intro w hSw
        (try dsimp only at hSw)
        go_simp
        all_goals with_reducible rfl
      try simp only [List.getElem_toArray, List.getElem_cons_zero, List.getElem_cons_succ, Act.put, List.setIfInBounds_toArray, List.set_cons_zero, List.set_cons_succ]
      refine wpAnyH_take (i := 4) (v := ?_) rfl (by kernel_rfl) (by kernel_rfl) (by kernel_rfl) (fun _ _ _ h => h) (Or.inl ⟨by rfl, ?qy4⟩) (by assumption) ?qr4
      case qy4 =>
        intro w hSw
        (try dsimp only at hSw)
        go_simp
        all_goals with_reducible rfl
      try simp only [List.getElem_toArray, List.getElem_cons_zero, List.getElem_cons_succ, Act.put, List.setIfInBounds_toArray, List.set_cons_zero, List.set_cons_succ]
      refine wpAnyH_take (i := 5) (v := ?_) rfl (by kernel_rfl) (by kernel_rfl) (by kernel_rfl) (fun _ _ _ h => h) (Or.inl ⟨by rfl, ?qy5⟩) (by assumption) ?qr5
      case qy5 =>
        intro w hSw
        (try dsimp only at hSw)
        go_simp
        all_goals with_reducible rfl
      try simp only [List.getElem_toArray, List.getElem_cons_zero, List.getElem_cons_succ, Act.put, List.setIfInBounds_toArray, List.set_cons_zero, List.set_cons_succ]
      refine wpAnyH_take (i := 6) (v := ?_) rfl (by kernel_rfl) (by kernel_rfl) (by kernel_rfl) (fun _ _ _ h => h) (Or.inl ⟨by rfl, ?qy6⟩) (by assumption) ?qr6
      case qy6 =>
        intro w hSw
        (try dsimp only at hSw)
        go_simp
        all_goals with_reducible rfl
      try simp only [List.getElem_toArray, List.getElem_cons_zero, List.getElem_cons_succ, Act.put, List.setIfInBounds_toArray, List.set_cons_zero, List.set_cons_succ]
      refine wpAnyH_take (i := 7) (v := ?_) rfl (by kernel_rfl) (by kernel_rfl) (by kernel_rfl) (fun _ _ _ h => h) (Or.inl ⟨by rfl, ?qy7⟩) (by assumption) ?qr7
      case qy7 =>
        intro w hSw
        (try dsimp only at hSw)
        go_simp
        all_goals with_reducible rfl
      try simp only [List.getElem_toArray, List.getElem_cons_zero, List.getElem_cons_succ, Act.put, List.setIfInBounds_toArray, List.set_cons_zero, List.set_cons_succ]
      refine wpAnyH_take (i := 8) (v := ?_) rfl (by kernel_rfl) (by kernel_rfl) (by kernel_rfl) (fun _ _ _ h => h) (Or.inl ⟨by rfl, ?qy8⟩) (by assumption) ?qr8
      case qy8 =>
        intro w hSw
        (try dsimp only at hSw)
        go_simp
        all_goals with_reducible rfl
      try simp only [List.getElem_toArray, List.getElem_cons_zero, List.getElem_cons_succ, Act.put, List.setIfInBounds_toArray, List.set_cons_zero, List.set_cons_succ]
      refine wpAnyH_take (i := 9) (v := ?_) rfl (by kernel_rfl) (by kernel_rfl) (by kernel_rfl) (fun _ _ _ h => h) (Or.inl ⟨by rfl, ?qy9⟩) (by assumption) ?qr9
      case qy9 =>
        intro w hSw
        (try dsimp only at hSw)
        go_simp
        all_goals with_reducible rfl
      try simp only [List.getElem_toArray, List.getElem_cons_zero, List.getElem_cons_succ, Act.put, List.setIfInBounds_toArray, List.set_cons_zero, List.set_cons_succ]
      refine wpAnyH_take (i := 10) (v := ?_) rfl (by kernel_rfl) (by kernel_rfl) (by kernel_rfl) (fun _ _ _ h => h) (Or.inl ⟨by rfl, ?qy10⟩) (by assumption) ?qr10
      case qy10 =>
        intro w hSw
        (try dsimp only at hSw)
        go_simp
        all_goals with_reducible rfl
      try simp only [List.getElem_toArray, List.getElem_cons_zero, List.getElem_cons_succ, Act.put, List.setIfInBounds_toArray, List.set_cons_zero, List.set_cons_succ]
      refine wpAnyH_take (i := 11) (v := ?_) rfl (by kernel_rfl) (by kernel_rfl) (by kernel_rfl) (fun _ _ _ h => h) (Or.inl ⟨by rfl, ?qy11⟩) (by assumption) ?qr11
      case qy11 =>
        intro w hSw
        (try dsimp only at hSw)
        go_simp
        all_goals with_reducible rfl
      try simp only [List.getElem_toArray, List.getElem_cons_zero, List.getElem_cons_succ, Act.put, List.setIfInBounds_toArray, List.set_cons_zero, List.set_cons_succ]
      refine wpAnyH_take (i := 12) (v := ?_) rfl (by kernel_rfl) (by kernel_rfl) (by kernel_rfl) (fun _ _ _ h => h) (Or.inl ⟨by rfl, ?qy12⟩) (by assumption) ?qr12
      case qy12 =>
        intro w hSw
        (try dsimp only at hSw)
        go_simp
        all_goals with_reducible rfl
      try simp only [List.getElem_toArray, List.getElem_cons_zero, List.getElem_cons_succ, Act.put, List.setIfInBounds_toArray, List.set_cons_zero, List.set_cons_succ]
      refine wpAnyH_take (i := 13) (v := ?_) rfl (by kernel_rfl) (by kernel_rfl) (by kernel_rfl) (fun _ _ _ h => h) (Or.inl ⟨by rfl, ?qy13⟩) (by assumption) ?qr13
      case qy13 =>
        intro w hSw
        (try dsimp only at hSw)
        go_simp
        all_goals with_reducible rfl
      try simp only [List.getElem_toArray, List.getElem_cons_zero, List.getElem_cons_succ, Act.put, List.setIfInBounds_toArray, List.set_cons_zero, List.set_cons_succ]
      refine wpAnyH_take (i := 14) (v := ?_) rfl (by kernel_rfl) (by kernel_rfl) (by kernel_rfl) (fun _ _ _ h => h) (Or.inl ⟨by rfl, ?qy14⟩) (by assumption) ?qr14
      case qy14 =>
        intro w hSw
        (try dsimp only at hSw)
        go_simp
        all_goals with_reducible rfl
      try simp only [List.getElem_toArray, List.getElem_cons_zero, List.getElem_cons_succ, Act.put, List.setIfInBounds_toArray, List.set_cons_zero, List.set_cons_succ]
      refine wpAnyH_take (i := 15) (v := ?_) rfl (by kernel_rfl) (by kernel_rfl) (by kernel_rfl) (fun _ _ _ h => h) (Or.inl ⟨by rfl, ?qy15⟩) (by assumption) ?qr15
      case qy15 =>
        intro w hSw
        (try dsimp only at hSw)
        go_simp
        all_goals with_reducible rfl
      try simp only [List.getElem_toArray, List.getElem_cons_zero, List.getElem_cons_succ, Act.put, List.setIfInBounds_toArray, List.set_cons_zero, List.set_cons_succ]
      refine wpAnyH_take (i := 16) (v := ?_) rfl (by kernel_rfl) (by kernel_rfl) (by kernel_rfl) (fun _ _ _ h => h) (Or.inl ⟨by rfl, ?qy16⟩) (by assumption) ?qr16
      case qy16 =>
        intro w hSw
        (try dsimp only at hSw)
        go_simp
        all_goals with_reducible rfl
      try simp only [List.getElem_toArray, List.getElem_cons_zero, List.getElem_cons_succ, Act.put, List.setIfInBounds_toArray, List.set_cons_zero, List.set_cons_succ]
      refine wpAnyH_take (i := 17) (v := ?_) rfl (by kernel_rfl) (by kernel_rfl) (by kernel_rfl) (fun _ _ _ h => h) (Or.inl ⟨by rfl, ?qy17⟩) (by assumption) ?qr17
      case qy17 =>
        intro w hSw
        (try dsimp only at hSw)
        go_simp
        all_goals with_reducible rfl
      try simp only [List.getElem_toArray, List.getElem_cons_zero, List.getElem_cons_succ, Act.put, List.setIfInBounds_toArray, List.set_cons_zero, List.set_cons_succ]
      refine wpAnyH_take (i := 18) (v := ?_) rfl (by kernel_rfl) (by kernel_rfl) (by kernel_rfl) (fun _ _ _ h => h) (Or.inl ⟨by rfl, ?qy18⟩) (by assumption) ?qr18
      case qy18 =>
        intro w hSw
        (try dsimp only at hSw)
        go_simp
        all_goals with_reducible rfl
      try simp only [List.getElem_toArray, List.getElem_cons_zero, List.getElem_cons_succ, Act.put, List.setIfInBounds_toArray, List.set_cons_zero, List.set_cons_succ]
      refine wpAnyH_take (i := 19) (v := ?_) rfl (by kernel_rfl) (by kernel_rfl) (by kernel_rfl) (fun _ _ _ h => h) (Or.inl ⟨by rfl, ?qy19⟩) (by assumption) ?qr19
      case qy19 =>
        intro w hSw
        (try dsimp only at hSw)
        go_simp
        all_goals with_reducible rfl
      try simp only [List.getElem_toArray, List.getElem_cons_zero, List.getElem_cons_succ, Act.put, List.setIfInBounds_toArray, List.set_cons_zero, List.set_cons_succ]
      refine wpAnyH_take (i := 20) (v := ?_) rfl (by kernel_rfl) (by kernel_rfl) (by kernel_rfl) (fun _ _ _ h => h) (Or.inl ⟨by rfl, ?qy20⟩) (by assumption) ?qr20
      case qy20 =>
        intro w hSw
        (try dsimp only at hSw)
        go_simp
        all_goals with_reducible rfl
      try simp only [List.getElem_toArray, List.getElem_cons_zero, List.getElem_cons_succ, Act.put, List.setIfInBounds_toArray, List.set_cons_zero, List.set_cons_succ]
      refine wpAnyH_take (i := 21) (v := ?_) rfl (by kernel_rfl) (by kernel_rfl) (by kernel_rfl) (fun _ _ _ h => h) (Or.inl ⟨by rfl, ?qy21⟩) (by assumption) ?qr21
      case qy21 =>
        intro w hSw
        (try dsimp only at hSw)
        go_simp
        all_goals with_reducible rfl
      try simp only [List.getElem_toArray, List.getElem_cons_zero, List.getElem_cons_succ, Act.put, List.setIfInBounds_toArray, List.set_cons_zero, List.set_cons_succ]
      refine wpAnyH_take (i := 22) (v := ?_) rfl (by kernel_rfl) (by kernel_rfl) (by kernel_rfl) (fun _ _ _ h => h) (Or.inl ⟨by rfl, ?qy22⟩) (by assumption) ?qr22
      case qy22 =>
        intro w hSw
        (try dsimp only at hSw)
        go_simp
        all_goals with_reducible rfl
      try simp only [List.getElem_toArray, List.getElem_cons_zero, List.getElem_cons_succ, Act.put, List.setIfInBounds_toArray, List.set_cons_zero, List.set_cons_succ]
      refine wpAnyH_take (i := 23) (v := ?_) rfl (by kernel_rfl) (by kernel_rfl) (by kernel_rfl) (fun _ _ _ h => h) (Or.inl ⟨by rfl, ?qy23⟩) (by assumption) ?qr23
      case qy23 =>
        intro w hSw
        (try dsimp only at hSw)
        go_simp
        all_goals with_reducible rfl
      try simp only [List.getElem_toArray, List.getElem_cons_zero, List.getElem_cons_succ, Act.put, List.setIfInBounds_toArray, List.set_cons_zero, List.set_cons_succ]
      refine wpAnyH_take (i := 24) (v := ?_) rfl (by kernel_rfl) (by kernel_rfl) (by kernel_rfl) (fun _ _ _ h => h) (Or.inl ⟨by rfl, ?qy24⟩) (by assumption) ?qr24
      case qy24 =>
        intro w hSw
        (try dsimp only at hSw)
        go_simp
        all_goals with_reducible rfl
      try simp only [List.getElem_toArray, List.getElem_cons_zero, List.getElem_cons_succ, Act.put, List.setIfInBounds_toArray, List.set_cons_zero, List.set_cons_succ]
      refine wpAnyH_take (i := 25) (v := ?_) rfl (by kernel_rfl) (by kernel_rfl) (by kernel_rfl) (fun _ _ _ h => h) (Or.inl ⟨by rfl, ?qy25⟩) (by assumption) ?qr25
      case qy25 =>
        intro w hSw
        (try dsimp only at hSw)
        go_simp
        all_goals with_reducible rfl
      try simp only [List.getElem_toArray, List.getElem_cons_zero, List.getElem_cons_succ, Act.put, List.setIfInBounds_toArray, List.set_cons_zero, List.set_cons_succ]
      refine wpAnyH_take (i := 26) (v := ?_) rfl (by kernel_rfl) (by kernel_rfl) (by kernel_rfl) (fun _ _ _ h => h) (Or.inl ⟨by rfl, ?qy26⟩) (by assumption) ?qr26
      case qy26 =>
        intro w hSw
        (try dsimp only at hSw)
        go_simp
        all_goals with_reducible rfl
      try simp only [List.getElem_toArray, List.getElem_cons_zero, List.getElem_cons_succ, Act.put, List.setIfInBounds_toArray, List.set_cons_zero, List.set_cons_succ]
      refine wpAnyH_take (i := 27) (v := ?_) rfl (by kernel_rfl) (by kernel_rfl) (by kernel_rfl) (fun _ _ _ h => h) (Or.inl ⟨by rfl, ?qy27⟩) (by assumption) ?qr27
      case qy27 =>
        intro w hSw
        (try dsimp only at hSw)
        go_simp
        all_goals with_reducible rfl
      try simp only [List.getElem_toArray, List.getElem_cons_zero, List.getElem_cons_succ, Act.put, List.setIfInBounds_toArray, List.set_cons_zero, List.set_cons_succ]
      refine wpAnyH_take (i := 28) (v := ?_) rfl (by kernel_rfl) (by kernel_rfl) (by kernel_rfl) (fun _ _ _ h => h) (Or.inl ⟨by rfl, ?qy28⟩) (by assumption) ?qr28
      case qy28 =>
        intro w hSw
        (try dsimp only at hSw)
        go_simp
        all_goals with_reducible rfl
      try simp only [List.getElem_toArray, List.getElem_cons_zero, List.getElem_cons_succ, Act.put, List.setIfInBounds_toArray, List.set_cons_zero, List.set_cons_succ]
      refine wpAnyH_take (i := 29) (v := _) rfl (by kernel_rfl) (by kernel_rfl) (by kernel_rfl) (fun _ _ _ h => h) (yieldsIf_load_mid (by rfl) _ _ rfl _ _ rfl _ _ ?qs29 Tryz.underlying33 rfl i1) (by assumption) ?qr29
      case qs29 =>
        intro w hSw
        (try dsimp only at hSw)
        go_split_ands
        assumption
      try simp only [List.getElem_toArray, List.getElem_cons_zero, List.getElem_cons_succ, Act.put, List.setIfInBounds_toArray, List.set_cons_zero, List.set_cons_succ]
      refine wpAnyH_take (i := 30) (v := ?_) rfl (by kernel_rfl) (by kernel_rfl) (by kernel_rfl) (fun _ _ _ h => h) (Or.inl ⟨by rfl, ?qy30⟩) (by assumption) ?qr30
      case qy30 =>
        intro w hSw
        (try dsimp only at hSw)
        go_simp
        all_goals with_reducible rfl
      try simp only [List.getElem_toArray, List.getElem_cons_zero, List.getElem_cons_succ, Act.put, List.setIfInBounds_toArray, List.set_cons_zero, List.set_cons_succ]
      refine wpAnyH_take (i := 31) (v := ?_) rfl (by kernel_rfl) (by kernel_rfl) (by kernel_rfl) (fun _ _ _ h => h) (Or.inl ⟨by rfl, ?qy31⟩) (by assumption) ?qr31
      case qy31 =>
        intro w hSw
        (try dsimp only at hSw)
        go_simp
        all_goals with_reducible rfl
      try simp only [List.getElem_toArray, List.getElem_cons_zero, List.getElem_cons_succ, Act.put, List.setIfInBounds_toArray, List.set_cons_zero, List.set_cons_succ]
      refine wpAnyH_take (i := 32) (v := ?_) rfl (by kernel_rfl) (by kernel_rfl) (by kernel_rfl) (fun _ _ _ h => h) (Or.inl ⟨by rfl, ?qy32⟩) (by assumption) ?qr32
      case qy32 =>
        intro w hSw
        (try dsimp only at hSw)
        go_simp
        all_goals with_reducible rfl
      try simp only [List.getElem_toArray, List.getElem_cons_zero, List.getElem_cons_succ, Act.put, List.setIfInBounds_toArray, List.set_cons_zero, List.set_cons_succ]
      refine wpAnyH_take (i := 33) (v := ?_) rfl (by kernel_rfl) (by kernel_rfl) (by kernel_rfl) (fun _ _ _ h => h) (Or.inl ⟨by rfl, ?qy33⟩) (by assumption) ?qr33
      case qy33 =>
        intro w hSw
        (try dsimp only at hSw)
        go_simp
        all_goals with_reducible rfl
      try simp only [List.getElem_toArray, List.getElem_cons_zero, List.getElem_cons_succ, Act.put, List.setIfInBounds_toArray, List.set_cons_zero, List.set_cons_succ]
      refine wpAnyH_take (i := 34) (v := _) rfl (by kernel_rfl) (by kernel_rfl) (by kernel_rfl) (fun _ _ _ h => h) (yieldsIf_load_mid (by rfl) _ _ rfl _ _ rfl _ _ ?qs34 Tryz.underlying33 rfl i2) (by assumption) ?qr34
      case qs34 =>
        intro w hSw
        (try dsimp only at hSw)
        go_split_ands
        assumption
      try simp only [List.getElem_toArray, List.getElem_cons_zero, List.getElem_cons_succ, Act.put, List.setIfInBounds_toArray, List.set_cons_zero, List.set_cons_succ]
      refine wpAnyH_ready (rs := [35]) (by kernel_rfl) (by simp) ?_
      refine AllReadyH.cons rfl (fun K hK => ?_) AllReadyH.nil
      go_simp
      with_reducible refine (CT).mono ?_
      rintro e W1 ⟨rfl, hb1⟩
      have hb1b := HD.out.trans (hb1.mono HD.out.size)
      try go_wp2_with fail
      refine hK.out _ _ (HS.out _ hb1b) (fun hHeld => ?_)
      clear hK K
      try simp only [List.getElem_toArray, List.getElem_cons_zero, List.getElem_cons_succ, Act.put, List.setIfInBounds_toArray, List.set_cons_zero, List.set_cons_succ]
      refine wpAnyH_take (i := 36) (v := ?_) rfl (by kernel_rfl) (by kernel_rfl) (by kernel_rfl) (fun _ _ _ h => h) (Or.inl ⟨by rfl, ?qy36⟩) (by assumption) ?qr36
      case qy36 =>
        intro w hSw
        (try dsimp only at hSw)
        go_simp
        all_goals with_reducible rfl
      try simp only [List.getElem_toArray, List.getElem_cons_zero, List.getElem_cons_succ, Act.put, List.setIfInBounds_toArray, List.set_cons_zero, List.set_cons_succ]
      refine wpAnyH_take (i := 37) (v := ?_) rfl (by kernel_rfl) (by kernel_rfl) (by kernel_rfl) (fun _ _ _ h => h) (Or.inl ⟨by rfl, ?qy37⟩) (by assumption) ?qr37
      case qy37 =>
        intro w hSw
        (try dsimp only at hSw)
        go_simp
        all_goals with_reducible rfl
      try simp only [List.getElem_toArray, List.getElem_cons_zero, List.getElem_cons_succ, Act.put, List.setIfInBounds_toArray, List.set_cons_zero, List.set_cons_succ]
      refine wpAnyH_done (by kernel_rfl) ?_ _
      have HB1 : Hid (Below w.heap.size w W1) := hb1b
      clear hb1 hb1b CT
      go_wp2_with fail
      go_roundw
      case rel => exact ⟨1, by omega, by go_num, HB1⟩
      case measure => simp [intOf]
    · obtain rfl : i = 1 := by omega
      simp only [Int.cast_ofNat_Int]
      go_wp2_with fail
      go_ret
      exact ⟨rfl, HR.out⟩
end Go.Proofs.YtngegdamcfmonaaGreat

