/-
  Any settings, tenants, changes are written as just the document's bytes (P12.1, P12.2): the statement's walk.
-/
import Derived.Test.YtngegdamcfmonaaGreatM41
import Derived.Test.YtngegdamcfmonaaGreatM39
namespace Go.Proofs.YtngegdamcfmonaaGreat
open Go.RowKit
open Sm
open Cf
set_option linter.unusedVariables false
set_option linter.unusedSimpArgs false
set_option maxRecDepth 20000

theorem lgt_in2 {t : Ten} (h : Lgt t) (hl : TLen t) (hb : TBy t) : TIn t := by
  obtain ⟨a, b, c, d⟩ := h
  exact ⟨hl, hb.key, hb.vmac, hb.host, by omega, by omega, by omega, by omega⟩
theorem cat_le2 (enc : Nat → List Int) (c : Nat) (h : ∀ i, (enc i).length ≤ c) : ∀ n, (cat enc n).length ≤ n * c
  | 0 => by simp [cat]
  | n + 1 => by
    have := cat_le2 enc c h n
    have := h n
    rw [cat, List.length_append, Nat.succ_mul]
    omega
theorem tenc_le2 (t : Ten) (hl : TLen t) : (tenc t).length ≤ 5500 := by
  have h1 := cat_le2 (fun i => be 4 (t.pool.getD i 0)) 4 (fun i => by simp only [be_len]; omega) (min t.pool.length 255)
  have h2 := cat_le2 (fun i => spP.enc (t.stat.getD i (0, 0))) 8 (fun i => by simp only [spP_enc, List.length_append, be_len]; omega) (min t.stat.length 255)
  have h3 := cat_le2 (fun i => spP.enc (t.twi.getD i (0, 0))) 8 (fun i => by simp only [spP_enc, List.length_append, be_len]; omega) (min t.twi.length 255)
  have h4 : (nm t.name).length ≤ 256 := by simp only [nm, List.length_cons, List.length_take]; omega
  rw [tenc_eq, thead_eq]
  simp only [List.length_append, be_len, hl.key, hl.vmac, hl.host, List.length_cons, List.length_nil]
  omega
theorem TSV.len_at {w : World} {v : Value} {ts : List Ten} (h : TSV w v ts) : ∀ t ∈ ts, TLen t := by
  obtain ⟨zs, rfl, -, h⟩ := h
  intro t ht
  obtain ⟨z, hz, rfl⟩ := List.mem_map.mp ht
  exact (h z hz).1
theorem cenc_le2 (c : Cgf) (hl : CLen c) (ht : ∀ t ∈ c.ten, TLen t) : (cenc c).length ≤ 1500000 := by
  have h1 := cat_le2 (fun i => tenc (c.ten.getD i ten0)) 5500 (fun i => by
    refine tenc_le2 _ ?_
    by_cases h : i < c.ten.length
    · rw [List.getD_eq_getElem?_getD, List.getElem?_eq_getElem h, Option.getD_some]
      exact ht _ (List.getElem_mem _)
    · rw [List.getD_eq_getElem?_getD, List.getElem?_eq_none (by omega), Option.getD_none]
      exact ten0_len) (min c.ten.length 255)
  rw [cenc_eq, chead]
  simp only [List.length_append, be_len, hl.mac, hl.omac, hl.nmac, hl.key, List.length_cons, List.length_nil]
  omega
theorem henc_le2 (h : Chg) (hl : TLen h.t) : (henc h).length ≤ 6000 := by
  have h1 := tenc_le2 h.t hl
  have h4 : (nm h.name).length ≤ 256 := by simp only [nm, List.length_cons, List.length_take]; omega
  unfold henc
  split <;> simp only [List.length_cons] <;> omega
theorem wpList_load_mid_g {ops : Array Oper} {rest : List Oper} {op : Oper} {a : Act} {w : World} {Q : Exit → Act → World → Prop} (hw : Region.wanted op (yielded ops a.tmps) = true) (ty : TypeId) (x : Operand) (ho : op.op = .load ty x)
    (b o : Nat) (hx : a.eval x = .pointer (some ⟨b, o, none⟩)) (cs : List Value) (d : TypeDesc) (hc : w.rangeAt b o cs)
    (hu : Tryz.prog.underlying ty = some d) (hd : d.isRow = true) (hi : (Tryz.prog.info? ty).map (·.size) = some cs.length)
    (h : wpList Tryz.prog ops Q rest (a.put op.dst (.agg cs.toArray)) w) : wpList Tryz.prog ops Q (op :: rest) a w :=
  wpList_wanted hw fun _ hK => wp_load_mid ty x ho b o hx cs d hc hu hd hi (hK _ _ h)
/-- What a call that makes bytes answers. -/
def Mk (l : List Int) (V : World) (e : Ending) (V' : World) : Prop := ∃ a c, e = .returned (.slice a l.length c) ∧ Below V.heap.size V V' ∧ Row V' a l
theorem mk_of {l : List Int} {V V' : World} {u : Value} (h : Out V V' u l []) (hl : l.length ≤ 1000000000) : Mk l V (.returned u) V' := by
  obtain ⟨a, c, rfl, hS⟩ := h.sl hl
  exact ⟨a, c, rfl, h.mem.below, hS.row⟩
theorem bytes_yes {V : World} {a b : Option Addr} {l : List Int} (ha : Row V a l) (hb : Row V b l) (n : Nat) (hn : l.length = n) (ca cb : Nat) : Calls Tryz.prog 12 #[.slice a n ca, .slice b n cb] V fun e V' => e = .returned (.bool true) ∧ V = V' := by
  have := hbytes_any ha hb n n hn hn ca cb
  rwa [decide_eq_true rfl] at this
theorem HV.tv {w V : World} {t : Ten} {put : Bool} {name : ByteArray} {p s q : Value} (hl : TLen t) (h1 : Rw w 1 p (ux t.pool)) (h2 : Rw w 2 s (px t.stat)) (h3 : Rw w 2 q (px t.twi)) (hb : Below w.heap.size w V) : TV V (.agg (tc t p s q).toArray) t ∧ HV V (.agg (hc ⟨put, name, t⟩ p s q).toArray) ⟨put, name, t⟩ :=
  ⟨⟨hl, p, s, q, rfl, h1.below ux_ne hb (Nat.le_refl _), h2.below px_ne hb (Nat.le_refl _), h3.below px_ne hb (Nat.le_refl _)⟩, ⟨hl, p, s, q, rfl, h1.below ux_ne hb (Nat.le_refl _), h2.below px_ne hb (Nat.le_refl _), h3.below px_ne hb (Nat.le_refl _)⟩⟩

set_option maxHeartbeats 8000000 in
theorem writes_law {w : World} {vc vh : Value} {c : Cgf} {h : Chg} (hC : CV w vc c) (hi : CIn c) (hts : ∀ t ∈ c.ten, TBy t ∧ TRg t) (hH : HV w vh h) (hby : TBy h.t) :
    Calls Tryz.prog 3 #[vc, vh] w fun e w' => e = .returned (.bool true) ∧ Below w.heap.size w w' := by
  have HCV : Hid (∀ V, Below w.heap.size w V → CV V vc c) := fun V hV => hC.at_ hV (Nat.le_refl _)
  obtain ⟨hcl, u, rfl, hT⟩ := hC
  obtain ⟨hhl, p, s, q, rfl, r1, r2, r3⟩ := hH
  obtain ⟨put, name, t⟩ := h
  simp only at hhl r1 r2 r3 hby
  have HTS : Hid (∀ V, Below w.heap.size w V → TSV V u c.ten) := fun V hV => hT.at_ hV (Nat.le_refl _)
  have HTV : Hid (∀ V, Below w.heap.size w V → TV V (.agg (tc t p s q).toArray) t ∧ HV V (.agg (hc ⟨put, name, t⟩ p s q).toArray) ⟨put, name, t⟩) := fun V hV => HV.tv hhl r1 r2 r3 hV
  obtain ⟨g, hg⟩ : ∃ g, w.heap.size = g := ⟨_, rfl⟩
  have hM0 := two_blocks' w (.cells (cc c u).toArray 28) (.cells (hc ⟨put, name, t⟩ p s q).toArray 35)
  rw [hg] at hM0
  obtain ⟨L, hL⟩ : ∃ L : List (Nat × Obj), L = [(g + 1, .cells (hc ⟨put, name, t⟩ p s q).toArray 35 (0, 0)), (g, .cells (cc c u).toArray 28 (0, 0))] := ⟨_, rfl⟩
  have KS : Hid (∀ V, Mem w V L → V.rangeAt g 0 (cc c u) ∧ V.rangeAt (g + 1) 0 (hc ⟨put, name, t⟩ p s q) ∧ V.rangeAt (g + 1) 2 (tc t p s q)) := by
    intro V hV
    rw [hL] at hV
    refine ⟨fun j v hj => ?_, fun j v hj => ?_, fun j v hj => ?_⟩
    · rw [hV.cell 1 rfl, Nat.zero_add]; simpa using hj
    · rw [hV.cell 0 rfl, Nat.zero_add]; simpa using hj
    · rw [hV.cell 0 rfl, Nat.add_comm]; simpa [hc] using hj
  have hone := hT.one
  have K1 : Hid (∀ V, Mem w V L → V.cell? ⟨g, 28, none⟩ = some u ∧ V.cell? ⟨g + 1, 1, none⟩ = some (.string name)) := by
    intro V hV
    obtain ⟨h1, h2, -⟩ := KS.out V hV
    have e1 := h1 28 u (cget hcl (by rintro ip a b c d f g a1 b1 c1 d1 f1 g1 a2 b2 c2 d2 f2 g2 k1 k2 k3 k4 k5 k6 k7 k8 dr te rfl; rfl))
    have e2 := h2 1 (.string name) rfl
    rw [Nat.zero_add] at e1 e2
    exact ⟨e1, e2⟩
  have hs1 : (cc c u).length = 29 := cc_len hcl _
  have hs3 : (tc t p s q).length = 33 := tc_len hhl _ _ _
  have hs2 : (hc ⟨put, name, t⟩ p s q).length = 35 := by simp only [hc, List.length_cons, hs3]
  have i1 : (Tryz.prog.info? 28).map (·.size) = some (cc c u).length := by rw [hs1]; kernel_rfl
  have i2 : (Tryz.prog.info? 35).map (·.size) = some (hc ⟨put, name, t⟩ p s q).length := by rw [hs2]; kernel_rfl
  have i3 : (Tryz.prog.info? 33).map (·.size) = some (tc t p s q).length := by rw [hs3]; kernel_rfl
  have HLN : Hid (∀ t ∈ c.ten, TLen t) := hT.len_at
  have HIN : Hid (CIn c ∧ (∀ t ∈ c.ten, TBy t ∧ TRg t) ∧ TLen t ∧ TBy t ∧ CLen c) := ⟨hi, hts, hhl, hby, hcl⟩
  have hul : ∃ sa sn sc, u = .slice sa sn sc := by
    obtain ⟨zs, -, ⟨a, c, e, -⟩, -⟩ := hT
    exact ⟨a, _, c, e⟩
  rw [← hL] at hM0
  have HM0 : Hid (Mem w ((w.alloc (.cells (cc c u).toArray 28)).alloc (.cells (hc ⟨put, name, t⟩ p s q).toArray 35)) L) := hM0
  clear hL hs1 hs2 hs3 hT r1 r2 r3 hone hi hts hby hhl hcl hM0
  generalize cc c u = cl at *
  generalize hc ⟨put, name, t⟩ p s q = hl at *
  generalize tc t p s q = xl at *
  obtain ⟨sa, sn, sc, rfl⟩ := hul
  go_enter Tryz.func3, Tryz.ntmps3
  go_upto_region 1 with fail
  refine wp_letter (fun V => Mem w V L) HM0.out ?_
  intro V0 hM0
  clear HM0
  go_wp2_with fail
  refine (known_any V0).mono ?_
  rintro e V1 ⟨rfl, hb1⟩
  have HM1 : Hid (Mem w V1 L) := hM0.after hb1
  clear hM0 hb1
  obtain ⟨c28, -⟩ := K1.out _ HM1.out
  have CL := lights_any (HTS.out _ HM1.out.below) 20 (by omega)
  by_cases q1 : Lgts c.ten 20
  rotate_left
  · rw [decide_eq_false q1] at CL
    go_wp2_with fail
    refine CL.mono ?_
    rintro e V2 ⟨rfl, hb2⟩
    have HB : Hid (Below w.heap.size w V2) := (HM1.out.after hb2).below
    clear CL hb2
    go_wp2_with fail
    go_ret
    exact ⟨rfl, HB.out⟩
  rw [decide_eq_true q1] at CL
  go_wp2_with fail
  refine CL.mono ?_
  rintro e V2 ⟨rfl, hb2⟩
  have HM2 : Hid (Mem w V2 L) := HM1.out.after hb2
  obtain ⟨-, -, hra⟩ := KS.out _ HM2.out
  have CG := light_any (HTV.out _ HM2.out.below).1
  clear CL hb2 HM1 c28
  by_cases q2 : Lgt t
  rotate_left
  · rw [decide_eq_false q2] at CG
    go_wp2_with (refine wpList_load_mid_g rfl 33 (.tmp 12) (by with_reducible rfl) (g + 1) 2 (by first | rfl | simp [Act.eval]) xl _ hra Tryz.underlying33 rfl i3 ?_)
    refine CG.mono ?_
    rintro e V3 ⟨rfl, hb3⟩
    have HB : Hid (Below w.heap.size w V3) := (HM2.out.after hb3).below
    clear CG hb3
    go_wp2_with fail
    go_ret
    exact ⟨rfl, HB.out⟩
  rw [decide_eq_true q2] at CG
  go_wp2_with (refine wpList_load_mid_g rfl 33 (.tmp 12) (by with_reducible rfl) (g + 1) 2 (by first | rfl | simp [Act.eval]) xl _ hra Tryz.underlying33 rfl i3 ?_)
  refine CG.mono ?_
  rintro e V3 ⟨rfl, hb3⟩
  have HM3 : Hid (Mem w V3 L) := HM2.out.after hb3
  obtain ⟨-, c1⟩ := K1.out _ HM3.out
  clear CG hb3 HM2 hra
  by_cases q3 : name.size ≤ 300
  rotate_left
  · have h3 : (300 : Int) < name.size := by omega
    have HB : Hid (Below w.heap.size w V3) := HM3.out.below
    go_wp2_with fail
    go_ret
    exact ⟨rfl, HB.out⟩
  have h3 : ¬ ((300 : Int) < name.size) := by omega
  obtain ⟨I1, I2, I3, I4, I5⟩ := HIN.out
  have J1 : ∀ t ∈ c.ten, TIn t := fun t ht => by
    obtain ⟨i, hi, rfl⟩ := List.getElem_of_mem ht
    have := q1.2 i hi
    rw [List.getD_eq_getElem?_getD, List.getElem?_eq_getElem hi, Option.getD_some] at this
    exact lgt_in2 this (HLN.out _ ht) (I2 _ ht).1
  have J2 : TIn t := lgt_in2 q2 I3 I4
  have b1 := cenc_le2 c I5 HLN.out
  have b2 := henc_le2 ⟨put, name, t⟩ I3
  have b3 := tenc_le2 t I3
  have hl20 : c.ten.length ≤ 1000000 := by have := q1.1; omega
  obtain ⟨l1, hl1⟩ : ∃ l, cenc c = l := ⟨_, rfl⟩
  obtain ⟨l2, hl2⟩ : ∃ l, henc ⟨put, name, t⟩ = l := ⟨_, rfl⟩
  obtain ⟨l3, hl3⟩ : ∃ l, tenc t = l := ⟨_, rfl⟩
  have CA : Hid (∀ V, Mem w V L → Calls Tryz.prog 13 #[.agg cl.toArray] V (Mk l1 V)) := by
    intro V hV
    have := cfgConfig_any (HCV.out _ hV.below) I1 J1 (by omega)
    rw [hl1] at this b1
    exact this.mono (fun e V' h => by obtain ⟨u, rfl, hO⟩ := h; exact mk_of hO (by omega))
  have CB : Hid (∀ V, Mem w V L → Calls Tryz.prog 14 #[.agg cl.toArray] V (Mk l1 V)) := by
    intro V hV
    have := rconfig_any (HCV.out _ hV.below) I1 J1 hl20
    rw [hl1] at this b1
    exact this.mono (fun e V' h => by obtain ⟨u, rfl, hO⟩ := h; exact mk_of hO.1 (by omega))
  have CC : Hid (∀ V, Mem w V L → Calls Tryz.prog 15 #[.agg hl.toArray] V (Mk l2 V)) := by
    intro V hV
    have := cfgChange_any (HTV.out _ hV.below).2 J2 (by show name.size ≤ _; omega) (by omega)
    rw [hl2] at this b2
    exact this.mono (fun e V' h => by obtain ⟨u, rfl, hO⟩ := h; exact mk_of hO (by omega))
  have CD : Hid (∀ V, Mem w V L → Calls Tryz.prog 16 #[.agg hl.toArray] V (Mk l2 V)) := by
    intro V hV
    have := rchange_any (HTV.out _ hV.below).2 J2
    rw [hl2] at this b2
    exact this.mono (fun e V' h => by obtain ⟨u, rfl, hO⟩ := h; exact mk_of hO.1 (by omega))
  have CE : Hid (∀ V, Mem w V L → Calls Tryz.prog 17 #[.agg xl.toArray] V (Mk l3 V)) := by
    intro V hV
    have := cfgTenant_any (HTV.out _ hV.below).1 J2 (by omega)
    rw [hl3] at this b3
    exact this.mono (fun e V' h => by obtain ⟨u, rfl, hO⟩ := h; exact mk_of hO (by omega))
  have CF : Hid (∀ V, Mem w V L → Calls Tryz.prog 18 #[.agg xl.toArray] V (Mk l3 V)) := by
    intro V hV
    have := rtenant_any (HTV.out _ hV.below).1 J2
    rw [hl3] at this b3
    exact this.mono (fun e V' h => by obtain ⟨u, rfl, hO⟩ := h; exact mk_of hO.1 (by omega))
  have rr := KS.out _ HM3.out.drew
  have hM3 := HM3.out.drew
  clear HM3 I1 I2 I3 I4 I5 J1 J2 b1 b2 b3 hl1 hl2 hl3 hl20 HCV HTS HTV HLN HIN K1 q1 q2 q3
  go_upto_region 5 with fail
  refine wp_region_held_drew (S := fun V => V.rangeAt g 0 cl ∧ V.rangeAt (g + 1) 0 hl ∧ V.rangeAt (g + 1) 2 xl) (by kernel_rfl) rr (fun hHeld => ?_)
  refine wpAnyH_take (i := 0) (v := _) rfl (by kernel_rfl) (by kernel_rfl) (by kernel_rfl) (fun _ _ _ h => h) (yieldsIf_load_mid (by rfl) _ _ rfl _ _ rfl _ _ ?qs0 Tryz.underlying28 rfl i1) (by assumption) ?qr0
  case qs0 =>
    intro w hSw
    (try dsimp only at hSw)
    go_split_ands
    assumption
  try simp only [List.getElem_toArray, List.getElem_cons_zero, List.getElem_cons_succ, Act.put, List.setIfInBounds_toArray, List.set_cons_zero, List.set_cons_succ]
  refine wpAnyH_take (i := 2) (v := _) rfl (by kernel_rfl) (by kernel_rfl) (by kernel_rfl) (fun _ _ _ h => h) (yieldsIf_load_mid (by rfl) _ _ rfl _ _ rfl _ _ ?qs2 Tryz.underlying28 rfl i1) (by assumption) ?qr2
  case qs2 =>
    intro w hSw
    (try dsimp only at hSw)
    go_split_ands
    assumption
  try simp only [List.getElem_toArray, List.getElem_cons_zero, List.getElem_cons_succ, Act.put, List.setIfInBounds_toArray, List.set_cons_zero, List.set_cons_succ]
  refine wpAnyH_ready (rs := [1]) (by kernel_rfl) (by simp) ?_
  refine AllReadyH.cons rfl (fun K hK => ?_) AllReadyH.nil
  go_simp
  with_reducible refine (CA.out _ hM3).mono ?_
  rintro e W1 ⟨a1, n1, rfl, hb1, hr1⟩
  have hM4 := hM3.after hb1
  try go_wp2_with fail
  refine hK.out _ _ (KS.out _ hM4) (fun hHeld => ?_)
  clear hK K
  try simp only [List.getElem_toArray, List.getElem_cons_zero, List.getElem_cons_succ, Act.put, List.setIfInBounds_toArray, List.set_cons_zero, List.set_cons_succ]
  refine wpAnyH_ready (rs := [3]) (by kernel_rfl) (by simp) ?_
  refine AllReadyH.cons rfl (fun K hK => ?_) AllReadyH.nil
  go_simp
  with_reducible refine (CB.out _ hM4).mono ?_
  rintro e W2 ⟨a2, n2, rfl, hb2, hr2⟩
  have hM5 := hM4.after hb2
  have hr1b := hr1.below hb2 (Nat.le_refl _)
  try go_wp2_with fail
  refine hK.out _ _ (KS.out _ hM5) (fun hHeld => ?_)
  clear hK K
  try simp only [List.getElem_toArray, List.getElem_cons_zero, List.getElem_cons_succ, Act.put, List.setIfInBounds_toArray, List.set_cons_zero, List.set_cons_succ]
  refine wpAnyH_ready (rs := [4]) (by kernel_rfl) (by simp) ?_
  refine AllReadyH.cons rfl (fun K hK => ?_) AllReadyH.nil
  go_simp
  with_reducible refine (bytes_yes hr1b hr2 _ rfl n1 n2).mono ?_
  rintro e W3 ⟨rfl, rfl⟩
  try go_wp2_with fail
  refine hK.out _ _ (KS.out _ hM5) (fun hHeld => ?_)
  clear hK K
  try simp only [List.getElem_toArray, List.getElem_cons_zero, List.getElem_cons_succ, Act.put, List.setIfInBounds_toArray, List.set_cons_zero, List.set_cons_succ]
  refine wpAnyH_take (i := 5) (v := ?_) rfl (by kernel_rfl) (by kernel_rfl) (by kernel_rfl) (fun _ _ _ h => h) (Or.inl ⟨by rfl, ?qy5⟩) (by assumption) ?qr5
  case qy5 =>
    intro w hSw
    (try dsimp only at hSw)
    go_simp
    all_goals with_reducible rfl
  try simp only [List.getElem_toArray, List.getElem_cons_zero, List.getElem_cons_succ, Act.put, List.setIfInBounds_toArray, List.set_cons_zero, List.set_cons_succ]
  refine wpAnyH_take (i := 6) (v := _) rfl (by kernel_rfl) (by kernel_rfl) (by kernel_rfl) (fun _ _ _ h => h) (yieldsIf_load_mid (by rfl) _ _ rfl _ _ rfl _ _ ?qs6 Tryz.underlying35 rfl i2) (by assumption) ?qr6
  case qs6 =>
    intro w hSw
    (try dsimp only at hSw)
    go_split_ands
    assumption
  try simp only [List.getElem_toArray, List.getElem_cons_zero, List.getElem_cons_succ, Act.put, List.setIfInBounds_toArray, List.set_cons_zero, List.set_cons_succ]
  refine wpAnyH_take (i := 8) (v := _) rfl (by kernel_rfl) (by kernel_rfl) (by kernel_rfl) (fun _ _ _ h => h) (yieldsIf_load_mid (by rfl) _ _ rfl _ _ rfl _ _ ?qs8 Tryz.underlying35 rfl i2) (by assumption) ?qr8
  case qs8 =>
    intro w hSw
    (try dsimp only at hSw)
    go_split_ands
    assumption
  try simp only [List.getElem_toArray, List.getElem_cons_zero, List.getElem_cons_succ, Act.put, List.setIfInBounds_toArray, List.set_cons_zero, List.set_cons_succ]
  refine wpAnyH_ready (rs := [7]) (by kernel_rfl) (by simp) ?_
  refine AllReadyH.cons rfl (fun K hK => ?_) AllReadyH.nil
  go_simp
  with_reducible refine (CC.out _ hM5).mono ?_
  rintro e W4 ⟨a3, n3, rfl, hb3, hr3⟩
  have hM6 := hM5.after hb3
  try go_wp2_with fail
  refine hK.out _ _ (KS.out _ hM6) (fun hHeld => ?_)
  clear hK K
  try simp only [List.getElem_toArray, List.getElem_cons_zero, List.getElem_cons_succ, Act.put, List.setIfInBounds_toArray, List.set_cons_zero, List.set_cons_succ]
  refine wpAnyH_ready (rs := [9]) (by kernel_rfl) (by simp) ?_
  refine AllReadyH.cons rfl (fun K hK => ?_) AllReadyH.nil
  go_simp
  with_reducible refine (CD.out _ hM6).mono ?_
  rintro e W5 ⟨a4, n4, rfl, hb4, hr4⟩
  have hM7 := hM6.after hb4
  have hr3b := hr3.below hb4 (Nat.le_refl _)
  try go_wp2_with fail
  refine hK.out _ _ (KS.out _ hM7) (fun hHeld => ?_)
  clear hK K
  try simp only [List.getElem_toArray, List.getElem_cons_zero, List.getElem_cons_succ, Act.put, List.setIfInBounds_toArray, List.set_cons_zero, List.set_cons_succ]
  refine wpAnyH_ready (rs := [10]) (by kernel_rfl) (by simp) ?_
  refine AllReadyH.cons rfl (fun K hK => ?_) AllReadyH.nil
  go_simp
  with_reducible refine (bytes_yes hr3b hr4 _ rfl n3 n4).mono ?_
  rintro e W6 ⟨rfl, rfl⟩
  try go_wp2_with fail
  refine hK.out _ _ (KS.out _ hM7) (fun hHeld => ?_)
  clear hK K
  try simp only [List.getElem_toArray, List.getElem_cons_zero, List.getElem_cons_succ, Act.put, List.setIfInBounds_toArray, List.set_cons_zero, List.set_cons_succ]
  refine wpAnyH_take (i := 11) (v := ?_) rfl (by kernel_rfl) (by kernel_rfl) (by kernel_rfl) (fun _ _ _ h => h) (Or.inl ⟨by rfl, ?qy11⟩) (by assumption) ?qr11
  case qy11 =>
    intro w hSw
    (try dsimp only at hSw)
    go_simp
    all_goals with_reducible rfl
  try simp only [List.getElem_toArray, List.getElem_cons_zero, List.getElem_cons_succ, Act.put, List.setIfInBounds_toArray, List.set_cons_zero, List.set_cons_succ]
  refine wpAnyH_take (i := 12) (v := ?_) rfl (by kernel_rfl) (by kernel_rfl) (by kernel_rfl) (fun _ _ _ h => h) (Or.inl ⟨by rfl, ?qy12⟩) (by assumption) ?qr12
  case qy12 =>
    intro w hSw
    (try dsimp only at hSw)
    go_simp
    all_goals with_reducible rfl
  try simp only [List.getElem_toArray, List.getElem_cons_zero, List.getElem_cons_succ, Act.put, List.setIfInBounds_toArray, List.set_cons_zero, List.set_cons_succ]
  refine wpAnyH_take (i := 13) (v := ?_) rfl (by kernel_rfl) (by kernel_rfl) (by kernel_rfl) (fun _ _ _ h => h) (Or.inl ⟨by rfl, ?qy13⟩) (by assumption) ?qr13
  case qy13 =>
    intro w hSw
    (try dsimp only at hSw)
    go_simp
    all_goals with_reducible rfl
  try simp only [List.getElem_toArray, List.getElem_cons_zero, List.getElem_cons_succ, Act.put, List.setIfInBounds_toArray, List.set_cons_zero, List.set_cons_succ]
  refine wpAnyH_take (i := 16) (v := ?_) rfl (by kernel_rfl) (by kernel_rfl) (by kernel_rfl) (fun _ _ _ h => h) (Or.inl ⟨by rfl, ?qy16⟩) (by assumption) ?qr16
  case qy16 =>
    intro w hSw
    (try dsimp only at hSw)
    go_simp
    all_goals with_reducible rfl
  try simp only [List.getElem_toArray, List.getElem_cons_zero, List.getElem_cons_succ, Act.put, List.setIfInBounds_toArray, List.set_cons_zero, List.set_cons_succ]
  refine wpAnyH_take (i := 14) (v := _) rfl (by kernel_rfl) (by kernel_rfl) (by kernel_rfl) (fun _ _ _ h => h) (yieldsIf_load_mid (by rfl) _ _ rfl _ _ rfl _ _ ?qs14 Tryz.underlying33 rfl i3) (by assumption) ?qr14
  case qs14 =>
    intro w hSw
    (try dsimp only at hSw)
    go_split_ands
    assumption
  try simp only [List.getElem_toArray, List.getElem_cons_zero, List.getElem_cons_succ, Act.put, List.setIfInBounds_toArray, List.set_cons_zero, List.set_cons_succ]
  refine wpAnyH_take (i := 17) (v := _) rfl (by kernel_rfl) (by kernel_rfl) (by kernel_rfl) (fun _ _ _ h => h) (yieldsIf_load_mid (by rfl) _ _ rfl _ _ rfl _ _ ?qs17 Tryz.underlying33 rfl i3) (by assumption) ?qr17
  case qs17 =>
    intro w hSw
    (try dsimp only at hSw)
    go_split_ands
    assumption
  try simp only [List.getElem_toArray, List.getElem_cons_zero, List.getElem_cons_succ, Act.put, List.setIfInBounds_toArray, List.set_cons_zero, List.set_cons_succ]
  refine wpAnyH_ready (rs := [15]) (by kernel_rfl) (by simp) ?_
  refine AllReadyH.cons rfl (fun K hK => ?_) AllReadyH.nil
  go_simp
  with_reducible refine (CE.out _ hM7).mono ?_
  rintro e W7 ⟨a5, n5, rfl, hb5, hr5⟩
  have hM8 := hM7.after hb5
  try go_wp2_with fail
  refine hK.out _ _ (KS.out _ hM8) (fun hHeld => ?_)
  clear hK K
  try simp only [List.getElem_toArray, List.getElem_cons_zero, List.getElem_cons_succ, Act.put, List.setIfInBounds_toArray, List.set_cons_zero, List.set_cons_succ]
  refine wpAnyH_ready (rs := [18]) (by kernel_rfl) (by simp) ?_
  refine AllReadyH.cons rfl (fun K hK => ?_) AllReadyH.nil
  go_simp
  with_reducible refine (CF.out _ hM8).mono ?_
  rintro e W8 ⟨a6, n6, rfl, hb6, hr6⟩
  have hM9 := hM8.after hb6
  have hr5b := hr5.below hb6 (Nat.le_refl _)
  try go_wp2_with fail
  refine hK.out _ _ (KS.out _ hM9) (fun hHeld => ?_)
  clear hK K
  try simp only [List.getElem_toArray, List.getElem_cons_zero, List.getElem_cons_succ, Act.put, List.setIfInBounds_toArray, List.set_cons_zero, List.set_cons_succ]
  refine wpAnyH_ready (rs := [19]) (by kernel_rfl) (by simp) ?_
  refine AllReadyH.cons rfl (fun K hK => ?_) AllReadyH.nil
  go_simp
  with_reducible refine (bytes_yes hr5b hr6 _ rfl n5 n6).mono ?_
  rintro e W9 ⟨rfl, rfl⟩
  try go_wp2_with fail
  refine hK.out _ _ (KS.out _ hM9) (fun hHeld => ?_)
  clear hK K
  try simp only [List.getElem_toArray, List.getElem_cons_zero, List.getElem_cons_succ, Act.put, List.setIfInBounds_toArray, List.set_cons_zero, List.set_cons_succ]
  refine wpAnyH_take (i := 20) (v := ?_) rfl (by kernel_rfl) (by kernel_rfl) (by kernel_rfl) (fun _ _ _ h => h) (Or.inl ⟨by rfl, ?qy20⟩) (by assumption) ?qr20
  case qy20 =>
    intro w hSw
    (try dsimp only at hSw)
    go_simp
    all_goals with_reducible rfl
  try simp only [List.getElem_toArray, List.getElem_cons_zero, List.getElem_cons_succ, Act.put, List.setIfInBounds_toArray, List.set_cons_zero, List.set_cons_succ]
  refine wpAnyH_take (i := 21) (v := ?_) rfl (by kernel_rfl) (by kernel_rfl) (by kernel_rfl) (fun _ _ _ h => h) (Or.inl ⟨by rfl, ?qy21⟩) (by assumption) ?qr21
  case qy21 =>
    intro w hSw
    (try dsimp only at hSw)
    go_simp
    all_goals with_reducible rfl
  try simp only [List.getElem_toArray, List.getElem_cons_zero, List.getElem_cons_succ, Act.put, List.setIfInBounds_toArray, List.set_cons_zero, List.set_cons_succ]
  refine wpAnyH_done (by kernel_rfl) ?_ _
  go_wp2_with fail
  go_ret
  exact ⟨rfl, hM9.below⟩
end Go.Proofs.YtngegdamcfmonaaGreat

