/-
  Tenants' bytes stand one behind the other, each read from its own (P12.1, P12.2): the statement's walk.
  Settings as bytes: the document's OpenConfig: tenants of the call's own, in blocks.
-/
import Derived.Test.YtngegdamcfmonaaGreatM42
import Derived.Test.YtngegdamcfmonaaGreatM43
import Derived.Test.YtngegdamcfmonaaGreatM40
namespace Go.Proofs.YtngegdamcfmonaaGreat
open Go.RowKit
open Sm
open Cf
set_option linter.unusedVariables false
set_option linter.unusedSimpArgs false
set_option maxRecDepth 20000

/-- All but the first k bytes. -/
theorem sl_from {a : Option Addr} {l : List Int} {c : Nat} {w : World} (hS : Sl w a l c) (k : Nat) (hk : k < l.length) : ∃ a1 c1, (∀ V, (Instr.slice 40 (.slice a l.length c) (some (.int .i64 k)) none none).run Tryz.prog V = .ok (.slice a1 (l.drop k).length c1) V) ∧ Sl w a1 (l.drop k) c1 := by
  have hc := hS.le
  have hb := hS.big
  rcases hS.row.cells with e | ⟨b0, off, rfl, hcl⟩
  · rw [e] at hk; simp at hk
  · have hsz : ∀ V, (sizeOf (Tryz.prog.elem 40)).run Tryz.prog V = .ok 1 V := fun V => by kernel_rfl
    have hrun : ∀ V, (Instr.slice 40 (.slice (some ⟨b0, off, none⟩) l.length c) (some (.int .i64 k)) none none).run Tryz.prog V = .ok (sliced (some ⟨b0, off, none⟩) k l.length c 1) V := by
      intro V
      rw [run_slice_l (P := Tryz.prog) V 40 (some ⟨b0, off, none⟩) l.length c (by kernel_rfl) .i64 k (by omega) (by omega), hsz]
      rfl
    have hne : ¬ c = k := by omega
    have hdl : (l.drop k).length = l.length - k := by rw [List.length_drop]
    by_cases hk0 : k = 0
    · subst hk0
      refine ⟨some ⟨b0, off, none⟩, c, fun V => by rw [hrun]; simp [sliced, Addr.add, hne], ?_⟩
      rw [List.drop_zero]
      exact hS
    · refine ⟨some ⟨b0, off + k, none⟩, c - k, fun V => by rw [hrun]; simp [sliced, Addr.add, hne, hk0], ⟨?_, by omega, by omega, fun e => by cases e⟩⟩
      have := hS.row.part k (l.drop k).length (by omega)
      rw [hdl, List.take_of_length_le (by rw [List.length_drop]; exact Nat.le_refl _)] at this
      exact this
theorem cat_split (enc : Nat → List Int) (n : Nat) : ∀ i, i ≤ n → cat enc n = cat enc i ++ catF enc i (n - i) := by
  induction n with
  | zero =>
    intro i hi
    obtain rfl : i = 0 := by omega
    rfl
  | succ n ih =>
    intro i hi
    by_cases h : i = n + 1
    · subst h
      rw [Nat.sub_self, catF, List.append_nil]
    · rw [cat, ih i (by omega), show n + 1 - i = (n - i) + 1 by omega, catF_snoc, List.append_assoc, show i + (n - i) = n by omega]
theorem cat_at (enc : Nat → List Int) (n i : Nat) (hi : i < n) (h : List Int) : (h ++ cat enc n).drop (h ++ cat enc i).length = enc i ++ catF enc (i + 1) (n - (i + 1)) := by
  rw [cat_split enc n i (by omega), show n - i = (n - (i + 1)) + 1 by omega, catF, ← List.append_assoc, List.drop_left]
theorem chead_len (c : Cgf) (hl : CLen c) : (chead c).length = 35 := by
  rw [chead]
  simp only [List.length_append, be_len, hl.mac, hl.omac, hl.nmac, hl.key, List.length_cons, List.length_nil]
theorem cc_set {c : Cgf} (hl : CLen c) (u v : Value) (ts : List Ten) : (cc c u).toArray.setIfInBounds 28 v = (cc { c with ten := ts } v).toArray := by
  rw [List.setIfInBounds_toArray]
  congr 1
  exact cset hl (by rintro ip a b c d f g a1 b1 c1 d1 f1 g1 a2 b2 c2 d2 f2 g2 k1 k2 k3 k4 k5 k6 k7 k8 dr te rfl; rfl)
theorem TV.row2 {w : World} {v : Value} {t : Ten} (h : TV w v t) : ∃ tl : List Value, v = .agg tl.toArray ∧ tl.length = 33 ∧ tl.toArray.all (·.oneCell') = true := by
  obtain ⟨hl, p, s, q, rfl, h1, h2, h3⟩ := h
  exact ⟨_, rfl, tc_len hl p s q, tc_one2 t (rw_one h1) (rw_one h2) (rw_one h3)⟩
theorem TV.at2 {w V : World} {v : Value} {t : Ten} (h : TV w v t) (hb : Below w.heap.size w V) : TV V v t := by
  obtain ⟨hl, p, s, q, rfl, h1, h2, h3⟩ := h
  exact ⟨hl, p, s, q, rfl, h1.below ux_ne hb (Nat.le_refl _), h2.below px_ne hb (Nat.le_refl _), h3.below px_ne hb (Nat.le_refl _)⟩
/-- Bytes that a call made, beside a block of ours that is written afterwards. -/
theorem out_set {w W W' : World} {g j : Nat} {A : Array Value} {T : TypeId} {u x : Value} {l : List Int} (hM : Mem w W [(g, .cells A T (0, 0))]) (hO : Out W W' u l []) :
    Out w (W'.setCell ⟨g, j, none⟩ x) u l [(g, .cells (A.setIfInBounds j x) T (0, 0))] := by
  obtain ⟨hb, h1, h2⟩ := hO
  refine ⟨hb, h1, ?_⟩
  rcases h2 with ⟨rfl, e, hm⟩ | ⟨k, cap, cur, rfl, hm, r⟩
  · exact Or.inl ⟨rfl, e, (hM.after hm.below).set 0 rfl j x⟩
  · refine Or.inr ⟨k, cap, cur, rfl, ?_, r⟩
    exact (Mem.set (hM.join hm) 0 rfl j x).perm (List.Perm.swap _ _ _)
set_option maxHeartbeats 16000000 in
theorem parts_law {w : World} {vl vc : Value} {ts : List Ten} {c : Cgf} (hL : TSV w vl ts) (hts : ∀ t ∈ ts, TBy t ∧ TRg t) (hC : CV w vc c) (hi : CIn c) :
    Calls Tryz.prog 7 #[vl, vc] w fun e w' => e = .returned (.bool true) ∧ Below w.heap.size w w' := by
  obtain ⟨hcl, u, rfl, hT⟩ := hC
  have hone := hT.one
  obtain ⟨la, lc, rfl, hlc, hlb, hx⟩ := hL.parts
  obtain ⟨N, hN⟩ : ∃ N, ts.length = N := ⟨_, rfl⟩
  have HLL : Hid (∀ V, Below w.heap.size w V → TSV V (.slice la N lc) ts) := fun V hV => by rw [← hN]; exact hL.at_ hV (Nat.le_refl _)
  have hlen := hL.len_at
  obtain ⟨g, hg⟩ : ∃ g, w.heap.size = g := ⟨_, rfl⟩
  have HM0 : Hid (Mem w (w.alloc (.cells (cc c u).toArray 28)) [(g, .cells (cc c u).toArray 28 (0, 0))]) := (Mem.nil w).push1 hg.symm
  have HS : Hid (∀ v x, (cc c x).toArray.setIfInBounds 28 v = (cc { c with ten := ts } v).toArray ∧ (cc { c with ten := ts } x).toArray.setIfInBounds 28 v = (cc { c with ten := [] } v).toArray) := fun v x => ⟨cc_set hcl x v ts, cc_set (c := { c with ten := ts }) ⟨hcl.mac, hcl.omac, hcl.nmac, hcl.key⟩ x v []⟩
  have hc28 : ∀ c' : Cgf, CLen c' → ∀ x, (cc c' x)[28]? = some x := fun c' h x => cget h (by rintro ip a b c d f g a1 b1 c1 d1 f1 g1 a2 b2 c2 d2 f2 g2 k1 k2 k3 k4 k5 k6 k7 k8 dr te rfl; rfl)
  have hl1 : CLen { c with ten := ts } := ⟨hcl.mac, hcl.omac, hcl.nmac, hcl.key⟩
  have hl0 : CLen { c with ten := [] } := ⟨hcl.mac, hcl.omac, hcl.nmac, hcl.key⟩
  have hz1 : ∀ x, (cc { c with ten := ts } x).length = 29 := fun x => cc_len hl1 x
  have hz0 : ∀ x, (cc { c with ten := [] } x).length = 29 := fun x => cc_len hl0 x
  have HI : Hid (CIn { c with ten := ts } ∧ CIn { c with ten := [] }) := ⟨⟨hl1, hi.mac, hi.omac, hi.nmac, hi.key⟩, ⟨hl0, hi.mac, hi.omac, hi.nmac, hi.key⟩⟩
  rw [hN] at hx ⊢
  have HX : Hid (∀ i, i < N → ∃ b off x, la = some ⟨b, off, none⟩ ∧ x.length = 33 ∧ x.toArray.all (·.oneCell') = true ∧ ∀ V, Below w.heap.size w V → V.rangeAt b (off + i * 33) x ∧ TV V (.agg x.toArray) (ts.getD i ten0)) := hx
  have HTS : Hid ((∀ t ∈ ts, TBy t ∧ TRg t) ∧ (∀ t ∈ ts, TLen t) ∧ ts.length = N ∧ CLen { c with ten := ts } ∧ CLen { c with ten := [] }) := ⟨hts, hlen, hN, hl1, hl0⟩
  have hu : ∃ ua un uc, u = .slice ua un uc := hT.slice
  have c28 : (w.alloc (.cells (cc c u).toArray 28)).cell? ⟨g, 28, none⟩ = some u := by
    rw [HM0.out.cell 0 rfl, List.getElem?_toArray]; exact hc28 c hcl u
  obtain ⟨ua, un, uc, rfl⟩ := hu
  clear hL hx hT hone hi hts hlen hN
  obtain ⟨Cs, hCs⟩ : ∃ C, (cc c (.slice ua un uc)).toArray = C := ⟨_, rfl⟩
  rw [hCs] at HM0 c28 ⊢
  go_enter Tryz.func7, Tryz.ntmps7
  go_upto_region 1 with fail
  refine wp_letter (fun V => Mem w V [(g, .cells Cs 28 (0, 0))]) HM0.out ?_
  intro V0 hM0
  clear HM0 c28
  go_wp2_with fail
  refine (known_any V0).mono ?_
  rintro e V1 ⟨rfl, hb1⟩
  have HM1 : Hid (Mem w V1 [(g, .cells Cs 28 (0, 0))]) := hM0.after hb1
  have CL := lights_any (HLL.out _ HM1.out.below) 8 (by omega)
  clear hM0 hb1
  by_cases q1 : Lgts ts 8
  rotate_left
  · rw [decide_eq_false q1] at CL
    go_wp2_with fail
    refine CL.mono ?_
    rintro e V2 ⟨rfl, hb2⟩
    have HB : Hid (Below w.heap.size w V2) := (HM1.out.after hb2).below
    clear CL hb2
    go_wp2_with fail
    go_ret
    exact ⟨rfl, HB.out⟩
  rw [decide_eq_true q1] at CL
  go_wp2_with fail
  refine CL.mono ?_
  rintro e V2 ⟨rfl, hb2⟩
  have hM2 := HM1.out.after hb2
  have c28 : V2.cell? ⟨g, 28, none⟩ = some (.slice ua un uc) := by
    rw [hM2.cell 0 rfl, ← hCs, List.getElem?_toArray]; exact hc28 c hcl _
  have hfr := hM2.free 0 rfl
  have HM2 : Hid (Mem w (V2.setCell ⟨g, 28, none⟩ (.slice la N lc)) [(g, .cells (cc { c with ten := ts } (.slice la N lc)).toArray 28 (0, 0))]) := by
    have h := hM2.set 0 rfl 28 (.slice la N lc)
    rw [← hCs, (HS.out _ _).1] at h
    exact h
  clear CL hb2 HM1 hM2
  go_upto_region 6 with fail
  refine wp_letter (fun V => Mem w V [(g, .cells (cc { c with ten := ts } (.slice la N lc)).toArray 28 (0, 0))]) HM2.out ?_
  intro V3 hM3
  clear HM2 c28 hfr
  have J1 : ∀ t ∈ ts, TIn t := fun t ht => by
    obtain ⟨i, hi, rfl⟩ := List.getElem_of_mem ht
    have := q1.2 i hi
    rw [List.getD_eq_getElem?_getD, List.getElem?_eq_getElem hi, Option.getD_some] at this
    exact lgt_in2 this (HTS.out.2.1 _ ht) (HTS.out.1 _ ht).1
  have HJ1 : Hid (∀ t ∈ ts, TIn t) := J1
  have hk3 := hM3.get 0 rfl
  have b1 := cenc_le2 { c with ten := ts } hl1 HTS.out.2.1
  have CA := cfgConfig_any (w := V3) (v := .agg (cc { c with ten := ts } (.slice la N lc)).toArray) ⟨hl1, _, rfl, HLL.out _ hM3.below⟩ HI.out.1 J1 (by omega)
  have i1 : (Tryz.prog.info? 28).map (·.size) = some (cc { c with ten := ts } (.slice la N lc)).toArray.size := by rw [List.size_toArray, hz1]; kernel_rfl
  obtain ⟨C1, hC1⟩ : ∃ C, (cc { c with ten := ts } (.slice la N lc)).toArray = C := ⟨_, rfl⟩
  rw [hC1] at CA i1 hk3 hM3
  have HM3 : Hid (Mem w V3 [(g, .cells C1 28 (0, 0))]) := hM3
  clear hM3 J1
  go_wp2_with (refine wpList_load_row rfl 28 (.tmp 3) (by with_reducible rfl) g rfl 28 C1 (0, 0) _ hk3 Tryz.underlying28 rfl i1 ?_)
  refine CA.mono ?_
  rintro e V4 ⟨ub, rfl, hO⟩
  obtain ⟨ab, cb, rfl, hSb⟩ := hO.sl (by omega)
  have hM4 := HM3.out.after hO.mem.below
  have c28 : V4.cell? ⟨g, 28, none⟩ = some (.slice la N lc) := by
    rw [hM4.cell 0 rfl, ← hC1, List.getElem?_toArray]; exact hc28 _ hl1 _
  have hfr := hM4.free 0 rfl
  have hset := out_set (j := 28) (x := .slice none 0 0) HM3.out hO
  rw [← hC1, (HS.out _ _).2] at hset
  have HO4 : Hid (Out w (V4.setCell ⟨g, 28, none⟩ (.slice none 0 0)) (.slice ab (cenc { c with ten := ts }).length cb) (cenc { c with ten := ts }) [(g, .cells (cc { c with ten := [] } nilV).toArray 28 (0, 0))]) := hset
  clear CA hO hk3 i1 hset hM4 hSb
  go_upto_region 8 with fail
  refine wp_letter (fun V => Out w V (.slice ab (cenc { c with ten := ts }).length cb) (cenc { c with ten := ts }) [(g, .cells (cc { c with ten := [] } nilV).toArray 28 (0, 0))]) HO4.out ?_
  intro V5 hO5
  clear HO4 c28 hfr
  have hk5 := hO5.mem.get 0 rfl
  have b0 := cenc_le2 { c with ten := [] } hl0 (by simp)
  have CB := cfgConfig_any (w := V5) (v := .agg (cc { c with ten := [] } nilV).toArray) (c := { c with ten := [] }) ⟨hl0, _, rfl, [], rfl, ⟨none, 0, rfl, Nat.le_refl _, by omega, fun _ => rfl, Or.inl rfl⟩, by simp⟩ HI.out.2 (by simp) (by omega)
  have i1 : (Tryz.prog.info? 28).map (·.size) = some (cc { c with ten := [] } nilV).toArray.size := by rw [List.size_toArray, hz0]; kernel_rfl
  obtain ⟨C0, hC0⟩ : ∃ C, (cc { c with ten := [] } nilV).toArray = C := ⟨_, rfl⟩
  rw [hC0] at CB i1 hk5 hO5
  obtain ⟨ab', cb', e5, hS5⟩ := hO5.sl (by omega)
  simp only [Value.slice.injEq, true_and] at e5
  obtain ⟨rfl, rfl⟩ := e5
  have e0 : (cenc { c with ten := [] }).length = 35 := by
    rw [cenc_eq]
    show (chead { c with ten := [] } ++ []).length = 35
    rw [List.append_nil]
    exact chead_len _ hl0
  have he1 : (cenc { c with ten := ts }) = chead { c with ten := ts } ++ cat (fun i => tenc (ts.getD i ten0)) N := by
    rw [cenc_eq]
    show _ ++ cat (fun i => tenc (ts.getD i ten0)) (min ts.length 255) = _
    have := q1.1
    rw [HTS.out.2.2.1, Nat.min_eq_left (by rw [HTS.out.2.2.1] at this; omega)]
  have h35 := chead_len _ hl1
  have HB5 : Hid (Below w.heap.size w V5) := hO5.mem.below
  obtain ⟨hd, hhd⟩ : ∃ h, chead { c with ten := ts } = h := ⟨_, rfl⟩
  obtain ⟨L, hL⟩ : ∃ l, cenc { c with ten := ts } = l := ⟨_, rfl⟩
  rw [hL] at hS5 he1 b1 ⊢
  rw [hhd] at he1 h35
  have b2 : L.length ≤ 60000 := by
    have h := cat_le2 (fun i => tenc (ts.getD i ten0)) 5500 (fun i => by
      refine tenc_le2 _ ?_
      by_cases h : i < ts.length
      · rw [List.getD_eq_getElem?_getD, List.getElem?_eq_getElem h, Option.getD_some]
        exact HTS.out.2.1 _ (List.getElem_mem _)
      · rw [List.getD_eq_getElem?_getD, List.getElem?_eq_none (by omega), Option.getD_none]
        exact ten0_len) N
    have h8 := q1.1
    rw [HTS.out.2.2.1] at h8
    rw [he1, List.length_append]
    omega
  have HL : Hid (L = hd ++ cat (fun i => tenc (ts.getD i ten0)) N ∧ hd.length = 35 ∧ L.length ≤ 60000) := ⟨he1, h35, b2⟩
  have HSL : Hid (Sl V5 ab L cb) := hS5
  have hN8 : N ≤ 8 := by have := q1.1; rw [HTS.out.2.2.1] at this; exact this
  clear hO5 hS5 hL hhd he1 h35 HI HS hc28 hz1 hz0 hl1 hl0 hC0 hC1 hCs b1 b0 b2 HLL hcl q1
  go_wp2_with (refine wpList_load_row rfl 28 (.tmp 3) (by with_reducible rfl) g rfl 28 C0 (0, 0) _ hk5 Tryz.underlying28 rfl i1 ?_)
  refine CB.mono ?_
  rintro e V6 ⟨u0, rfl, hO6⟩
  obtain ⟨a0, c0, rfl, -⟩ := hO6.sl (by omega)
  have HB6 : Hid (Below V5.heap.size V5 V6) := hO6.mem.below
  rw [e0]
  clear CB hO6 hk5 i1 e0
  obtain ⟨n, hn⟩ : ∃ n, L.length = n := ⟨_, rfl⟩
  have HSN : Hid (L.length = n) := hn
  rw [hn]
  clear hn
  go_wp2_with fail
  go_loopw [6, 7] (fun u6 u7 w' => ∃ (i : Nat) (k : Nat), i ≤ N ∧ u7 = .int .i64 i ∧ u6 = .int .i64 k ∧ Hid (k = (hd ++ cat (fun i => tenc (ts.getD i ten0)) i).length ∧ Below V5.heap.size V5 w')) (fun u6 u7 w' => N - (intOf u7).toNat)
  case atStart => exact ⟨0, 35, Nat.zero_le _, rfl, rfl, by rw [cat, List.append_nil]; exact HL.out.2.1.symm, HB6.out⟩
  case round =>
    obtain ⟨i, k, hi, rfl, rfl, HR⟩ := hrel
    clear HB6
    have hBw : Below w.heap.size w wr := HB5.out.trans (HR.out.2.mono HB5.out.size)
    have HBw : Hid (Below w.heap.size w wr) := hBw
    by_cases hlt : i < N
    · have h1 : (i : Int) < N := by omega
      obtain ⟨b, off, x, rfl, hsz, hox, hV⟩ := HX.out i hlt
      obtain ⟨hra, hTV⟩ := hV _ hBw
      have CF := fits_any hTV
      have i3 : (Tryz.prog.info? 33).map (·.size) = some x.length := by rw [hsz]; kernel_rfl
      have HV : Hid (∀ V, Below w.heap.size w V → V.rangeAt b (off + i * 33) x ∧ TV V (.agg x.toArray) (ts.getD i ten0)) := hV
      have hti : ts.getD i ten0 ∈ ts := by
        rw [List.getD_eq_getElem?_getD, List.getElem?_eq_getElem (by rw [HTS.out.2.2.1]; exact hlt), Option.getD_some]
        exact List.getElem_mem _
      have HTI : Hid (ts.getD i ten0 ∈ ts) := hti
      clear hV hTV hBw hti
      by_cases q2 : Fit (ts.getD i ten0)
      rotate_left
      · rw [decide_eq_false q2] at CF
        go_wp2_with (refine wpList_load_mid rfl 33 (.tmp 32) (by with_reducible rfl) b (off + i * 33) (by simp [Act.eval]) x _ hra Tryz.underlying33 rfl i3 ?_)
        refine CF.mono ?_
        rintro e W1 ⟨rfl, hb1⟩
        have HH : Hid (Below w.heap.size w W1) := HBw.out.trans (hb1.mono HBw.out.size)
        clear CF hb1 hra
        go_wp2_with fail
        go_ret
        exact ⟨rfl, HH.out⟩
      rw [decide_eq_true q2] at CF
      have hcat : k = (hd ++ cat (fun i => tenc (ts.getD i ten0)) i).length := HR.out.1
      have hle : (hd ++ cat (fun i => tenc (ts.getD i ten0)) i).length + (tenc (ts.getD i ten0)).length ≤ L.length := by
        rw [HL.out.1, List.length_append, List.length_append]
        have := cat_le (fun i => tenc (ts.getD i ten0)) i N hlt
        omega
      have hpos := tenc_pos' (ts.getD i ten0)
      have hkl : k < L.length := by omega
      have hdr : L.drop k = tenc (ts.getD i ten0) ++ catF (fun i => tenc (ts.getD i ten0)) (i + 1) (N - (i + 1)) := by
        rw [HL.out.1, hcat]
        exact cat_at _ N i hlt hd
      have hgr : ((hd ++ cat (fun i => tenc (ts.getD i ten0)) (i + 1)).length) = k + (tenc (ts.getD i ten0)).length := by
        rw [hcat, cat, ← List.append_assoc, List.length_append]
      have hlm := HL.out.2.2
      have hn := HSN.out
      have g1 : ¬ ((n : Int) < k) := by omega
      obtain ⟨aS, cS, hrun, hSS⟩ := sl_from HSL.out k hkl
      rw [hn] at hrun
      have hdlen : (L.drop k).length = n - k := by rw [List.length_drop, hn]
      have HOT : Hid (∀ V, Below V5.heap.size V5 V → Calls Tryz.prog 21 #[.slice aS (L.drop k).length cS] V fun e w' => Below V.heap.size V w' ∧ ∃ v, e = .returned (.tuple #[v, .int .i64 ((tenc (ts.getD i ten0)).length : Nat), .int .i64 0]) ∧ TV w' v (tcut (ts.getD i ten0))) := by
        intro V hV
        have h := openTenant_any (w := V) ⟨hSS.row.below hV (Nat.le_refl _), hSS.le, hSS.big, hSS.nil⟩ (by omega)
        have hd2 := tdec_back (ts.getD i ten0) (HTS.out.2.1 _ HTI.out) (catF (fun i => tenc (ts.getD i ten0)) (i + 1) (N - (i + 1)))
        rw [← hdr] at hd2
        rw [hd2] at h
        refine h.mono ?_
        rintro e V' ⟨h1, v, h2, h3⟩
        refine ⟨h1, v, ?_, h3⟩
        have e9 : (L.drop k).length = (tenc (ts.getD i ten0)).length + (catF (fun i => tenc (ts.getD i ten0)) (i + 1) (N - (i + 1))).length := by rw [hdr, List.length_append]
        have e8 : ((L.drop k).length : Int) - ((catF (fun i => tenc (ts.getD i ten0)) (i + 1) (N - (i + 1))).length : Nat) = ((tenc (ts.getD i ten0)).length : Nat) := by omega
        rw [h2, e8]
      have HSAME : Hid (TSame (tcut (ts.getD i ten0)) (ts.getD i ten0) ∧ TFew (tcut (ts.getD i ten0))) := by
        have h := same_cut _ q2 (HTS.out.1 _ HTI.out).2
        refine ⟨h.symm, ?_⟩
        have f := h
        obtain ⟨-, -, -, -, -, -, p1, -, -, -, p2, p3, -⟩ := f
        rw [TFew, ← p1, ← p2, ← p3]
        have := q2.2.1
        have := q2.2.2.1
        have := q2.2.2.2.1
        omega
      generalize (L.drop k).length = dl at *
      have HG : Hid ((hd ++ cat (fun i => tenc (ts.getD i ten0)) (i + 1)).length = k + (tenc (ts.getD i ten0)).length) := hgr
      have hw1 : IntKind.i64.wrap ((k : Int) + ((tenc (ts.getD i ten0)).length : Nat)) = (k : Int) + ((tenc (ts.getD i ten0)).length : Nat) := wrap64n (by omega) (by omega)
      obtain ⟨tn, htn⟩ : ∃ tn, (tenc (ts.getD i ten0)).length = tn := ⟨_, rfl⟩
      rw [htn] at HOT HG hw1
      clear hcat hle hpos hkl hdr hgr hlm hn hSS hdlen q2 htn
      go_wp2_with (refine wpList_load_mid rfl 33 (.tmp 32) (by with_reducible rfl) b (off + i * 33) (by simp [Act.eval]) x _ hra Tryz.underlying33 rfl i3 ?_)
      refine CF.mono ?_
      rintro e W1 ⟨rfl, hb1⟩
      have HB1 : Hid (Below V5.heap.size V5 W1) := HR.out.2.trans (hb1.mono HR.out.2.size)
      have CO := HOT.out _ HB1.out
      clear CF hb1 hra HR HBw HOT
      go_wp2_with fail
      refine CO.mono ?_
      rintro e W2 ⟨hb2, v, rfl, hTV2⟩
      obtain ⟨tl, rfl, hts1, hto⟩ := hTV2.row2
      have i4 : (Tryz.prog.info? 33).map (·.size) = some tl.toArray.size := by rw [List.size_toArray, hts1]; kernel_rfl
      have hs33 : tl.toArray.size = 33 := by rw [List.size_toArray, hts1]
      have i5 : (Tryz.prog.info? 33).map (·.size) = some tl.length := by rw [hts1]; kernel_rfl
      have hb2' : Below V5.heap.size V5 W2 := HB1.out.trans (hb2.mono HB1.out.size)
      have HM : Hid (Mem W2 (W2.alloc (.cells tl.toArray 33)) [(W2.heap.size, .cells tl.toArray 33 (0, 0))]) := (Mem.nil W2).push1 rfl
      have HB2 : Hid (Below V5.heap.size V5 W2) := hb2'
      have HTV2 : Hid (TV W2 (.agg tl.toArray) (tcut (ts.getD i ten0))) := hTV2
      clear CO hb2 HB1 hb2' hTV2
      go_upto_region 17 with (refine wpList_store_row rfl 33 (.tmp 8) (.tmp 45) (by with_reducible rfl) W2.heap.size tl.toArray rfl rfl 33 _ (heap_alloc_new W2 _) i4 (by rw [hs33]; rfl) hto ?_)
      refine wp_letter (fun V => Mem W2 V [(W2.heap.size, .cells tl.toArray 33 (0, 0))]) (by
        rw [World.setRow_alloc_new]
        exact HM.out) ?_
      intro V8 hM8
      generalize W2.heap.size = gb at hM8 ⊢
      have KS : Hid (∀ V, Mem W2 V [(gb, .cells tl.toArray 33 (0, 0))] → (V.rangeAt gb 0 tl ∧ V.rangeAt b (off + i * 33) x) ∧ Below w.heap.size w V ∧ Below V5.heap.size V5 V ∧ Calls Tryz.prog 26 #[.agg tl.toArray, .agg x.toArray] V fun e V' => e = .returned (.bool true) ∧ Below V.heap.size V V') := by
        intro V hV
        have hbv := HB2.out.trans (hV.below.mono HB2.out.size)
        have hbw := HB5.out.trans (hbv.mono HB5.out.size)
        refine ⟨⟨fun j u hj => ?_, (HV.out V hbw).1⟩, hbw, hbv, htenant_yes (HTV2.out.at2 hV.below) (HV.out V hbw).2 HSAME.out.2 HSAME.out.1⟩
        rw [hV.cell 0 rfl, Nat.zero_add]; simpa using hj
      obtain ⟨rr, -, -, CT⟩ := KS.out _ hM8.drew
      have HM8 : Hid (Mem W2 V8.drew [(gb, .cells tl.toArray 33 (0, 0))]) := hM8.drew
      clear HM hM8 HV HTV2 HSAME
      refine wp_region_held_drew (S := fun V => V.rangeAt gb 0 tl ∧ V.rangeAt b (off + i * 33) x) (by kernel_rfl) rr (fun hHeld => ?_)
      refine wpAnyH_take (i := 0) (v := ?_) rfl (by kernel_rfl) (by kernel_rfl) (by kernel_rfl) (fun _ _ _ h => h) (Or.inl ⟨by rfl, ?qy0⟩) (by assumption) ?qr0
      case qy0 =>
        intro w hSw
        (try dsimp only at hSw)
        go_simp
        all_goals with_reducible rfl
      try simp only [List.getElem_toArray, List.getElem_cons_zero, List.getElem_cons_succ, Act.put, List.setIfInBounds_toArray, List.set_cons_zero, List.set_cons_succ]
      refine wpAnyH_take (i := 1) (v := ?_) rfl (by kernel_rfl) (by kernel_rfl) (by kernel_rfl) (fun _ _ _ h => h) (Or.inl ⟨by rfl, ?qy1⟩) (by assumption) ?qr1
      case qy1 =>
        intro w hSw
        (try dsimp only at hSw)
        go_simp
        all_goals with_reducible rfl
      try simp only [List.getElem_toArray, List.getElem_cons_zero, List.getElem_cons_succ, Act.put, List.setIfInBounds_toArray, List.set_cons_zero, List.set_cons_succ]
      refine wpAnyH_take (i := 2) (v := ?_) rfl (by kernel_rfl) (by kernel_rfl) (by kernel_rfl) (fun _ _ _ h => h) (Or.inl ⟨by rfl, ?qy2⟩) (by assumption) ?qr2
      case qy2 =>
        intro w hSw
        (try dsimp only at hSw)
        go_simp
        all_goals with_reducible rfl
      try simp only [List.getElem_toArray, List.getElem_cons_zero, List.getElem_cons_succ, Act.put, List.setIfInBounds_toArray, List.set_cons_zero, List.set_cons_succ]
      refine wpAnyH_take (i := 3) (v := _) rfl (by kernel_rfl) (by kernel_rfl) (by kernel_rfl) (fun _ _ _ h => h) (yieldsIf_load_mid (by rfl) _ _ rfl _ _ rfl _ _ ?qs3 Tryz.underlying33 rfl i5) (by assumption) ?qr3
      case qs3 =>
        intro w hSw
        (try dsimp only at hSw)
        go_split_ands
        assumption
      try simp only [List.getElem_toArray, List.getElem_cons_zero, List.getElem_cons_succ, Act.put, List.setIfInBounds_toArray, List.set_cons_zero, List.set_cons_succ]
      refine wpAnyH_take (i := 4) (v := ?_) rfl (by kernel_rfl) (by kernel_rfl) (by kernel_rfl) (fun _ _ _ h => h) (Or.inl ⟨by rfl, ?qy4⟩) (by assumption) ?qr4
      case qy4 =>
        intro w hSw
        (try dsimp only at hSw)
        go_simp
        all_goals with_reducible rfl
      try simp only [List.getElem_toArray, List.getElem_cons_zero, List.getElem_cons_succ, Act.put, List.setIfInBounds_toArray, List.set_cons_zero, List.set_cons_succ]
      refine wpAnyH_take (i := 5) (v := ?_) rfl (by kernel_rfl) (by kernel_rfl) (by kernel_rfl) (fun _ _ _ h => h) (Or.inl ⟨by rfl, ?qy5⟩) (by assumption) ?qr5
      case qy5 =>
        intro w hSw
        (try dsimp only at hSw)
        go_simp
        all_goals with_reducible rfl
      try simp only [List.getElem_toArray, List.getElem_cons_zero, List.getElem_cons_succ, Act.put, List.setIfInBounds_toArray, List.set_cons_zero, List.set_cons_succ]
      refine wpAnyH_take (i := 6) (v := ?_) rfl (by kernel_rfl) (by kernel_rfl) (by kernel_rfl) (fun _ _ _ h => h) (Or.inl ⟨by rfl, ?qy6⟩) (by assumption) ?qr6
      case qy6 =>
        intro w hSw
        (try dsimp only at hSw)
        go_simp
        all_goals with_reducible rfl
      try simp only [List.getElem_toArray, List.getElem_cons_zero, List.getElem_cons_succ, Act.put, List.setIfInBounds_toArray, List.set_cons_zero, List.set_cons_succ]
      refine wpAnyH_take (i := 7) (v := _) rfl (by kernel_rfl) (by kernel_rfl) (by kernel_rfl) (fun _ _ _ h => h) (yieldsIf_load_mid (by rfl) _ _ rfl _ _ rfl _ _ ?qs7 Tryz.underlying33 rfl i3) (by assumption) ?qr7
      case qs7 =>
        intro w hSw
        (try dsimp only at hSw)
        go_split_ands
        assumption
      try simp only [List.getElem_toArray, List.getElem_cons_zero, List.getElem_cons_succ, Act.put, List.setIfInBounds_toArray, List.set_cons_zero, List.set_cons_succ]
      refine wpAnyH_ready (rs := [8]) (by kernel_rfl) (by simp) ?_
      refine AllReadyH.cons rfl (fun K hK => ?_) AllReadyH.nil
      go_simp
      with_reducible refine (CT).mono ?_
      rintro e W3 ⟨rfl, hb3⟩
      have hM9 := HM8.out.after hb3
      try go_wp2_with fail
      refine hK.out _ _ (KS.out _ hM9).1 (fun hHeld => ?_)
      clear hK K
      try simp only [List.getElem_toArray, List.getElem_cons_zero, List.getElem_cons_succ, Act.put, List.setIfInBounds_toArray, List.set_cons_zero, List.set_cons_succ]
      refine wpAnyH_take (i := 9) (v := ?_) rfl (by kernel_rfl) (by kernel_rfl) (by kernel_rfl) (fun _ _ _ h => h) (Or.inl ⟨by rfl, ?qy9⟩) (by assumption) ?qr9
      case qy9 =>
        intro w hSw
        (try dsimp only at hSw)
        go_simp
        all_goals with_reducible rfl
      try simp only [List.getElem_toArray, List.getElem_cons_zero, List.getElem_cons_succ, Act.put, List.setIfInBounds_toArray, List.set_cons_zero, List.set_cons_succ]
      refine wpAnyH_take (i := 10) (v := ?_) rfl (by kernel_rfl) (by kernel_rfl) (by kernel_rfl) (fun _ _ _ h => h) (Or.inl ⟨by rfl, ?qy10⟩) (by assumption) ?qr10
      case qy10 =>
        intro w hSw
        (try dsimp only at hSw)
        go_simp
        all_goals with_reducible rfl
      try simp only [List.getElem_toArray, List.getElem_cons_zero, List.getElem_cons_succ, Act.put, List.setIfInBounds_toArray, List.set_cons_zero, List.set_cons_succ]
      refine wpAnyH_done (by kernel_rfl) ?_ _
      have HB9 : Hid (Below V5.heap.size V5 W3) := (KS.out _ hM9).2.2.1
      clear CT hb3 hM9 KS HM8
      go_wp2_with fail
      go_roundw
      case rel => exact ⟨i + 1, k + tn, by omega, by go_num, by go_num, HG.out.symm, HB9.out⟩
      case measure => simp [intOf]; omega
    · obtain rfl : i = N := by omega
      have h1 : ¬ ((i : Int) < i) := by omega
      have hk : k = n := by rw [HR.out.1, ← HL.out.1, HSN.out]
      subst hk
      clear HX HL HR HSN
      go_wp2_with fail
      go_ret
      exact ⟨rfl, hg ▸ HBw.out⟩
end Go.Proofs.YtngegdamcfmonaaGreat

namespace Go.Proofs.YtngegdamcfmonaaGreat
open Go.RowKit
open Sm
open Cf
set_option linter.unusedVariables false
set_option linter.unusedSimpArgs false
set_option maxRecDepth 20000

/-- A tenant's lists in blocks C. -/
def ZB (z : Tv) (C : List (Nat × Obj)) : Prop := TLen z.1 ∧ ∃ B1 B2 B3, (∀ x ∈ B3 ++ (B2 ++ B1), x ∈ C) ∧ OwB 22 1 z.2.1 z.1.pool.length (ux z.1.pool).flatten B1 ∧ OwB 142 2 z.2.2.1 z.1.stat.length (px z.1.stat).flatten B2 ∧ OwB 142 2 z.2.2.2 z.1.twi.length (px z.1.twi).flatten B3
/-- A slice of tenants of the call's own: its cells in blocks B, their lists in blocks C. -/
def TsB (u : Value) (ts : List Ten) (B C : List (Nat × Obj)) : Prop := ∃ zs : List Tv, zs.map Prod.fst = ts ∧ OwB 33 33 u zs.length (zs.map zc).flatten B ∧ ∀ z ∈ zs, ZB z C
theorem tsb_nil : TsB nilV [] [] [] := ⟨[], rfl, OwB.nil _ _, by simp⟩
theorem ZB.more {z : Tv} {C D : List (Nat × Obj)} (h : ZB z C) (hs : ∀ x ∈ C, x ∈ D) : ZB z D := by
  obtain ⟨h1, B1, B2, B3, h2, h3⟩ := h
  exact ⟨h1, B1, B2, B3, fun x hx => hs x (h2 x hx), h3⟩
theorem tbk_zb {v : Value} {t : Ten} {B : List (Nat × Obj)} (h : TBk v t B) : ∃ z : Tv, z.1 = t ∧ v = .agg (zc z).toArray ∧ ZB z B := by
  obtain ⟨hl, p, s, q, B1, B2, B3, rfl, rfl, h1, h2, h3⟩ := h
  exact ⟨(t, p, s, q), rfl, rfl, hl, B1, B2, B3, fun x hx => hx, h1, h2, h3⟩
theorem zb_rws {V : World} {z : Tv} {C : List (Nat × Obj)} (h : ZB z C) (hC : ∀ x ∈ C, V.heap[x.1]? = some x.2) : TLen z.1 ∧ Rws V z := by
  obtain ⟨hl, B1, B2, B3, hs, h1, h2, h3⟩ := h
  refine ⟨hl, owb_rw' (fun x hx => ?_) (by simpa [ux] using h1) (fun x hx => hC x (hs x (by simp [hx]))), owb_rw' (fun x hx => ?_) (by simpa [px] using h2) (fun x hx => hC x (hs x (by simp [hx]))), owb_rw' (fun x hx => ?_) (by simpa [px] using h3) (fun x hx => hC x (hs x (by simp [hx])))⟩
  · simp only [ux, List.mem_map] at hx; obtain ⟨y, -, rfl⟩ := hx; rfl
  · simp only [px, List.mem_map] at hx; obtain ⟨y, -, rfl⟩ := hx; rfl
  · simp only [px, List.mem_map] at hx; obtain ⟨y, -, rfl⟩ := hx; rfl
theorem tsb_tsv {V : World} {u : Value} {ts : List Ten} {B C : List (Nat × Obj)} (h : TsB u ts B C) (hB : ∀ x ∈ B ++ C, V.heap[x.1]? = some x.2) : TSV V u ts := by
  obtain ⟨zs, e, h1, h2⟩ := h
  refine ⟨zs, e, owb_rw' (fun x hx => ?_) (by rw [List.length_map]; exact h1) (fun x hx => hB x (by simp [hx])), fun z hz => zb_rws (h2 z hz) (fun x hx => hB x (by simp [hx]))⟩
  obtain ⟨z, hz, rfl⟩ := List.mem_map.mp hx
  exact tc_len (h2 z hz).1 _ _ _
theorem cvs_tsb {w V : World} {u : Value} {c : Cgf} {B C : List (Nat × Obj)} (hl : CLen c) (h : TsB u c.ten B C) (hM : Mem w V (B ++ C)) : CVs w.heap.size V (.agg (cc c u).toArray) c := by
  intro w1 V' h1 hb ha
  exact ⟨hl, u, rfl, tsb_tsv h (fun x hx => (ha _ (hM.low x hx) (hM.lt hx)).trans (hM.at_ x hx))⟩
theorem zb_one {z : Tv} {C : List (Nat × Obj)} (h : ZB z C) : ∀ u ∈ zc z, u.oneCell' = true := by
  obtain ⟨hl, B1, B2, B3, hs, h1, h2, h3⟩ := h
  have := tc_one3 z.1 (owb_one h1) (owb_one h2) (owb_one h3)
  intro u hu
  rw [Array.all_eq_true_iff_forall_mem] at this
  exact this u (by simpa [zc] using hu)
/-- One tenant more. -/
theorem tsb_append {w V : World} {gr : Nat} {a : Option Addr} {l : List Int} {c : Nat} {σ : Option (List Int)} {K B C : List (Nat × Obj)} {ty : TypeId} {u : Value} {ts : List Ten} {z : Tv}
    (h : Rd w V gr a l c σ (B ++ K)) (hT : TsB u ts B C) (hz : ZB z C) (ad : Addr) (hnews : ∀ j x, (zc z)[j]? = some x → V.cell? (ad.add j) = some x) (h63 : ts.length + 1 ≤ 256) :
    ∃ v' V' B', (Builtin.append_ #[26, 26] ty #[u, .slice (some ad) 1 1]).run Tryz.prog V = .ok v' V' ∧ Rd w V' gr a l c σ (B' ++ K) ∧ TsB v' (ts ++ [z.1]) B' C := by
  obtain ⟨zs, e, h1, h2⟩ := hT
  have hn : zs.length = ts.length := by rw [← e, List.length_map]
  obtain ⟨v', V', B', k1, k2, k3⟩ := rd_append (ty := ty) Tryz.underlying26 infoT (by kernel_rfl) (by omega) h h1 ad (zc z) (tc_len hz.1 _ _ _) hnews (zb_one hz) (by omega) (by omega)
  refine ⟨v', V', B', k1, k2, zs ++ [z], by rw [List.map_append, e]; rfl, ?_, ?_⟩
  · rw [List.length_append, List.map_append, List.flatten_append]
    simpa using k3
  · intro y hy
    rcases List.mem_append.mp hy with hy | hy
    · exact h2 y hy
    · rw [List.mem_singleton] at hy; subst hy; exact hz
end Go.Proofs.YtngegdamcfmonaaGreat

