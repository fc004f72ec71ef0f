/-
  What is changed: Diff's walk.
-/
import Derived.Test.YtbccadbnaggkhaaGreatKE33
namespace Go.Proofs.YtbccadbnaggkhaaGreat
open Go.RowKit
open Sm
open Cf
open Df
set_option linter.unusedVariables false
set_option linter.unusedSimpArgs false
set_option maxRecDepth 20000

namespace Df
/-- The lists of changes, in blocks C. -/
def ZBs (xs : List Hv) (C : List (Nat × Obj)) : Prop := ∀ y ∈ xs, ZB (yz y) C
theorem nf_in {t : Ten} (h : TIn t) : Nf t := ⟨h.name, h.pool, h.stat, h.twi⟩
theorem tv_tv {w : World} {z : Tv} (hl : TLen z.1) (hr : Rws w z) : TV w (tv z) z.1 := ⟨hl, z.2.1, z.2.2.1, z.2.2.2, rfl, hr.1, hr.2.1, hr.2.2⟩
theorem filterMap_take {α β : Type} {f : α → Option β} {l : List α} {j : Nat} (hj : j < l.length) : (l.take (j + 1)).filterMap f = (l.take j).filterMap f ++ (f l[j]).toList := by
  rw [List.take_add_one, List.getElem?_eq_getElem hj, Option.toList_some, List.filterMap_append]
  congr 1
theorem wpList_bld {ops : Array Oper} {rest : List Oper} {o : Oper} {a : Act} {w w' : World} {Q : Exit → Act → World → Prop} (hw : Region.wanted o (yielded ops a.tmps) = true) (ty : TypeId) (parts : Array (Nat × Operand)) (ho : o.op = .build ty parts) {vs : Array (Nat × Value)} {v : Value}
    (hr : (Instr.build ty vs).run Tryz.prog w = .ok v w') (hv : (parts.map fun (i, x) => (i, a.eval x)) = vs) (h : wpList Tryz.prog ops Q rest (a.put o.dst v) w') : wpList Tryz.prog ops Q (o :: rest) a w :=
  wpList_wanted hw fun _ hK => by
    subst hv
    unfold Oper.wp execOp
    simp only [ho, Sem.run_bind, hr, Result.andThen_ok, Sem.run_pure]
    exact hK _ _ h
set_option maxHeartbeats 16000000 in
theorem diff_any {w : World} {v u : Value} {zs ys : List Tv} (hz : ZV w v zs) (hy : ZV w u ys) (hzn : ∀ z ∈ zs, TIn z.1) (hyn : ∀ z ∈ ys, TIn z.1) (hm : zs.length ≤ 1000) (hk : ys.length ≤ 1000) :
    Calls Tryz.prog 17 #[v, u] w fun e V => ∃ r, e = .returned r ∧ ∃ xs, YV V r xs ∧ xs.map Prod.fst = dif (byn nk (zs.map Prod.fst)) (byn nk (ys.map Prod.fst)) ∧ Below w.heap.size w V ∧ ∃ C, ZBs xs C ∧ Mem w V C := by
  have CB := byName_any hz (fun z h => (hzn z h).name) hm
  have CD : Hid (∀ V, Below w.heap.size w V → Calls Tryz.prog 23 #[u] V fun e V' => ∃ b, e = .returned (.map (some b)) ∧ V.heap.size ≤ b ∧ MV V' b ys.length (byn fk ys) ∧ Below V.heap.size V V') := fun V hV => byName_any (hy.at_ hV) (fun z h => (hyn z h).name) hk
  obtain ⟨za, zk, rfl, -, -, -⟩ := hz.parts
  obtain ⟨ya, yk, rfl, -, -, -⟩ := hy.parts
  have HMA : Hid (∀ z ∈ byn fk zs, TIn z.1 ∧ Rws w z) := fun z h => ⟨hzn z (mem_byn h), (hz.each z (mem_byn h)).2⟩
  have HMB : Hid (∀ z ∈ byn fk ys, TIn z.1 ∧ Rws w z) := fun z h => ⟨hyn z (mem_byn h), (hy.each z (mem_byn h)).2⟩
  rw [← byz_fst, ← byz_fst]
  have HSA : Hid (Srt fk (byn fk zs)) := srt_byn _
  have HSB : Hid (Srt fk (byn fk ys)) := srt_byn _
  clear hz hy hzn hyn
  obtain ⟨N, hN⟩ : ∃ N, zs.length = N := ⟨_, rfl⟩
  obtain ⟨K, hK⟩ : ∃ K, ys.length = K := ⟨_, rfl⟩
  rw [hN] at CB hm ⊢
  rw [hK] at CD hk ⊢
  generalize byn fk zs = A at *
  generalize byn fk ys = B at *
  go_enter Tryz.func17, Tryz.ntmps17
  go_wp2_with fail
  refine CB.mono ?_
  rintro e V0 ⟨g, rfl, hgw, hMV0, hb0⟩
  have C2 := CD.out V0 hb0
  have HV0 : Hid (MV V0 g N A ∧ Below w.heap.size w V0) := ⟨hMV0, hb0⟩
  clear CB CD hMV0 hb0
  go_wp2_with fail
  refine C2.mono ?_
  rintro e V1 ⟨h, rfl, hhw, hMV1, hb1⟩
  have hMA := HV0.out.1.below hb1 (Nat.le_refl _)
  have hbw := HV0.out.2.trans (hb1.mono HV0.out.2.size)
  clear C2 HV0 hb1
  -- the names of both
  have hM1 : MV (V1.alloc (.cells #[.map (some g), .map (some h)] 51 (0, 0))) g N A := hMA.below ((Below.refl V1.heap.size V1).alloc (Nat.le_refl _) _) (Nat.le_refl _)
  have hM2 : MV (V1.alloc (.cells #[.map (some g), .map (some h)] 51 (0, 0))) h K B := hMV1.below ((Below.refl V1.heap.size V1).alloc (Nat.le_refl _) _) (Nat.le_refl _)
  obtain ⟨ns, hns⟩ : ∃ ns, un (A.map Prod.fst) (B.map Prod.fst) = ns := ⟨_, rfl⟩
  have hal : A.length ≤ N := hMA.size
  have hbl : B.length ≤ K := hMV1.size
  have hle : ns.length ≤ 2000 := by
    have := un_length (A.map Prod.fst) (B.map Prod.fst)
    rw [hns, List.length_map, List.length_map] at this
    omega
  have CN := names_any (gs := [(g, N, A), (h, K, B)]) (two_maps (w := V1) (g := g) (h := h)) (by
      intro p hp
      simp only [List.mem_cons, List.not_mem_nil, or_false] at hp
      rcases hp with rfl | rfl
      · exact hM1
      · exact hM2) (by simp) (by
      intro p hp
      simp only [List.mem_cons, List.not_mem_nil, or_false] at hp
      rcases hp with rfl | rfl
      · show N ≤ _; omega
      · show K ≤ _; omega) ns (by rw [← hns]; exact srt_un _ _) (by
      intro x
      rw [← hns, mem_un]
      simp only [List.mem_cons, List.not_mem_nil, or_false, List.map_map]
      constructor
      · rintro (hx | hx)
        · exact ⟨_, Or.inl rfl, hx⟩
        · exact ⟨_, Or.inr rfl, hx⟩
      · rintro ⟨p, rfl | rfl, hx⟩
        · exact Or.inl hx
        · exact Or.inr hx)
  have hb2 : Below w.heap.size w (V1.alloc (.cells #[.map (some g), .map (some h)] 51 (0, 0))) := hbw.alloc hbw.size _
  have HN : Hid (∀ V a c, NV V (.slice a ns.length c) ns → Below (V1.alloc (.cells #[.map (some g), .map (some h)] 51 (0, 0))).heap.size (V1.alloc (.cells #[.map (some g), .map (some h)] 51 (0, 0))) V → MV V g N A ∧ MV V h K B ∧ Below w.heap.size w V ∧ ∀ j (hj : j < ns.length), ∃ b off, a = some ⟨b, off, none⟩ ∧ ∀ X, Below V.heap.size V X → X.cell? ⟨b, off + j, none⟩ = some (.string ⟨ns[j].toArray⟩)) := by
    intro V a c k1 k2
    refine ⟨hM1.below k2 (Nat.le_refl _), hM2.below k2 (Nat.le_refl _), hb2.trans (k2.mono hb2.size), fun j hj => ?_⟩
    have k1' : Rw V 1 (.slice a ns.length c) (ns.map fun n => [encStr n]) := k1
    obtain ⟨b, off, e, hc⟩ := rw_at k1' j (by simpa using hj)
    refine ⟨b, off, e, fun X hX => ?_⟩
    have := hc 0 (.string ⟨ns[j].toArray⟩) (by simp [List.getD, List.getElem?_eq_getElem hj]; try rfl)
    rw [Nat.mul_one, Nat.add_zero] at this
    rw [hX.cell (p := ⟨b, off + j, none⟩) (cell_lt this)]
    exact this
  clear hM1 hM2 hb2 hbw hMA hMV1
  go_wp2_with fail
  refine CN.mono ?_
  rintro e W0 ⟨na, nc, rfl, hNV, hbN⟩
  obtain ⟨hMV0, hMV1, hbw, hcell⟩ := HN.out W0 na nc hNV hbN
  clear HN CN hNV hbN
  have HC : Hid (∀ j (hj : j < ns.length), ∃ b off, na = some ⟨b, off, none⟩ ∧ ∀ X, Below W0.heap.size W0 X → X.cell? ⟨b, off + j, none⟩ = some (.string ⟨ns[j].toArray⟩)) := hcell
  have HV0 : Hid (MV W0 g N A ∧ MV W0 h K B ∧ Below w.heap.size w W0) := ⟨hMV0, hMV1, hbw⟩
  have H0 : Hid (Ow W0 W0 47 35 (.slice none 0 0) ([] : List Hv).length ((([] : List Hv)).map yc).flatten []) := Ow.nil (Mem.nil W0)
  have HMA' : Hid (∀ z ∈ A, TIn z.1 ∧ Rws W0 z) := fun z hz => ⟨(HMA.out z hz).1, Rws.at_ (HMA.out z hz).2 hbw⟩
  have HMB' : Hid (∀ z ∈ B, TIn z.1 ∧ Rws W0 z) := fun z hz => ⟨(HMB.out z hz).1, Rws.at_ (HMB.out z hz).2 hbw⟩
  have hnsl : ∀ n ∈ ns, n.length ≤ maxLen := by
    intro n hm
    rw [← hns, mem_un] at hm
    simp only [List.map_map] at hm
    have key : ∀ z : Tv, TIn z.1 → (nk z.1).length ≤ maxLen := fun z hz => by
      have := hz.name
      show z.1.name.data.toList.length ≤ _
      rw [Array.length_toList]
      show z.1.name.size ≤ _
      unfold maxLen; omega
    rcases hm with hm | hm
    · obtain ⟨z, hz, rfl⟩ := List.mem_map.1 hm
      exact key z (HMA.out z hz).1
    · obtain ⟨z, hz, rfl⟩ := List.mem_map.1 hm
      exact key z (HMB.out z hz).1
  have HNS : Hid (∀ j (hj : j < ns.length), ns[j].length ≤ maxLen) := fun j hj => hnsl _ (List.getElem_mem hj)
  have HT : Hid (∀ j (hj : j < ns.length), (ns.take (j + 1)).filterMap (chg (A.map Prod.fst) (B.map Prod.fst)) = (ns.take j).filterMap (chg (A.map Prod.fst) (B.map Prod.fst)) ++ (chg (A.map Prod.fst) (B.map Prod.fst) ns[j]).toList) := fun j hj => filterMap_take hj
  have HTE : Hid ((ns.take ns.length).filterMap (chg (A.map Prod.fst) (B.map Prod.fst)) = dif (A.map Prod.fst) (B.map Prod.fst)) := by
    show _ = _
    rw [List.take_length, dif, hns]
  clear HMA HMB hcell hMV0 hMV1 hbw hns HSA HSB hnsl
  obtain ⟨L, hL⟩ : ∃ L, ns.length = L := ⟨_, rfl⟩
  rw [hL] at hle HTE
  simp only [hL] at HC HNS HT ⊢
  go_wp2_with fail
  go_loopw [7, 23] (fun u7 u23 w' => ∃ (j : Nat) (a : Option Addr) (m c : Nat) (xs : List Hv) (C : List (Nat × Obj)), j ≤ L ∧ u23 = .int .i64 j ∧ u7 = .slice a m c ∧ Hid (Ow W0 w' 47 35 (.slice a m c) xs.length (xs.map yc).flatten C ∧ (∀ y ∈ xs, ZB (yz y) C) ∧ xs.map Prod.fst = (ns.take j).filterMap (chg (A.map Prod.fst) (B.map Prod.fst)) ∧ xs.length ≤ j)) (fun u7 u23 w' => L - (intOf u23).toNat)
  case atStart => exact ⟨0, none, 0, 0, [], [], Nat.zero_le _, rfl, rfl, H0.out, by simp, by simp, by simp⟩
  case round =>
    obtain ⟨j, a, m, c, xs, C, hj, rfl, rfl, HR⟩ := hrel
    clear H0
    by_cases hlt2 : j < L
    rotate_left
    · have h2 : ¬ ((j : Int) < L) := by omega
      obtain rfl : j = L := by omega
      have HF : Hid (YV wr (.slice a m c) xs ∧ xs.map Prod.fst = dif (A.map Prod.fst) (B.map Prod.fst) ∧ Below w.heap.size w wr ∧ ∃ C, ZBs xs C ∧ Mem w wr C) := by
        obtain ⟨hO, hZB, hfst, hxl⟩ := HR.out
        have hbw := HV0.out.2.2.trans (hO.mem.below.mono HV0.out.2.2.size)
        exact ⟨ow_yv hO hZB, by rw [hfst, HTE.out], hbw, C, hZB, hO.mem.move HV0.out.2.2.size hbw (fun _ _ _ => rfl)⟩
      clear HR HC HT HTE HV0 HNS HMA' HMB'
      go_wp2_with fail
      go_ret
      exact ⟨_, rfl, xs, HF.out.1, HF.out.2.1, HF.out.2.2⟩
    have h2 : (j : Int) < L := by omega
    obtain ⟨nb, noff, rfl, hcj⟩ := HC.out j hlt2
    obtain ⟨hO, hZB, hfst, hxl⟩ := HR.out
    have hbW := hO.mem.below
    have hcell := hcj _ hbW
    have hT := HT.out j hlt2
    have hsn := HNS.out j hlt2
    clear hcj HC HT HTE HR HNS
    have hjM : j < ns.length := by omega
    generalize ns[j]'hjM = n at *
    obtain ⟨sn, hsne⟩ : ∃ s : ByteArray, (⟨n.toArray⟩ : ByteArray) = s := ⟨_, rfl⟩
    have hsd : sn.data.toList = n := by rw [← hsne]
    have hss : sn.size ≤ maxLen := by rw [← hsne]; simpa [ByteArray.size] using hsn
    have hchg : chg (A.map Prod.fst) (B.map Prod.fst) n = match look fk n B with | none => some ⟨false, sn, ten0⟩ | some z => match look fk n A with | none => some ⟨true, sn, z.1⟩ | some y => if decide (TSame y.1 z.1) then none else some ⟨true, sn, z.1⟩ := by
      unfold chg
      rw [look_fst, look_fst, hsne]
      cases look fk n B <;> cases look fk n A <;> rfl
    rw [hsne] at hcell
    clear hsn hsne
    have hMVA := HV0.out.1.below hbW (Nat.le_refl _)
    -- what both have at this name
    obtain ⟨A1, hA1, hA2, hA3⟩ := vat_row (M := A) (fun z hz => ⟨(HMA'.out z hz).1.len, zc_all (HMA'.out z hz).2⟩) n
    obtain ⟨B1, hB1, hB2, hB3⟩ := vat_row (M := B) (fun z hz => ⟨(HMB'.out z hz).1.len, zc_all (HMB'.out z hz).2⟩) n
    have HLA : Hid (∀ y, look fk n A = some y → .agg A1 = tv y ∧ TIn y.1 ∧ ∀ V, Below wr.heap.size wr V → Rws V y) := fun y hy => ⟨by rw [← hA1, vat, hy], (HMA'.out y (look_some hy).1).1, fun V hV => Rws.at_ (HMA'.out y (look_some hy).1).2 (hbW.trans (hV.mono hbW.size))⟩
    have HLB : Hid (∀ y, look fk n B = some y → .agg B1 = tv y ∧ TIn y.1 ∧ ∀ V, Below wr.heap.size wr V → Rws V y) := fun y hy => ⟨by rw [← hB1, vat, hy], (HMB'.out y (look_some hy).1).1, fun V hV => Rws.at_ (HMB'.out y (look_some hy).1).2 (hbW.trans (hV.mono hbW.size))⟩
    have HVB : Hid (∀ V, Below wr.heap.size wr V → MV V h K B) := fun V hV => HV0.out.2.1.below (hbW.trans (hV.mono hbW.size)) (Nat.le_refl _)
    -- a change is appended
    have HF : Hid (∀ (V0 : World) (y : Hv) (C' : List (Nat × Obj)) (V : World), Below wr.heap.size wr V0 → ZB (yz y) C' → Mem V0 V C' → chg (A.map Prod.fst) (B.map Prod.fst) n = some y.1 → (Instr.buildSlice 23 1 #[(0, .agg (yc y).toArray)]).run Tryz.prog V = .ok (.slice (some ⟨V.heap.size, 0, none⟩) 1 1) (V.alloc (.cells (yc y).toArray 47)) ∧
        ∃ a' m' c' V', (Builtin.append_ #[23, 23] 23 #[.slice a m c, .slice (some ⟨V.heap.size, 0, none⟩) 1 1]).run Tryz.prog (V.alloc (.cells (yc y).toArray 47)) = .ok (.slice a' m' c') V' ∧
        Ow W0 V' 47 35 (.slice a' m' c') (xs ++ [y]).length ((xs ++ [y]).map yc).flatten (C ++ C') ∧ (∀ x ∈ xs ++ [y], ZB (yz x) (C ++ C')) ∧ (xs ++ [y]).map Prod.fst = (ns.take (j + 1)).filterMap (chg (A.map Prod.fst) (B.map Prod.fst)) ∧ (xs ++ [y]).length ≤ j + 1) := by
      intro V0 y C' V k0 k2 k3 k1
      refine ⟨bsliceH y k2.1 V, ?_⟩
      obtain ⟨a', m', c', V', e1, e2, e3⟩ := ow_chg (hO.after k0) hZB k3 k2 (by omega) rfl
      refine ⟨a', m', c', V', e1, e2, e3, ?_, by rw [List.length_append]; simp; omega⟩
      rw [hT, k1, List.map_append, hfst]
      rfl
    have HF0 : Hid (∀ V, Below wr.heap.size wr V → chg (A.map Prod.fst) (B.map Prod.fst) n = none → Ow W0 V 47 35 (.slice a m c) xs.length (xs.map yc).flatten C ∧ (∀ y ∈ xs, ZB (yz y) C) ∧ xs.map Prod.fst = (ns.take (j + 1)).filterMap (chg (A.map Prod.fst) (B.map Prod.fst)) ∧ xs.length ≤ j + 1) := by
      intro V k0 k1
      exact ⟨hO.after k0, hZB, by rw [hT, k1, hfst]; simp, by omega⟩
    clear hO hZB hfst hxl hbW hT HMA' HMB' HV0
    obtain ⟨gt, hgt⟩ : ∃ g, wr.heap.size = g := ⟨_, rfl⟩
    rw [← hsd] at hA1 hB1
    obtain ⟨P1, hP1⟩ : ∃ P, (look fk sn.data.toList A).isSome = P := ⟨_, rfl⟩
    obtain ⟨P2, hP2⟩ : ∃ P, (look fk sn.data.toList B).isSome = P := ⟨_, rfl⟩
    have hk1 : (wr.alloc (.cells tz 34)).heap[gt]? = some (.cells tz 34 (0, 0)) := by rw [← hgt]; exact heap_alloc_new _ _
    have hj1 : (Tryz.prog.info? 34).map (·.size) = some A1.size := by rw [hA2]; kernel_rfl
    have hs1 : tz.size = A1.size := by rw [hA2]; rfl
    have HM1 : Hid (Mem wr ((wr.alloc (.cells tz 34)).setRow gt A1) [(gt, .cells A1 34 (0, 0))]) := by
      rw [← hgt, World.setRow_alloc_new]
      exact (Mem.nil wr).push1 rfl
    go_upto_region 7 with (first | (at_lookup; refine wp_look_ok' rfl _ _ rfl (b := g) (n := N) (M := A) (by first | rfl | simp [Act.eval]) hMVA (s := sn) hss (by first | rfl | simp [Act.eval]) hA1 hP1 ?_) | (refine wpList_store_row rfl 34 (.tmp 10) (.tmp 31) (by with_reducible rfl) gt A1 (by simp [Act.eval]; try exact hgt) (by first | rfl | simp [Act.eval]) 34 tz hk1 hj1 hs1 hA3 ?_) | fail)
    refine wp_letter (fun X => Mem wr X [(gt, .cells A1 34 (0, 0))]) (by exact HM1.out) ?_
    intro V1 hM1
    try simp only [hgt]
    clear HM1 hk1 hs1 hA1 hA3 hMVA hcell
    have hMVB := HVB.out V1 hM1.below
    obtain ⟨g2, hg2⟩ : ∃ g, V1.heap.size = g := ⟨_, rfl⟩
    have hk2 : (V1.alloc (.cells tz 34)).heap[g2]? = some (.cells tz 34 (0, 0)) := by rw [← hg2]; exact heap_alloc_new _ _
    have hj2 : (Tryz.prog.info? 34).map (·.size) = some B1.size := by rw [hB2]; kernel_rfl
    have hs2 : tz.size = B1.size := by rw [hB2]; rfl
    have HM2 : Hid (Mem wr ((V1.alloc (.cells tz 34)).setRow g2 B1) [(gt, .cells A1 34 (0, 0)), (g2, .cells B1 34 (0, 0))]) := by
      rw [← hg2, World.setRow_alloc_new]
      exact hM1.push2 rfl
    clear hM1
    go_upto_region 8 with (first | (at_lookup; refine wp_look_ok' rfl _ _ rfl (b := h) (n := K) (M := B) (by first | rfl | simp [Act.eval]) hMVB (s := sn) hss (by first | rfl | simp [Act.eval]) hB1 hP2 ?_) | (refine wpList_store_row rfl 34 (.tmp 12) (.tmp 37) (by with_reducible rfl) g2 B1 (by simp [Act.eval]; try exact hg2) (by first | rfl | simp [Act.eval]) 34 tz hk2 hj2 hs2 hB3 ?_) | fail)
    refine wp_letter (fun X => Mem wr X [(gt, .cells A1 34 (0, 0)), (g2, .cells B1 34 (0, 0))]) (by exact HM2.out) ?_
    intro V2 hM2
    try simp only [hg2]
    clear HM2 hk2 hs2 hB1 hB3 hMVB hg2
    rw [hsd] at hP1 hP2
    have hkA := hM2.get 0 rfl
    have hkB := hM2.get 1 rfl
    have HM2 : Hid (Mem wr V2 [(gt, .cells A1 34 (0, 0)), (g2, .cells B1 34 (0, 0))]) := hM2
    clear hM2 HVB
    cases hB : look fk n B with
    | none =>
      rw [hB] at hP2 hchg
      obtain rfl : P2 = false := hP2.symm
      obtain ⟨hbs, a', m', c', V3, hr3, hOF⟩ := HF.out V2 (yN sn) [] V2 HM2.out.below (zb_nil sn) (Mem.nil V2) hchg
      have hbn := build_n sn V2
      have HO2 : Hid (Ow W0 V3 47 35 (.slice a' m' c') (xs ++ [yN sn]).length ((xs ++ [yN sn]).map yc).flatten (C ++ []) ∧ (∀ x ∈ xs ++ [yN sn], ZB (yz x) (C ++ [])) ∧ (xs ++ [yN sn]).map Prod.fst = (ns.take (j + 1)).filterMap (chg (A.map Prod.fst) (B.map Prod.fst)) ∧ (xs ++ [yN sn]).length ≤ j + 1) := hOF
      clear HF HF0 hOF HLA HLB hchg hkA hkB HM2 hP1
      go_wp2_with (first | (refine wpList_bsl rfl 23 1 #[(0, .tmp 43)] (by with_reducible rfl) hbs (by first | kernel_rfl | rfl | simp [Act.eval]) ?_) | (at_builtin; refine wpList_append_run (.tmp 41) (.tmp 44) 23 23 (by with_reducible rfl) hr3 rfl rfl (by first | rfl | simp [Act.eval]) (by first | rfl | simp [Act.eval]) ?_) | fail)
      go_roundw
      case rel => exact ⟨j + 1, a', m', c', xs ++ [yN sn], C ++ [], by omega, by go_num, rfl, HO2⟩
      case measure => simp [intOf]; omega
    | some zb =>
      rw [hB] at hP2 hchg
      obtain rfl : P2 = true := hP2.symm
      obtain ⟨eB, hIB, hRB⟩ := HLB.out zb hB
      have hcB := fun V (hV : Below wr.heap.size wr V) => copied_any hIB.len (hRB V hV) (nf_in hIB).2
      rw [← eB] at hcB
      cases hA : look fk n A with
      | none =>
        rw [hA] at hP1 hchg
        obtain rfl : P1 = false := hP1.symm
        simp only at hchg
        have CC := hcB V2 HM2.out.below
        have HG : Hid (∀ (z' : Tv) (C' : List (Nat × Obj)) (V : World), z'.1 = zb.1 → ZB z' C' → Mem V2 V C' → (Instr.build 47 #[(0, .bool true), (1, .string sn), (2, tv z')]).run Tryz.prog V = .ok (.agg (yc (yP sn z')).toArray) V ∧ ∃ a' m' c' V', (Instr.buildSlice 23 1 #[(0, .agg (yc (yP sn z')).toArray)]).run Tryz.prog V = .ok (.slice (some ⟨V.heap.size, 0, none⟩) 1 1) (V.alloc (.cells (yc (yP sn z')).toArray 47)) ∧
            (Builtin.append_ #[23, 23] 23 #[.slice a m c, .slice (some ⟨V.heap.size, 0, none⟩) 1 1]).run Tryz.prog (V.alloc (.cells (yc (yP sn z')).toArray 47)) = .ok (.slice a' m' c') V' ∧
            Hid (Ow W0 V' 47 35 (.slice a' m' c') (xs ++ [yP sn z']).length ((xs ++ [yP sn z']).map yc).flatten (C ++ C') ∧ (∀ x ∈ xs ++ [yP sn z'], ZB (yz x) (C ++ C')) ∧ (xs ++ [yP sn z']).map Prod.fst = (ns.take (j + 1)).filterMap (chg (A.map Prod.fst) (B.map Prod.fst)) ∧ (xs ++ [yP sn z']).length ≤ j + 1)) := by
          intro z' C' V k1 k2 k3
          obtain ⟨hbs, a', m', c', V3, hr3, hOF⟩ := HF.out V2 (yP sn z') C' V HM2.out.below k2 k3 (by rw [hchg, ← k1]; rfl)
          exact ⟨build_p sn z' k2.1 V, a', m', c', V3, hbs, hr3, hOF⟩
        clear HF HF0 HLA HLB hchg hkA HM2 hcB hRB hA hB eB
        go_wp2_with (first | (refine wpList_load_row_g rfl 34 (.tmp 12) (by with_reducible rfl) g2 (by first | rfl | simp [Act.eval]) 34 B1 (0, 0) _ hkB Tryz.underlying34 hj2 ?_) | fail)
        refine CC.mono ?_
        rintro e V3 ⟨z', C', rfl, k1, k2, k3⟩
        obtain ⟨hbp, a', m', c', V4, hbs, hr3, HO2⟩ := HG.out z' C' V3 k1 k2 k3
        clear CC HG k1 k2 k3 hkB
        go_wp2_with (first | (refine wpList_bld rfl 47 _ (by with_reducible rfl) hbp (by first | kernel_rfl | rfl | simp [Act.eval]) ?_) | (refine wpList_bsl rfl 23 1 #[(0, .tmp 58)] (by with_reducible rfl) hbs (by first | kernel_rfl | rfl | simp [Act.eval]) ?_) | (at_builtin; refine wpList_append_run (.tmp 54) (.tmp 59) 23 23 (by with_reducible rfl) hr3 rfl rfl (by first | rfl | simp [Act.eval]) (by first | rfl | simp [Act.eval]) ?_) | fail)
        go_roundw
        case rel => exact ⟨j + 1, a', m', c', xs ++ [yP sn z'], C ++ C', by omega, by go_num, rfl, HO2⟩
        case measure => simp [intOf]; omega
      | some za' =>
        rw [hA] at hP1 hchg
        obtain rfl : P1 = true := hP1.symm
        simp only at hchg
        obtain ⟨eA, hIA, hRA⟩ := HLA.out za' hA
        have CS := cfgSame_any (tv_tv hIA.len (hRA V2 HM2.out.below)) hIA (tv_tv hIB.len (hRB V2 HM2.out.below)) hIB
        rw [eq_same, ← eA, ← eB] at CS
        clear HLA HLB hA hB eA eB
        by_cases hS : TSame za'.1 zb.1
        · rw [decide_eq_true hS] at CS hchg
          simp only [if_true] at hchg
          have HG : Hid (∀ V, Below V2.heap.size V2 V → Ow W0 V 47 35 (.slice a m c) xs.length (xs.map yc).flatten C ∧ (∀ y ∈ xs, ZB (yz y) C) ∧ xs.map Prod.fst = (ns.take (j + 1)).filterMap (chg (A.map Prod.fst) (B.map Prod.fst)) ∧ xs.length ≤ j + 1) := fun V hV => HF0.out V (HM2.out.below.trans (hV.mono HM2.out.below.size)) hchg
          clear HF HF0 hchg hcB hRB hRA HM2 hS
          go_wp2_with (first | (refine wpList_load_row_g rfl 34 (.tmp 10) (by with_reducible rfl) gt (by first | rfl | simp [Act.eval]) 34 A1 (0, 0) _ hkA Tryz.underlying34 hj1 ?_) | (refine wpList_load_row_g rfl 34 (.tmp 12) (by with_reducible rfl) g2 (by first | rfl | simp [Act.eval]) 34 B1 (0, 0) _ hkB Tryz.underlying34 hj2 ?_) | fail)
          refine CS.mono ?_
          rintro e V3 ⟨rfl, hb3⟩
          have HG2 := HG.out V3 hb3
          have HG3 : Hid (Ow W0 V3 47 35 (.slice a m c) xs.length (xs.map yc).flatten C ∧ (∀ y ∈ xs, ZB (yz y) C) ∧ xs.map Prod.fst = (ns.take (j + 1)).filterMap (chg (A.map Prod.fst) (B.map Prod.fst)) ∧ xs.length ≤ j + 1) := HG2
          clear HG HG2 CS hb3 hkA hkB
          go_wp2_with fail
          go_roundw
          case rel => exact ⟨j + 1, a, m, c, xs, C, by omega, by go_num, rfl, HG3⟩
          case measure => simp [intOf]; omega
        · rw [decide_eq_false hS] at CS hchg
          simp only [Bool.false_eq_true, if_false] at hchg
          have HG : Hid (∀ (V2' : World) (z' : Tv) (C' : List (Nat × Obj)) (V : World), Below V2.heap.size V2 V2' → z'.1 = zb.1 → ZB z' C' → Mem V2' V C' → (Instr.build 47 #[(0, .bool true), (1, .string sn), (2, tv z')]).run Tryz.prog V = .ok (.agg (yc (yP sn z')).toArray) V ∧ ∃ a' m' c' V', (Instr.buildSlice 23 1 #[(0, .agg (yc (yP sn z')).toArray)]).run Tryz.prog V = .ok (.slice (some ⟨V.heap.size, 0, none⟩) 1 1) (V.alloc (.cells (yc (yP sn z')).toArray 47)) ∧
              (Builtin.append_ #[23, 23] 23 #[.slice a m c, .slice (some ⟨V.heap.size, 0, none⟩) 1 1]).run Tryz.prog (V.alloc (.cells (yc (yP sn z')).toArray 47)) = .ok (.slice a' m' c') V' ∧
              Hid (Ow W0 V' 47 35 (.slice a' m' c') (xs ++ [yP sn z']).length ((xs ++ [yP sn z']).map yc).flatten (C ++ C') ∧ (∀ x ∈ xs ++ [yP sn z'], ZB (yz x) (C ++ C')) ∧ (xs ++ [yP sn z']).map Prod.fst = (ns.take (j + 1)).filterMap (chg (A.map Prod.fst) (B.map Prod.fst)) ∧ (xs ++ [yP sn z']).length ≤ j + 1)) := by
            intro V2' z' C' V k0 k1 k2 k3
            obtain ⟨hbs, a', m', c', V3, hr3, hOF⟩ := HF.out V2' (yP sn z') C' V (HM2.out.below.trans (k0.mono HM2.out.below.size)) k2 k3 (by rw [hchg, ← k1]; rfl)
            exact ⟨build_p sn z' k2.1 V, a', m', c', V3, hbs, hr3, hOF⟩
          have HCC : Hid (∀ V, Below V2.heap.size V2 V → V.heap[g2]? = some (.cells B1 34 (0, 0)) ∧ Calls Tryz.prog 22 #[.agg B1] V fun e V' => ∃ z' C, e = .returned (tv z') ∧ z'.1 = zb.1 ∧ ZB z' C ∧ Mem V V' C) := fun V hV => ⟨(HM2.out.after hV).get 1 rfl, hcB V (HM2.out.below.trans (hV.mono HM2.out.below.size))⟩
          clear HF HF0 hchg hcB hRB hRA HM2 hS
          go_wp2_with (first | (refine wpList_load_row_g rfl 34 (.tmp 10) (by with_reducible rfl) gt (by first | rfl | simp [Act.eval]) 34 A1 (0, 0) _ hkA Tryz.underlying34 hj1 ?_) | (refine wpList_load_row_g rfl 34 (.tmp 12) (by with_reducible rfl) g2 (by first | rfl | simp [Act.eval]) 34 B1 (0, 0) _ hkB Tryz.underlying34 hj2 ?_) | fail)
          refine CS.mono ?_
          rintro e V3 ⟨rfl, hb3⟩
          obtain ⟨hkB3, CC⟩ := HCC.out V3 hb3
          have HG2 : Hid (∀ (z' : Tv) (C' : List (Nat × Obj)) (V : World), z'.1 = zb.1 → ZB z' C' → Mem V3 V C' → (Instr.build 47 #[(0, .bool true), (1, .string sn), (2, tv z')]).run Tryz.prog V = .ok (.agg (yc (yP sn z')).toArray) V ∧ ∃ a' m' c' V', (Instr.buildSlice 23 1 #[(0, .agg (yc (yP sn z')).toArray)]).run Tryz.prog V = .ok (.slice (some ⟨V.heap.size, 0, none⟩) 1 1) (V.alloc (.cells (yc (yP sn z')).toArray 47)) ∧
              (Builtin.append_ #[23, 23] 23 #[.slice a m c, .slice (some ⟨V.heap.size, 0, none⟩) 1 1]).run Tryz.prog (V.alloc (.cells (yc (yP sn z')).toArray 47)) = .ok (.slice a' m' c') V' ∧
              Hid (Ow W0 V' 47 35 (.slice a' m' c') (xs ++ [yP sn z']).length ((xs ++ [yP sn z']).map yc).flatten (C ++ C') ∧ (∀ x ∈ xs ++ [yP sn z'], ZB (yz x) (C ++ C')) ∧ (xs ++ [yP sn z']).map Prod.fst = (ns.take (j + 1)).filterMap (chg (A.map Prod.fst) (B.map Prod.fst)) ∧ (xs ++ [yP sn z']).length ≤ j + 1)) := fun z' C' V k1 k2 k3 => HG.out V3 z' C' V hb3 k1 k2 k3
          clear HG HCC CS hb3 hkA hkB
          go_wp2_with (first | (refine wpList_load_row_g rfl 34 (.tmp 12) (by with_reducible rfl) g2 (by first | rfl | simp [Act.eval]) 34 B1 (0, 0) _ hkB3 Tryz.underlying34 hj2 ?_) | fail)
          refine CC.mono ?_
          rintro e V4 ⟨z', C', rfl, k1, k2, k3⟩
          obtain ⟨hbp, a', m', c', V5, hbs, hr3, HO2⟩ := HG2.out z' C' V4 k1 k2 k3
          clear CC HG2 k1 k2 k3 hkB3
          go_wp2_with (first | (refine wpList_bld rfl 47 _ (by with_reducible rfl) hbp (by first | kernel_rfl | rfl | simp [Act.eval]) ?_) | (refine wpList_bsl rfl 23 1 #[(0, .tmp 58)] (by with_reducible rfl) hbs (by first | kernel_rfl | rfl | simp [Act.eval]) ?_) | (at_builtin; refine wpList_append_run (.tmp 54) (.tmp 59) 23 23 (by with_reducible rfl) hr3 rfl rfl (by first | rfl | simp [Act.eval]) (by first | rfl | simp [Act.eval]) ?_) | fail)
          go_roundw
          case rel => exact ⟨j + 1, a', m', c', xs ++ [yP sn z'], C ++ C', by omega, by go_num, rfl, HO2⟩
          case measure => simp [intOf]; omega
end Df
end Go.Proofs.YtbccadbnaggkhaaGreat

