/-
  What is changed: Apply, for whatever tenants and changes.
  What is changed: changes that come in.
-/
import Derived.Test.YtbccadbnaggkhaaGreatKE31
import Derived.Test.YtbccadbnaggkhaaGreatKE26
namespace Go.Proofs.YtbccadbnaggkhaaGreat
open Go.RowKit
open Sm
open Cf
open Df
set_option linter.unusedVariables false
set_option linter.unusedSimpArgs false
set_option maxRecDepth 20000

namespace Df
/-- Neither its name nor its lists are too long. -/
def Nf (t : Ten) : Prop := t.name.size ≤ 1000000 ∧ TFew t
theorem one_map {w : World} {g : Nat} (h : Below w.heap.size w w) : Rw (w.alloc (.cells #[.map (some g)] 51 (0, 0))) 1 (.slice (some ⟨w.heap.size, 0, none⟩) 1 1) [[.map (some g)]] := by
  refine ⟨some ⟨w.heap.size, 0, none⟩, 1, rfl, Nat.le_refl _, by omega, nofun, Or.inr ⟨w.heap.size, 0, rfl, fun i hi j u hj => ?_⟩⟩
  have hi0 : i = 0 := by simp at hi; exact hi
  subst hi0
  have hj0 : j = 0 := by
    have := (List.getElem?_eq_some_iff.mp hj).1
    simp [List.getD] at this
    exact this
  subst hj0
  rw [World.cell?_alloc_new]
  simpa [List.getD] using hj
theorem vat_at {M : List Tv} (h : Srt fk M) {j : Nat} (hj : j < M.length) : vat M (fk M[j]) = tv M[j] := by
  unfold vat
  rw [look_mem h (List.getElem_mem hj)]
theorem enc_name (z : Tv) : encStr (fk z) = .string z.1.name := by
  show Value.string ⟨(nk z.1).toArray⟩ = _
  rw [nk_name]
set_option maxHeartbeats 8000000 in
theorem apply_any {w : World} {v u : Value} {zs : List Tv} {ys : List Hv} (hz : ZV w v zs) (hy : YV w u ys) (hzn : ∀ z ∈ zs, Nf z.1) (hyn : ∀ y ∈ ys, Nf y.1.t ∧ y.1.name.size ≤ 1000000) (hm : zs.length ≤ 1000) (hk : ys.length ≤ 1000) :
    Calls Tryz.prog 13 #[v, u] w fun e V => ∃ r, e = .returned r ∧ TSV V r (app (zs.map Prod.fst) (ys.map Prod.fst)) ∧ Below w.heap.size w V := by
  have CB := byName_any hz (fun z h => (hzn z h).1) hm
  obtain ⟨za, zk, rfl, -, -, -⟩ := hz.parts
  obtain ⟨sa, sc, rfl, hlc, hcb, hx⟩ := hy.parts
  have HX : Hid (∀ i (hi : i < ys.length), (∃ b off, sa = some ⟨b, off, none⟩ ∧ ∀ V, Below w.heap.size w V → V.rangeAt b (off + i * 35) (yc ys[i])) ∧ TLen ys[i].1.t ∧ (yc ys[i]).toArray.all (·.oneCell') = true ∧ ys[i].1.t.name.size ≤ maxLen ∧ ys[i].1.name.size ≤ maxLen) := by
    intro i hi
    have hm := List.getElem_mem hi
    have := hyn _ hm
    exact ⟨hx i hi, (hy.each _ hm).1, yc_all (hy.each _ hm).2, by have := this.1.1; unfold maxLen; omega, by have := this.2; unfold maxLen; omega⟩
  have HT : Hid (∀ i (hi : i < ys.length), apz zs (ys.take (i + 1)) = stz (apz zs (ys.take i)) ys[i]) := fun i hi => apz_take hi
  have HT0 : Hid (apz zs (ys.take ys.length) = apz zs ys) := by show _ = _; rw [List.take_length]
  have HM : Hid (∀ z ∈ apz zs ys, TLen z.1 ∧ Rws w z ∧ TFew z.1 ∧ z.1.name.size ≤ maxLen) := by
    intro z h
    rcases mem_apz h with h | ⟨y, h1, e⟩
    · exact ⟨(hz.each z h).1, (hz.each z h).2, (hzn z h).2, by have := (hzn z h).1; unfold maxLen; omega⟩
    · subst e
      exact ⟨(hy.each y h1).1, (hy.each y h1).2, (hyn y h1).1.2, by have := (hyn y h1).1.1; show y.1.t.name.size ≤ _; unfold maxLen; omega⟩
  have HR0 : Hid ((apz zs ys).map Prod.fst = app (zs.map Prod.fst) (ys.map Prod.fst)) := apz_fst zs ys
  rw [← HR0.out]
  clear hx hz hy hzn hyn HR0
  obtain ⟨N, hN⟩ : ∃ N, zs.length = N := ⟨_, rfl⟩
  obtain ⟨K, hK⟩ : ∃ K, ys.length = K := ⟨_, rfl⟩
  rw [hN] at CB hm ⊢
  rw [hK] at HT0 hlc hk
  simp only [hK] at HX HT ⊢
  go_enter Tryz.func13, Tryz.ntmps13
  go_wp2_with fail
  refine CB.mono ?_
  rintro e V0 ⟨g, rfl, hgw, hMV0, hb0⟩
  have HV0 : Hid (MV V0 g (N + 0) (apz zs (ys.take 0)) ∧ Below w.heap.size w V0) := ⟨hMV0, hb0⟩
  clear CB hMV0 hb0
  go_wp2_with fail
  go_loopw [15] (fun u15 w' => ∃ i : Nat, i ≤ K ∧ u15 = .int .i64 i ∧ Hid (MV w' g (N + i) (apz zs (ys.take i)) ∧ Below w.heap.size w w')) (fun u15 w' => K - (intOf u15).toNat)
  case atStart => exact ⟨0, Nat.zero_le _, rfl, HV0⟩
  case round =>
    obtain ⟨i, hi, rfl, HR⟩ := hrel
    clear HV0
    by_cases hlt : i < K
    · have h1 : (i : Int) < K := by omega
      obtain ⟨⟨b, off, rfl, hV⟩, hl, ho, hs, hs'⟩ := HX.out i hlt
      have hra := hV _ HR.out.2
      have hT := HT.out i hlt
      clear hV HX HT HT0 HM
      generalize hye : ys[i]'(by omega) = y at *
      obtain ⟨M, hMe⟩ : ∃ M, apz zs (ys.take i) = M := ⟨_, rfl⟩
      rw [hMe] at HR hT
      clear hMe
      have hi35 : (Tryz.prog.info? 47).map (·.size) = some (yc y).length := by rw [yc_len hl]; kernel_rfl
      have hj35 : (Tryz.prog.info? 47).map (·.size) = some (yc y).toArray.size := by rw [List.size_toArray, yc_len hl]; kernel_rfl
      have hs35 : hz0.size = (yc y).toArray.size := by rw [show (yc y).toArray.size = 35 by rw [List.size_toArray]; exact yc_len hl]; rfl
      obtain ⟨gt, hgt⟩ : ∃ g, wr.heap.size = g := ⟨_, rfl⟩
      have hk1 : (wr.alloc (.cells hz0 47)).heap[gt]? = some (.cells hz0 47 (0, 0)) := by rw [← hgt]; exact heap_alloc_new _ _
      have HF : Hid (Mem wr ((wr.alloc (.cells hz0 47)).setRow gt (yc y).toArray) [(gt, .cells (yc y).toArray 47 (0, 0))]) := by
        rw [← hgt, World.setRow_alloc_new]
        exact (Mem.nil wr).push1 rfl
      go_upto_region 5 with (first | (refine wpList_load_mid rfl 47 (.tmp 17) (by with_reducible rfl) b (off + i * 35) (by simp [Act.eval]) (yc y) _ hra Tryz.underlying47 rfl hi35 ?_) | (refine wpList_store_row rfl 47 (.tmp 7) (.tmp 18) (by with_reducible rfl) gt (yc y).toArray (by simp [Act.eval]; try exact hgt) (by first | rfl | simp [Act.eval]) 47 hz0 hk1 hj35 hs35 ho ?_) | fail)
      refine wp_letter (fun X => Mem wr X [(gt, .cells (yc y).toArray 47 (0, 0))]) (by exact HF.out) ?_
      intro V1 hM1
      try simp only [hgt]
      clear HF hk1 hra hi35 hj35 hs35 ho
      have hMV1 : MV V1 g (N + i) M := HR.out.1.below hM1.below (Nat.le_refl _)
      have hc0 : V1.cell? ⟨gt, 0, none⟩ = some (.bool y.1.put) := by rw [hM1.cell 0 rfl]; rfl
      have hc1 : V1.cell? ⟨gt, 1, none⟩ = some (.string y.1.name) := by rw [hM1.cell 0 rfl]; rfl
      have hc2 : V1.cell? ⟨gt, 2, none⟩ = some (.string y.1.t.name) := by rw [hM1.cell 0 rfl]; rfl
      have hra2 : V1.rangeAt gt 2 (zc (yz y)) := fun j x hj => by
        rw [hM1.cell 0 rfl, List.getElem?_toArray, yc_eq]
        rw [show 2 + j = j + 1 + 1 by omega, List.getElem?_cons_succ, List.getElem?_cons_succ]
        exact hj
      have HB1 : Hid (Below w.heap.size w V1) := HR.out.2.trans (hM1.below.mono HR.out.2.size)
      have hil : N + i < maxLen := by unfold maxLen; omega
      have hi33 : (Tryz.prog.info? 34).map (·.size) = some (zc (yz y)).length := by rw [show (zc (yz y)).length = 33 from tc_len hl _ _ _]; kernel_rfl
      clear hM1 HR
      by_cases hp : y.1.put = true
      · rw [hp] at hc0
        have HF : Hid (∀ W, MV W g (N + i + 1) (put fk (yz y) true M) → V1.grownBy W (some g) → MV W g (N + (i + 1)) (apz zs (ys.take (i + 1))) ∧ Below w.heap.size w W) := by
          intro W k1 k2
          refine ⟨by rw [hT, stz, if_pos hp]; exact k1, HB1.out.grown k2 HB1.out.size (fun j hj => by cases hj; exact hgw)⟩
        clear HB1 hT
        go_wp2_with (first | (refine wpList_load_mid rfl 34 (.tmp 25) (by with_reducible rfl) gt 2 (by simp [Act.eval]) (zc (yz y)) _ hra2 Tryz.underlying34 rfl hi33 ?_) | (at_mapUpdate; refine wp_store rfl _ _ _ rfl (b := g) (n := N + i) (M := M) (by first | rfl | simp [Act.eval]) hMV1 hil (yz y) hs (by first | rfl | simp [Act.eval, yz]) (by first | rfl | simp [Act.eval, tv]) ?_; intro W hW1 hW2) | fail)
        have HF2 := HF.out W hW1 hW2
        clear HF hW1 hW2 hMV1 hra2
        go_roundw
        case rel => exact ⟨i + 1, by omega, by go_num, HF2⟩
        case measure => simp [intOf]; omega
      · have hp' : y.1.put = false := by simpa using hp
        rw [hp'] at hc0
        have HF : Hid (∀ W, MV W g (N + i) (del fk y.1.name.data.toList M) → V1.grownBy W (some g) → MV W g (N + (i + 1)) (apz zs (ys.take (i + 1))) ∧ Below w.heap.size w W) := by
          intro W k1 k2
          refine ⟨by rw [hT, stz, if_neg hp]; exact k1.mono (by omega), HB1.out.grown k2 HB1.out.size (fun j hj => by cases hj; exact hgw)⟩
        clear HB1 hT
        go_wp2_with (first | (at_delete; refine wp_drop rfl _ _ rfl (b := g) (n := N + i) (M := M) (by first | rfl | simp [Act.eval]) hMV1 (s := y.1.name) hs' (by first | rfl | simp [Act.eval]) ?_; intro W hW1 hW2) | fail)
        have HF2 := HF.out W hW1 hW2
        clear HF hW1 hW2 hMV1 hra2
        go_roundw
        case rel => exact ⟨i + 1, by omega, by go_num, HF2⟩
        case measure => simp [intOf]; omega
    · have h1 : ¬ ((i : Int) < K) := by omega
      obtain rfl : i = K := by omega
      have hMV := HR.out.1
      have hbel := HR.out.2
      rw [HT0.out] at hMV
      clear HX HT HT0 HR
      obtain ⟨M, hMe⟩ : ∃ M, apz zs ys = M := ⟨_, rfl⟩
      rw [hMe] at hMV HM
      have HMe : Hid (apz zs ys = M) := hMe
      clear hMe
      have hle := hMV.size
      have hM1 : MV (wr.alloc (.cells #[.map (some g)] 51 (0, 0))) g (N + i) M := hMV.below ((Below.refl wr.heap.size wr).alloc (Nat.le_refl _) _) (Nat.le_refl _)
      have CN := names_any (gs := [(g, N + i, M)]) (one_map (w := wr) (g := g) (Below.refl _ _)) (by intro p hp; rw [List.mem_singleton] at hp; subst hp; exact hM1) (by simp) (by intro p hp; rw [List.mem_singleton] at hp; subst hp; simp; omega) (M.map fk) (List.pairwise_map.2 hMV.2) (by intro x; simp)
      rw [List.length_map] at CN
      have hb1 : Below w.heap.size w (wr.alloc (.cells #[.map (some g)] 51 (0, 0))) := hbel.alloc hbel.size _
      have HN : Hid (∀ V a c, NV V (.slice a M.length c) (M.map fk) → Below (wr.alloc (.cells #[.map (some g)] 51 (0, 0))).heap.size (wr.alloc (.cells #[.map (some g)] 51 (0, 0))) V → MV V g (N + i) M ∧ Below w.heap.size w V ∧ ∀ j (hj : j < M.length), ∃ b off, a = some ⟨b, off, none⟩ ∧ ∀ X, Below V.heap.size V X → X.cell? ⟨b, off + j, none⟩ = some (.string M[j].1.name)) := by
        intro V a c k1 k2
        refine ⟨hM1.below k2 (Nat.le_refl _), hb1.trans (k2.mono hb1.size), fun j hj => ?_⟩
        have k1' : Rw V 1 (.slice a M.length c) ((M.map fk).map fun n => [encStr n]) := k1
        obtain ⟨b, off, e, hc⟩ := rw_at k1' j (by simpa using hj)
        refine ⟨b, off, e, fun X hX => ?_⟩
        have := hc 0 (.string M[j].1.name) (by simp [List.getD, List.getElem?_eq_getElem hj, enc_name])
        rw [Nat.mul_one, Nat.add_zero] at this
        rw [hX.cell (p := ⟨b, off + j, none⟩) (cell_lt this)]
        exact this
      clear hM1 hb1 hbel
      have hsrt := hMV.2
      clear hMV
      go_wp2_with fail
      refine CN.mono ?_
      rintro e W0 ⟨na, nc, rfl, hNV, hbN⟩
      obtain ⟨hMV0, hbw, hcell⟩ := HN.out W0 na nc hNV hbN
      clear HN CN hNV hbN
      have HC : Hid (∀ j (hj : j < M.length), ∃ b off, na = some ⟨b, off, none⟩ ∧ ∀ X, Below W0.heap.size W0 X → X.cell? ⟨b, off + j, none⟩ = some (.string M[j].1.name)) := hcell
      have HV0 : Hid (MV W0 g (N + i) M ∧ Below w.heap.size w W0) := ⟨hMV0, hbw⟩
      have H0 : Hid (Ow W0 W0 34 33 (.slice none 0 0) ([] : List Tv).length ((([] : List Tv)).map zc).flatten []) := Ow.nil (Mem.nil W0)
      have HZ : Hid (∀ j (hj : j < M.length), TLen M[j].1 ∧ TFew M[j].1 ∧ M[j].1.name.size ≤ maxLen ∧ Rws W0 M[j] ∧ vat M M[j].1.name.data.toList = tv M[j]) := by
        intro j hj
        have := HM.out _ (List.getElem_mem hj)
        exact ⟨this.1, this.2.2.1, this.2.2.2, Rws.at_ this.2.1 hbw, vat_at hsrt hj⟩
      have HT : Hid (∀ j (hj : j < M.length), (M.map Prod.fst).take (j + 1) = (M.map Prod.fst).take j ++ [M[j].1]) := by
        intro j hj
        rw [List.take_add_one, List.getElem?_map, List.getElem?_eq_getElem hj]
        rfl
      have HTE : Hid ((M.map Prod.fst).take M.length = M.map Prod.fst) := by show _ = _; rw [List.take_of_length_le (by simp)]
      clear HM hcell hMV0 hbw hsrt
      obtain ⟨L, hL⟩ : ∃ L, M.length = L := ⟨_, rfl⟩
      rw [hL] at hle HTE
      simp only [hL] at HC HZ HT ⊢
      go_wp2_with fail
      go_loopw [8, 35] (fun u8 u35 w' => ∃ (j : Nat) (a : Option Addr) (m c : Nat) (xs : List Tv) (C : List (Nat × Obj)), j ≤ L ∧ u35 = .int .i64 j ∧ u8 = .slice a m c ∧ Hid (Ow W0 w' 34 33 (.slice a m c) xs.length (xs.map zc).flatten C ∧ (∀ z ∈ xs, ZB z C) ∧ xs.map Prod.fst = (M.map Prod.fst).take j ∧ xs.length = j)) (fun u8 u35 w' => L - (intOf u35).toNat)
      case atStart => exact ⟨0, none, 0, 0, [], [], Nat.zero_le _, rfl, rfl, H0.out, by simp, by simp, rfl⟩
      case round =>
        obtain ⟨j, a, m, c, xs, C, hj, rfl, rfl, HR⟩ := hrel
        clear H0
        by_cases hlt2 : j < L
        · have h2 : (j : Int) < L := by omega
          obtain ⟨nb, noff, rfl, hcj⟩ := HC.out j hlt2
          obtain ⟨hO, hZB, hfst, hxl⟩ := HR.out
          have hbW := hO.mem.below
          have hcell := hcj _ hbW
          obtain ⟨hl, hf, hs, hr, hv⟩ := HZ.out j hlt2
          have hT := HT.out j hlt2
          clear hcj HC HZ HT HTE HR
          have hjM : j < M.length := by omega
          generalize M[j]'hjM = z at *
          have hMV := HV0.out.1.below hbW (Nat.le_refl _)
          have CC := copied_any hl (Rws.at_ hr hbW) hf
          have HF : Hid (∀ (z' : Tv) (C' : List (Nat × Obj)) (V : World), z'.1 = z.1 → ZB z' C' → Mem wr V C' → (Instr.buildSlice 22 1 #[(0, tv z')]).run Tryz.prog V = .ok (.slice (some ⟨V.heap.size, 0, none⟩) 1 1) (V.alloc (.cells (zc z').toArray 34)) ∧
              ∃ a' m' c' V', (Builtin.append_ #[22, 22] 22 #[.slice a m c, .slice (some ⟨V.heap.size, 0, none⟩) 1 1]).run Tryz.prog (V.alloc (.cells (zc z').toArray 34)) = .ok (.slice a' m' c') V' ∧
              Ow W0 V' 34 33 (.slice a' m' c') (xs ++ [z']).length ((xs ++ [z']).map zc).flatten (C ++ C') ∧ (∀ z ∈ xs ++ [z'], ZB z (C ++ C')) ∧ (xs ++ [z']).map Prod.fst = (M.map Prod.fst).take (j + 1) ∧ (xs ++ [z']).length = j + 1) := by
            intro z' C' V k1 k2 k3
            refine ⟨bsliceT z' k2.1 V, ?_⟩
            obtain ⟨a', m', c', V', e1, e2, e3⟩ := ow_ten hO hZB k3 k2 (by omega) rfl
            refine ⟨a', m', c', V', e1, e2, e3, ?_, by rw [List.length_append, hxl]; rfl⟩
            rw [hT, List.map_append, hfst, List.map_singleton, k1]
          clear hO hZB hfst hxl hbW hT hr hf
          go_wp2_with (first | (at_lookup; refine wp_look rfl _ _ rfl (b := g) (n := N + i) (M := M) (by first | rfl | simp [Act.eval]) hMV (s := z.1.name) hs (by first | rfl | simp [Act.eval]) ?_; rw [hv]) | fail)
          refine CC.mono ?_
          rintro e V1 ⟨z', C', rfl, hz1, hz2, hz3⟩
          obtain ⟨hbs, a', m', c', V2, hr2, hOF⟩ := HF.out z' C' V1 hz1 hz2 hz3
          have HO2 : Hid (Ow W0 V2 34 33 (.slice a' m' c') (xs ++ [z']).length ((xs ++ [z']).map zc).flatten (C ++ C') ∧ (∀ z ∈ xs ++ [z'], ZB z (C ++ C')) ∧ (xs ++ [z']).map Prod.fst = (M.map Prod.fst).take (j + 1) ∧ (xs ++ [z']).length = j + 1) := hOF
          clear HF CC hOF hMV hz1 hz2 hz3 hcell
          go_wp2_with (first | (refine wpList_bsl rfl 22 1 #[(0, .tmp 43)] (by with_reducible rfl) hbs (by first | rfl | simp [Act.eval]) ?_) | (at_builtin; refine wpList_append_run (.tmp 39) (.tmp 44) 22 22 (by with_reducible rfl) hr2 rfl rfl (by first | rfl | simp [Act.eval]) (by first | rfl | simp [Act.eval]) ?_) | fail)
          go_roundw
          case rel => exact ⟨j + 1, a', m', c', xs ++ [z'], C ++ C', by omega, by go_num, rfl, HO2⟩
          case measure => simp [intOf]; omega
        · have h2 : ¬ ((j : Int) < L) := by omega
          obtain rfl : j = L := by omega
          have HF : Hid (TSV wr (.slice a m c) ((apz zs ys).map Prod.fst) ∧ Below w.heap.size w wr) := by
            rw [HMe.out]
            obtain ⟨hO, hZB, hfst, hxl⟩ := HR.out
            have := ow_tsv hO hZB
            rw [hfst, HTE.out] at this
            exact ⟨this, HV0.out.2.trans (hO.mem.below.mono HV0.out.2.size)⟩
          clear HR HC HZ HT HTE HV0
          go_wp2_with fail
          go_ret
          exact ⟨_, rfl, HF.out.1, HF.out.2⟩
end Df
end Go.Proofs.YtbccadbnaggkhaaGreat

namespace Go.Proofs.YtbccadbnaggkhaaGreat
open Go.RowKit Go.ChangeShapes Go.WideShapes
open Sm
open Cf
open Df
set_option linter.unusedVariables false
set_option linter.unusedSimpArgs false
set_option maxRecDepth 20000

section
variable {H : Type} {enc : TypeId × Value → H} {W : World} {base : Nat} {held : Bool}
end
end Go.Proofs.YtbccadbnaggkhaaGreat

