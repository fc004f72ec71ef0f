/-
  What is changed: the document's Apply.
-/
import Derived.Test.YtbccadbnaggkhaaGreatKE40
namespace Go.Proofs.YtbccadbnaggkhaaGreat
open Go.RowKit
open Sm
open Cf
open Df
set_option linter.unusedVariables false
set_option linter.unusedSimpArgs false
set_option maxRecDepth 20000

namespace Df
/-- What is known of a list's tenants. -/
def Zg (w : World) (z : Tv) : Prop := TLen z.1 ∧ Rws w z
theorem zg_one {w : World} {z : Tv} (h : Zg w z) : (zc z).toArray.all (·.oneCell') = true := zc_all h.2
set_option maxHeartbeats 16000000 in
theorem rapply_any {w : World} {v u : Value} {zs : List Tv} {ys : List Hv} (hz : ZV w v zs) (hy : YV w u ys) (hm : zs.length ≤ 400) (hk : ys.length ≤ 400) :
    Calls Tryz.prog 14 #[v, u] w fun e V => ∃ a n c, e = .returned (.slice a n c) ∧ TSV V (.slice a n c) (app (zs.map Prod.fst) (ys.map Prod.fst)) ∧ Below w.heap.size w V := by
  obtain ⟨za, zk, rfl, hzc, hzb, hzx⟩ := hz.parts
  obtain ⟨sa, sc, rfl, hlc, hcb, hx⟩ := hy.parts
  have HG1 : Hid (∀ i, ∀ z ∈ byn fk (zs.take i), Zg w z) := fun i z h => hz.each z (List.mem_of_mem_take (mem_byn h))
  have HG2 : Hid (∀ i, ∀ z ∈ apz zs (ys.take i), Zg w z) := by
    intro i z h
    rcases mem_apz h with h | ⟨y, h1, e⟩
    · exact hz.each z h
    · subst e; exact hy.each y (List.mem_of_mem_take h1)
  have HL1 : Hid (∀ i, (byn fk (zs.take i)).length ≤ 1000) := by
    intro i
    have := byn_length (f := fk) (zs.take i)
    rw [List.length_take] at this
    omega
  have HL2 : Hid (∀ i, (apz zs (ys.take i)).length ≤ 1000) := by
    intro i
    have := apz_length zs (ys.take i)
    rw [List.length_take] at this
    omega
  have HZ : Hid (∀ i (hi : i < zs.length), (∃ b off, za = some ⟨b, off, none⟩ ∧ ∀ V, Below w.heap.size w V → V.rangeAt b (off + i * 33) (zc zs[i])) ∧ Zg w zs[i]) := fun i hi => ⟨hzx i hi, hz.each _ (List.getElem_mem hi)⟩
  have HY : Hid (∀ i (hi : i < ys.length), (∃ b off, sa = some ⟨b, off, none⟩ ∧ ∀ V, Below w.heap.size w V → V.cell? ⟨b, off + i * 35, none⟩ = some (.bool ys[i].1.put) ∧ V.cell? ⟨b, off + i * 35 + 1, none⟩ = some (.string ys[i].1.name) ∧ V.rangeAt b (off + i * 35 + 2) (zc (yz ys[i]))) ∧ Zg w (yz ys[i])) := by
    intro i hi
    obtain ⟨b, off, e, hV⟩ := hx i hi
    refine ⟨⟨b, off, e, fun V hb => ⟨?_, ?_, ?_⟩⟩, hy.each _ (List.getElem_mem hi)⟩
    · have := hV V hb 0 (.bool ys[i].1.put) rfl
      simpa using this
    · exact hV V hb 1 (.string ys[i].1.name) rfl
    · intro j x hj
      have := hV V hb (j + 2) x (by rw [yc_eq, List.getElem?_cons_succ, List.getElem?_cons_succ]; exact hj)
      rw [show off + i * 35 + 2 + j = off + i * 35 + (j + 2) by omega]
      exact this
  have HB1 : Hid (∀ i (hi : i < zs.length), byn fk (zs.take (i + 1)) = put fk zs[i] false (byn fk (zs.take i))) := fun i hi => look_byn_take hi
  have HB2 : Hid (byn fk (zs.take zs.length) = apz zs (ys.take 0)) := by show _ = _; rw [List.take_length]; rfl
  have HT : Hid (∀ i (hi : i < ys.length), apz zs (ys.take (i + 1)) = stz (apz zs (ys.take i)) ys[i]) := fun i hi => apz_take hi
  have HTE : Hid (apz zs (ys.take ys.length) = apz zs ys) := by show _ = _; rw [List.take_length]
  have HS : Hid (∀ i, Srt fk (apz zs (ys.take i))) := fun i => srt_apz _ _
  have HR0 : Hid ((apz zs ys).map Prod.fst = app (zs.map Prod.fst) (ys.map Prod.fst)) := apz_fst zs ys
  have H0 : Hid (Dl w w (.slice none 0 0) (byn fk (zs.take 0))) := Dl.nil (Below.refl _ _)
  have HFIN : Hid (∀ V r, Dl w V r (apz zs ys) → TSV V r ((apz zs ys).map Prod.fst)) := by
    intro V r h
    have hg : ∀ z ∈ apz zs ys, Zg w z := by
      have := HG2.out ys.length
      rw [HTE.out] at this
      exact this
    exact ⟨apz zs ys, rfl, h.rw fun z hz => (hg z hz).1, fun z hz => ⟨(hg z hz).1, Rws.at_ (hg z hz).2 h.below⟩⟩
  rw [← HR0.out]
  clear hz hy hzx hx HR0
  obtain ⟨N, hN⟩ : ∃ N, zs.length = N := ⟨_, rfl⟩
  obtain ⟨K, hK⟩ : ∃ K, ys.length = K := ⟨_, rfl⟩
  rw [hN] at HB2 hm hzc
  rw [hK] at HTE hk hlc
  simp only [hN] at HZ HB1 ⊢
  simp only [hK] at HY HT ⊢
  go_enter Tryz.func14, Tryz.ntmps14
  go_wp2_with fail
  go_loopw [5, 6] (fun u5 u6 w' => ∃ (i : Nat) (a : Option Addr) (n c : Nat), i ≤ N ∧ u6 = .int .i64 i ∧ u5 = .slice a n c ∧ Hid (Dl w w' (.slice a n c) (byn fk (zs.take i)))) (fun u5 u6 w' => N - (intOf u6).toNat)
  case atStart => exact ⟨0, none, 0, 0, Nat.zero_le _, rfl, rfl, H0⟩
  case round =>
    obtain ⟨i, a, n, c, hi, rfl, rfl, HR⟩ := hrel
    clear H0
    by_cases hlt : i < N
    · have h1 : (i : Int) < N := by omega
      have hiz : i < zs.length := by omega
      obtain ⟨⟨b, off, rfl, hV⟩, hg⟩ := HZ.out i hlt
      have hra := hV _ HR.out.below
      have hB := HB1.out i hlt
      have CS := rset_any (again := false) HR.out (fun z hz => (HG1.out i z hz).1) (fun z hz => zg_one (HG1.out i z hz)) hg.1 (zg_one hg) (HL1.out i)
      rw [← hB] at CS
      have i33 : (Tryz.prog.info? 34).map (·.size) = some (zc (zs[i]'hiz)).length := by rw [zc33 hg.1]; kernel_rfl
      clear hV hB hg HZ HB1 HB2 HG1 HG2 HL1 HL2 HY HT HTE HS HFIN HR
      generalize zs[i]'hiz = z at *
      go_wp2_with (first | (refine wpList_load_mid rfl 34 (.tmp 18) (by with_reducible rfl) b (off + i * 33) (by simp [Act.eval]) (zc z) _ hra Tryz.underlying34 rfl i33 ?_) | fail)
      refine CS.mono ?_
      rintro e W1 ⟨a', n', c', rfl, hD⟩
      have HD : Hid (Dl w W1 (.slice a' n' c') (byn fk (zs.take (i + 1)))) := hD
      clear CS hD hra i33
      go_wp2_with fail
      go_roundw
      case rel => exact ⟨i + 1, a', n', c', by omega, by go_num, rfl, HD⟩
      case measure => simp [intOf]; omega
    · have h1 : ¬ ((i : Int) < N) := by omega
      obtain rfl : i = N := by omega
      have H2 : Hid (Dl w wr (.slice a n c) (apz zs (ys.take 0))) := by rw [← HB2.out]; exact HR.out
      clear HZ HB1 HB2 HG1 HL1 HR
      go_wp2_with fail
      go_loopw [5, 7] (fun u5 u7 w' => ∃ (j : Nat) (a : Option Addr) (n c : Nat), j ≤ K ∧ u7 = .int .i64 j ∧ u5 = .slice a n c ∧ Hid (Dl w w' (.slice a n c) (apz zs (ys.take j)))) (fun u5 u7 w' => K - (intOf u7).toNat)
      case atStart => exact ⟨0, a, n, c, Nat.zero_le _, rfl, rfl, H2⟩
      case round =>
        obtain ⟨j, a, n, c, hj, rfl, rfl, HR⟩ := hrel
        clear H2
        by_cases hlt2 : j < K
        rotate_left
        · have h2 : ¬ ((j : Int) < K) := by omega
          obtain rfl : j = K := by omega
          have HF : Hid (TSV wr (.slice a n c) ((apz zs ys).map Prod.fst) ∧ Below w.heap.size w wr) := by
            have h := HR.out
            rw [HTE.out] at h
            exact ⟨HFIN.out _ _ h, h.below⟩
          clear HY HT HTE HS HG2 HL2 HFIN HR
          go_wp2_with fail
          go_ret
          exact ⟨_, _, _, rfl, HF.out.1, HF.out.2⟩
        have h2 : (j : Int) < K := by omega
        have hjy : j < ys.length := by omega
        obtain ⟨⟨b, off, rfl, hV⟩, hg⟩ := HY.out j hlt2
        obtain ⟨c0, -, hra⟩ := hV _ HR.out.below
        have hT := HT.out j hlt2
        by_cases hp : (ys[j]'hjy).1.put = true
        · rw [hp] at c0
          have CS := rset_any (again := true) HR.out (fun z hz => (HG2.out j z hz).1) (fun z hz => zg_one (HG2.out j z hz)) hg.1 (zg_one hg) (HL2.out j)
          rw [show put fk (yz (ys[j]'hjy)) true (apz zs (ys.take j)) = apz zs (ys.take (j + 1)) by rw [hT, stz, if_pos hp]] at CS
          have i33 : (Tryz.prog.info? 34).map (·.size) = some (zc (yz (ys[j]'hjy))).length := by rw [zc33 hg.1]; kernel_rfl
          clear hV hT hg HG2 HL2 HY HT HTE HS HFIN HR hp
          generalize yz (ys[j]'hjy) = z at *
          go_wp2_with (first | (refine wpList_load_mid rfl 34 (.tmp 36) (by with_reducible rfl) b (off + j * 35 + 2) (by simp [Act.eval]) (zc z) _ hra Tryz.underlying34 rfl i33 ?_) | fail)
          refine CS.mono ?_
          rintro e W1 ⟨a', n', c', rfl, hD⟩
          have HD : Hid (Dl w W1 (.slice a' n' c') (apz zs (ys.take (j + 1)))) := hD
          clear CS hD hra i33 c0
          go_wp2_with fail
          go_roundw
          case rel => exact ⟨j + 1, a', n', c', by omega, by go_num, rfl, HD⟩
          case measure => simp [intOf]; omega
        · have hp' : (ys[j]'hjy).1.put = false := by simpa using hp
          rw [hp'] at c0
          have hT2 : apz zs (ys.take (j + 1)) = del fk (ys[j]'hjy).1.name.data.toList (apz zs (ys.take j)) := by rw [hT, stz, if_neg hp]
          have HC1 : Hid (∀ V, Below w.heap.size w V → V.cell? ⟨b, off + j * 35 + 1, none⟩ = some (.string (ys[j]'hjy).1.name)) := fun V hb => (hV V hb).2.1
          have HGM := HG2.out j
          have HLM := HL2.out j
          have HSM := HS.out j
          clear hV hT hg HG2 HL2 HY HT HTE HS HFIN hra hp
          generalize (ys[j]'hjy).1.name = sn at *
          obtain ⟨M, hM⟩ : ∃ M, apz zs (ys.take j) = M := ⟨_, rfl⟩
          rw [hM] at hT2 HR HGM HLM HSM
          clear hM
          obtain ⟨L, hL⟩ : ∃ L, M.length = L := ⟨_, rfl⟩
          -- the list, read at its places; one is taken out of it
          have HNO : Hid ((∀ q (hq : q < M.length), fk (M[q]'hq) ≠ sn.data.toList) → apz zs (ys.take (j + 1)) = M) := fun h => by rw [hT2]; exact del_no h
          have HYE : Hid (∀ q (hq : q < M.length), fk (M[q]'hq) = sn.data.toList → apz zs (ys.take (j + 1)) = M.take q ++ M.drop (q + 1)) := fun q hq e => by rw [hT2, ← e]; exact del_at HSM hq
          have hlen : n = L := by
            obtain ⟨_, _, e, -⟩ := HR.out.slice
            simp only [Value.slice.injEq] at e
            rw [← hL]; exact e.2.1
          subst hlen
          have HRD : Hid (∀ V, Dl w V (.slice a n c) M → ∀ q (hq : q < M.length), (∃ b' off', a = some ⟨b', off', none⟩ ∧ V.cell? ⟨b', off' + q * 33, none⟩ = some (.string (M[q]'hq).1.name)) ∧
              ∃ s2a s2m s2c, (∀ X, (Instr.slice 22 (.slice a n c) none (some (.int .i64 (q : Int))) (some (.int .i64 (q : Int)))).run Tryz.prog X = .ok (.slice a q q) X) ∧ (∀ X, (Instr.slice 22 (.slice a n c) (some (.int .i64 ((q : Int) + 1))) none none).run Tryz.prog X = .ok (.slice s2a s2m s2c) X) ∧
              ∃ a3 n3 c3 X, (Builtin.append_ #[22, 22] 22 #[.slice a q q, .slice s2a s2m s2c]).run Tryz.prog V = .ok (.slice a3 n3 c3) X ∧ Below V.heap.size V X ∧ Dl w X (.slice a3 n3 c3) (M.take q ++ M.drop (q + 1))) := by
            intro V hD q hq
            have hl : ∀ z ∈ M, TLen z.1 := fun z hz => (HGM z hz).1
            constructor
            · obtain ⟨b', off', e1, hc⟩ := rw_at (hD.rw hl) q (by rw [List.length_map]; exact hq)
              refine ⟨b', off', e1, ?_⟩
              have := hc 0 (.string (M[q]'hq).1.name) (by simp [List.getD, List.getElem?_eq_getElem hq]; rfl)
              rw [Nat.add_zero] at this
              exact this
            · obtain ⟨a1, s1, p1, -, -, p4, -, c1, e1⟩ := dl_parts hD hl (k := q) (by omega)
              simp only [Value.slice.injEq] at e1
              obtain ⟨rfl, -, -⟩ := e1
              obtain ⟨a2, s2, -, p2, ⟨x1, x2, x3, rfl⟩, -, p5, -⟩ := dl_parts hD hl (k := q + 1) (by omega)
              refine ⟨x1, x2, x3, p1, fun X => ?_, ?_⟩
              · have := p2 X
                rw [show (((q + 1 : Nat)) : Int) = (q : Int) + 1 by omega] at this
                exact this
              · exact del_app hD hq hl (fun z hz => zg_one (HGM z hz)) HLM p4 p5
          clear hT2 HGM HSM
          go_wp2_with fail
          go_loopw [5, 8] (fun u5 u8 w' => ∃ q : Nat, q ≤ n ∧ u8 = .int .i64 q ∧ u5 = .slice a n c ∧ Hid (Dl w w' (.slice a n c) M ∧ ∀ t (ht : t < M.length), t < q → fk (M[t]'ht) ≠ sn.data.toList)) (fun u5 u8 w' => n - (intOf u8).toNat)
          case atStart => exact ⟨0, Nat.zero_le _, rfl, rfl, HR.out, fun t _ h => absurd h (by omega)⟩
          case round =>
            obtain ⟨q, hq, rfl, rfl, HQ⟩ := hrel
            clear HR c0
            by_cases hlt3 : q < n
            rotate_left
            · have h3 : ¬ ((q : Int) < n) := by omega
              have HD : Hid (Dl w wr (.slice a n c) (apz zs (ys.take (j + 1)))) := by
                rw [HNO.out fun t ht => HQ.out.2 t ht (by omega)]
                exact HQ.out.1
              clear HNO HYE HRD HQ HC1
              go_wp2_with fail
              go_roundw
              case rel => exact ⟨j + 1, a, n, c, by omega, by go_num, rfl, HD⟩
              case measure => simp [intOf]; omega
            have h3 : (q : Int) < n := by omega
            have hqM : q < M.length := by omega
            have c1 := HC1.out _ HQ.out.1.below
            obtain ⟨⟨b', off', rfl, cq⟩, s2a, s2m, s2c, p1, p2, -⟩ := HRD.out wr HQ.out.1 q hqM
            by_cases he : fk (M[q]'hqM) = sn.data.toList
            · have d1 := name_yes (a := (M[q]'hqM).1.name) (b := sn) he
              have HE := HYE.out q hqM he
              have HDR : Hid (∀ m, Dl w (wr.drewN m) (.slice (some ⟨b', off', none⟩) n c) M) := fun m => HQ.out.1.after (Go.below_drewN (Below.refl _ _) m)
              clear HNO HYE HQ HC1 he p1 p2
              generalize (M[q]'hqM).1.name = s1 at *
              go_upto_region 14 with fail
              go_quiet (fail)
              go_upto_region 15 with fail
              refine wp_letter (fun X => Dl w X (.slice (some ⟨b', off', none⟩) n c) M) (by exact HDR.out _) ?_
              intro V8 hD8
              obtain ⟨-, s2a, s2m, s2c, p1, p2, a3, n3, c3, X2, hr2, hbx, hD⟩ := HRD.out V8.drew (hD8.after (Below.refl _ _).drew) q hqM
              rw [← HE] at hD
              have HD : Hid (Dl w X2 (.slice a3 n3 c3) (apz zs (ys.take (j + 1)))) := hD
              have ew : IntKind.i64.wrap ((q : Int) + 1) = (q : Int) + 1 := wrap64n (by omega) (by omega)
              clear HRD HDR hD8 HE hD hbx cq c1 d1
              refine wp_region_held_drew (S := fun _ => True) (by kernel_rfl) trivial (fun hHeld => ?_)
              refine wpAnyH_take (i := 0) (v := ?_) rfl (by kernel_rfl) (by kernel_rfl) (by kernel_rfl) (fun _ _ _ h => h) (Or.inl ⟨by rfl, ?qay0⟩) (by assumption) ?qar0
              case qay0 =>
                intro w hSw
                (try dsimp only at hSw)
                go_simp
                all_goals with_reducible rfl
              try simp only [List.getElem_toArray, List.getElem_cons_zero, List.getElem_cons_succ, Act.put, List.setIfInBounds_toArray, List.set_cons_zero, List.set_cons_succ]
              refine wpAnyH_take (i := 1) (v := ?_) rfl (by kernel_rfl) (by kernel_rfl) (by kernel_rfl) (fun _ _ _ h => h) (Or.inl ⟨by rfl, ?qay1⟩) (by assumption) ?qar1
              case qay1 =>
                intro w hSw
                (try dsimp only at hSw)
                go_simp
                all_goals with_reducible rfl
              try simp only [List.getElem_toArray, List.getElem_cons_zero, List.getElem_cons_succ, Act.put, List.setIfInBounds_toArray, List.set_cons_zero, List.set_cons_succ]
              refine wpAnyH_take (i := 2) (v := ?_) rfl (by kernel_rfl) (by kernel_rfl) (by kernel_rfl) (fun _ _ _ h => h) (Or.inl ⟨by rfl, ?qay2⟩) (by assumption) ?qar2
              case qay2 =>
                intro w hSw
                (try dsimp only at hSw)
                go_simp
                all_goals with_reducible rfl
              try simp only [List.getElem_toArray, List.getElem_cons_zero, List.getElem_cons_succ, Act.put, List.setIfInBounds_toArray, List.set_cons_zero, List.set_cons_succ]
              refine wpAnyH_take (i := 3) (v := ?_) rfl (by kernel_rfl) (by kernel_rfl) (by kernel_rfl) (fun _ _ _ h => h) (Or.inl ⟨by rfl, ?qay3⟩) (by assumption) ?qar3
              case qay3 =>
                intro w hSw
                (try dsimp only at hSw)
                go_simp
                all_goals with_reducible rfl
              try simp only [List.getElem_toArray, List.getElem_cons_zero, List.getElem_cons_succ, Act.put, List.setIfInBounds_toArray, List.set_cons_zero, List.set_cons_succ]
              refine wpAnyH_take (i := 4) (v := ?_) rfl (by kernel_rfl) (by kernel_rfl) (by kernel_rfl) (fun _ _ _ h => h) (Or.inl ⟨by rfl, ?qay4⟩) (by assumption) ?qar4
              case qay4 =>
                intro w hSw
                (try dsimp only at hSw)
                go_simp
                all_goals with_reducible rfl
              try simp only [List.getElem_toArray, List.getElem_cons_zero, List.getElem_cons_succ, Act.put, List.setIfInBounds_toArray, List.set_cons_zero, List.set_cons_succ]
              refine wpAnyH_take (i := 5) (v := ?_) rfl (by kernel_rfl) (by kernel_rfl) (by kernel_rfl) (fun _ _ _ h => h) (Or.inl ⟨by rfl, ?qay5⟩) (by assumption) ?qar5
              case qay5 =>
                intro w hSw
                (try dsimp only at hSw)
                go_simp
                all_goals with_reducible rfl
              try simp only [List.getElem_toArray, List.getElem_cons_zero, List.getElem_cons_succ, Act.put, List.setIfInBounds_toArray, List.set_cons_zero, List.set_cons_succ]
              refine wpAnyH_take (i := 6) (v := ?_) rfl (by kernel_rfl) (by kernel_rfl) (by kernel_rfl) (fun _ _ _ h => h) (Or.inl ⟨by rfl, ?qay6⟩) (by assumption) ?qar6
              case qay6 =>
                intro w hSw
                (try dsimp only at hSw)
                go_simp
                all_goals with_reducible rfl
              try simp only [List.getElem_toArray, List.getElem_cons_zero, List.getElem_cons_succ, Act.put, List.setIfInBounds_toArray, List.set_cons_zero, List.set_cons_succ]
              refine wpAnyH_take (i := 7) (v := ?_) rfl (by kernel_rfl) (by kernel_rfl) (by kernel_rfl) (fun _ _ _ h => h) (Or.inl ⟨by rfl, ?qay7⟩) (by assumption) ?qar7
              case qay7 =>
                intro w hSw
                (try dsimp only at hSw)
                go_simp
                all_goals with_reducible rfl
              try simp only [List.getElem_toArray, List.getElem_cons_zero, List.getElem_cons_succ, Act.put, List.setIfInBounds_toArray, List.set_cons_zero, List.set_cons_succ]
              refine wpAnyH_ready (rs := [8]) (by kernel_rfl) (by simp) ?_
              refine AllReadyH.cons rfl (fun K hK => ?_) AllReadyH.nil
              refine step_append_run rfl (.tmp 59) (.tmp 63) 22 22 rfl (by first | rfl | simp [Act.eval]) (by first | rfl | simp [Act.eval]) hr2 ?_
              refine hK.out _ _ trivial (fun hHeld => ?_)
              clear hK K
              try simp only [List.getElem_toArray, List.getElem_cons_zero, List.getElem_cons_succ, Act.put, List.setIfInBounds_toArray, List.set_cons_zero, List.set_cons_succ]
              refine wpAnyH_take (i := 9) (v := ?_) rfl (by kernel_rfl) (by kernel_rfl) (by kernel_rfl) (fun _ _ _ h => h) (Or.inl ⟨by rfl, ?qazy9⟩) (by assumption) ?qazr9
              case qazy9 =>
                intro w hSw
                (try dsimp only at hSw)
                go_simp
                all_goals with_reducible rfl
              try simp only [List.getElem_toArray, List.getElem_cons_zero, List.getElem_cons_succ, Act.put, List.setIfInBounds_toArray, List.set_cons_zero, List.set_cons_succ]
              refine wpAnyH_done (by kernel_rfl) ?_ _
              clear hr2 p1 p2 ew
              go_wp2_with fail
              go_roundw
              case rel => exact ⟨j + 1, a3, n3, c3, by omega, by go_num, rfl, HD⟩
              case measure => simp [intOf]; omega
            · have d1 := name_ne (a := (M[q]'hqM).1.name) (b := sn) he
              have HF : Hid (∀ m, Dl w (wr.drewN m) (.slice (some ⟨b', off', none⟩) n c) M ∧ ∀ t (ht : t < M.length), t < q + 1 → fk (M[t]'ht) ≠ sn.data.toList) := by
                intro m
                refine ⟨HQ.out.1.after (Go.below_drewN (Below.refl _ _) m), fun t ht htq => ?_⟩
                rcases Nat.lt_or_ge t q with h | h
                · exact HQ.out.2 t ht h
                · obtain rfl : t = q := by omega
                  exact he
              clear HNO HYE HRD HQ HC1 he p1 p2
              generalize (M[q]'hqM).1.name = s1 at *
              go_upto_region 14 with fail
              go_quiet (fail)
              go_wp2_with fail
              go_roundw
              case rel => exact ⟨q + 1, by omega, by go_num, rfl, HF.out _⟩
              case measure => simp [intOf]; omega
end Df
end Go.Proofs.YtbccadbnaggkhaaGreat

