/-
  Sessions, the program's own: Peer.
-/
import Derived.Test.YtgeeijinhneoiaaSpAdd
namespace Go.Proofs.Ytgeeijinhneoiaa
open Go.RowKit
open Sm
open Po
open Wh
set_option linter.unusedVariables false
set_option linter.unusedSimpArgs false
set_option maxRecDepth 20000

namespace Ss
theorem bsl_none (X : World) : (Instr.buildSlice 37 0 #[]).run Try.prog X = .ok (.slice (some ⟨X.heap.size, 0, none⟩) 0 0) (X.alloc (.cells #[] 34)) := by kernel_rfl
set_option maxHeartbeats 4000000 in
/-- slices.Clone of points. -/
theorem clone_any {w W : World} {L : List (Nat × Obj)} {v : Value} {l : List Pn} (hp : PR W v l) (hM : Mem w W L) (h0 : 0 < l.length) (hn : l.length ≤ 1000000) :
    Calls Try.prog 45 #[v] W fun e W' => ∃ v' D, e = .returned v' ∧ SlF 34 2 v' l.length (px l).flatten D ∧ Mem w W' (D ++ L) := by
  obtain ⟨a, c, rfl, h1, h2, h3, h4⟩ := hp
  rw [px_len] at h1
  rcases h4 with h4 | ⟨b, off, rfl, hx⟩
  · have := congrArg List.length h4
    rw [px_len] at this
    simp at this
    subst this
    simp at h0
  have hb := bsl_none W
  have hA := hM.after ((Below.refl _ _).alloc (Nat.le_refl _) (.cells #[] 34))
  have hcell : ∀ j u, (px l).flatten[j]? = some u → (W.alloc (.cells #[] 34)).cell? ((⟨b, off, none⟩ : Addr).add j) = some u := fun j u hj => by
    obtain ⟨k1, k2⟩ := flat_of (by decide) px_two hj
    have := hx (j / 2) k1 (j % 2) u k2
    rw [Nat.add_assoc, Nat.div_add_mod'] at this
    rw [Addr.add_mid, World.cell?_alloc_some _ _ _ (by rw [this]; rfl)]
    exact this
  obtain ⟨q, cap, cur, hrun, hq, hS⟩ := slf_append (n := 0) (ty := 37) (a := some ⟨W.heap.size, 0, none⟩) (B := []) (xs := []) Try.underlying37 infoPt (by kernel_rfl) ⟨rfl, _, _, rfl, Nat.le_refl _, by simp [maxLen], nofun, Or.inl rfl⟩ (hA : Mem w _ ([] ++ L)) ⟨b, off, none⟩ l.length c h0 (px l).flatten (by rw [fl_len px_two, px_len]) hcell (by simp only [maxLen]; omega) (by omega)
  simp only [Nat.zero_add, List.nil_append] at hrun hS
  have HZ : Hid (SlF 34 2 (.slice (some ⟨q, 0, none⟩) l.length cap) l.length (px l).flatten [(q, .cells cur 34 (0, 0))] ∧ Mem w ((W.alloc (.cells #[] 34)).drew.alloc (.cells cur 34)) ([(q, .cells cur 34 (0, 0))] ++ L)) := ⟨hS, (hA.drew.push q _ (by rw [hq]; rfl)).perm List.perm_append_comm⟩
  have HL : Hid (0 < l.length ∧ l.length ≤ 1000000) := ⟨h0, hn⟩
  obtain ⟨n, hnn⟩ : ∃ n, l.length = n := ⟨_, rfl⟩
  rw [px_len]
  rw [hnn] at hrun HZ h1 ⊢
  clear hnn h0 hn
  generalize hW2 : (W.alloc (.cells #[] 34)).drew.alloc (.cells cur 34) = W2 at *
  clear hS hq hA hcell hx hM hW2 h3
  have hnil : (Go.binOp BinOp.eql 37 (.slice (some ⟨b, off, none⟩) n c) (.slice none 0 0)).run Try.prog W = .ok (.bool false) W := by kernel_rfl
  go_enter Try.func45, Try.ntmps45
  go_wp2_with (first | (refine wpList_append_run (.tmp 5) (.tmp 6) 37 37 rfl hrun rfl (by rfl) (by simp [Act.eval]) (by simp [Act.eval]) ?_) | fail)
  go_ret
  exact ⟨_, _, rfl, HZ.out.1, HZ.out.2⟩
set_option maxHeartbeats 8000000 in
theorem peer_any {W : World} {v : Value} {l : List Pn} (h : PR W v l) (hl : l.length ≤ 1000) (p : Pn) :
    Calls Try.prog 31 #[v, .agg #[.int .u32 p.1, .int .u16 p.2]] W fun e W' => ∃ v', e = .returned v' ∧ ∃ D, SlF 34 2 v' (peer l p).length (px (peer l p)).flatten D ∧ Mem W W' D := by
  obtain ⟨a, c, rfl, h1, h2, hx⟩ := pr_at h
  obtain ⟨p1, p2⟩ := p
  simp only
  obtain ⟨g, hg⟩ : ∃ g, W.heap.size = g := ⟨_, rfl⟩
  have HM0 : Hid (Mem W (W.alloc (.cells #[.int .u32 p1, .int .u16 p2] 34)) ([] ++ [(g, .cells #[.int .u32 p1, .int .u16 p2] 34 (0, 0))])) := (Mem.nil W).push1 hg.symm
  have HX : Hid (∀ i (hi : i < l.length), ∃ b off, a = some ⟨b, off, none⟩ ∧ ∀ V, Below W.heap.size W V → V.cell? ⟨b, off + i * 2, none⟩ = some (.int .u32 l[i].1) ∧ V.cell? ⟨b, off + i * 2 + 1, none⟩ = some (.int .u16 l[i].2)) := hx
  obtain ⟨n, hn⟩ : ∃ n, l.length = n := ⟨_, rfl⟩
  have HN : Hid (l.length = n) := hn
  rw [hn] at h1 hl ⊢
  clear hx h hn
  go_enter Try.func31, Try.ntmps31
  go_upto_region 1 with fail
  refine wp_letter (fun X => Mem W X ([] ++ [(g, .cells #[.int .u32 p1, .int .u16 p2] 34 (0, 0))])) (by exact HM0.out) ?_
  intro V0 hM0
  try simp only [hg]
  have H0 : Hid (Mem W V0 ([] ++ [(g, .cells #[.int .u32 p1, .int .u16 p2] 34 (0, 0))])) := hM0
  clear HM0 hM0
  go_wp2_with fail
  go_loopw [5, 10] (fun u5 u10 w' => ∃ i : Nat, i ≤ n ∧ u10 = .int .i64 i ∧ Hid (∃ D, SlB 34 2 u5 (wout (p1, p2) (l.take i)).length (px (wout (p1, p2) (l.take i))).flatten D ∧ Mem W w' (D ++ [(g, .cells #[.int .u32 p1, .int .u16 p2] 34 (0, 0))]))) (fun u5 u10 w' => n - (intOf u10).toNat)
  case atStart => exact ⟨0, Nat.zero_le _, rfl, [], SlB.nil _ _, H0.out⟩
  case round =>
    obtain ⟨i, hi, rfl, HR⟩ := hrel
    clear H0
    obtain ⟨D, hD, hM⟩ := HR.out
    have hwl := wout_len (p1, p2) (l.take i)
    have htl : (l.take i).length ≤ i := by rw [List.length_take]; omega
    by_cases hlt : i < n
    · have k1 : (i : Int) < n := by omega
      have i1 : i < l.length := by rw [HN.out]; exact hlt
      obtain ⟨b, off, rfl, hV⟩ := HX.out i i1
      obtain ⟨c0, c1⟩ := hV _ hM.below
      have hyes := fun x hx => wout_yes (p := (p1, p2)) (x := x) i1 hx
      have hno := wout_no (p := (p1, p2)) i1
      clear hV HR HX
      generalize l[i] = x at *
      clear i1
      obtain ⟨x1, x2⟩ := x
      simp only at c0 c1
      have heq := pt_eq x1 x2 p1 p2
      obtain ⟨ua, uc, rfl, v1, v2⟩ := hD.slice
      obtain ⟨h, hh⟩ : ∃ h, wr.heap.size = h := ⟨_, rfl⟩
      have HM1 : Hid (Mem W (wr.alloc (.cells #[.int .u32 x1, .int .u16 x2] 34)) (D ++ [(g, .cells #[.int .u32 p1, .int .u16 p2] 34 (0, 0)), (h, .cells #[.int .u32 x1, .int .u16 x2] 34 (0, 0))])) := by
        have := hM.push h (.cells #[.int .u32 x1, .int .u16 x2] 34) hh.symm
        rw [List.append_assoc] at this
        exact this
      have HD : Hid (SlB 34 2 (.slice ua (wout (p1, p2) (l.take i)).length uc) (wout (p1, p2) (l.take i)).length (px (wout (p1, p2) (l.take i))).flatten D) := hD
      obtain ⟨nd, hnd⟩ : ∃ nd, (wout (p1, p2) (l.take i)).length = nd := ⟨_, rfl⟩
      have HND : Hid ((wout (p1, p2) (l.take i)).length = nd) := hnd
      rw [hnd] at v1 hwl ⊢
      clear hD hM hnd
      go_upto_region 5 with fail
      refine wp_letter (fun X => Mem W X (D ++ [(g, .cells #[.int .u32 p1, .int .u16 p2] 34 (0, 0)), (h, .cells #[.int .u32 x1, .int .u16 x2] 34 (0, 0))])) (by exact HM1.out) ?_
      intro X hX
      clear HM1 c0 c1
      try simp only [hh]
      have hX0 := hX.perm (show List.Perm _ ((h, .cells #[.int .u32 x1, .int .u16 x2] 34 (0, 0)) :: (g, .cells #[.int .u32 p1, .int .u16 p2] 34 (0, 0)) :: D) from by
    classical
    rw [List.perm_iff_count]
    intro q
    simp only [List.count_append, List.count_cons, List.count_nil]
    omega)
      have d0 : X.cell? ⟨h, 0, none⟩ = some (.int .u32 x1) := hX0.cell 0 rfl 0
      have d1 : X.cell? ⟨h, 1, none⟩ = some (.int .u16 x2) := hX0.cell 0 rfl 1
      have q0 : X.cell? ⟨g, 0, none⟩ = some (.int .u32 p1) := hX0.cell 1 rfl 0
      have q1 : X.cell? ⟨g, 1, none⟩ = some (.int .u16 p2) := hX0.cell 1 rfl 1
      have hX2 : Mem W X (D ++ [(g, .cells #[.int .u32 p1, .int .u16 p2] 34 (0, 0))]) := by
        have := hX0.sub
        exact this.perm (show List.Perm _ (D ++ [(g, .cells #[.int .u32 p1, .int .u16 p2] 34 (0, 0))]) from by
    classical
    rw [List.perm_iff_count]
    intro q
    simp only [List.count_append, List.count_cons, List.count_nil]
    omega)
      clear hX hX0
      by_cases e1 : x1 = p1 ∧ x2 = p2
      · obtain ⟨rfl, rfl⟩ := e1
        simp only [BEq.rfl, Bool.and_self] at heq
        have HD2 : Hid (∃ D, SlB 34 2 (.slice ua nd uc) (wout (x1, x2) (l.take (i + 1))).length (px (wout (x1, x2) (l.take (i + 1)))).flatten D ∧ Mem W X (D ++ [(g, .cells #[.int .u32 x1, .int .u16 x2] 34 (0, 0))])) := ⟨D, by rw [hno rfl, ← HND.out]; exact HD.out, hX2⟩
        clear HD hX2 hyes hno
        go_wp2_with fail
        go_roundw
        case rel => exact ⟨i + 1, by omega, by go_num, HD2.out⟩
        case measure => simp [intOf]; omega
      · have hne : (x1 == p1 && x2 == p2) = false := by
          rw [Bool.eq_false_iff]
          intro h
          simp at h
          exact e1 h
        rw [hne] at heq
        have hy := hyes (x1, x2) rfl (fun h => e1 (Prod.mk.inj h))
        have HY : Hid (wout (p1, p2) (l.take (i + 1)) = wout (p1, p2) (l.take i) ++ [(x1, x2)]) := hy
        obtain ⟨h2, hh2⟩ : ∃ h2, X.heap.size = h2 := ⟨_, rfl⟩
        have hbs := bsl_pt x1 x2 X
        rw [hh2] at hbs
        obtain ⟨v', V', D', hap, hM2, hS2⟩ := slb_pt (x1, x2) HD.out hX2 hh2 (by rw [HND.out]; omega)
        rw [HND.out] at hap
        rw [← HY.out] at hS2
        obtain ⟨ra, rc, rfl, r1, r2⟩ := hS2.slice
        have HZ : Hid (∃ D, SlB 34 2 (.slice ra (wout (p1, p2) (l.take (i + 1))).length rc) (wout (p1, p2) (l.take (i + 1))).length (px (wout (p1, p2) (l.take (i + 1)))).flatten D ∧ Mem W V' (D ++ [(g, .cells #[.int .u32 p1, .int .u16 p2] 34 (0, 0))])) := ⟨D', hS2, hM2⟩
        obtain ⟨nd2, hnd2⟩ : ∃ nd2, (wout (p1, p2) (l.take (i + 1))).length = nd2 := ⟨_, rfl⟩
        have HN2 : Hid ((wout (p1, p2) (l.take (i + 1))).length = nd2) := hnd2
        rw [hnd2] at hap
        clear hnd2 hX2 hM2 hS2 HD HY HND r1 hy hyes hno e1 hne
        go_wp2_with (first | (refine wpList_append_run (.tmp 17) (.tmp 19) 37 37 rfl hap rfl (by rfl) (by simp [Act.eval]) (by simp [Act.eval]) ?_) | fail)
        go_roundw
        case rel => exact ⟨i + 1, by omega, by go_num, by rw [← HN2.out]; exact HZ.out⟩
        case measure => simp [intOf]; omega
    · have k1 : ¬ ((i : Int) < n) := by omega
      obtain rfl : i = n := by omega
      have ht : l.take i = l := by rw [← HN.out, List.take_length]
      rw [ht] at hD hwl
      have hll : l.length = i := HN.out
      obtain ⟨ua, uc, rfl, v1, v2⟩ := hD.slice
      have q0 : wr.cell? ⟨g, 0, none⟩ = some (.int .u32 p1) := by
        have := (hM.perm List.perm_append_comm).cell 0 rfl 0
        exact this
      have q1 : wr.cell? ⟨g, 1, none⟩ = some (.int .u16 p2) := by
        have := (hM.perm List.perm_append_comm).cell 0 rfl 1
        exact this
      have HD : Hid (SlB 34 2 (.slice ua (wout (p1, p2) l).length uc) (wout (p1, p2) l).length (px (wout (p1, p2) l)).flatten D ∧ Mem W wr (D ++ [(g, .cells #[.int .u32 p1, .int .u16 p2] 34 (0, 0))])) := ⟨hD, hM⟩
      obtain ⟨h, hh⟩ : ∃ h, wr.heap.size = h := ⟨_, rfl⟩
      have hbs := bsl_pt p1 p2 wr
      rw [hh] at hbs
      obtain ⟨v', V', D', hap, hM2, hS2⟩ := slb_pt (p1, p2) HD.out.1 HD.out.2 hh (by omega)
      obtain ⟨ra, rc, rfl, r1, r2⟩ := hS2.slice
      obtain ⟨O, hO⟩ : ∃ O, wout (p1, p2) l ++ [(p1, p2)] = O := ⟨_, rfl⟩
      have hol : O.length = (wout (p1, p2) l).length + 1 := by rw [← hO]; simp
      have hpe : peer l (p1, p2) = O.drop (O.length - 8) := by unfold peer; rw [hO]
      rw [hO] at hap hS2 r1
      obtain ⟨m, hm⟩ : ∃ m, O.length - 8 = m := ⟨_, rfl⟩
      rw [hm] at hpe
      have HPE : Hid (peer l (p1, p2) = O.drop m) := hpe
      obtain ⟨nd, hnd⟩ : ∃ nd, (wout (p1, p2) l).length = nd := ⟨_, rfl⟩
      rw [hnd] at hap hwl hol ⊢
      have hpl : (O.drop m).length = O.length - m := List.length_drop
      have hS3 := slf_tail (slb_slf hS2) (k := m) (by omega)
      have C1 := clone_any (w := W) (W := V') (SlF.rw px_two (by rw [px_len]; rw [← hpl] at hS3; exact hS3) hM2) hM2 (by rw [hpl]; omega) (by rw [hpl]; omega)
      have hsl := pslice_from V' ra O.length rc m (by omega)
      rw [hpl] at C1
      obtain ⟨ra2, hra2⟩ : ∃ ra2, (if rc = m then ra else ra.map (·.add (m * 2))) = ra2 := ⟨_, rfl⟩
      rw [hra2] at hsl C1
      have HPL : Hid ((O.drop m).length = O.length - m) := hpl
      clear hD hM HR HX HD ht hO hpe hM2 hnd hll hS2 hra2 hpl hS3
      by_cases h8 : 8 < O.length
      · have k2 : (8 : Int) < O.length := by omega
        have w1 : IntKind.i64.wrap ((O.length : Int) - 8) = (m : Int) := by rw [IntKind.wrap_i64]; omega
        have w2 : (0 : Int) < (m : Int) := by omega
        have w3 : (0 : Int) ≤ (m : Int) := by omega
        obtain ⟨nO, hnO⟩ : ∃ nO, O.length = nO := ⟨_, rfl⟩
        have HNO : Hid (O.length = nO) := hnO
        rw [hnO] at hap hsl w1 k2 C1
        clear hol hm hnO h8 r1
        go_wp2_with (first | (refine wpList_append_run (.tmp 22) (.tmp 24) 37 37 rfl hap rfl (by rfl) (by simp [Act.eval]) (by simp [Act.eval]) ?_) | fail)
        with_reducible refine C1.mono ?_
        rintro e W2 ⟨v2, D2, rfl, hs2, hm2⟩
        clear C1 hap hsl
        have HZ2 : Hid (SlF 34 2 v2 (nO - m) (px (O.drop m)).flatten D2 ∧ Mem W W2 (D2 ++ (D' ++ [(g, .cells #[.int .u32 p1, .int .u16 p2] 34 (0, 0))]))) := ⟨hs2, hm2⟩
        clear hs2 hm2
        go_wp2_with fail
        go_ret
        obtain ⟨z1, z2⟩ := HZ2.out
        refine ⟨_, rfl, D2 ++ (D' ++ [(g, .cells #[.int .u32 p1, .int .u16 p2] 34 (0, 0))]), ?_, z2⟩
        rw [HPE.out, HPL.out, HNO.out]
        exact z1.mono fun q hq => List.mem_append_left _ hq
      · have k2 : ¬ (8 : Int) < O.length := by omega
        obtain rfl : m = 0 := by omega
        have w1 : IntKind.i64.wrap ((O.length : Int) - 8) = (O.length : Int) - 8 := by rw [IntKind.wrap_i64]; omega
        have w2 : ¬ (0 : Int) < (O.length : Int) - 8 := by omega
        have w3 : (O.length : Int) - 8 ≤ 0 := by omega
        obtain ⟨nO, hnO⟩ : ∃ nO, O.length = nO := ⟨_, rfl⟩
        have HNO : Hid (O.length = nO) := hnO
        rw [hnO] at hap hsl w1 k2 C1 w2 w3
        simp only [Nat.sub_zero, Int.ofNat_zero, Int.natCast_zero, Int.cast_ofNat_Int] at hsl C1
        obtain ⟨nz, hnz⟩ : ∃ nz, (nO : Int) - 8 = nz := ⟨_, rfl⟩
        rw [hnz] at w1 w2 w3
        clear hol hm hnO h8 r1
        go_wp2_with (first | (refine wpList_append_run (.tmp 22) (.tmp 24) 37 37 rfl hap rfl (by rfl) (by simp [Act.eval]) (by simp [Act.eval]) ?_) | fail)
        with_reducible refine C1.mono ?_
        rintro e W2 ⟨v2, D2, rfl, hs2, hm2⟩
        clear C1 hap hsl
        have HZ2 : Hid (SlF 34 2 v2 nO (px (O.drop 0)).flatten D2 ∧ Mem W W2 (D2 ++ (D' ++ [(g, .cells #[.int .u32 p1, .int .u16 p2] 34 (0, 0))]))) := ⟨hs2, hm2⟩
        clear hs2 hm2
        go_wp2_with fail
        go_ret
        obtain ⟨z1, z2⟩ := HZ2.out
        refine ⟨_, rfl, D2 ++ (D' ++ [(g, .cells #[.int .u32 p1, .int .u16 p2] 34 (0, 0))]), ?_, z2⟩
        rw [HPE.out, HPL.out, HNO.out]
        exact z1.mono fun q hq => List.mem_append_left _ hq
end Ss
end Go.Proofs.Ytgeeijinhneoiaa
