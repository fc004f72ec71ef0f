/-
  Sessions: SessPlays.
-/
import Derived.Test.YtgeeijinhneoiaaSsPl0
import Derived.Deep.CutBlock
namespace Go.Proofs.Ytgeeijinhneoiaa
open Go.RowKit
open Sm
open Po
open Wh
set_option linter.unusedVariables false
set_option linter.unusedSimpArgs false
set_option maxRecDepth 20000

namespace Ss
/-- What a script's table holds. -/
def XG (xs : List Sn) (k : Nat) : Prop := xs.length ≤ k ∧ ∀ x ∈ xs, SIn x ∧ x.ps.length ≤ 20
theorem mem_ins {s y : Sn} : ∀ {xs : List Sn}, y ∈ ins s xs → y = s ∨ y ∈ xs
  | [], h => by simp [ins] at h; exact Or.inl h
  | x :: r, h => by
    unfold ins at h
    split at h
    · rcases List.mem_cons.1 h with rfl | h
      · exact Or.inr (List.mem_cons_self ..)
      · rcases mem_ins h with h | h
        · exact Or.inl h
        · exact Or.inr (List.mem_cons_of_mem _ h)
    · rcases List.mem_cons.1 h with rfl | h
      · exact Or.inl rfl
      · exact Or.inr h
theorem mem_pt {s y : Sn} : ∀ {xs : List Sn}, y ∈ pt s xs → y ∈ xs ∨ ∃ x ∈ xs, y = { s with oip := x.oip, op := x.op }
  | [], h => by cases h
  | x :: r, h => by
    unfold pt at h
    split at h
    · rcases List.mem_cons.1 h with rfl | h
      · exact Or.inr ⟨x, List.mem_cons_self .., rfl⟩
      · exact Or.inl (List.mem_cons_of_mem _ h)
    · rcases List.mem_cons.1 h with rfl | h
      · exact Or.inl (List.mem_cons_self ..)
      · rcases mem_pt h with h | ⟨z, hz, e⟩
        · exact Or.inl (List.mem_cons_of_mem _ h)
        · exact Or.inr ⟨z, List.mem_cons_of_mem _ hz, e⟩
theorem mem_dk {k : Ky} {y : Sn} : ∀ {xs : List Sn}, y ∈ dk k xs → y ∈ xs
  | [], h => by cases h
  | x :: r, h => by
    unfold dk at h
    split at h
    · exact List.mem_cons_of_mem _ h
    · rcases List.mem_cons.1 h with rfl | h
      · exact List.mem_cons_self ..
      · exact List.mem_cons_of_mem _ (mem_dk h)
theorem XG.ax {xs : List Sn} {k : Nat} (h : XG xs k) {s : Sn} (hs : SIn s) (hp : s.ps.length ≤ 20) (most : Int) : XG (ax s most xs) (k + 1) := by
  unfold Ss.ax
  split
  · refine ⟨by rw [ins_len]; have := h.1; omega, fun x hx => ?_⟩
    rcases mem_ins hx with rfl | hx
    · exact ⟨hs, hp⟩
    · exact h.2 x hx
  · exact ⟨by have := h.1; omega, h.2⟩
theorem XG.pt {xs : List Sn} {k : Nat} (h : XG xs k) {s : Sn} (hs : SIn s) (hp : s.ps.length ≤ 20) : XG (pt s xs) (k + 1) := by
  refine ⟨by rw [pt_len]; have := h.1; omega, fun x hx => ?_⟩
  rcases mem_pt hx with hx | ⟨z, hz, rfl⟩
  · exact h.2 x hx
  · exact ⟨⟨hs.1, (h.2 z hz).1.2.1, hs.2.2⟩, hp⟩
theorem XG.dk {xs : List Sn} {j : Nat} (h : XG xs j) (k : Ky) : XG (dk k xs) (j + 1) := by
  have := dk_le k xs
  exact ⟨by have := h.1; omega, fun x hx => h.2 x (mem_dk hx)⟩
/-- Both tables hold these. -/
def Tw (PS : List Sn → Nat → List (Nat × Obj) → Prop) (W : World) (t m : Nat) (xs : List Sn) (E : List (Nat × Obj)) (wx : World) : Prop := ∃ Bp Bd, PS xs t Bp ∧ RT xs m Bd ∧ Mem W wx (Bp ++ (Bd ++ E))
section
variable {PS : List Sn → Nat → List (Nat × Obj) → Prop}
theorem Tw.mem {W wx : World} {t m : Nat} {xs : List Sn} {E : List (Nat × Obj)} (h : Tw PS W t m xs E wx) : ∃ B, Mem W wx (E ++ B) ∧ ∀ V E', Mem W V (E' ++ B) → Tw PS W t m xs E' V := by
  obtain ⟨Bp, Bd, h1, h2, hM⟩ := h
  refine ⟨Bp ++ Bd, hM.perm (by
    classical
    rw [List.perm_iff_count]
    intro q
    simp only [List.count_append, List.count_cons, List.count_nil]
    omega), fun V E' hV => ⟨Bp, Bd, h1, h2, hV.perm (by
    classical
    rw [List.perm_iff_count]
    intro q
    simp only [List.count_append, List.count_cons, List.count_nil]
    omega)⟩⟩
theorem Tw.list {W wx : World} {t m : Nat} {xs : List Sn} {E : List (Nat × Obj)} (h : Tw PS W t m xs E wx) : ∃ a c, xs.length ≤ c ∧ c ≤ 9223372036854775807 ∧ wx.cell? ⟨m, 0, none⟩ = some (.slice a xs.length c) ∧ SL wx (.slice a xs.length c) xs ∧ ∀ i (hi : i < xs.length), ∃ pv b off, a = some ⟨b, off, none⟩ ∧ Bo wx b (off + i * 9) xs[i] pv := by
  obtain ⟨Bp, Bd, h1, h2, hM⟩ := h
  obtain ⟨zs, a, c, ez, hc, hr, hp⟩ := h2.read (hM.perm (show List.Perm _ (Bd ++ (Bp ++ E)) from by
    classical
    rw [List.perm_iff_count]
    intro q
    simp only [List.count_append, List.count_cons, List.count_nil]
    omega))
  obtain ⟨hl, hx⟩ := rt_at ez hr hp
  obtain ⟨a', c', e1, h3, h4, -⟩ := sl_at hr
  simp only [Value.slice.injEq, true_and] at e1
  obtain ⟨rfl, rfl⟩ := e1
  rw [hl] at hc h3
  refine ⟨a, c, h3, h4, hc, ⟨zs, ez, by rw [← hl]; exact hr, hp⟩, fun i hi => ?_⟩
  obtain ⟨pv, b, off, e, hV⟩ := hx i hi
  exact ⟨pv, b, off, e, (hV wx (Below.refl _ _)).1⟩
theorem mem_tail {W V : World} {A B : List (Nat × Obj)} (h : Mem W V (A ++ B)) : Mem W V B := by
  induction A with
  | nil => exact h
  | cons x A ih => exact ih h.sub
set_option maxHeartbeats 32000000 in
theorem plays19_law (W : World) (hc : SC W PS) (a : Option Addr) (n cap : Nat) (hnc : n ≤ cap) (X : Nat → A19) (hX : Acts19 W a n X) :
    Calls Try.prog 3 #[.slice a n cap] W fun e W' => e = .returned (.bool true) ∧ Below W.heap.size W W' := by
  have K1 := known19_any W hc
  have HC : Hid (SC W PS) := hc
  have HX : Hid (∀ V, Below W.heap.size W V → Acts19 V a n X) := fun V hV i hi => by
    obtain ⟨hw, b, off, pv, e, hp, hc⟩ := hX i hi
    exact ⟨hw, b, off, pv, e, hp.below hV (Nat.le_refl _), fun j u hj => by rw [hV.cell (p := ⟨b, off + i * 13 + j, none⟩) (cell_lt (hc j u hj))]; exact hc j u hj⟩
  clear hX hc
  go_enter Try.func3, Try.ntmps3
  go_wp2_with fail
  with_reducible refine K1.mono ?_
  rintro e W1 ⟨rfl, hb1⟩
  have K2 := light19_any (n := n) (cap := cap) (HX.out W1 hb1)
  have HB1 : Hid (Below W.heap.size W W1) := hb1
  clear K1 hb1
  go_wp2_with fail
  with_reducible refine K2.mono ?_
  rintro e W2 ⟨r, rfl, rfl, hr⟩
  clear K2
  cases r with
  | false =>
    go_wp2_with fail
    go_ret
    exact ⟨rfl, HB1.out⟩
  | true =>
  obtain ⟨hn60, hps⟩ := hr (by simp)
  have HPS : Hid (∀ j, j < n → (X j).s.ps.length ≤ 20) := hps
  have C1 := HC.out.new W1 HB1.out
  clear hr hps
  go_wp2_with fail
  with_reducible refine C1.mono ?_
  rintro e W2 ⟨t, B, rfl, h1, m1⟩
  obtain ⟨m, hm⟩ : ∃ m, W2.heap.size = m := ⟨_, rfl⟩
  have HT0 : Hid (Tw PS W t m [] [] (W2.alloc (.cells #[.slice none 0 0] 30))) := by
    have m2 : Mem W W2 B := ⟨HB1.out.trans (m1.below.mono HB1.out.size), fun q hq => Nat.le_trans HB1.out.size (m1.low q hq), m1.at_, m1.apart⟩
    refine ⟨B, [(m, .cells #[.slice none 0 0] 30 (0, 0))], h1, ⟨[], .slice none 0 0, [], [], rfl, SlF.nil _ _ _, rfl, by simp⟩, ?_⟩
    rw [List.append_nil]
    exact m2.push m _ hm.symm
  clear C1 h1 m1 HB1
  go_upto_region 6 with fail
  refine wp_letter (fun X => Tw PS W t m [] [] X) (by exact HT0.out) ?_
  intro W3 hT3
  try simp only [hm]
  clear HT0
  have HT3 : Hid (Tw PS W t m [] [] W3) := hT3
  clear hT3
  go_wp2_with fail
  go_loopw [5] (fun u5 w' => ∃ i : Nat, i ≤ n ∧ u5 = .int .i64 i ∧ Hid (∃ xs, XG xs i ∧ Tw PS W t m xs [] w')) (fun u5 w' => n - (intOf u5).toNat)
  case atStart => exact ⟨0, Nat.zero_le _, rfl, [], ⟨Nat.le_refl _, by simp⟩, HT3.out⟩
  case round =>
    obtain ⟨i, hi, rfl, HR⟩ := hrel
    clear HT3
    by_cases hlt : i < n
    · have j1 : (i : Int) < n := by omega
      obtain ⟨xs, hxg, hT⟩ := HR.out
      have hbel : Below W.heap.size W wr := by
        obtain ⟨B, hM, -⟩ := hT.mem
        exact hM.below
      obtain ⟨hw, b, off, pv, rfl, hp, hcell⟩ := HX.out wr hbel i hlt
      have hpW : PR W pv (X i).s.ps := by
        obtain ⟨hw', b', off', pv', e', hp', hc'⟩ := HX.out W (Below.refl _ _) i hlt
        simp only [Option.some.injEq, Addr.mk.injEq, and_true] at e'
        obtain ⟨rfl, rfl⟩ := e'
        have u1 := hcell 7 _ rfl
        have u2 := hc' 7 _ rfl
        rw [hbel.cell (p := ⟨b, off + i * 13 + 7, none⟩) (cell_lt u2)] at u1
        rw [u2] at u1
        rw [← Option.some.inj u1]
        exact hp'
      have hps := HPS.out i hlt
      have hlen : xs.length ≤ 1000 := by have := hxg.1; omega
      generalize X i = x at *
      obtain ⟨what, ⟨k1, k2, k3, f4, f5, f6, ps, f7, f8⟩, most, kk, own⟩ := x
      simp only at hps hp hpW
      obtain ⟨pa, pb, rfl, p1, p2, -⟩ := pr_at hp
      obtain ⟨np, hnp⟩ : ∃ np, ps.length = np := ⟨_, rfl⟩
      have HNP : Hid (ps.length = np) := hnp
      have HPW : Hid (PR W (.slice pa ps.length pb) ps) := hpW
      have HPL : Hid (ps.length ≤ 20) := hps
      rw [hnp] at p1 hcell
      have HW : Hid (A19W ⟨what, (⟨k1, k2, k3, f4, f5, f6, ps, f7, f8⟩ : Sn), most, kk, own⟩) := hw
      have HXG : Hid (XG xs i ∧ xs.length ≤ 1000) := ⟨hxg, hlen⟩
      have e0 := hcell 0 _ rfl
      have e1 := hcell 1 _ rfl
      have e2 := hcell 2 _ rfl
      have e3 := hcell 3 _ rfl
      have e4 := hcell 4 _ rfl
      have e5 := hcell 5 _ rfl
      have e6 := hcell 6 _ rfl
      have e7 := hcell 7 _ rfl
      have e8 := hcell 8 _ rfl
      have e9 := hcell 9 _ rfl
      have e10 := hcell 10 _ rfl
      have e11 := hcell 11 _ rfl
      have e12 := hcell 12 _ rfl
      simp only [Nat.add_zero] at e0
      obtain ⟨gx, hgx⟩ : ∃ gx, wr.heap.size = gx := ⟨_, rfl⟩
      have HT : Hid (Tw PS W t m xs [(gx, .cells #[.int .i64 what, .int .u8 k1, .int .u32 k2, .int .u16 k3, .int .u32 f4, .int .u16 f5, .int .u32 f6, .slice pa np pb, .int .i64 f7, .int .u32 f8, .int .i64 most, .int .i64 kk, .bool own] 41 (0, 0))] (wr.alloc (.cells #[.int .i64 what, .int .u8 k1, .int .u32 k2, .int .u16 k3, .int .u32 f4, .int .u16 f5, .int .u32 f6, .slice pa np pb, .int .i64 f7, .int .u32 f8, .int .i64 most, .int .i64 kk, .bool own] 41))) := by
        obtain ⟨B, hM, hB⟩ := hT.mem
        exact hB _ [(gx, .cells #[.int .i64 what, .int .u8 k1, .int .u32 k2, .int .u16 k3, .int .u32 f4, .int .u16 f5, .int .u32 f6, .slice pa np pb, .int .i64 f7, .int .u32 f8, .int .i64 most, .int .i64 kk, .bool own] 41 (0, 0))] ((hM.push gx (.cells #[.int .i64 what, .int .u8 k1, .int .u32 k2, .int .u16 k3, .int .u32 f4, .int .u16 f5, .int .u32 f6, .slice pa np pb, .int .i64 f7, .int .u32 f8, .int .i64 most, .int .i64 kk, .bool own] 41) hgx.symm).perm (by
    classical
    rw [List.perm_iff_count]
    intro q
    simp only [List.count_append, List.count_cons, List.count_nil]
    omega))
      clear hcell hw hp hpW hps hT hbel hxg hlen hnp HR
      go_upto_region 10 with fail
      refine wp_letter (fun V => Tw PS W t m xs [(gx, .cells #[.int .i64 what, .int .u8 k1, .int .u32 k2, .int .u16 k3, .int .u32 f4, .int .u16 f5, .int .u32 f6, .slice pa np pb, .int .i64 f7, .int .u32 f8, .int .i64 most, .int .i64 kk, .bool own] 41 (0, 0))] V) (by exact HT.out) ?_
      intro X1 hX1
      try simp only [hgx]
      clear HT e0 e1 e2 e3 e4 e5 e6 e7 e8 e9 e10 e11 e12
      have HX1 : Hid (Tw PS W t m xs [(gx, .cells #[.int .i64 what, .int .u8 k1, .int .u32 k2, .int .u16 k3, .int .u32 f4, .int .u16 f5, .int .u32 f6, .slice pa np pb, .int .i64 f7, .int .u32 f8, .int .i64 most, .int .i64 kk, .bool own] 41 (0, 0))] X1) := hX1
      clear hX1
      obtain ⟨r, hr⟩ : ∃ r, (own && decide (0 < xs.length)) = r := ⟨_, rfl⟩
      have HRR : Hid ((own && decide (0 < xs.length)) = r) := hr
      clear hr
      go_cut [44] from 35 to 43 (fun s44 wx => s44 = .bool r ∧ X1 = wx)
      case first =>
        obtain ⟨B0, hM, hB⟩ := HX1.out.mem
        cases own with
        | false =>
          have q12 : X1.cell? ⟨gx, 12, none⟩ = some (.bool false) := hM.cell 0 rfl 12
          clear hM hB
          go_wp2_with fail
          go_meet
          case rel => exact ⟨by rw [← HRR.out]; rfl, rfl⟩
        | true =>
        have q12 : X1.cell? ⟨gx, 12, none⟩ = some (.bool true) := hM.cell 0 rfl 12
        obtain ⟨la, lc, l1, l2, hml, -, -⟩ := HX1.out.list
        have HZ : Hid (decide (0 < xs.length) = r) := by rw [← HRR.out]; rfl
        obtain ⟨N, hN⟩ : ∃ N, xs.length = N := ⟨_, rfl⟩
        rw [hN] at hml HZ
        clear hM hB l1 hN
        by_cases hz : N = 0
        · subst hz
          go_wp2_with fail
          go_meet
          case rel => exact ⟨by rw [← HZ.out]; rfl, rfl⟩
        · have z1 : (0 : Int) < N := by omega
          have z2 : 0 < N := by omega
          have HZ2 : Hid (r = true) := by rw [← HZ.out]; exact decide_eq_true z2
          go_wp2_with fail
          go_meet
          case rel => exact ⟨by rw [HZ2.out], rfl⟩
      case rest =>
      obtain ⟨rfl, rfl⟩ := hcut
      go_upto_if 44 with fail
      go_cut [7] from 45 to 76 (fun s7 wx => ∃ s1 s2 s3 o1 o2 : Int, SIn (⟨s1, s2, s3, o1, o2, f6, ps, f7, f8⟩ : Sn) ∧ Tw PS W t m xs [(gx, .cells #[.int .i64 what, .int .u8 s1, .int .u32 s2, .int .u16 s3, .int .u32 o1, .int .u16 o2, .int .u32 f6, .slice pa np pb, .int .i64 f7, .int .u32 f8, .int .i64 most, .int .i64 kk, .bool own] 41 (0, 0))] wx)
      case first => as_aux_lemma =>
        obtain ⟨B0, hM, hB⟩ := HX1.out.mem
        cases r with
        | false =>
          clear hM hB
          go_wp2_with fail
          go_meet
          case rel => exact ⟨k1, k2, k3, f4, f5, HW.out.2.1, HX1.out⟩
        | true =>
        have hown : own = true ∧ 0 < xs.length := by have := HRR.out; simpa using this
        obtain ⟨rfl, hz⟩ := hown
        have q11 : X1.cell? ⟨gx, 11, none⟩ = some (.int .i64 kk) := hM.cell 0 rfl 11
        obtain ⟨la, lc, l1, l2, hml, -, hat⟩ := HX1.out.list
        obtain ⟨N, hN⟩ : ∃ N, xs.length = N := ⟨_, rfl⟩
        have HN : Hid (xs.length = N) := hN
        rw [hN] at hml l1 hz
        have hN2 : N ≤ 1000 := by rw [← hN]; exact HXG.out.2
        have z1 : (0 : Int) < N := by omega
        have z2 : 0 < N := hz
        obtain ⟨pl, hpl⟩ : ∃ pl, plc kk N = pl := ⟨_, rfl⟩
        have hplt : pl < N := by rw [← hpl]; exact plc_lt kk z2
        have C1 := fun V => place19_any (W := V) kk N HW.out.2.2.2 z2 (by omega)
        rw [hpl] at C1
        have hpi : (pl : Int) < N := by omega
        have hyin : SIn (xs[pl]'(by rw [hN]; exact hplt)) := (HXG.out.1.2 _ (List.getElem_mem _)).1
        obtain ⟨y, hy⟩ : ∃ y, (xs[pl]'(by rw [hN]; exact hplt)) = y := ⟨_, rfl⟩
        have HLI : Hid (∀ V E, Tw PS W t m xs E V → ∃ b off c pv, N ≤ c ∧ c ≤ 9223372036854775807 ∧ V.cell? ⟨m, 0, none⟩ = some (.slice (some ⟨b, off, none⟩) N c) ∧ Bo V b (off + pl * 9) y pv) := fun V E hV => by
          obtain ⟨la, lc, l1, l2, hml, -, hat⟩ := hV.list
          obtain ⟨pv, b, off, rfl, hbo⟩ := hat pl (by rw [hN]; exact hplt)
          rw [hN] at hml l1
          rw [hy] at hbo
          exact ⟨b, off, lc, pv, l1, l2, hml, hbo⟩
        have HY : Hid (SIn y) := by rw [← hy]; exact hyin
        clear hy hyin
        obtain ⟨y1, y2, y3, y4, y5, y6, yps, y7, y8⟩ := y
        have HX2 : Hid (Tw PS W t m xs [(gx, .cells #[.int .i64 what, .int .u8 k1, .int .u32 k2, .int .u16 k3, .int .u32 f4, .int .u16 f5, .int .u32 f6, .slice pa np pb, .int .i64 f7, .int .u32 f8, .int .i64 most, .int .i64 kk, .bool true] 41 (0, 0))] X1) := HX1.out
        clear hN hpl HX1 hat l1
        go_upto_region 11 with fail
        refine wp_region_held_drew (S := (fun V : World => V.cell? ⟨gx, 11, none⟩ = some (.int .i64 kk) ∧ V.cell? ⟨m, 0, none⟩ = some (.slice la N lc))) (by kernel_rfl) ⟨q11, hml⟩ (fun hHeld => ?_)
        refine wpAnyH_take (i := 0) (v := ?_) rfl (by kernel_rfl) (by kernel_rfl) (by kernel_rfl) (fun _ _ _ h => h) (Or.inl ⟨by rfl, ?z1⟩) (by assumption) ?_
        case z1 =>
         intro w hSw
         (try dsimp only at hSw)
         go_simp
         all_goals with_reducible rfl
        try simp only [List.getElem_toArray, List.getElem_cons_zero, List.getElem_cons_succ, Act.put, List.setIfInBounds_toArray, List.set_cons_zero, List.set_cons_succ]
        refine wpAnyH_take (i := 1) (v := ?_) rfl (by kernel_rfl) (by kernel_rfl) (by kernel_rfl) (fun _ _ _ h => h) (Or.inl ⟨by rfl, ?z2⟩) (by assumption) ?_
        case z2 =>
         intro w hSw
         (try dsimp only at hSw)
         go_simp
         all_goals with_reducible rfl
        try simp only [List.getElem_toArray, List.getElem_cons_zero, List.getElem_cons_succ, Act.put, List.setIfInBounds_toArray, List.set_cons_zero, List.set_cons_succ]
        refine wpAnyH_take (i := 2) (v := ?_) rfl (by kernel_rfl) (by kernel_rfl) (by kernel_rfl) (fun _ _ _ h => h) (Or.inl ⟨by rfl, ?z3⟩) (by assumption) ?_
        case z3 =>
         intro w hSw
         (try dsimp only at hSw)
         go_simp
         all_goals with_reducible rfl
        try simp only [List.getElem_toArray, List.getElem_cons_zero, List.getElem_cons_succ, Act.put, List.setIfInBounds_toArray, List.set_cons_zero, List.set_cons_succ]
        refine wpAnyH_take (i := 3) (v := ?_) rfl (by kernel_rfl) (by kernel_rfl) (by kernel_rfl) (fun _ _ _ h => h) (Or.inl ⟨by rfl, ?z4⟩) (by assumption) ?_
        case z4 =>
         intro w hSw
         (try dsimp only at hSw)
         go_simp
         all_goals with_reducible rfl
        try simp only [List.getElem_toArray, List.getElem_cons_zero, List.getElem_cons_succ, Act.put, List.setIfInBounds_toArray, List.set_cons_zero, List.set_cons_succ]
        refine wpAnyH_take (i := 4) (v := ?_) rfl (by kernel_rfl) (by kernel_rfl) (by kernel_rfl) (fun _ _ _ h => h) (Or.inl ⟨by rfl, ?z5⟩) (by assumption) ?_
        case z5 =>
         intro w hSw
         (try dsimp only at hSw)
         go_simp
         all_goals with_reducible rfl
        try simp only [List.getElem_toArray, List.getElem_cons_zero, List.getElem_cons_succ, Act.put, List.setIfInBounds_toArray, List.set_cons_zero, List.set_cons_succ]
        refine wpAnyH_take (i := 5) (v := ?_) rfl (by kernel_rfl) (by kernel_rfl) (by kernel_rfl) (fun _ _ _ h => h) (Or.inl ⟨by rfl, ?z6⟩) (by assumption) ?_
        case z6 =>
         intro w hSw
         (try dsimp only at hSw)
         go_simp
         all_goals with_reducible rfl
        try simp only [List.getElem_toArray, List.getElem_cons_zero, List.getElem_cons_succ, Act.put, List.setIfInBounds_toArray, List.set_cons_zero, List.set_cons_succ]
        refine wpAnyH_take (i := 6) (v := ?_) rfl (by kernel_rfl) (by kernel_rfl) (by kernel_rfl) (fun _ _ _ h => h) (Or.inl ⟨by rfl, ?z7⟩) (by assumption) ?_
        case z7 =>
         intro w hSw
         (try dsimp only at hSw)
         go_simp
         all_goals with_reducible rfl
        try simp only [List.getElem_toArray, List.getElem_cons_zero, List.getElem_cons_succ, Act.put, List.setIfInBounds_toArray, List.set_cons_zero, List.set_cons_succ]
        refine wpAnyH_ready (rs := [7]) (by kernel_rfl) (by simp) ?_
        refine AllReadyH.cons rfl (fun K hK => ?_) AllReadyH.nil
        go_simp
        with_reducible refine (C1 _).mono ?_
        rintro e X2 ⟨rfl, rfl⟩
        try go_wp2_with fail
        refine hK.out _ _ ⟨q11, hml⟩ (fun hHeld => ?_)
        clear hK K
        try simp only [List.getElem_toArray, List.getElem_cons_zero, List.getElem_cons_succ, Act.put, List.setIfInBounds_toArray, List.set_cons_zero, List.set_cons_succ]
        refine wpAnyH_take (i := 8) (v := ?_) rfl (by kernel_rfl) (by kernel_rfl) (by kernel_rfl) (fun _ _ _ h => h) (Or.inl ⟨by rfl, ?z8⟩) (by assumption) ?_
        case z8 =>
         intro w hSw
         (try dsimp only at hSw)
         go_simp
         all_goals with_reducible rfl
        try simp only [List.getElem_toArray, List.getElem_cons_zero, List.getElem_cons_succ, Act.put, List.setIfInBounds_toArray, List.set_cons_zero, List.set_cons_succ]
        refine wpAnyH_done (by kernel_rfl) ?_ _
        clear hHeld C1 q11 hml hM hB l2
        go_upto_region 12 with fail
        refine wp_letter (fun V => Tw PS W t m xs [(gx, .cells #[.int .i64 what, .int .u8 k1, .int .u32 k2, .int .u16 k3, .int .u32 f4, .int .u16 f5, .int .u32 f6, .slice pa np pb, .int .i64 f7, .int .u32 f8, .int .i64 most, .int .i64 kk, .bool true] 41 (0, 0))] V) (by obtain ⟨B, hM, hB⟩ := HX2.out.mem; exact hB _ _ hM.drew) ?_
        intro V1 hV1
        clear HX2
        obtain ⟨lb, lo, lc, lpv, l1, l2, hml, hbo⟩ := HLI.out V1 _ hV1
        obtain ⟨b0, b1, b2, -⟩ := hbo
        simp only at b0 b1 b2
        obtain ⟨B1, hM1, hB1⟩ := hV1.mem
        have q1 : V1.cell? ⟨gx, 1, none⟩ = some (.int .u8 k1) := hM1.cell 0 rfl 1
        have q2 : V1.cell? ⟨gx, 2, none⟩ = some (.int .u32 k2) := hM1.cell 0 rfl 2
        have q3 : V1.cell? ⟨gx, 3, none⟩ = some (.int .u16 k3) := hM1.cell 0 rfl 3
        have q13 : ∀ k, V1.frozen? ⟨gx, k, none⟩ = false := hM1.free 0 rfl
        have hM2 : Mem W (((V1.setCell ⟨gx, 1, none⟩ (.int .u8 y1)).setCell ⟨gx, 2, none⟩ (.int .u32 y2)).setCell ⟨gx, 3, none⟩ (.int .u16 y3)) ((gx, .cells #[.int .i64 what, .int .u8 y1, .int .u32 y2, .int .u16 y3, .int .u32 f4, .int .u16 f5, .int .u32 f6, .slice pa np pb, .int .i64 f7, .int .u32 f8, .int .i64 most, .int .i64 kk, .bool true] 41 (0, 0)) :: ([] ++ B1)) := ((hM1.set 0 rfl 1 (.int .u8 y1)).set 0 rfl 2 (.int .u32 y2)).set 0 rfl 3 (.int .u16 y3)
        have HV2 : Hid (Tw PS W t m xs [(gx, .cells #[.int .i64 what, .int .u8 y1, .int .u32 y2, .int .u16 y3, .int .u32 f4, .int .u16 f5, .int .u32 f6, .slice pa np pb, .int .i64 f7, .int .u32 f8, .int .i64 most, .int .i64 kk, .bool true] 41 (0, 0))] (((V1.setCell ⟨gx, 1, none⟩ (.int .u8 y1)).setCell ⟨gx, 2, none⟩ (.int .u32 y2)).setCell ⟨gx, 3, none⟩ (.int .u16 y3))) := hB1 _ _ hM2
        clear hM1 hB1 hM2 hV1
        go_upto_region 13 with fail
        refine wp_letter (fun V => Tw PS W t m xs [(gx, .cells #[.int .i64 what, .int .u8 y1, .int .u32 y2, .int .u16 y3, .int .u32 f4, .int .u16 f5, .int .u32 f6, .slice pa np pb, .int .i64 f7, .int .u32 f8, .int .i64 most, .int .i64 kk, .bool true] 41 (0, 0))] V) (by exact HV2.out) ?_
        intro V2 hV2
        clear HV2 q1 q2 q3 q13 b0 b1 b2 hml l1 l2
        have HS2 : Hid (SIn (⟨y1, y2, y3, f4, f5, f6, ps, f7, f8⟩ : Sn) ∧ SIn (⟨y1, y2, y3, y4, y5, f6, ps, f7, f8⟩ : Sn)) := by
          have h1 := HW.out.2.1
          have h2 := HY.out
          exact ⟨⟨h2.1, h1.2⟩, ⟨h2.1, h2.2.1, h1.2.2⟩⟩
        obtain ⟨lb, lo, lc, lpv, l1, l2, hml, hbo⟩ := HLI.out V2 _ hV2
        obtain ⟨-, -, -, b3, b4, -⟩ := hbo
        simp only at b3 b4
        obtain ⟨B2, hM2, hB2⟩ := hV2.mem
        have q11 : V2.cell? ⟨gx, 11, none⟩ = some (.int .i64 kk) := hM2.cell 0 rfl 11
        obtain ⟨q, hq⟩ : ∃ q, Int.tmod kk 2 = q := ⟨_, rfl⟩
        have hqb : -2 < q ∧ q < 2 := by
          have u1 := Int.tmod_lt_of_pos kk (show (0 : Int) < 2 by omega)
          have u2 := Int.lt_tmod_of_pos kk (show (0 : Int) < 2 by omega)
          omega
        have wq : IntKind.i64.wrap q = q := by rw [IntKind.wrap_i64]; omega
        have HV3 : Hid (Tw PS W t m xs [(gx, .cells #[.int .i64 what, .int .u8 y1, .int .u32 y2, .int .u16 y3, .int .u32 f4, .int .u16 f5, .int .u32 f6, .slice pa np pb, .int .i64 f7, .int .u32 f8, .int .i64 most, .int .i64 kk, .bool true] 41 (0, 0))] V2) := hV2
        clear hV2 hqb
        by_cases hq0 : q = 0
        · have hqz : (q == 0) = true := by simp [hq0]
          have q4 : V2.cell? ⟨gx, 4, none⟩ = some (.int .u32 f4) := hM2.cell 0 rfl 4
          have q5 : V2.cell? ⟨gx, 5, none⟩ = some (.int .u16 f5) := hM2.cell 0 rfl 5
          have q13 : ∀ k, V2.frozen? ⟨gx, k, none⟩ = false := hM2.free 0 rfl
          have hM3 : Mem W ((V2.setCell ⟨gx, 4, none⟩ (.int .u32 y4)).setCell ⟨gx, 5, none⟩ (.int .u16 y5)) ((gx, .cells #[.int .i64 what, .int .u8 y1, .int .u32 y2, .int .u16 y3, .int .u32 y4, .int .u16 y5, .int .u32 f6, .slice pa np pb, .int .i64 f7, .int .u32 f8, .int .i64 most, .int .i64 kk, .bool true] 41 (0, 0)) :: ([] ++ B2)) := (hM2.set 0 rfl 4 (.int .u32 y4)).set 0 rfl 5 (.int .u16 y5)
          have HV4 : Hid (Tw PS W t m xs [(gx, .cells #[.int .i64 what, .int .u8 y1, .int .u32 y2, .int .u16 y3, .int .u32 y4, .int .u16 y5, .int .u32 f6, .slice pa np pb, .int .i64 f7, .int .u32 f8, .int .i64 most, .int .i64 kk, .bool true] 41 (0, 0))] ((V2.setCell ⟨gx, 4, none⟩ (.int .u32 y4)).setCell ⟨gx, 5, none⟩ (.int .u16 y5))) := hB2 _ _ hM3
          clear hM2 hB2 hM3 HV3 hq0
          go_wp2_with fail
          go_meet
          case rel => exact ⟨y1, y2, y3, y4, y5, HS2.out.2, HV4.out⟩
        · have hqz : (q == 0) = false := by simpa using hq0
          clear hM2 hB2
          go_wp2_with fail
          go_meet
          case rel => exact ⟨y1, y2, y3, f4, f5, HS2.out.1, HV3.out⟩
      case rest =>
      obtain ⟨s1, s2, s3, o1, o2, hs, hT⟩ := hcut
      have HSI : Hid (SIn (⟨s1, s2, s3, o1, o2, f6, ps, f7, f8⟩ : Sn)) := hs
      obtain ⟨B0, hM0, hB0⟩ := hT.mem
      have HBW : Hid (Below W.heap.size W wc) := hM0.below
      have q0 : wc.cell? ⟨gx, 0, none⟩ = some (.int .i64 what) := hM0.cell 0 rfl 0
      have HT : Hid (Tw PS W t m xs [(gx, .cells #[.int .i64 what, .int .u8 s1, .int .u32 s2, .int .u16 s3, .int .u32 o1, .int .u16 o2, .int .u32 f6, .slice pa np pb, .int .i64 f7, .int .u32 f8, .int .i64 most, .int .i64 kk, .bool own] 41 (0, 0))] wc) := hT
      clear hM0 hB0 hT hs HRR HX1
      go_upto_block 2 with fail
      clear q0
      go_cut [8] from 79 to 120 (fun s8 wx => ∃ xs', XG xs' (i + 1) ∧ Tw PS W t m xs' [(gx, .cells #[.int .i64 what, .int .u8 s1, .int .u32 s2, .int .u16 s3, .int .u32 o1, .int .u16 o2, .int .u32 f6, .slice pa np pb, .int .i64 f7, .int .u32 f8, .int .i64 most, .int .i64 kk, .bool own] 41 (0, 0))] wx)
      case first => as_aux_lemma =>
        obtain ⟨r, hr⟩ : ∃ r, decide (what = 0 ∨ what = 1 ∨ what = 2) = r := ⟨_, rfl⟩
        go_upto_if 79 with fail
        go_cut [79] from 80 to 82 (fun s79 wx => s79 = .bool r ∧ wc = wx)
        case first =>
          by_cases h0 : what = 0
          · have z0 : (what == 0) = true := by simp [h0]
            have hr1 : r = true := by rw [← hr]; simp [h0]
            clear hr h0
            go_wp2_with fail
            go_meet
            case rel => exact ⟨by first | rw [hr1, z0] | rw [hr1], rfl⟩
          · have z0 : (what == 0) = false := by simpa using h0
            by_cases h1 : what = 1
            · have z1 : (what == 1) = true := by simp [h1]
              have hr1 : r = true := by rw [← hr]; simp [h1]
              clear hr
              go_wp2_with fail
              go_meet
              case rel => exact ⟨by rw [hr1], rfl⟩
            · have z1 : (what == 1) = false := by simpa using h1
              by_cases h2 : what = 2
              · have z2 : (what == 2) = true := by simp [h2]
                have hr1 : r = true := by rw [← hr]; simp [h2]
                clear hr
                go_wp2_with fail
                go_meet
                case rel => exact ⟨by rw [hr1], rfl⟩
              · have z2 : (what == 2) = false := by simpa using h2
                have hr1 : r = false := by rw [← hr]; simp [h0, h1, h2]
                clear hr
                go_wp2_with fail
                go_meet
                case rel => exact ⟨by rw [hr1], rfl⟩
        case rest =>
        obtain ⟨rfl, rfl⟩ := hcut
        clear hr
        cases r with
        | true =>
          obtain ⟨B0, hM0, -⟩ := HT.out.mem
          have q10 : wc.cell? ⟨gx, 10, none⟩ = some (.int .i64 most) := hM0.cell 0 rfl 10
          obtain ⟨M, hM⟩ : ∃ M, plc most 20 = M := ⟨_, rfl⟩
          have hMl : M < 20 := by rw [← hM]; exact plc_lt most (by omega)
          have C0 := place19_any (W := wc) most 20 HW.out.2.2.1 (by omega) (by omega)
          rw [hM] at C0
          simp only [show ((20 : Nat) : Int) = 20 from rfl] at C0
          clear hM0 hM
          go_wp2_with fail
          with_reducible refine C0.mono ?_
          rintro e V0 ⟨rfl, rfl⟩
          clear C0 q10
          go_upto_region 20 with fail
          have HS9 : Hid (∀ V E, Mem W V ((gx, .cells #[.int .i64 what, .int .u8 s1, .int .u32 s2, .int .u16 s3, .int .u32 o1, .int .u16 o2, .int .u32 f6, .slice pa np pb, .int .i64 f7, .int .u32 f8, .int .i64 most, .int .i64 kk, .bool own] 41 (0, 0)) :: E) → (fun V : World => V.cell? ⟨gx, 1, none⟩ = some (.int .u8 s1) ∧ V.cell? ⟨gx, 2, none⟩ = some (.int .u32 s2) ∧ V.cell? ⟨gx, 3, none⟩ = some (.int .u16 s3) ∧ V.cell? ⟨gx, 4, none⟩ = some (.int .u32 o1) ∧ V.cell? ⟨gx, 5, none⟩ = some (.int .u16 o2) ∧ V.cell? ⟨gx, 6, none⟩ = some (.int .u32 f6) ∧ V.cell? ⟨gx, 7, none⟩ = some (.slice pa np pb) ∧ V.cell? ⟨gx, 8, none⟩ = some (.int .i64 f7) ∧ V.cell? ⟨gx, 9, none⟩ = some (.int .u32 f8)) V) := fun V E h => ⟨h.cell 0 rfl 1, h.cell 0 rfl 2, h.cell 0 rfl 3, h.cell 0 rfl 4, h.cell 0 rfl 5, h.cell 0 rfl 6, h.cell 0 rfl 7, h.cell 0 rfl 8, h.cell 0 rfl 9⟩
          obtain ⟨Bp, Bd, hP, hR, hM⟩ := HT.out
          have hMd := hM.drew
          clear hM
          refine wp_region_held_drew (S := (fun V : World => V.cell? ⟨gx, 1, none⟩ = some (.int .u8 s1) ∧ V.cell? ⟨gx, 2, none⟩ = some (.int .u32 s2) ∧ V.cell? ⟨gx, 3, none⟩ = some (.int .u16 s3) ∧ V.cell? ⟨gx, 4, none⟩ = some (.int .u32 o1) ∧ V.cell? ⟨gx, 5, none⟩ = some (.int .u16 o2) ∧ V.cell? ⟨gx, 6, none⟩ = some (.int .u32 f6) ∧ V.cell? ⟨gx, 7, none⟩ = some (.slice pa np pb) ∧ V.cell? ⟨gx, 8, none⟩ = some (.int .i64 f7) ∧ V.cell? ⟨gx, 9, none⟩ = some (.int .u32 f8))) (by kernel_rfl) (HS9.out _ _ (hMd.perm (show List.Perm _ ((gx, .cells #[.int .i64 what, .int .u8 s1, .int .u32 s2, .int .u16 s3, .int .u32 o1, .int .u16 o2, .int .u32 f6, .slice pa np pb, .int .i64 f7, .int .u32 f8, .int .i64 most, .int .i64 kk, .bool own] 41 (0, 0)) :: (Bp ++ Bd)) from by
              classical
              rw [List.perm_iff_count]
              intro q
              simp only [List.count_append, List.count_cons, List.count_nil]
              omega))) (fun hHeld => ?_)
          generalize hwd : wc.drew = Wd at *
          have hPW := HPW.out.below hMd.below (Nat.le_refl _)
          rw [HNP.out] at hPW
          have C1 := HC.out.add hP hMd HXG.out.2 (val := .agg #[.int .u8 s1, .int .u32 s2, .int .u16 s3, .int .u32 o1, .int .u16 o2, .int .u32 f6, .slice pa np pb, .int .i64 f7, .int .u32 f8]) (s := (⟨s1, s2, s3, o1, o2, f6, ps, f7, f8⟩ : Sn)) ⟨.slice pa np pb, rfl, hPW⟩ HSI.out (by have := HPL.out; simp only; omega) (M : Int) (by omega)
          obtain ⟨A, hA⟩ : ∃ A, ac (⟨s1, s2, s3, o1, o2, f6, ps, f7, f8⟩ : Sn) (M : Int) xs = A := ⟨_, rfl⟩
          obtain ⟨ys, hys⟩ : ∃ ys, ax (⟨s1, s2, s3, o1, o2, f6, ps, f7, f8⟩ : Sn) (M : Int) xs = ys := ⟨_, rfl⟩
          rw [hA, hys] at C1
          have HG : Hid (XG ys (i + 1)) := by rw [← hys]; exact HXG.out.1.ax HSI.out HPL.out _
          have HD : Hid (∀ V L, Mem W V (Bd ++ L) → Calls Try.prog 14 #[.pointer (some ⟨m, 0, none⟩), .agg #[.int .u8 s1, .int .u32 s2, .int .u16 s3, .int .u32 o1, .int .u16 o2, .int .u32 f6, .slice pa np pb, .int .i64 f7, .int .u32 f8], .int .i64 (M : Int)] V fun e W' => e = .returned (.int .i64 A) ∧ ∃ B', RT ys m B' ∧ Mem W W' (B' ++ L)) := fun V L hV => by
            have := rsadd_any (val := .agg #[.int .u8 s1, .int .u32 s2, .int .u16 s3, .int .u32 o1, .int .u16 o2, .int .u32 f6, .slice pa np pb, .int .i64 f7, .int .u32 f8]) (s := (⟨s1, s2, s3, o1, o2, f6, ps, f7, f8⟩ : Sn)) hR hV (by have := HXG.out.2; omega) ⟨.slice pa np pb, rfl, by rw [← HNP.out]; exact HPW.out⟩ (by have := HPL.out; simp only; omega) (M : Int)
            rw [hA, hys] at this
            exact this
          clear hA hys hP hR hPW hMd hwd
          refine wpAnyH_take (i := 0) (v := ?_) rfl (by kernel_rfl) (by kernel_rfl) (by kernel_rfl) (fun _ _ _ h => h) (Or.inl ⟨by rfl, ?z9⟩) (by assumption) ?_
          case z9 =>
           intro w hSw
           (try dsimp only at hSw)
           go_simp
           all_goals with_reducible rfl
          try simp only [List.getElem_toArray, List.getElem_cons_zero, List.getElem_cons_succ, Act.put, List.setIfInBounds_toArray, List.set_cons_zero, List.set_cons_succ]
          refine wpAnyH_take (i := 1) (v := ?_) rfl (by kernel_rfl) (by kernel_rfl) (by kernel_rfl) (fun _ _ _ h => h) (Or.inl ⟨by rfl, ?z10⟩) (by assumption) ?_
          case z10 =>
           intro w hSw
           (try dsimp only at hSw)
           go_simp
           all_goals with_reducible rfl
          try simp only [List.getElem_toArray, List.getElem_cons_zero, List.getElem_cons_succ, Act.put, List.setIfInBounds_toArray, List.set_cons_zero, List.set_cons_succ]
          refine wpAnyH_take (i := 2) (v := ?_) rfl (by kernel_rfl) (by kernel_rfl) (by kernel_rfl) (fun _ _ _ h => h) (Or.inl ⟨by rfl, ?z11⟩) (by assumption) ?_
          case z11 =>
           intro w hSw
           (try dsimp only at hSw)
           go_simp
           all_goals with_reducible rfl
          try simp only [List.getElem_toArray, List.getElem_cons_zero, List.getElem_cons_succ, Act.put, List.setIfInBounds_toArray, List.set_cons_zero, List.set_cons_succ]
          refine wpAnyH_take (i := 3) (v := ?_) rfl (by kernel_rfl) (by kernel_rfl) (by kernel_rfl) (fun _ _ _ h => h) (Or.inl ⟨by rfl, ?z12⟩) (by assumption) ?_
          case z12 =>
           intro w hSw
           (try dsimp only at hSw)
           go_simp
           all_goals with_reducible rfl
          try simp only [List.getElem_toArray, List.getElem_cons_zero, List.getElem_cons_succ, Act.put, List.setIfInBounds_toArray, List.set_cons_zero, List.set_cons_succ]
          refine wpAnyH_take (i := 5) (v := ?_) rfl (by kernel_rfl) (by kernel_rfl) (by kernel_rfl) (fun _ _ _ h => h) (Or.inl ⟨by rfl, ?z13⟩) (by assumption) ?_
          case z13 =>
           intro w hSw
           (try dsimp only at hSw)
           go_simp
           all_goals with_reducible rfl
          try simp only [List.getElem_toArray, List.getElem_cons_zero, List.getElem_cons_succ, Act.put, List.setIfInBounds_toArray, List.set_cons_zero, List.set_cons_succ]
          refine wpAnyH_take (i := 6) (v := ?_) rfl (by kernel_rfl) (by kernel_rfl) (by kernel_rfl) (fun _ _ _ h => h) (Or.inl ⟨by rfl, ?z14⟩) (by assumption) ?_
          case z14 =>
           intro w hSw
           (try dsimp only at hSw)
           go_simp
           all_goals with_reducible rfl
          try simp only [List.getElem_toArray, List.getElem_cons_zero, List.getElem_cons_succ, Act.put, List.setIfInBounds_toArray, List.set_cons_zero, List.set_cons_succ]
          refine wpAnyH_take (i := 7) (v := ?_) rfl (by kernel_rfl) (by kernel_rfl) (by kernel_rfl) (fun _ _ _ h => h) (Or.inl ⟨by rfl, ?z15⟩) (by assumption) ?_
          case z15 =>
           intro w hSw
           (try dsimp only at hSw)
           go_simp
           all_goals with_reducible rfl
          try simp only [List.getElem_toArray, List.getElem_cons_zero, List.getElem_cons_succ, Act.put, List.setIfInBounds_toArray, List.set_cons_zero, List.set_cons_succ]
          refine wpAnyH_take (i := 8) (v := ?_) rfl (by kernel_rfl) (by kernel_rfl) (by kernel_rfl) (fun _ _ _ h => h) (Or.inl ⟨by rfl, ?z16⟩) (by assumption) ?_
          case z16 =>
           intro w hSw
           (try dsimp only at hSw)
           go_simp
           all_goals with_reducible rfl
          try simp only [List.getElem_toArray, List.getElem_cons_zero, List.getElem_cons_succ, Act.put, List.setIfInBounds_toArray, List.set_cons_zero, List.set_cons_succ]
          refine wpAnyH_ready (rs := [4]) (by kernel_rfl) (by simp) ?_
          refine AllReadyH.cons rfl (fun K hK => ?_) AllReadyH.nil
          go_simp
          with_reducible refine (C1).mono ?_
          rintro e V1 ⟨rfl, Bp1, hP1, hM1⟩
          try go_wp2_with fail
          have HP1 : Hid (PS ys t Bp1) := hP1
          have C2 := HD.out V1 (Bp1 ++ [(gx, .cells #[.int .i64 what, .int .u8 s1, .int .u32 s2, .int .u16 s3, .int .u32 o1, .int .u16 o2, .int .u32 f6, .slice pa np pb, .int .i64 f7, .int .u32 f8, .int .i64 most, .int .i64 kk, .bool own] 41 (0, 0))]) (hM1.perm (show List.Perm _ (Bd ++ (Bp1 ++ [(gx, .cells #[.int .i64 what, .int .u8 s1, .int .u32 s2, .int .u16 s3, .int .u32 o1, .int .u16 o2, .int .u32 f6, .slice pa np pb, .int .i64 f7, .int .u32 f8, .int .i64 most, .int .i64 kk, .bool own] 41 (0, 0))])) from by
              classical
              rw [List.perm_iff_count]
              intro q
              simp only [List.count_append, List.count_cons, List.count_nil]
              omega))
          clear C1 hP1
          refine hK.out _ _ (HS9.out _ _ (hM1.perm (show List.Perm _ ((gx, .cells #[.int .i64 what, .int .u8 s1, .int .u32 s2, .int .u16 s3, .int .u32 o1, .int .u16 o2, .int .u32 f6, .slice pa np pb, .int .i64 f7, .int .u32 f8, .int .i64 most, .int .i64 kk, .bool own] 41 (0, 0)) :: (Bp1 ++ Bd)) from by
              classical
              rw [List.perm_iff_count]
              intro q
              simp only [List.count_append, List.count_cons, List.count_nil]
              omega))) (fun hHeld => ?_)
          clear hK K
          try simp only [List.getElem_toArray, List.getElem_cons_zero, List.getElem_cons_succ, Act.put, List.setIfInBounds_toArray, List.set_cons_zero, List.set_cons_succ]
          refine wpAnyH_ready (rs := [9]) (by kernel_rfl) (by simp) ?_
          refine AllReadyH.cons rfl (fun K hK => ?_) AllReadyH.nil
          go_simp
          with_reducible refine (C2).mono ?_
          rintro e V2 ⟨rfl, Bd1, hR1, hM2⟩
          try go_wp2_with fail
          have HZ : Hid (Tw PS W t m ys [(gx, .cells #[.int .i64 what, .int .u8 s1, .int .u32 s2, .int .u16 s3, .int .u32 o1, .int .u16 o2, .int .u32 f6, .slice pa np pb, .int .i64 f7, .int .u32 f8, .int .i64 most, .int .i64 kk, .bool own] 41 (0, 0))] V2) := ⟨Bp1, Bd1, HP1.out, hR1, hM2.perm (by
              classical
              rw [List.perm_iff_count]
              intro q
              simp only [List.count_append, List.count_cons, List.count_nil]
              omega)⟩
          clear C2 hR1
          refine hK.out _ _ (HS9.out _ _ (hM2.perm (show List.Perm _ ((gx, .cells #[.int .i64 what, .int .u8 s1, .int .u32 s2, .int .u16 s3, .int .u32 o1, .int .u16 o2, .int .u32 f6, .slice pa np pb, .int .i64 f7, .int .u32 f8, .int .i64 most, .int .i64 kk, .bool own] 41 (0, 0)) :: (Bd1 ++ Bp1)) from by
              classical
              rw [List.perm_iff_count]
              intro q
              simp only [List.count_append, List.count_cons, List.count_nil]
              omega))) (fun hHeld => ?_)
          clear hK K
          try simp only [List.getElem_toArray, List.getElem_cons_zero, List.getElem_cons_succ, Act.put, List.setIfInBounds_toArray, List.set_cons_zero, List.set_cons_succ]
          refine wpAnyH_take (i := 10) (v := ?_) rfl (by kernel_rfl) (by kernel_rfl) (by kernel_rfl) (fun _ _ _ h => h) (Or.inl ⟨by rfl, ?z17⟩) (by assumption) ?_
          case z17 =>
           intro w hSw
           (try dsimp only at hSw)
           go_simp
           all_goals with_reducible rfl
          try simp only [List.getElem_toArray, List.getElem_cons_zero, List.getElem_cons_succ, Act.put, List.setIfInBounds_toArray, List.set_cons_zero, List.set_cons_succ]
          refine wpAnyH_done (by kernel_rfl) ?_ _
          clear hHeld HS9 HD hM1 hM2 HP1 HT
          go_wp2_with fail
          go_meet
          case rel => exact ⟨ys, HG.out, HZ.out⟩
        | false =>
          by_cases h5 : what = 5
          · have z5 : (what == 5) = true := by simp [h5]
            clear h5
            go_upto_region 23 with fail
            have HS9 : Hid (∀ V E, Mem W V ((gx, .cells #[.int .i64 what, .int .u8 s1, .int .u32 s2, .int .u16 s3, .int .u32 o1, .int .u16 o2, .int .u32 f6, .slice pa np pb, .int .i64 f7, .int .u32 f8, .int .i64 most, .int .i64 kk, .bool own] 41 (0, 0)) :: E) → (fun V : World => V.cell? ⟨gx, 1, none⟩ = some (.int .u8 s1) ∧ V.cell? ⟨gx, 2, none⟩ = some (.int .u32 s2) ∧ V.cell? ⟨gx, 3, none⟩ = some (.int .u16 s3) ∧ V.cell? ⟨gx, 4, none⟩ = some (.int .u32 o1) ∧ V.cell? ⟨gx, 5, none⟩ = some (.int .u16 o2) ∧ V.cell? ⟨gx, 6, none⟩ = some (.int .u32 f6) ∧ V.cell? ⟨gx, 7, none⟩ = some (.slice pa np pb) ∧ V.cell? ⟨gx, 8, none⟩ = some (.int .i64 f7) ∧ V.cell? ⟨gx, 9, none⟩ = some (.int .u32 f8)) V) := fun V E h => ⟨h.cell 0 rfl 1, h.cell 0 rfl 2, h.cell 0 rfl 3, h.cell 0 rfl 4, h.cell 0 rfl 5, h.cell 0 rfl 6, h.cell 0 rfl 7, h.cell 0 rfl 8, h.cell 0 rfl 9⟩
            obtain ⟨Bp, Bd, hP, hR, hM⟩ := HT.out
            have hMd := hM.drew
            clear hM
            refine wp_region_held_drew (S := (fun V : World => V.cell? ⟨gx, 1, none⟩ = some (.int .u8 s1) ∧ V.cell? ⟨gx, 2, none⟩ = some (.int .u32 s2) ∧ V.cell? ⟨gx, 3, none⟩ = some (.int .u16 s3) ∧ V.cell? ⟨gx, 4, none⟩ = some (.int .u32 o1) ∧ V.cell? ⟨gx, 5, none⟩ = some (.int .u16 o2) ∧ V.cell? ⟨gx, 6, none⟩ = some (.int .u32 f6) ∧ V.cell? ⟨gx, 7, none⟩ = some (.slice pa np pb) ∧ V.cell? ⟨gx, 8, none⟩ = some (.int .i64 f7) ∧ V.cell? ⟨gx, 9, none⟩ = some (.int .u32 f8))) (by kernel_rfl) (HS9.out _ _ (hMd.perm (show List.Perm _ ((gx, .cells #[.int .i64 what, .int .u8 s1, .int .u32 s2, .int .u16 s3, .int .u32 o1, .int .u16 o2, .int .u32 f6, .slice pa np pb, .int .i64 f7, .int .u32 f8, .int .i64 most, .int .i64 kk, .bool own] 41 (0, 0)) :: (Bp ++ Bd)) from by
                classical
                rw [List.perm_iff_count]
                intro q
                simp only [List.count_append, List.count_cons, List.count_nil]
                omega))) (fun hHeld => ?_)
            generalize hwd : wc.drew = Wd at *
            have hPW := HPW.out.below hMd.below (Nat.le_refl _)
            rw [HNP.out] at hPW
            have C1 := HC.out.put hP hMd HXG.out.2 (val := .agg #[.int .u8 s1, .int .u32 s2, .int .u16 s3, .int .u32 o1, .int .u16 o2, .int .u32 f6, .slice pa np pb, .int .i64 f7, .int .u32 f8]) (s := (⟨s1, s2, s3, o1, o2, f6, ps, f7, f8⟩ : Sn)) ⟨.slice pa np pb, rfl, hPW⟩ HSI.out (by have := HPL.out; simp only; omega)
            obtain ⟨A, hA⟩ : ∃ A, (fk (key (⟨s1, s2, s3, o1, o2, f6, ps, f7, f8⟩ : Sn)) xs).isSome = A := ⟨_, rfl⟩
            obtain ⟨ys, hys⟩ : ∃ ys, pt (⟨s1, s2, s3, o1, o2, f6, ps, f7, f8⟩ : Sn) xs = ys := ⟨_, rfl⟩
            rw [hA, hys] at C1
            have HG : Hid (XG ys (i + 1)) := by rw [← hys]; exact HXG.out.1.pt HSI.out HPL.out
            have HD : Hid (∀ V L, Mem W V (Bd ++ L) → Calls Try.prog 16 #[.pointer (some ⟨m, 0, none⟩), .agg #[.int .u8 s1, .int .u32 s2, .int .u16 s3, .int .u32 o1, .int .u16 o2, .int .u32 f6, .slice pa np pb, .int .i64 f7, .int .u32 f8]] V fun e W' => e = .returned (.bool A) ∧ ∃ B', RT ys m B' ∧ Mem W W' (B' ++ L)) := fun V L hV => by
              have hpv := HPW.out.below hV.below (Nat.le_refl _)
              rw [HNP.out] at hpv
              have := rsput_any (val := .agg #[.int .u8 s1, .int .u32 s2, .int .u16 s3, .int .u32 o1, .int .u16 o2, .int .u32 f6, .slice pa np pb, .int .i64 f7, .int .u32 f8]) (s := (⟨s1, s2, s3, o1, o2, f6, ps, f7, f8⟩ : Sn)) hR hV (by have := HXG.out.2; omega) ⟨.slice pa np pb, rfl, hpv⟩ (by have := HPL.out; simp only; omega)
              rw [hA, hys] at this
              exact this
            clear hA hys hP hR hPW hMd hwd
            refine wpAnyH_take (i := 0) (v := ?_) rfl (by kernel_rfl) (by kernel_rfl) (by kernel_rfl) (fun _ _ _ h => h) (Or.inl ⟨by rfl, ?z18⟩) (by assumption) ?_
            case z18 =>
             intro w hSw
             (try dsimp only at hSw)
             go_simp
             all_goals with_reducible rfl
            try simp only [List.getElem_toArray, List.getElem_cons_zero, List.getElem_cons_succ, Act.put, List.setIfInBounds_toArray, List.set_cons_zero, List.set_cons_succ]
            refine wpAnyH_take (i := 1) (v := ?_) rfl (by kernel_rfl) (by kernel_rfl) (by kernel_rfl) (fun _ _ _ h => h) (Or.inl ⟨by rfl, ?z19⟩) (by assumption) ?_
            case z19 =>
             intro w hSw
             (try dsimp only at hSw)
             go_simp
             all_goals with_reducible rfl
            try simp only [List.getElem_toArray, List.getElem_cons_zero, List.getElem_cons_succ, Act.put, List.setIfInBounds_toArray, List.set_cons_zero, List.set_cons_succ]
            refine wpAnyH_take (i := 2) (v := ?_) rfl (by kernel_rfl) (by kernel_rfl) (by kernel_rfl) (fun _ _ _ h => h) (Or.inl ⟨by rfl, ?z20⟩) (by assumption) ?_
            case z20 =>
             intro w hSw
             (try dsimp only at hSw)
             go_simp
             all_goals with_reducible rfl
            try simp only [List.getElem_toArray, List.getElem_cons_zero, List.getElem_cons_succ, Act.put, List.setIfInBounds_toArray, List.set_cons_zero, List.set_cons_succ]
            refine wpAnyH_take (i := 4) (v := ?_) rfl (by kernel_rfl) (by kernel_rfl) (by kernel_rfl) (fun _ _ _ h => h) (Or.inl ⟨by rfl, ?z21⟩) (by assumption) ?_
            case z21 =>
             intro w hSw
             (try dsimp only at hSw)
             go_simp
             all_goals with_reducible rfl
            try simp only [List.getElem_toArray, List.getElem_cons_zero, List.getElem_cons_succ, Act.put, List.setIfInBounds_toArray, List.set_cons_zero, List.set_cons_succ]
            refine wpAnyH_take (i := 5) (v := ?_) rfl (by kernel_rfl) (by kernel_rfl) (by kernel_rfl) (fun _ _ _ h => h) (Or.inl ⟨by rfl, ?z22⟩) (by assumption) ?_
            case z22 =>
             intro w hSw
             (try dsimp only at hSw)
             go_simp
             all_goals with_reducible rfl
            try simp only [List.getElem_toArray, List.getElem_cons_zero, List.getElem_cons_succ, Act.put, List.setIfInBounds_toArray, List.set_cons_zero, List.set_cons_succ]
            refine wpAnyH_take (i := 6) (v := ?_) rfl (by kernel_rfl) (by kernel_rfl) (by kernel_rfl) (fun _ _ _ h => h) (Or.inl ⟨by rfl, ?z23⟩) (by assumption) ?_
            case z23 =>
             intro w hSw
             (try dsimp only at hSw)
             go_simp
             all_goals with_reducible rfl
            try simp only [List.getElem_toArray, List.getElem_cons_zero, List.getElem_cons_succ, Act.put, List.setIfInBounds_toArray, List.set_cons_zero, List.set_cons_succ]
            refine wpAnyH_ready (rs := [3]) (by kernel_rfl) (by simp) ?_
            refine AllReadyH.cons rfl (fun K hK => ?_) AllReadyH.nil
            go_simp
            with_reducible refine (C1).mono ?_
            rintro e V1 ⟨rfl, Bp1, hP1, hM1⟩
            try go_wp2_with fail
            have HP1 : Hid (PS ys t Bp1) := hP1
            have C2 := HD.out V1 (Bp1 ++ [(gx, .cells #[.int .i64 what, .int .u8 s1, .int .u32 s2, .int .u16 s3, .int .u32 o1, .int .u16 o2, .int .u32 f6, .slice pa np pb, .int .i64 f7, .int .u32 f8, .int .i64 most, .int .i64 kk, .bool own] 41 (0, 0))]) (hM1.perm (show List.Perm _ (Bd ++ (Bp1 ++ [(gx, .cells #[.int .i64 what, .int .u8 s1, .int .u32 s2, .int .u16 s3, .int .u32 o1, .int .u16 o2, .int .u32 f6, .slice pa np pb, .int .i64 f7, .int .u32 f8, .int .i64 most, .int .i64 kk, .bool own] 41 (0, 0))])) from by
                classical
                rw [List.perm_iff_count]
                intro q
                simp only [List.count_append, List.count_cons, List.count_nil]
                omega))
            clear C1 hP1
            refine hK.out _ _ (HS9.out _ _ (hM1.perm (show List.Perm _ ((gx, .cells #[.int .i64 what, .int .u8 s1, .int .u32 s2, .int .u16 s3, .int .u32 o1, .int .u16 o2, .int .u32 f6, .slice pa np pb, .int .i64 f7, .int .u32 f8, .int .i64 most, .int .i64 kk, .bool own] 41 (0, 0)) :: (Bp1 ++ Bd)) from by
                classical
                rw [List.perm_iff_count]
                intro q
                simp only [List.count_append, List.count_cons, List.count_nil]
                omega))) (fun hHeld => ?_)
            clear hK K
            try simp only [List.getElem_toArray, List.getElem_cons_zero, List.getElem_cons_succ, Act.put, List.setIfInBounds_toArray, List.set_cons_zero, List.set_cons_succ]
            refine wpAnyH_ready (rs := [7]) (by kernel_rfl) (by simp) ?_
            refine AllReadyH.cons rfl (fun K hK => ?_) AllReadyH.nil
            go_simp
            with_reducible refine (C2).mono ?_
            rintro e V2 ⟨rfl, Bd1, hR1, hM2⟩
            try go_wp2_with fail
            have HZ : Hid (Tw PS W t m ys [(gx, .cells #[.int .i64 what, .int .u8 s1, .int .u32 s2, .int .u16 s3, .int .u32 o1, .int .u16 o2, .int .u32 f6, .slice pa np pb, .int .i64 f7, .int .u32 f8, .int .i64 most, .int .i64 kk, .bool own] 41 (0, 0))] V2) := ⟨Bp1, Bd1, HP1.out, hR1, hM2.perm (by
                classical
                rw [List.perm_iff_count]
                intro q
                simp only [List.count_append, List.count_cons, List.count_nil]
                omega)⟩
            clear C2 hR1
            refine hK.out _ _ (HS9.out _ _ (hM2.perm (show List.Perm _ ((gx, .cells #[.int .i64 what, .int .u8 s1, .int .u32 s2, .int .u16 s3, .int .u32 o1, .int .u16 o2, .int .u32 f6, .slice pa np pb, .int .i64 f7, .int .u32 f8, .int .i64 most, .int .i64 kk, .bool own] 41 (0, 0)) :: (Bd1 ++ Bp1)) from by
                classical
                rw [List.perm_iff_count]
                intro q
                simp only [List.count_append, List.count_cons, List.count_nil]
                omega))) (fun hHeld => ?_)
            clear hK K
            try simp only [List.getElem_toArray, List.getElem_cons_zero, List.getElem_cons_succ, Act.put, List.setIfInBounds_toArray, List.set_cons_zero, List.set_cons_succ]
            refine wpAnyH_take (i := 8) (v := ?_) rfl (by kernel_rfl) (by kernel_rfl) (by kernel_rfl) (fun _ _ _ h => h) (Or.inl ⟨by rfl, ?z24⟩) (by assumption) ?_
            case z24 =>
             intro w hSw
             (try dsimp only at hSw)
             go_simp
             all_goals with_reducible rfl
            try simp only [List.getElem_toArray, List.getElem_cons_zero, List.getElem_cons_succ, Act.put, List.setIfInBounds_toArray, List.set_cons_zero, List.set_cons_succ]
            refine wpAnyH_done (by kernel_rfl) ?_ _
            clear hHeld HS9 HD hM1 hM2 HP1 HT
            go_wp2_with fail
            go_meet
            case rel => exact ⟨ys, HG.out, HZ.out⟩
          · have z5 : (what == 5) = false := by simpa using h5
            by_cases h6 : what = 6
            · have z6 : (what == 6) = true := by simp [h6]
              clear h6
              go_upto_region 26 with fail
              have HS9 : Hid (∀ V E, Mem W V ((gx, .cells #[.int .i64 what, .int .u8 s1, .int .u32 s2, .int .u16 s3, .int .u32 o1, .int .u16 o2, .int .u32 f6, .slice pa np pb, .int .i64 f7, .int .u32 f8, .int .i64 most, .int .i64 kk, .bool own] 41 (0, 0)) :: E) → (fun V : World => V.cell? ⟨gx, 1, none⟩ = some (.int .u8 s1) ∧ V.cell? ⟨gx, 2, none⟩ = some (.int .u32 s2) ∧ V.cell? ⟨gx, 3, none⟩ = some (.int .u16 s3)) V) := fun V E h => ⟨h.cell 0 rfl 1, h.cell 0 rfl 2, h.cell 0 rfl 3⟩
              obtain ⟨Bp, Bd, hP, hR, hM⟩ := HT.out
              have hMd := hM.drew
              clear hM
              refine wp_region_held_drew (S := (fun V : World => V.cell? ⟨gx, 1, none⟩ = some (.int .u8 s1) ∧ V.cell? ⟨gx, 2, none⟩ = some (.int .u32 s2) ∧ V.cell? ⟨gx, 3, none⟩ = some (.int .u16 s3))) (by kernel_rfl) (HS9.out _ _ (hMd.perm (show List.Perm _ ((gx, .cells #[.int .i64 what, .int .u8 s1, .int .u32 s2, .int .u16 s3, .int .u32 o1, .int .u16 o2, .int .u32 f6, .slice pa np pb, .int .i64 f7, .int .u32 f8, .int .i64 most, .int .i64 kk, .bool own] 41 (0, 0)) :: (Bp ++ Bd)) from by
                  classical
                  rw [List.perm_iff_count]
                  intro q
                  simp only [List.count_append, List.count_cons, List.count_nil]
                  omega))) (fun hHeld => ?_)
              generalize hwd : wc.drew = Wd at *
              have hPW := HPW.out.below hMd.below (Nat.le_refl _)
              rw [HNP.out] at hPW
              have C1 := HC.out.drop hP hMd HXG.out.2 (s1, s2, s3) HSI.out.1
              obtain ⟨A, hA⟩ : ∃ A, (fk (s1, s2, s3) xs).isSome = A := ⟨_, rfl⟩
              obtain ⟨ys, hys⟩ : ∃ ys, dk (s1, s2, s3) xs = ys := ⟨_, rfl⟩
              rw [hA, hys] at C1
              have HG : Hid (XG ys (i + 1)) := by rw [← hys]; exact HXG.out.1.dk _
              have HD : Hid (∀ V L, Mem W V (Bd ++ L) → Calls Try.prog 18 #[.pointer (some ⟨m, 0, none⟩), .agg #[.int .u8 s1, .int .u32 s2, .int .u16 s3]] V fun e W' => e = .returned (.bool A) ∧ ∃ B', RT ys m B' ∧ Mem W W' (B' ++ L)) := fun V L hV => by
                have := rsdrop_any hR hV (by have := HXG.out.2; omega) (s1, s2, s3)
                rw [hA, hys] at this
                exact this
              clear hA hys hP hR hPW hMd hwd
              refine wpAnyH_take (i := 0) (v := ?_) rfl (by kernel_rfl) (by kernel_rfl) (by kernel_rfl) (fun _ _ _ h => h) (Or.inl ⟨by rfl, ?z25⟩) (by assumption) ?_
              case z25 =>
               intro w hSw
               (try dsimp only at hSw)
               go_simp
               all_goals with_reducible rfl
              try simp only [List.getElem_toArray, List.getElem_cons_zero, List.getElem_cons_succ, Act.put, List.setIfInBounds_toArray, List.set_cons_zero, List.set_cons_succ]
              refine wpAnyH_take (i := 1) (v := ?_) rfl (by kernel_rfl) (by kernel_rfl) (by kernel_rfl) (fun _ _ _ h => h) (Or.inl ⟨by rfl, ?z26⟩) (by assumption) ?_
              case z26 =>
               intro w hSw
               (try dsimp only at hSw)
               go_simp
               all_goals with_reducible rfl
              try simp only [List.getElem_toArray, List.getElem_cons_zero, List.getElem_cons_succ, Act.put, List.setIfInBounds_toArray, List.set_cons_zero, List.set_cons_succ]
              refine wpAnyH_take (i := 2) (v := ?_) rfl (by kernel_rfl) (by kernel_rfl) (by kernel_rfl) (fun _ _ _ h => h) (Or.inl ⟨by rfl, ?z27⟩) (by assumption) ?_
              case z27 =>
               intro w hSw
               (try dsimp only at hSw)
               go_simp
               all_goals with_reducible rfl
              try simp only [List.getElem_toArray, List.getElem_cons_zero, List.getElem_cons_succ, Act.put, List.setIfInBounds_toArray, List.set_cons_zero, List.set_cons_succ]
              refine wpAnyH_take (i := 3) (v := ?_) rfl (by kernel_rfl) (by kernel_rfl) (by kernel_rfl) (fun _ _ _ h => h) (Or.inl ⟨by rfl, ?z28⟩) (by assumption) ?_
              case z28 =>
               intro w hSw
               (try dsimp only at hSw)
               go_simp
               all_goals with_reducible rfl
              try simp only [List.getElem_toArray, List.getElem_cons_zero, List.getElem_cons_succ, Act.put, List.setIfInBounds_toArray, List.set_cons_zero, List.set_cons_succ]
              refine wpAnyH_take (i := 5) (v := ?_) rfl (by kernel_rfl) (by kernel_rfl) (by kernel_rfl) (fun _ _ _ h => h) (Or.inl ⟨by rfl, ?z29⟩) (by assumption) ?_
              case z29 =>
               intro w hSw
               (try dsimp only at hSw)
               go_simp
               all_goals with_reducible rfl
              try simp only [List.getElem_toArray, List.getElem_cons_zero, List.getElem_cons_succ, Act.put, List.setIfInBounds_toArray, List.set_cons_zero, List.set_cons_succ]
              refine wpAnyH_take (i := 6) (v := ?_) rfl (by kernel_rfl) (by kernel_rfl) (by kernel_rfl) (fun _ _ _ h => h) (Or.inl ⟨by rfl, ?z30⟩) (by assumption) ?_
              case z30 =>
               intro w hSw
               (try dsimp only at hSw)
               go_simp
               all_goals with_reducible rfl
              try simp only [List.getElem_toArray, List.getElem_cons_zero, List.getElem_cons_succ, Act.put, List.setIfInBounds_toArray, List.set_cons_zero, List.set_cons_succ]
              refine wpAnyH_take (i := 7) (v := ?_) rfl (by kernel_rfl) (by kernel_rfl) (by kernel_rfl) (fun _ _ _ h => h) (Or.inl ⟨by rfl, ?z31⟩) (by assumption) ?_
              case z31 =>
               intro w hSw
               (try dsimp only at hSw)
               go_simp
               all_goals with_reducible rfl
              try simp only [List.getElem_toArray, List.getElem_cons_zero, List.getElem_cons_succ, Act.put, List.setIfInBounds_toArray, List.set_cons_zero, List.set_cons_succ]
              refine wpAnyH_take (i := 8) (v := ?_) rfl (by kernel_rfl) (by kernel_rfl) (by kernel_rfl) (fun _ _ _ h => h) (Or.inl ⟨by rfl, ?z32⟩) (by assumption) ?_
              case z32 =>
               intro w hSw
               (try dsimp only at hSw)
               go_simp
               all_goals with_reducible rfl
              try simp only [List.getElem_toArray, List.getElem_cons_zero, List.getElem_cons_succ, Act.put, List.setIfInBounds_toArray, List.set_cons_zero, List.set_cons_succ]
              refine wpAnyH_ready (rs := [4]) (by kernel_rfl) (by simp) ?_
              refine AllReadyH.cons rfl (fun K hK => ?_) AllReadyH.nil
              go_simp
              with_reducible refine (C1).mono ?_
              rintro e V1 ⟨rfl, Bp1, hP1, hM1⟩
              try go_wp2_with fail
              have HP1 : Hid (PS ys t Bp1) := hP1
              have C2 := HD.out V1 (Bp1 ++ [(gx, .cells #[.int .i64 what, .int .u8 s1, .int .u32 s2, .int .u16 s3, .int .u32 o1, .int .u16 o2, .int .u32 f6, .slice pa np pb, .int .i64 f7, .int .u32 f8, .int .i64 most, .int .i64 kk, .bool own] 41 (0, 0))]) (hM1.perm (show List.Perm _ (Bd ++ (Bp1 ++ [(gx, .cells #[.int .i64 what, .int .u8 s1, .int .u32 s2, .int .u16 s3, .int .u32 o1, .int .u16 o2, .int .u32 f6, .slice pa np pb, .int .i64 f7, .int .u32 f8, .int .i64 most, .int .i64 kk, .bool own] 41 (0, 0))])) from by
                  classical
                  rw [List.perm_iff_count]
                  intro q
                  simp only [List.count_append, List.count_cons, List.count_nil]
                  omega))
              clear C1 hP1
              refine hK.out _ _ (HS9.out _ _ (hM1.perm (show List.Perm _ ((gx, .cells #[.int .i64 what, .int .u8 s1, .int .u32 s2, .int .u16 s3, .int .u32 o1, .int .u16 o2, .int .u32 f6, .slice pa np pb, .int .i64 f7, .int .u32 f8, .int .i64 most, .int .i64 kk, .bool own] 41 (0, 0)) :: (Bp1 ++ Bd)) from by
                  classical
                  rw [List.perm_iff_count]
                  intro q
                  simp only [List.count_append, List.count_cons, List.count_nil]
                  omega))) (fun hHeld => ?_)
              clear hK K
              try simp only [List.getElem_toArray, List.getElem_cons_zero, List.getElem_cons_succ, Act.put, List.setIfInBounds_toArray, List.set_cons_zero, List.set_cons_succ]
              refine wpAnyH_ready (rs := [9]) (by kernel_rfl) (by simp) ?_
              refine AllReadyH.cons rfl (fun K hK => ?_) AllReadyH.nil
              go_simp
              with_reducible refine (C2).mono ?_
              rintro e V2 ⟨rfl, Bd1, hR1, hM2⟩
              try go_wp2_with fail
              have HZ : Hid (Tw PS W t m ys [(gx, .cells #[.int .i64 what, .int .u8 s1, .int .u32 s2, .int .u16 s3, .int .u32 o1, .int .u16 o2, .int .u32 f6, .slice pa np pb, .int .i64 f7, .int .u32 f8, .int .i64 most, .int .i64 kk, .bool own] 41 (0, 0))] V2) := ⟨Bp1, Bd1, HP1.out, hR1, hM2.perm (by
                  classical
                  rw [List.perm_iff_count]
                  intro q
                  simp only [List.count_append, List.count_cons, List.count_nil]
                  omega)⟩
              clear C2 hR1
              refine hK.out _ _ (HS9.out _ _ (hM2.perm (show List.Perm _ ((gx, .cells #[.int .i64 what, .int .u8 s1, .int .u32 s2, .int .u16 s3, .int .u32 o1, .int .u16 o2, .int .u32 f6, .slice pa np pb, .int .i64 f7, .int .u32 f8, .int .i64 most, .int .i64 kk, .bool own] 41 (0, 0)) :: (Bd1 ++ Bp1)) from by
                  classical
                  rw [List.perm_iff_count]
                  intro q
                  simp only [List.count_append, List.count_cons, List.count_nil]
                  omega))) (fun hHeld => ?_)
              clear hK K
              try simp only [List.getElem_toArray, List.getElem_cons_zero, List.getElem_cons_succ, Act.put, List.setIfInBounds_toArray, List.set_cons_zero, List.set_cons_succ]
              refine wpAnyH_take (i := 10) (v := ?_) rfl (by kernel_rfl) (by kernel_rfl) (by kernel_rfl) (fun _ _ _ h => h) (Or.inl ⟨by rfl, ?z33⟩) (by assumption) ?_
              case z33 =>
               intro w hSw
               (try dsimp only at hSw)
               go_simp
               all_goals with_reducible rfl
              try simp only [List.getElem_toArray, List.getElem_cons_zero, List.getElem_cons_succ, Act.put, List.setIfInBounds_toArray, List.set_cons_zero, List.set_cons_succ]
              refine wpAnyH_done (by kernel_rfl) ?_ _
              clear hHeld HS9 HD hM1 hM2 HP1 HT
              go_wp2_with fail
              go_meet
              case rel => exact ⟨ys, HG.out, HZ.out⟩
            · have z6 : (what == 6) = false := by simpa using h6
              go_wp2_with fail
              go_meet
              case rel => exact ⟨xs, ⟨by have := HXG.out.1.1; omega, HXG.out.1.2⟩, HT.out⟩
      case rest =>
      obtain ⟨ys, hG, hT⟩ := hcut
      clear HT
      have HG : Hid (XG ys (i + 1) ∧ ys.length ≤ 1000) := ⟨hG, by have := hG.1; omega⟩
      obtain ⟨Bp, Bd, hP, hR, hM⟩ := hT
      obtain ⟨N, hN⟩ : ∃ N, ys.length = N := ⟨_, rfl⟩
      have HN : Hid (ys.length = N) := hN
      obtain ⟨la, lc, Bd', l1, l2, rfl⟩ : ∃ la lc Bd', N ≤ lc ∧ lc ≤ 9223372036854775807 ∧ Bd = (m, .cells #[.slice la N lc] 30 (0, 0)) :: Bd' := by
        obtain ⟨zs, v, C, D, ez, hS, rfl, -⟩ := id hR
        obtain ⟨-, la, lc, rfl, u1, u2, -⟩ := hS
        have hzl : zs.length = N := by rw [← hN, ← ez, List.length_map]
        rw [hzl] at u1
        simp only [maxLen] at u2
        exact ⟨la, lc, C ++ D, u1, by omega, by rw [hzl]⟩
      have HR0 : Hid (RT ys m ((m, .cells #[.slice la N lc] 30 (0, 0)) :: Bd')) := hR
      clear hR hN hG
      -- Find
      have hM1 := hM.perm (show List.Perm _ ((gx, .cells #[.int .i64 what, .int .u8 s1, .int .u32 s2, .int .u16 s3, .int .u32 o1, .int .u16 o2, .int .u32 f6, .slice pa np pb, .int .i64 f7, .int .u32 f8, .int .i64 most, .int .i64 kk, .bool own] 41 (0, 0)) :: (Bp ++ ((m, .cells #[.slice la N lc] 30 (0, 0)) :: Bd'))) from by
    classical
    rw [List.perm_iff_count]
    intro q
    simp only [List.count_append, List.count_cons, List.count_nil]
    omega)
      have q1 : wc.cell? ⟨gx, 1, none⟩ = some (.int .u8 s1) := hM1.cell 0 rfl 1
      have q2 : wc.cell? ⟨gx, 2, none⟩ = some (.int .u32 s2) := hM1.cell 0 rfl 2
      have q3 : wc.cell? ⟨gx, 3, none⟩ = some (.int .u16 s3) := hM1.cell 0 rfl 3
      have C1 := HC.out.find hP hM HG.out.2 (s1, s2, s3) HSI.out.1
      obtain ⟨oa, hoa⟩ : ∃ oa, fk (s1, s2, s3) ys = oa := ⟨_, rfl⟩
      have HOA : Hid (fk (s1, s2, s3) ys = oa) := hoa
      rw [hoa] at C1
      obtain ⟨ra, hra⟩ : ∃ ra, oa.isSome = ra := ⟨_, rfl⟩
      obtain ⟨ya, hya⟩ : ∃ ya, oa.getD sn0 = ya := ⟨_, rfl⟩
      have HRA : Hid (oa.isSome = ra ∧ oa.getD sn0 = ya) := ⟨hra, hya⟩
      clear hM hM1 hoa
      go_wp2_with fail
      with_reducible refine C1.mono ?_
      rintro e V1 ⟨val, D3, Bp1, rfl, hsd, hP1, hM2⟩
      rw [hra]
      rw [hya] at hsd
      clear C1 q1 q2 q3 hP hra hya
      obtain ⟨a1, a2, a3, a4, a5, a6, aps, a7, a8⟩ := ya
      obtain ⟨pv, rfl, hpv⟩ := hsd
      obtain ⟨na, hna⟩ : ∃ na, aps.length = na := ⟨_, rfl⟩
      have HNA : Hid (aps.length = na) := hna
      simp only [hna] at hpv
      obtain ⟨-, sa1, sc1, rfl, -⟩ := id hpv
      have HA : Hid (SlF 34 2 (.slice sa1 na sc1) na (px aps).flatten D3) := hpv
      have HP1 : Hid (PS ys t Bp1) := hP1
      simp only [sc]
      obtain ⟨ga, hga⟩ : ∃ ga, V1.heap.size = ga := ⟨_, rfl⟩
      have HM3 : Hid (Mem W (V1.alloc (.cells #[.int .u8 a1, .int .u32 a2, .int .u16 a3, .int .u32 a4, .int .u16 a5, .int .u32 a6, .slice sa1 na sc1, .int .i64 a7, .int .u32 a8] 39)) ((gx, .cells #[.int .i64 what, .int .u8 s1, .int .u32 s2, .int .u16 s3, .int .u32 o1, .int .u16 o2, .int .u32 f6, .slice pa np pb, .int .i64 f7, .int .u32 f8, .int .i64 most, .int .i64 kk, .bool own] 41 (0, 0)) :: (ga, .cells #[.int .u8 a1, .int .u32 a2, .int .u16 a3, .int .u32 a4, .int .u16 a5, .int .u32 a6, .slice sa1 na sc1, .int .i64 a7, .int .u32 a8] 39 (0, 0)) :: (D3 ++ (Bp1 ++ ((m, .cells #[.slice la N lc] 30 (0, 0)) :: Bd'))))) := (hM2.push ga _ hga.symm).perm (by
    classical
    rw [List.perm_iff_count]
    intro q
    simp only [List.count_append, List.count_cons, List.count_nil]
    omega)
      clear hM2 hpv hna hP1
      go_upto_region 29 with fail
      refine wp_letter (fun V => Mem W V ((gx, .cells #[.int .i64 what, .int .u8 s1, .int .u32 s2, .int .u16 s3, .int .u32 o1, .int .u16 o2, .int .u32 f6, .slice pa np pb, .int .i64 f7, .int .u32 f8, .int .i64 most, .int .i64 kk, .bool own] 41 (0, 0)) :: (ga, .cells #[.int .u8 a1, .int .u32 a2, .int .u16 a3, .int .u32 a4, .int .u16 a5, .int .u32 a6, .slice sa1 na sc1, .int .i64 a7, .int .u32 a8] 39 (0, 0)) :: (D3 ++ (Bp1 ++ ((m, .cells #[.slice la N lc] 30 (0, 0)) :: Bd'))))) (by exact HM3.out) ?_
      intro V2 hM4
      try simp only [hga]
      clear HM3
      -- the document's Find
      have q1 : V2.cell? ⟨gx, 1, none⟩ = some (.int .u8 s1) := hM4.cell 0 rfl 1
      have q2 : V2.cell? ⟨gx, 2, none⟩ = some (.int .u32 s2) := hM4.cell 0 rfl 2
      have q3 : V2.cell? ⟨gx, 3, none⟩ = some (.int .u16 s3) := hM4.cell 0 rfl 3
      have C2 := rfindd_any HR0.out (hM4.perm (show List.Perm _ (((m, .cells #[.slice la N lc] 30 (0, 0)) :: Bd') ++ ((gx, .cells #[.int .i64 what, .int .u8 s1, .int .u32 s2, .int .u16 s3, .int .u32 o1, .int .u16 o2, .int .u32 f6, .slice pa np pb, .int .i64 f7, .int .u32 f8, .int .i64 most, .int .i64 kk, .bool own] 41 (0, 0)) :: (ga, .cells #[.int .u8 a1, .int .u32 a2, .int .u16 a3, .int .u32 a4, .int .u16 a5, .int .u32 a6, .slice sa1 na sc1, .int .i64 a7, .int .u32 a8] 39 (0, 0)) :: (D3 ++ Bp1))) from by
    classical
    rw [List.perm_iff_count]
    intro q
    simp only [List.count_append, List.count_cons, List.count_nil]
    omega)) (s1, s2, s3)
      rw [HOA.out] at C2
      clear hM4
      go_wp2_with fail
      with_reducible refine C2.mono ?_
      rintro e V3 ⟨val, rfl, hsd, hM5⟩
      obtain ⟨hra, hya⟩ := HRA.out
      rw [hra]
      rw [hya] at hsd
      clear C2 q1 q2 q3 hra hya
      obtain ⟨pv, rfl, hpv⟩ := hsd
      simp only [HNA.out] at hpv
      obtain ⟨-, sa2, sc2, rfl, -⟩ := id hpv
      have HB : Hid (SlF 34 2 (.slice sa2 na sc2) na (px aps).flatten ((m, .cells #[.slice la N lc] 30 (0, 0)) :: Bd')) := hpv
      simp only [sc]
      obtain ⟨gb, hgb⟩ : ∃ gb, V3.heap.size = gb := ⟨_, rfl⟩
      have HM6 : Hid (Mem W (V3.alloc (.cells #[.int .u8 a1, .int .u32 a2, .int .u16 a3, .int .u32 a4, .int .u16 a5, .int .u32 a6, .slice sa2 na sc2, .int .i64 a7, .int .u32 a8] 39)) ((gx, .cells #[.int .i64 what, .int .u8 s1, .int .u32 s2, .int .u16 s3, .int .u32 o1, .int .u16 o2, .int .u32 f6, .slice pa np pb, .int .i64 f7, .int .u32 f8, .int .i64 most, .int .i64 kk, .bool own] 41 (0, 0)) :: (ga, .cells #[.int .u8 a1, .int .u32 a2, .int .u16 a3, .int .u32 a4, .int .u16 a5, .int .u32 a6, .slice sa1 na sc1, .int .i64 a7, .int .u32 a8] 39 (0, 0)) :: (gb, .cells #[.int .u8 a1, .int .u32 a2, .int .u16 a3, .int .u32 a4, .int .u16 a5, .int .u32 a6, .slice sa2 na sc2, .int .i64 a7, .int .u32 a8] 39 (0, 0)) :: (D3 ++ (Bp1 ++ ((m, .cells #[.slice la N lc] 30 (0, 0)) :: Bd'))))) := (hM5.push gb _ hgb.symm).perm (by
    classical
    rw [List.perm_iff_count]
    intro q
    simp only [List.count_append, List.count_cons, List.count_nil]
    omega)
      clear hM5 hpv
      go_upto_region 30 with fail
      refine wp_letter (fun V => Mem W V ((gx, .cells #[.int .i64 what, .int .u8 s1, .int .u32 s2, .int .u16 s3, .int .u32 o1, .int .u16 o2, .int .u32 f6, .slice pa np pb, .int .i64 f7, .int .u32 f8, .int .i64 most, .int .i64 kk, .bool own] 41 (0, 0)) :: (ga, .cells #[.int .u8 a1, .int .u32 a2, .int .u16 a3, .int .u32 a4, .int .u16 a5, .int .u32 a6, .slice sa1 na sc1, .int .i64 a7, .int .u32 a8] 39 (0, 0)) :: (gb, .cells #[.int .u8 a1, .int .u32 a2, .int .u16 a3, .int .u32 a4, .int .u16 a5, .int .u32 a6, .slice sa2 na sc2, .int .i64 a7, .int .u32 a8] 39 (0, 0)) :: (D3 ++ (Bp1 ++ ((m, .cells #[.slice la N lc] 30 (0, 0)) :: Bd'))))) (by exact HM6.out) ?_
      intro V4 hM7
      try simp only [hgb]
      clear HM6
      -- Out
      have q1 : V4.cell? ⟨gx, 1, none⟩ = some (.int .u8 s1) := hM7.cell 0 rfl 1
      have q4 : V4.cell? ⟨gx, 4, none⟩ = some (.int .u32 o1) := hM7.cell 0 rfl 4
      have q5 : V4.cell? ⟨gx, 5, none⟩ = some (.int .u16 o2) := hM7.cell 0 rfl 5
      have C3 := HC.out.out HP1.out (hM7.perm (show List.Perm _ (Bp1 ++ (D3 ++ ((gx, .cells #[.int .i64 what, .int .u8 s1, .int .u32 s2, .int .u16 s3, .int .u32 o1, .int .u16 o2, .int .u32 f6, .slice pa np pb, .int .i64 f7, .int .u32 f8, .int .i64 most, .int .i64 kk, .bool own] 41 (0, 0)) :: (ga, .cells #[.int .u8 a1, .int .u32 a2, .int .u16 a3, .int .u32 a4, .int .u16 a5, .int .u32 a6, .slice sa1 na sc1, .int .i64 a7, .int .u32 a8] 39 (0, 0)) :: (gb, .cells #[.int .u8 a1, .int .u32 a2, .int .u16 a3, .int .u32 a4, .int .u16 a5, .int .u32 a6, .slice sa2 na sc2, .int .i64 a7, .int .u32 a8] 39 (0, 0)) :: ((m, .cells #[.slice la N lc] 30 (0, 0)) :: Bd')))) from by
    classical
    rw [List.perm_iff_count]
    intro q
    simp only [List.count_append, List.count_cons, List.count_nil]
    omega)) HG.out.2 s1 (o1, o2) HSI.out.1.1 HSI.out.2.1
      obtain ⟨oc, hoc⟩ : ∃ oc, fo s1 (o1, o2) ys = oc := ⟨_, rfl⟩
      have HOC : Hid (fo s1 (o1, o2) ys = oc) := hoc
      rw [hoc] at C3
      obtain ⟨rc, hrc⟩ : ∃ rc, oc.isSome = rc := ⟨_, rfl⟩
      obtain ⟨yc, hyc⟩ : ∃ yc, oc.getD sn0 = yc := ⟨_, rfl⟩
      have HRC : Hid (oc.isSome = rc ∧ oc.getD sn0 = yc) := ⟨hrc, hyc⟩
      clear hM7 hoc
      go_wp2_with fail
      with_reducible refine C3.mono ?_
      rintro e V5 ⟨val, D5, Bp2, rfl, hsd, hP2, hM8⟩
      rw [hrc]
      rw [hyc] at hsd
      clear C3 q1 q4 q5 HP1 hrc hyc
      obtain ⟨c1, c2, c3, c4, c5, c6, cps, c7, c8⟩ := yc
      obtain ⟨pv, rfl, hpv⟩ := hsd
      obtain ⟨nc, hnc'⟩ : ∃ nc, cps.length = nc := ⟨_, rfl⟩
      have HNC : Hid (cps.length = nc) := hnc'
      simp only [hnc'] at hpv
      obtain ⟨-, sa3, sc3, rfl, -⟩ := id hpv
      have HCC : Hid (SlF 34 2 (.slice sa3 nc sc3) nc (px cps).flatten D5) := hpv
      have HP2 : Hid (PS ys t Bp2) := hP2
      simp only [sc]
      obtain ⟨gc, hgc⟩ : ∃ gc, V5.heap.size = gc := ⟨_, rfl⟩
      have HM9 : Hid (Mem W (V5.alloc (.cells #[.int .u8 c1, .int .u32 c2, .int .u16 c3, .int .u32 c4, .int .u16 c5, .int .u32 c6, .slice sa3 nc sc3, .int .i64 c7, .int .u32 c8] 39)) ((gx, .cells #[.int .i64 what, .int .u8 s1, .int .u32 s2, .int .u16 s3, .int .u32 o1, .int .u16 o2, .int .u32 f6, .slice pa np pb, .int .i64 f7, .int .u32 f8, .int .i64 most, .int .i64 kk, .bool own] 41 (0, 0)) :: (ga, .cells #[.int .u8 a1, .int .u32 a2, .int .u16 a3, .int .u32 a4, .int .u16 a5, .int .u32 a6, .slice sa1 na sc1, .int .i64 a7, .int .u32 a8] 39 (0, 0)) :: (gb, .cells #[.int .u8 a1, .int .u32 a2, .int .u16 a3, .int .u32 a4, .int .u16 a5, .int .u32 a6, .slice sa2 na sc2, .int .i64 a7, .int .u32 a8] 39 (0, 0)) :: (gc, .cells #[.int .u8 c1, .int .u32 c2, .int .u16 c3, .int .u32 c4, .int .u16 c5, .int .u32 c6, .slice sa3 nc sc3, .int .i64 c7, .int .u32 c8] 39 (0, 0)) :: (D3 ++ (D5 ++ (Bp2 ++ ((m, .cells #[.slice la N lc] 30 (0, 0)) :: Bd')))))) := (hM8.push gc _ hgc.symm).perm (by
    classical
    rw [List.perm_iff_count]
    intro q
    simp only [List.count_append, List.count_cons, List.count_nil]
    omega)
      clear hM8 hpv hnc' hP2
      go_upto_region 31 with fail
      refine wp_letter (fun V => Mem W V ((gx, .cells #[.int .i64 what, .int .u8 s1, .int .u32 s2, .int .u16 s3, .int .u32 o1, .int .u16 o2, .int .u32 f6, .slice pa np pb, .int .i64 f7, .int .u32 f8, .int .i64 most, .int .i64 kk, .bool own] 41 (0, 0)) :: (ga, .cells #[.int .u8 a1, .int .u32 a2, .int .u16 a3, .int .u32 a4, .int .u16 a5, .int .u32 a6, .slice sa1 na sc1, .int .i64 a7, .int .u32 a8] 39 (0, 0)) :: (gb, .cells #[.int .u8 a1, .int .u32 a2, .int .u16 a3, .int .u32 a4, .int .u16 a5, .int .u32 a6, .slice sa2 na sc2, .int .i64 a7, .int .u32 a8] 39 (0, 0)) :: (gc, .cells #[.int .u8 c1, .int .u32 c2, .int .u16 c3, .int .u32 c4, .int .u16 c5, .int .u32 c6, .slice sa3 nc sc3, .int .i64 c7, .int .u32 c8] 39 (0, 0)) :: (D3 ++ (D5 ++ (Bp2 ++ ((m, .cells #[.slice la N lc] 30 (0, 0)) :: Bd')))))) (by exact HM9.out) ?_
      intro V6 hM10
      try simp only [hgc]
      clear HM9
      -- the document's Out
      have q1 : V6.cell? ⟨gx, 1, none⟩ = some (.int .u8 s1) := hM10.cell 0 rfl 1
      have q4 : V6.cell? ⟨gx, 4, none⟩ = some (.int .u32 o1) := hM10.cell 0 rfl 4
      have q5 : V6.cell? ⟨gx, 5, none⟩ = some (.int .u16 o2) := hM10.cell 0 rfl 5
      have C4 := routd_any HR0.out (hM10.perm (show List.Perm _ (((m, .cells #[.slice la N lc] 30 (0, 0)) :: Bd') ++ ((gx, .cells #[.int .i64 what, .int .u8 s1, .int .u32 s2, .int .u16 s3, .int .u32 o1, .int .u16 o2, .int .u32 f6, .slice pa np pb, .int .i64 f7, .int .u32 f8, .int .i64 most, .int .i64 kk, .bool own] 41 (0, 0)) :: (ga, .cells #[.int .u8 a1, .int .u32 a2, .int .u16 a3, .int .u32 a4, .int .u16 a5, .int .u32 a6, .slice sa1 na sc1, .int .i64 a7, .int .u32 a8] 39 (0, 0)) :: (gb, .cells #[.int .u8 a1, .int .u32 a2, .int .u16 a3, .int .u32 a4, .int .u16 a5, .int .u32 a6, .slice sa2 na sc2, .int .i64 a7, .int .u32 a8] 39 (0, 0)) :: (gc, .cells #[.int .u8 c1, .int .u32 c2, .int .u16 c3, .int .u32 c4, .int .u16 c5, .int .u32 c6, .slice sa3 nc sc3, .int .i64 c7, .int .u32 c8] 39 (0, 0)) :: (D3 ++ (D5 ++ Bp2)))) from by
    classical
    rw [List.perm_iff_count]
    intro q
    simp only [List.count_append, List.count_cons, List.count_nil]
    omega)) s1 (o1, o2)
      rw [HOC.out] at C4
      clear hM10
      go_wp2_with fail
      with_reducible refine C4.mono ?_
      rintro e V7 ⟨val, rfl, hsd, hM11⟩
      obtain ⟨hrc, hyc⟩ := HRC.out
      rw [hrc]
      rw [hyc] at hsd
      clear C4 q1 q4 q5 hrc hyc
      obtain ⟨pv, rfl, hpv⟩ := hsd
      simp only [HNC.out] at hpv
      obtain ⟨-, sa4, sc4, rfl, -⟩ := id hpv
      have HDD : Hid (SlF 34 2 (.slice sa4 nc sc4) nc (px cps).flatten ((m, .cells #[.slice la N lc] 30 (0, 0)) :: Bd')) := hpv
      simp only [sc]
      obtain ⟨gd, hgd⟩ : ∃ gd, V7.heap.size = gd := ⟨_, rfl⟩
      have HM12 : Hid (Mem W (V7.alloc (.cells #[.int .u8 c1, .int .u32 c2, .int .u16 c3, .int .u32 c4, .int .u16 c5, .int .u32 c6, .slice sa4 nc sc4, .int .i64 c7, .int .u32 c8] 39)) ((ga, .cells #[.int .u8 a1, .int .u32 a2, .int .u16 a3, .int .u32 a4, .int .u16 a5, .int .u32 a6, .slice sa1 na sc1, .int .i64 a7, .int .u32 a8] 39 (0, 0)) :: (gb, .cells #[.int .u8 a1, .int .u32 a2, .int .u16 a3, .int .u32 a4, .int .u16 a5, .int .u32 a6, .slice sa2 na sc2, .int .i64 a7, .int .u32 a8] 39 (0, 0)) :: (gc, .cells #[.int .u8 c1, .int .u32 c2, .int .u16 c3, .int .u32 c4, .int .u16 c5, .int .u32 c6, .slice sa3 nc sc3, .int .i64 c7, .int .u32 c8] 39 (0, 0)) :: (gd, .cells #[.int .u8 c1, .int .u32 c2, .int .u16 c3, .int .u32 c4, .int .u16 c5, .int .u32 c6, .slice sa4 nc sc4, .int .i64 c7, .int .u32 c8] 39 (0, 0)) :: (m, .cells #[.slice la N lc] 30 (0, 0)) :: (D3 ++ (D5 ++ (Bp2 ++ ((gx, .cells #[.int .i64 what, .int .u8 s1, .int .u32 s2, .int .u16 s3, .int .u32 o1, .int .u16 o2, .int .u32 f6, .slice pa np pb, .int .i64 f7, .int .u32 f8, .int .i64 most, .int .i64 kk, .bool own] 41 (0, 0)) :: Bd')))))) := (hM11.push gd _ hgd.symm).perm (by
    classical
    rw [List.perm_iff_count]
    intro q
    simp only [List.count_append, List.count_cons, List.count_nil]
    omega)
      clear hM11 hpv
      go_upto_region 32 with fail
      refine wp_letter (fun V => Mem W V ((ga, .cells #[.int .u8 a1, .int .u32 a2, .int .u16 a3, .int .u32 a4, .int .u16 a5, .int .u32 a6, .slice sa1 na sc1, .int .i64 a7, .int .u32 a8] 39 (0, 0)) :: (gb, .cells #[.int .u8 a1, .int .u32 a2, .int .u16 a3, .int .u32 a4, .int .u16 a5, .int .u32 a6, .slice sa2 na sc2, .int .i64 a7, .int .u32 a8] 39 (0, 0)) :: (gc, .cells #[.int .u8 c1, .int .u32 c2, .int .u16 c3, .int .u32 c4, .int .u16 c5, .int .u32 c6, .slice sa3 nc sc3, .int .i64 c7, .int .u32 c8] 39 (0, 0)) :: (gd, .cells #[.int .u8 c1, .int .u32 c2, .int .u16 c3, .int .u32 c4, .int .u16 c5, .int .u32 c6, .slice sa4 nc sc4, .int .i64 c7, .int .u32 c8] 39 (0, 0)) :: (m, .cells #[.slice la N lc] 30 (0, 0)) :: (D3 ++ (D5 ++ (Bp2 ++ ((gx, .cells #[.int .i64 what, .int .u8 s1, .int .u32 s2, .int .u16 s3, .int .u32 o1, .int .u16 o2, .int .u32 f6, .slice pa np pb, .int .i64 f7, .int .u32 f8, .int .i64 most, .int .i64 kk, .bool own] 41 (0, 0)) :: Bd')))))) (by exact HM12.out) ?_
      intro V8 hM13
      try simp only [hgd]
      clear HM12
      have HSE : Hid (∀ V R, Mem W V ((ga, .cells #[.int .u8 a1, .int .u32 a2, .int .u16 a3, .int .u32 a4, .int .u16 a5, .int .u32 a6, .slice sa1 na sc1, .int .i64 a7, .int .u32 a8] 39 (0, 0)) :: (gb, .cells #[.int .u8 a1, .int .u32 a2, .int .u16 a3, .int .u32 a4, .int .u16 a5, .int .u32 a6, .slice sa2 na sc2, .int .i64 a7, .int .u32 a8] 39 (0, 0)) :: (gc, .cells #[.int .u8 c1, .int .u32 c2, .int .u16 c3, .int .u32 c4, .int .u16 c5, .int .u32 c6, .slice sa3 nc sc3, .int .i64 c7, .int .u32 c8] 39 (0, 0)) :: (gd, .cells #[.int .u8 c1, .int .u32 c2, .int .u16 c3, .int .u32 c4, .int .u16 c5, .int .u32 c6, .slice sa4 nc sc4, .int .i64 c7, .int .u32 c8] 39 (0, 0)) :: (m, .cells #[.slice la N lc] 30 (0, 0)) :: R) → (fun V : World => V.cell? ⟨ga, 0, none⟩ = some (.int .u8 a1) ∧ V.cell? ⟨ga, 1, none⟩ = some (.int .u32 a2) ∧ V.cell? ⟨ga, 2, none⟩ = some (.int .u16 a3) ∧ V.cell? ⟨ga, 3, none⟩ = some (.int .u32 a4) ∧ V.cell? ⟨ga, 4, none⟩ = some (.int .u16 a5) ∧ V.cell? ⟨ga, 5, none⟩ = some (.int .u32 a6) ∧ V.cell? ⟨ga, 6, none⟩ = some (.slice sa1 na sc1) ∧ V.cell? ⟨ga, 7, none⟩ = some (.int .i64 a7) ∧ V.cell? ⟨ga, 8, none⟩ = some (.int .u32 a8) ∧ V.cell? ⟨gb, 0, none⟩ = some (.int .u8 a1) ∧ V.cell? ⟨gb, 1, none⟩ = some (.int .u32 a2) ∧ V.cell? ⟨gb, 2, none⟩ = some (.int .u16 a3) ∧ V.cell? ⟨gb, 3, none⟩ = some (.int .u32 a4) ∧ V.cell? ⟨gb, 4, none⟩ = some (.int .u16 a5) ∧ V.cell? ⟨gb, 5, none⟩ = some (.int .u32 a6) ∧ V.cell? ⟨gb, 6, none⟩ = some (.slice sa2 na sc2) ∧ V.cell? ⟨gb, 7, none⟩ = some (.int .i64 a7) ∧ V.cell? ⟨gb, 8, none⟩ = some (.int .u32 a8) ∧ V.cell? ⟨gc, 0, none⟩ = some (.int .u8 c1) ∧ V.cell? ⟨gc, 1, none⟩ = some (.int .u32 c2) ∧ V.cell? ⟨gc, 2, none⟩ = some (.int .u16 c3) ∧ V.cell? ⟨gc, 3, none⟩ = some (.int .u32 c4) ∧ V.cell? ⟨gc, 4, none⟩ = some (.int .u16 c5) ∧ V.cell? ⟨gc, 5, none⟩ = some (.int .u32 c6) ∧ V.cell? ⟨gc, 6, none⟩ = some (.slice sa3 nc sc3) ∧ V.cell? ⟨gc, 7, none⟩ = some (.int .i64 c7) ∧ V.cell? ⟨gc, 8, none⟩ = some (.int .u32 c8) ∧ V.cell? ⟨gd, 0, none⟩ = some (.int .u8 c1) ∧ V.cell? ⟨gd, 1, none⟩ = some (.int .u32 c2) ∧ V.cell? ⟨gd, 2, none⟩ = some (.int .u16 c3) ∧ V.cell? ⟨gd, 3, none⟩ = some (.int .u32 c4) ∧ V.cell? ⟨gd, 4, none⟩ = some (.int .u16 c5) ∧ V.cell? ⟨gd, 5, none⟩ = some (.int .u32 c6) ∧ V.cell? ⟨gd, 6, none⟩ = some (.slice sa4 nc sc4) ∧ V.cell? ⟨gd, 7, none⟩ = some (.int .i64 c7) ∧ V.cell? ⟨gd, 8, none⟩ = some (.int .u32 c8) ∧ V.cell? ⟨m, 0, none⟩ = some (.slice la N lc)) V) := fun V R h => ⟨h.cell 0 rfl 0, h.cell 0 rfl 1, h.cell 0 rfl 2, h.cell 0 rfl 3, h.cell 0 rfl 4, h.cell 0 rfl 5, h.cell 0 rfl 6, h.cell 0 rfl 7, h.cell 0 rfl 8, h.cell 1 rfl 0, h.cell 1 rfl 1, h.cell 1 rfl 2, h.cell 1 rfl 3, h.cell 1 rfl 4, h.cell 1 rfl 5, h.cell 1 rfl 6, h.cell 1 rfl 7, h.cell 1 rfl 8, h.cell 2 rfl 0, h.cell 2 rfl 1, h.cell 2 rfl 2, h.cell 2 rfl 3, h.cell 2 rfl 4, h.cell 2 rfl 5, h.cell 2 rfl 6, h.cell 2 rfl 7, h.cell 2 rfl 8, h.cell 3 rfl 0, h.cell 3 rfl 1, h.cell 3 rfl 2, h.cell 3 rfl 3, h.cell 3 rfl 4, h.cell 3 rfl 5, h.cell 3 rfl 6, h.cell 3 rfl 7, h.cell 3 rfl 8, h.cell 4 rfl 0⟩
      have hMd := hM13.drew
      clear hM13
      refine wp_region_held_drew (S := (fun V : World => V.cell? ⟨ga, 0, none⟩ = some (.int .u8 a1) ∧ V.cell? ⟨ga, 1, none⟩ = some (.int .u32 a2) ∧ V.cell? ⟨ga, 2, none⟩ = some (.int .u16 a3) ∧ V.cell? ⟨ga, 3, none⟩ = some (.int .u32 a4) ∧ V.cell? ⟨ga, 4, none⟩ = some (.int .u16 a5) ∧ V.cell? ⟨ga, 5, none⟩ = some (.int .u32 a6) ∧ V.cell? ⟨ga, 6, none⟩ = some (.slice sa1 na sc1) ∧ V.cell? ⟨ga, 7, none⟩ = some (.int .i64 a7) ∧ V.cell? ⟨ga, 8, none⟩ = some (.int .u32 a8) ∧ V.cell? ⟨gb, 0, none⟩ = some (.int .u8 a1) ∧ V.cell? ⟨gb, 1, none⟩ = some (.int .u32 a2) ∧ V.cell? ⟨gb, 2, none⟩ = some (.int .u16 a3) ∧ V.cell? ⟨gb, 3, none⟩ = some (.int .u32 a4) ∧ V.cell? ⟨gb, 4, none⟩ = some (.int .u16 a5) ∧ V.cell? ⟨gb, 5, none⟩ = some (.int .u32 a6) ∧ V.cell? ⟨gb, 6, none⟩ = some (.slice sa2 na sc2) ∧ V.cell? ⟨gb, 7, none⟩ = some (.int .i64 a7) ∧ V.cell? ⟨gb, 8, none⟩ = some (.int .u32 a8) ∧ V.cell? ⟨gc, 0, none⟩ = some (.int .u8 c1) ∧ V.cell? ⟨gc, 1, none⟩ = some (.int .u32 c2) ∧ V.cell? ⟨gc, 2, none⟩ = some (.int .u16 c3) ∧ V.cell? ⟨gc, 3, none⟩ = some (.int .u32 c4) ∧ V.cell? ⟨gc, 4, none⟩ = some (.int .u16 c5) ∧ V.cell? ⟨gc, 5, none⟩ = some (.int .u32 c6) ∧ V.cell? ⟨gc, 6, none⟩ = some (.slice sa3 nc sc3) ∧ V.cell? ⟨gc, 7, none⟩ = some (.int .i64 c7) ∧ V.cell? ⟨gc, 8, none⟩ = some (.int .u32 c8) ∧ V.cell? ⟨gd, 0, none⟩ = some (.int .u8 c1) ∧ V.cell? ⟨gd, 1, none⟩ = some (.int .u32 c2) ∧ V.cell? ⟨gd, 2, none⟩ = some (.int .u16 c3) ∧ V.cell? ⟨gd, 3, none⟩ = some (.int .u32 c4) ∧ V.cell? ⟨gd, 4, none⟩ = some (.int .u16 c5) ∧ V.cell? ⟨gd, 5, none⟩ = some (.int .u32 c6) ∧ V.cell? ⟨gd, 6, none⟩ = some (.slice sa4 nc sc4) ∧ V.cell? ⟨gd, 7, none⟩ = some (.int .i64 c7) ∧ V.cell? ⟨gd, 8, none⟩ = some (.int .u32 c8) ∧ V.cell? ⟨m, 0, none⟩ = some (.slice la N lc))) (by kernel_rfl) (HSE.out _ _ hMd) (fun hHeld => ?_)
      generalize hwd : V8.drew = Vd at *
      clear hwd
      have C1 : Calls Try.prog 23 #[.agg #[.int .u8 a1, .int .u32 a2, .int .u16 a3, .int .u32 a4, .int .u16 a5, .int .u32 a6, .slice sa1 na sc1, .int .i64 a7, .int .u32 a8], .agg #[.int .u8 a1, .int .u32 a2, .int .u16 a3, .int .u32 a4, .int .u16 a5, .int .u32 a6, .slice sa2 na sc2, .int .i64 a7, .int .u32 a8]] Vd fun e W' => e = .returned (.bool true) ∧ Below Vd.heap.size Vd W' := sess_yes (W := Vd) (x := (⟨a1, a2, a3, a4, a5, a6, aps, a7, a8⟩ : Sn)) ⟨.slice sa1 na sc1, rfl, SlF.rw px_two (by rw [px_len, HNA.out]; exact HA.out) (hMd.perm (show List.Perm _ (D3 ++ ((ga, .cells #[.int .u8 a1, .int .u32 a2, .int .u16 a3, .int .u32 a4, .int .u16 a5, .int .u32 a6, .slice sa1 na sc1, .int .i64 a7, .int .u32 a8] 39 (0, 0)) :: (gb, .cells #[.int .u8 a1, .int .u32 a2, .int .u16 a3, .int .u32 a4, .int .u16 a5, .int .u32 a6, .slice sa2 na sc2, .int .i64 a7, .int .u32 a8] 39 (0, 0)) :: (gc, .cells #[.int .u8 c1, .int .u32 c2, .int .u16 c3, .int .u32 c4, .int .u16 c5, .int .u32 c6, .slice sa3 nc sc3, .int .i64 c7, .int .u32 c8] 39 (0, 0)) :: (gd, .cells #[.int .u8 c1, .int .u32 c2, .int .u16 c3, .int .u32 c4, .int .u16 c5, .int .u32 c6, .slice sa4 nc sc4, .int .i64 c7, .int .u32 c8] 39 (0, 0)) :: (m, .cells #[.slice la N lc] 30 (0, 0)) :: (D5 ++ (Bp2 ++ ((gx, .cells #[.int .i64 what, .int .u8 s1, .int .u32 s2, .int .u16 s3, .int .u32 o1, .int .u16 o2, .int .u32 f6, .slice pa np pb, .int .i64 f7, .int .u32 f8, .int .i64 most, .int .i64 kk, .bool own] 41 (0, 0)) :: Bd'))))) from by
          classical
          rw [List.perm_iff_count]
          intro q
          simp only [List.count_append, List.count_cons, List.count_nil]
          omega))⟩ ⟨.slice sa2 na sc2, rfl, SlF.rw px_two (by rw [px_len, HNA.out]; exact HB.out) (hMd.perm (show List.Perm _ (((m, .cells #[.slice la N lc] 30 (0, 0)) :: Bd') ++ ((ga, .cells #[.int .u8 a1, .int .u32 a2, .int .u16 a3, .int .u32 a4, .int .u16 a5, .int .u32 a6, .slice sa1 na sc1, .int .i64 a7, .int .u32 a8] 39 (0, 0)) :: (gb, .cells #[.int .u8 a1, .int .u32 a2, .int .u16 a3, .int .u32 a4, .int .u16 a5, .int .u32 a6, .slice sa2 na sc2, .int .i64 a7, .int .u32 a8] 39 (0, 0)) :: (gc, .cells #[.int .u8 c1, .int .u32 c2, .int .u16 c3, .int .u32 c4, .int .u16 c5, .int .u32 c6, .slice sa3 nc sc3, .int .i64 c7, .int .u32 c8] 39 (0, 0)) :: (gd, .cells #[.int .u8 c1, .int .u32 c2, .int .u16 c3, .int .u32 c4, .int .u16 c5, .int .u32 c6, .slice sa4 nc sc4, .int .i64 c7, .int .u32 c8] 39 (0, 0)) :: (D3 ++ (D5 ++ (Bp2 ++ [(gx, .cells #[.int .i64 what, .int .u8 s1, .int .u32 s2, .int .u16 s3, .int .u32 o1, .int .u16 o2, .int .u32 f6, .slice pa np pb, .int .i64 f7, .int .u32 f8, .int .i64 most, .int .i64 kk, .bool own] 41 (0, 0))]))))) from by
          classical
          rw [List.perm_iff_count]
          intro q
          simp only [List.count_append, List.count_cons, List.count_nil]
          omega))⟩
      have HMd : Hid (Mem W Vd ((ga, .cells #[.int .u8 a1, .int .u32 a2, .int .u16 a3, .int .u32 a4, .int .u16 a5, .int .u32 a6, .slice sa1 na sc1, .int .i64 a7, .int .u32 a8] 39 (0, 0)) :: (gb, .cells #[.int .u8 a1, .int .u32 a2, .int .u16 a3, .int .u32 a4, .int .u16 a5, .int .u32 a6, .slice sa2 na sc2, .int .i64 a7, .int .u32 a8] 39 (0, 0)) :: (gc, .cells #[.int .u8 c1, .int .u32 c2, .int .u16 c3, .int .u32 c4, .int .u16 c5, .int .u32 c6, .slice sa3 nc sc3, .int .i64 c7, .int .u32 c8] 39 (0, 0)) :: (gd, .cells #[.int .u8 c1, .int .u32 c2, .int .u16 c3, .int .u32 c4, .int .u16 c5, .int .u32 c6, .slice sa4 nc sc4, .int .i64 c7, .int .u32 c8] 39 (0, 0)) :: (m, .cells #[.slice la N lc] 30 (0, 0)) :: (D3 ++ (D5 ++ (Bp2 ++ ((gx, .cells #[.int .i64 what, .int .u8 s1, .int .u32 s2, .int .u16 s3, .int .u32 o1, .int .u16 o2, .int .u32 f6, .slice pa np pb, .int .i64 f7, .int .u32 f8, .int .i64 most, .int .i64 kk, .bool own] 41 (0, 0)) :: Bd')))))) := hMd
      clear hMd
      refine wpAnyH_take (i := 0) (v := ?_) rfl (by kernel_rfl) (by kernel_rfl) (by kernel_rfl) (fun _ _ _ h => h) (Or.inl ⟨by rfl, ?z34⟩) (by assumption) ?_
      case z34 =>
       intro w hSw
       (try dsimp only at hSw)
       go_simp
       all_goals with_reducible rfl
      try simp only [List.getElem_toArray, List.getElem_cons_zero, List.getElem_cons_succ, Act.put, List.setIfInBounds_toArray, List.set_cons_zero, List.set_cons_succ]
      refine wpAnyH_take (i := 1) (v := ?_) rfl (by kernel_rfl) (by kernel_rfl) (by kernel_rfl) (fun _ _ _ h => h) (Or.inl ⟨by rfl, ?z35⟩) (by assumption) ?_
      case z35 =>
       intro w hSw
       (try dsimp only at hSw)
       go_simp
       all_goals with_reducible rfl
      try simp only [List.getElem_toArray, List.getElem_cons_zero, List.getElem_cons_succ, Act.put, List.setIfInBounds_toArray, List.set_cons_zero, List.set_cons_succ]
      refine wpAnyH_take (i := 2) (v := ?_) rfl (by kernel_rfl) (by kernel_rfl) (by kernel_rfl) (fun _ _ _ h => h) (Or.inl ⟨by rfl, ?z36⟩) (by assumption) ?_
      case z36 =>
       intro w hSw
       (try dsimp only at hSw)
       go_simp
       all_goals with_reducible rfl
      try simp only [List.getElem_toArray, List.getElem_cons_zero, List.getElem_cons_succ, Act.put, List.setIfInBounds_toArray, List.set_cons_zero, List.set_cons_succ]
      refine wpAnyH_take (i := 3) (v := ?_) rfl (by kernel_rfl) (by kernel_rfl) (by kernel_rfl) (fun _ _ _ h => h) (Or.inl ⟨by rfl, ?z37⟩) (by assumption) ?_
      case z37 =>
       intro w hSw
       (try dsimp only at hSw)
       go_simp
       all_goals with_reducible rfl
      try simp only [List.getElem_toArray, List.getElem_cons_zero, List.getElem_cons_succ, Act.put, List.setIfInBounds_toArray, List.set_cons_zero, List.set_cons_succ]
      refine wpAnyH_take (i := 4) (v := ?_) rfl (by kernel_rfl) (by kernel_rfl) (by kernel_rfl) (fun _ _ _ h => h) (Or.inl ⟨by rfl, ?z38⟩) (by assumption) ?_
      case z38 =>
       intro w hSw
       (try dsimp only at hSw)
       go_simp
       all_goals with_reducible rfl
      try simp only [List.getElem_toArray, List.getElem_cons_zero, List.getElem_cons_succ, Act.put, List.setIfInBounds_toArray, List.set_cons_zero, List.set_cons_succ]
      refine wpAnyH_take (i := 5) (v := ?_) rfl (by kernel_rfl) (by kernel_rfl) (by kernel_rfl) (fun _ _ _ h => h) (Or.inl ⟨by rfl, ?z39⟩) (by assumption) ?_
      case z39 =>
       intro w hSw
       (try dsimp only at hSw)
       go_simp
       all_goals with_reducible rfl
      try simp only [List.getElem_toArray, List.getElem_cons_zero, List.getElem_cons_succ, Act.put, List.setIfInBounds_toArray, List.set_cons_zero, List.set_cons_succ]
      refine wpAnyH_ready (rs := [6]) (by kernel_rfl) (by simp) ?_
      refine AllReadyH.cons rfl (fun K hK => ?_) AllReadyH.nil
      go_simp
      with_reducible refine (C1).mono ?_
      rintro e V9 ⟨rfl, hb⟩
      try go_wp2_with fail
      have hM14 := HMd.out.after hb
      have HM14 : Hid (Mem W V9 ((ga, .cells #[.int .u8 a1, .int .u32 a2, .int .u16 a3, .int .u32 a4, .int .u16 a5, .int .u32 a6, .slice sa1 na sc1, .int .i64 a7, .int .u32 a8] 39 (0, 0)) :: (gb, .cells #[.int .u8 a1, .int .u32 a2, .int .u16 a3, .int .u32 a4, .int .u16 a5, .int .u32 a6, .slice sa2 na sc2, .int .i64 a7, .int .u32 a8] 39 (0, 0)) :: (gc, .cells #[.int .u8 c1, .int .u32 c2, .int .u16 c3, .int .u32 c4, .int .u16 c5, .int .u32 c6, .slice sa3 nc sc3, .int .i64 c7, .int .u32 c8] 39 (0, 0)) :: (gd, .cells #[.int .u8 c1, .int .u32 c2, .int .u16 c3, .int .u32 c4, .int .u16 c5, .int .u32 c6, .slice sa4 nc sc4, .int .i64 c7, .int .u32 c8] 39 (0, 0)) :: (m, .cells #[.slice la N lc] 30 (0, 0)) :: (D3 ++ (D5 ++ (Bp2 ++ ((gx, .cells #[.int .i64 what, .int .u8 s1, .int .u32 s2, .int .u16 s3, .int .u32 o1, .int .u16 o2, .int .u32 f6, .slice pa np pb, .int .i64 f7, .int .u32 f8, .int .i64 most, .int .i64 kk, .bool own] 41 (0, 0)) :: Bd')))))) := hM14
      clear C1 hb
      refine hK.out _ _ (HSE.out _ _ hM14) (fun hHeld => ?_)
      clear hK K
      try simp only [List.getElem_toArray, List.getElem_cons_zero, List.getElem_cons_succ, Act.put, List.setIfInBounds_toArray, List.set_cons_zero, List.set_cons_succ]
      have C2 : Calls Try.prog 23 #[.agg #[.int .u8 c1, .int .u32 c2, .int .u16 c3, .int .u32 c4, .int .u16 c5, .int .u32 c6, .slice sa3 nc sc3, .int .i64 c7, .int .u32 c8], .agg #[.int .u8 c1, .int .u32 c2, .int .u16 c3, .int .u32 c4, .int .u16 c5, .int .u32 c6, .slice sa4 nc sc4, .int .i64 c7, .int .u32 c8]] V9 fun e W' => e = .returned (.bool true) ∧ Below V9.heap.size V9 W' := sess_yes (W := V9) (x := (⟨c1, c2, c3, c4, c5, c6, cps, c7, c8⟩ : Sn)) ⟨.slice sa3 nc sc3, rfl, SlF.rw px_two (by rw [px_len, HNC.out]; exact HCC.out) (hM14.perm (show List.Perm _ (D5 ++ ((ga, .cells #[.int .u8 a1, .int .u32 a2, .int .u16 a3, .int .u32 a4, .int .u16 a5, .int .u32 a6, .slice sa1 na sc1, .int .i64 a7, .int .u32 a8] 39 (0, 0)) :: (gb, .cells #[.int .u8 a1, .int .u32 a2, .int .u16 a3, .int .u32 a4, .int .u16 a5, .int .u32 a6, .slice sa2 na sc2, .int .i64 a7, .int .u32 a8] 39 (0, 0)) :: (gc, .cells #[.int .u8 c1, .int .u32 c2, .int .u16 c3, .int .u32 c4, .int .u16 c5, .int .u32 c6, .slice sa3 nc sc3, .int .i64 c7, .int .u32 c8] 39 (0, 0)) :: (gd, .cells #[.int .u8 c1, .int .u32 c2, .int .u16 c3, .int .u32 c4, .int .u16 c5, .int .u32 c6, .slice sa4 nc sc4, .int .i64 c7, .int .u32 c8] 39 (0, 0)) :: (m, .cells #[.slice la N lc] 30 (0, 0)) :: (D3 ++ (Bp2 ++ ((gx, .cells #[.int .i64 what, .int .u8 s1, .int .u32 s2, .int .u16 s3, .int .u32 o1, .int .u16 o2, .int .u32 f6, .slice pa np pb, .int .i64 f7, .int .u32 f8, .int .i64 most, .int .i64 kk, .bool own] 41 (0, 0)) :: Bd'))))) from by
          classical
          rw [List.perm_iff_count]
          intro q
          simp only [List.count_append, List.count_cons, List.count_nil]
          omega))⟩ ⟨.slice sa4 nc sc4, rfl, SlF.rw px_two (by rw [px_len, HNC.out]; exact HDD.out) (hM14.perm (show List.Perm _ (((m, .cells #[.slice la N lc] 30 (0, 0)) :: Bd') ++ ((ga, .cells #[.int .u8 a1, .int .u32 a2, .int .u16 a3, .int .u32 a4, .int .u16 a5, .int .u32 a6, .slice sa1 na sc1, .int .i64 a7, .int .u32 a8] 39 (0, 0)) :: (gb, .cells #[.int .u8 a1, .int .u32 a2, .int .u16 a3, .int .u32 a4, .int .u16 a5, .int .u32 a6, .slice sa2 na sc2, .int .i64 a7, .int .u32 a8] 39 (0, 0)) :: (gc, .cells #[.int .u8 c1, .int .u32 c2, .int .u16 c3, .int .u32 c4, .int .u16 c5, .int .u32 c6, .slice sa3 nc sc3, .int .i64 c7, .int .u32 c8] 39 (0, 0)) :: (gd, .cells #[.int .u8 c1, .int .u32 c2, .int .u16 c3, .int .u32 c4, .int .u16 c5, .int .u32 c6, .slice sa4 nc sc4, .int .i64 c7, .int .u32 c8] 39 (0, 0)) :: (D3 ++ (D5 ++ (Bp2 ++ [(gx, .cells #[.int .i64 what, .int .u8 s1, .int .u32 s2, .int .u16 s3, .int .u32 o1, .int .u16 o2, .int .u32 f6, .slice pa np pb, .int .i64 f7, .int .u32 f8, .int .i64 most, .int .i64 kk, .bool own] 41 (0, 0))]))))) from by
          classical
          rw [List.perm_iff_count]
          intro q
          simp only [List.count_append, List.count_cons, List.count_nil]
          omega))⟩
      refine wpAnyH_take (i := 7) (v := ?_) rfl (by kernel_rfl) (by kernel_rfl) (by kernel_rfl) (fun _ _ _ h => h) (Or.inl ⟨by rfl, ?z40⟩) (by assumption) ?_
      case z40 =>
       intro w hSw
       (try dsimp only at hSw)
       go_simp
       all_goals with_reducible rfl
      try simp only [List.getElem_toArray, List.getElem_cons_zero, List.getElem_cons_succ, Act.put, List.setIfInBounds_toArray, List.set_cons_zero, List.set_cons_succ]
      refine wpAnyH_take (i := 8) (v := ?_) rfl (by kernel_rfl) (by kernel_rfl) (by kernel_rfl) (fun _ _ _ h => h) (Or.inl ⟨by rfl, ?z41⟩) (by assumption) ?_
      case z41 =>
       intro w hSw
       (try dsimp only at hSw)
       go_simp
       all_goals with_reducible rfl
      try simp only [List.getElem_toArray, List.getElem_cons_zero, List.getElem_cons_succ, Act.put, List.setIfInBounds_toArray, List.set_cons_zero, List.set_cons_succ]
      refine wpAnyH_take (i := 9) (v := ?_) rfl (by kernel_rfl) (by kernel_rfl) (by kernel_rfl) (fun _ _ _ h => h) (Or.inl ⟨by rfl, ?z42⟩) (by assumption) ?_
      case z42 =>
       intro w hSw
       (try dsimp only at hSw)
       go_simp
       all_goals with_reducible rfl
      try simp only [List.getElem_toArray, List.getElem_cons_zero, List.getElem_cons_succ, Act.put, List.setIfInBounds_toArray, List.set_cons_zero, List.set_cons_succ]
      refine wpAnyH_take (i := 10) (v := ?_) rfl (by kernel_rfl) (by kernel_rfl) (by kernel_rfl) (fun _ _ _ h => h) (Or.inl ⟨by rfl, ?z43⟩) (by assumption) ?_
      case z43 =>
       intro w hSw
       (try dsimp only at hSw)
       go_simp
       all_goals with_reducible rfl
      try simp only [List.getElem_toArray, List.getElem_cons_zero, List.getElem_cons_succ, Act.put, List.setIfInBounds_toArray, List.set_cons_zero, List.set_cons_succ]
      refine wpAnyH_take (i := 11) (v := ?_) rfl (by kernel_rfl) (by kernel_rfl) (by kernel_rfl) (fun _ _ _ h => h) (Or.inl ⟨by rfl, ?z44⟩) (by assumption) ?_
      case z44 =>
       intro w hSw
       (try dsimp only at hSw)
       go_simp
       all_goals with_reducible rfl
      try simp only [List.getElem_toArray, List.getElem_cons_zero, List.getElem_cons_succ, Act.put, List.setIfInBounds_toArray, List.set_cons_zero, List.set_cons_succ]
      refine wpAnyH_take (i := 12) (v := ?_) rfl (by kernel_rfl) (by kernel_rfl) (by kernel_rfl) (fun _ _ _ h => h) (Or.inl ⟨by rfl, ?z45⟩) (by assumption) ?_
      case z45 =>
       intro w hSw
       (try dsimp only at hSw)
       go_simp
       all_goals with_reducible rfl
      try simp only [List.getElem_toArray, List.getElem_cons_zero, List.getElem_cons_succ, Act.put, List.setIfInBounds_toArray, List.set_cons_zero, List.set_cons_succ]
      refine wpAnyH_take (i := 13) (v := ?_) rfl (by kernel_rfl) (by kernel_rfl) (by kernel_rfl) (fun _ _ _ h => h) (Or.inl ⟨by rfl, ?z46⟩) (by assumption) ?_
      case z46 =>
       intro w hSw
       (try dsimp only at hSw)
       go_simp
       all_goals with_reducible rfl
      try simp only [List.getElem_toArray, List.getElem_cons_zero, List.getElem_cons_succ, Act.put, List.setIfInBounds_toArray, List.set_cons_zero, List.set_cons_succ]
      refine wpAnyH_take (i := 14) (v := ?_) rfl (by kernel_rfl) (by kernel_rfl) (by kernel_rfl) (fun _ _ _ h => h) (Or.inl ⟨by rfl, ?z47⟩) (by assumption) ?_
      case z47 =>
       intro w hSw
       (try dsimp only at hSw)
       go_simp
       all_goals with_reducible rfl
      try simp only [List.getElem_toArray, List.getElem_cons_zero, List.getElem_cons_succ, Act.put, List.setIfInBounds_toArray, List.set_cons_zero, List.set_cons_succ]
      refine wpAnyH_take (i := 15) (v := ?_) rfl (by kernel_rfl) (by kernel_rfl) (by kernel_rfl) (fun _ _ _ h => h) (Or.inl ⟨by rfl, ?z48⟩) (by assumption) ?_
      case z48 =>
       intro w hSw
       (try dsimp only at hSw)
       go_simp
       all_goals with_reducible rfl
      try simp only [List.getElem_toArray, List.getElem_cons_zero, List.getElem_cons_succ, Act.put, List.setIfInBounds_toArray, List.set_cons_zero, List.set_cons_succ]
      refine wpAnyH_take (i := 16) (v := ?_) rfl (by kernel_rfl) (by kernel_rfl) (by kernel_rfl) (fun _ _ _ h => h) (Or.inl ⟨by rfl, ?z49⟩) (by assumption) ?_
      case z49 =>
       intro w hSw
       (try dsimp only at hSw)
       go_simp
       all_goals with_reducible rfl
      try simp only [List.getElem_toArray, List.getElem_cons_zero, List.getElem_cons_succ, Act.put, List.setIfInBounds_toArray, List.set_cons_zero, List.set_cons_succ]
      refine wpAnyH_ready (rs := [17]) (by kernel_rfl) (by simp) ?_
      refine AllReadyH.cons rfl (fun K hK => ?_) AllReadyH.nil
      go_simp
      with_reducible refine (C2).mono ?_
      rintro e V10 ⟨rfl, hb⟩
      try go_wp2_with fail
      have hM15 := HM14.out.after hb
      have HM15 : Hid (Mem W V10 ((ga, .cells #[.int .u8 a1, .int .u32 a2, .int .u16 a3, .int .u32 a4, .int .u16 a5, .int .u32 a6, .slice sa1 na sc1, .int .i64 a7, .int .u32 a8] 39 (0, 0)) :: (gb, .cells #[.int .u8 a1, .int .u32 a2, .int .u16 a3, .int .u32 a4, .int .u16 a5, .int .u32 a6, .slice sa2 na sc2, .int .i64 a7, .int .u32 a8] 39 (0, 0)) :: (gc, .cells #[.int .u8 c1, .int .u32 c2, .int .u16 c3, .int .u32 c4, .int .u16 c5, .int .u32 c6, .slice sa3 nc sc3, .int .i64 c7, .int .u32 c8] 39 (0, 0)) :: (gd, .cells #[.int .u8 c1, .int .u32 c2, .int .u16 c3, .int .u32 c4, .int .u16 c5, .int .u32 c6, .slice sa4 nc sc4, .int .i64 c7, .int .u32 c8] 39 (0, 0)) :: (m, .cells #[.slice la N lc] 30 (0, 0)) :: (D3 ++ (D5 ++ (Bp2 ++ ((gx, .cells #[.int .i64 what, .int .u8 s1, .int .u32 s2, .int .u16 s3, .int .u32 o1, .int .u16 o2, .int .u32 f6, .slice pa np pb, .int .i64 f7, .int .u32 f8, .int .i64 most, .int .i64 kk, .bool own] 41 (0, 0)) :: Bd')))))) := hM15
      clear C2 hb hM14
      refine hK.out _ _ (HSE.out _ _ hM15) (fun hHeld => ?_)
      clear hK K
      try simp only [List.getElem_toArray, List.getElem_cons_zero, List.getElem_cons_succ, Act.put, List.setIfInBounds_toArray, List.set_cons_zero, List.set_cons_succ]
      have C3 := HC.out.all HP2.out (hM15.perm (show List.Perm _ (Bp2 ++ ((ga, .cells #[.int .u8 a1, .int .u32 a2, .int .u16 a3, .int .u32 a4, .int .u16 a5, .int .u32 a6, .slice sa1 na sc1, .int .i64 a7, .int .u32 a8] 39 (0, 0)) :: (gb, .cells #[.int .u8 a1, .int .u32 a2, .int .u16 a3, .int .u32 a4, .int .u16 a5, .int .u32 a6, .slice sa2 na sc2, .int .i64 a7, .int .u32 a8] 39 (0, 0)) :: (gc, .cells #[.int .u8 c1, .int .u32 c2, .int .u16 c3, .int .u32 c4, .int .u16 c5, .int .u32 c6, .slice sa3 nc sc3, .int .i64 c7, .int .u32 c8] 39 (0, 0)) :: (gd, .cells #[.int .u8 c1, .int .u32 c2, .int .u16 c3, .int .u32 c4, .int .u16 c5, .int .u32 c6, .slice sa4 nc sc4, .int .i64 c7, .int .u32 c8] 39 (0, 0)) :: (m, .cells #[.slice la N lc] 30 (0, 0)) :: (D3 ++ (D5 ++ ((gx, .cells #[.int .i64 what, .int .u8 s1, .int .u32 s2, .int .u16 s3, .int .u32 o1, .int .u16 o2, .int .u32 f6, .slice pa np pb, .int .i64 f7, .int .u32 f8, .int .i64 most, .int .i64 kk, .bool own] 41 (0, 0)) :: Bd'))))) from by
          classical
          rw [List.perm_iff_count]
          intro q
          simp only [List.count_append, List.count_cons, List.count_nil]
          omega)) HG.out.2
      refine wpAnyH_take (i := 18) (v := ?_) rfl (by kernel_rfl) (by kernel_rfl) (by kernel_rfl) (fun _ _ _ h => h) (Or.inl ⟨by rfl, ?z50⟩) (by assumption) ?_
      case z50 =>
       intro w hSw
       (try dsimp only at hSw)
       go_simp
       all_goals with_reducible rfl
      try simp only [List.getElem_toArray, List.getElem_cons_zero, List.getElem_cons_succ, Act.put, List.setIfInBounds_toArray, List.set_cons_zero, List.set_cons_succ]
      refine wpAnyH_take (i := 19) (v := ?_) rfl (by kernel_rfl) (by kernel_rfl) (by kernel_rfl) (fun _ _ _ h => h) (Or.inl ⟨by rfl, ?z51⟩) (by assumption) ?_
      case z51 =>
       intro w hSw
       (try dsimp only at hSw)
       go_simp
       all_goals with_reducible rfl
      try simp only [List.getElem_toArray, List.getElem_cons_zero, List.getElem_cons_succ, Act.put, List.setIfInBounds_toArray, List.set_cons_zero, List.set_cons_succ]
      refine wpAnyH_take (i := 20) (v := ?_) rfl (by kernel_rfl) (by kernel_rfl) (by kernel_rfl) (fun _ _ _ h => h) (Or.inl ⟨by rfl, ?z52⟩) (by assumption) ?_
      case z52 =>
       intro w hSw
       (try dsimp only at hSw)
       go_simp
       all_goals with_reducible rfl
      try simp only [List.getElem_toArray, List.getElem_cons_zero, List.getElem_cons_succ, Act.put, List.setIfInBounds_toArray, List.set_cons_zero, List.set_cons_succ]
      refine wpAnyH_take (i := 21) (v := ?_) rfl (by kernel_rfl) (by kernel_rfl) (by kernel_rfl) (fun _ _ _ h => h) (Or.inl ⟨by rfl, ?z53⟩) (by assumption) ?_
      case z53 =>
       intro w hSw
       (try dsimp only at hSw)
       go_simp
       all_goals with_reducible rfl
      try simp only [List.getElem_toArray, List.getElem_cons_zero, List.getElem_cons_succ, Act.put, List.setIfInBounds_toArray, List.set_cons_zero, List.set_cons_succ]
      refine wpAnyH_take (i := 23) (v := ?_) rfl (by kernel_rfl) (by kernel_rfl) (by kernel_rfl) (fun _ _ _ h => h) (Or.inl ⟨by rfl, ?z54⟩) (by assumption) ?_
      case z54 =>
       intro w hSw
       (try dsimp only at hSw)
       go_simp
       all_goals with_reducible rfl
      try simp only [List.getElem_toArray, List.getElem_cons_zero, List.getElem_cons_succ, Act.put, List.setIfInBounds_toArray, List.set_cons_zero, List.set_cons_succ]
      refine wpAnyH_take (i := 24) (v := ?_) rfl (by kernel_rfl) (by kernel_rfl) (by kernel_rfl) (fun _ _ _ h => h) (Or.inl ⟨by rfl, ?z55⟩) (by assumption) ?_
      case z55 =>
       intro w hSw
       (try dsimp only at hSw)
       go_simp
       all_goals with_reducible rfl
      try simp only [List.getElem_toArray, List.getElem_cons_zero, List.getElem_cons_succ, Act.put, List.setIfInBounds_toArray, List.set_cons_zero, List.set_cons_succ]
      refine wpAnyH_take (i := 25) (v := ?_) rfl (by kernel_rfl) (by kernel_rfl) (by kernel_rfl) (fun _ _ _ h => h) (Or.inl ⟨by rfl, ?z56⟩) (by assumption) ?_
      case z56 =>
       intro w hSw
       (try dsimp only at hSw)
       go_simp
       all_goals with_reducible rfl
      try simp only [List.getElem_toArray, List.getElem_cons_zero, List.getElem_cons_succ, Act.put, List.setIfInBounds_toArray, List.set_cons_zero, List.set_cons_succ]
      refine wpAnyH_take (i := 26) (v := ?_) rfl (by kernel_rfl) (by kernel_rfl) (by kernel_rfl) (fun _ _ _ h => h) (Or.inl ⟨by rfl, ?z57⟩) (by assumption) ?_
      case z57 =>
       intro w hSw
       (try dsimp only at hSw)
       go_simp
       all_goals with_reducible rfl
      try simp only [List.getElem_toArray, List.getElem_cons_zero, List.getElem_cons_succ, Act.put, List.setIfInBounds_toArray, List.set_cons_zero, List.set_cons_succ]
      refine wpAnyH_ready (rs := [22]) (by kernel_rfl) (by simp) ?_
      refine AllReadyH.cons rfl (fun K hK => ?_) AllReadyH.nil
      go_simp
      with_reducible refine (C3).mono ?_
      rintro e V11 ⟨v, C7, D7, Bp3, rfl, ⟨zs, ez, hsl, hzs⟩, hP3, hM16⟩
      try go_wp2_with fail
      have hM17 : Mem W V11 ((ga, .cells #[.int .u8 a1, .int .u32 a2, .int .u16 a3, .int .u32 a4, .int .u16 a5, .int .u32 a6, .slice sa1 na sc1, .int .i64 a7, .int .u32 a8] 39 (0, 0)) :: (gb, .cells #[.int .u8 a1, .int .u32 a2, .int .u16 a3, .int .u32 a4, .int .u16 a5, .int .u32 a6, .slice sa2 na sc2, .int .i64 a7, .int .u32 a8] 39 (0, 0)) :: (gc, .cells #[.int .u8 c1, .int .u32 c2, .int .u16 c3, .int .u32 c4, .int .u16 c5, .int .u32 c6, .slice sa3 nc sc3, .int .i64 c7, .int .u32 c8] 39 (0, 0)) :: (gd, .cells #[.int .u8 c1, .int .u32 c2, .int .u16 c3, .int .u32 c4, .int .u16 c5, .int .u32 c6, .slice sa4 nc sc4, .int .i64 c7, .int .u32 c8] 39 (0, 0)) :: (m, .cells #[.slice la N lc] 30 (0, 0)) :: (D7 ++ (C7 ++ (Bp3 ++ (D3 ++ (D5 ++ ((gx, .cells #[.int .i64 what, .int .u8 s1, .int .u32 s2, .int .u16 s3, .int .u32 o1, .int .u16 o2, .int .u32 f6, .slice pa np pb, .int .i64 f7, .int .u32 f8, .int .i64 most, .int .i64 kk, .bool own] 41 (0, 0)) :: Bd'))))))) := hM16.perm (by
          classical
          rw [List.perm_iff_count]
          intro q
          simp only [List.count_append, List.count_cons, List.count_nil]
          omega)
      have HM17 : Hid (Mem W V11 ((ga, .cells #[.int .u8 a1, .int .u32 a2, .int .u16 a3, .int .u32 a4, .int .u16 a5, .int .u32 a6, .slice sa1 na sc1, .int .i64 a7, .int .u32 a8] 39 (0, 0)) :: (gb, .cells #[.int .u8 a1, .int .u32 a2, .int .u16 a3, .int .u32 a4, .int .u16 a5, .int .u32 a6, .slice sa2 na sc2, .int .i64 a7, .int .u32 a8] 39 (0, 0)) :: (gc, .cells #[.int .u8 c1, .int .u32 c2, .int .u16 c3, .int .u32 c4, .int .u16 c5, .int .u32 c6, .slice sa3 nc sc3, .int .i64 c7, .int .u32 c8] 39 (0, 0)) :: (gd, .cells #[.int .u8 c1, .int .u32 c2, .int .u16 c3, .int .u32 c4, .int .u16 c5, .int .u32 c6, .slice sa4 nc sc4, .int .i64 c7, .int .u32 c8] 39 (0, 0)) :: (m, .cells #[.slice la N lc] 30 (0, 0)) :: (D7 ++ (C7 ++ (Bp3 ++ (D3 ++ (D5 ++ ((gx, .cells #[.int .i64 what, .int .u8 s1, .int .u32 s2, .int .u16 s3, .int .u32 o1, .int .u16 o2, .int .u32 f6, .slice pa np pb, .int .i64 f7, .int .u32 f8, .int .i64 most, .int .i64 kk, .bool own] 41 (0, 0)) :: Bd')))))))) := hM17
      have HP3 : Hid (PS ys t Bp3) := hP3
      have hSLa : SL V11 v ys := ⟨zs, ez, SlF.rw (w := W) sx_nine (by rw [sx_len]; exact hsl) (hM17.perm (show List.Perm _ (C7 ++ ((ga, .cells #[.int .u8 a1, .int .u32 a2, .int .u16 a3, .int .u32 a4, .int .u16 a5, .int .u32 a6, .slice sa1 na sc1, .int .i64 a7, .int .u32 a8] 39 (0, 0)) :: (gb, .cells #[.int .u8 a1, .int .u32 a2, .int .u16 a3, .int .u32 a4, .int .u16 a5, .int .u32 a6, .slice sa2 na sc2, .int .i64 a7, .int .u32 a8] 39 (0, 0)) :: (gc, .cells #[.int .u8 c1, .int .u32 c2, .int .u16 c3, .int .u32 c4, .int .u16 c5, .int .u32 c6, .slice sa3 nc sc3, .int .i64 c7, .int .u32 c8] 39 (0, 0)) :: (gd, .cells #[.int .u8 c1, .int .u32 c2, .int .u16 c3, .int .u32 c4, .int .u16 c5, .int .u32 c6, .slice sa4 nc sc4, .int .i64 c7, .int .u32 c8] 39 (0, 0)) :: (m, .cells #[.slice la N lc] 30 (0, 0)) :: (D7 ++ (Bp3 ++ (D3 ++ (D5 ++ ((gx, .cells #[.int .i64 what, .int .u8 s1, .int .u32 s2, .int .u16 s3, .int .u32 o1, .int .u16 o2, .int .u32 f6, .slice pa np pb, .int .i64 f7, .int .u32 f8, .int .i64 most, .int .i64 kk, .bool own] 41 (0, 0)) :: Bd'))))))) from by
          classical
          rw [List.perm_iff_count]
          intro q
          simp only [List.count_append, List.count_cons, List.count_nil]
          omega)), fun z hz => SlF.rw (w := W) px_two (by rw [px_len]; exact hzs z hz) (hM17.perm (show List.Perm _ (D7 ++ ((ga, .cells #[.int .u8 a1, .int .u32 a2, .int .u16 a3, .int .u32 a4, .int .u16 a5, .int .u32 a6, .slice sa1 na sc1, .int .i64 a7, .int .u32 a8] 39 (0, 0)) :: (gb, .cells #[.int .u8 a1, .int .u32 a2, .int .u16 a3, .int .u32 a4, .int .u16 a5, .int .u32 a6, .slice sa2 na sc2, .int .i64 a7, .int .u32 a8] 39 (0, 0)) :: (gc, .cells #[.int .u8 c1, .int .u32 c2, .int .u16 c3, .int .u32 c4, .int .u16 c5, .int .u32 c6, .slice sa3 nc sc3, .int .i64 c7, .int .u32 c8] 39 (0, 0)) :: (gd, .cells #[.int .u8 c1, .int .u32 c2, .int .u16 c3, .int .u32 c4, .int .u16 c5, .int .u32 c6, .slice sa4 nc sc4, .int .i64 c7, .int .u32 c8] 39 (0, 0)) :: (m, .cells #[.slice la N lc] 30 (0, 0)) :: (C7 ++ (Bp3 ++ (D3 ++ (D5 ++ ((gx, .cells #[.int .i64 what, .int .u8 s1, .int .u32 s2, .int .u16 s3, .int .u32 o1, .int .u16 o2, .int .u32 f6, .slice pa np pb, .int .i64 f7, .int .u32 f8, .int .i64 most, .int .i64 kk, .bool own] 41 (0, 0)) :: Bd'))))))) from by
          classical
          rw [List.perm_iff_count]
          intro q
          simp only [List.count_append, List.count_cons, List.count_nil]
          omega))⟩
      have hMb := hM17.perm (show List.Perm _ (((m, .cells #[.slice la N lc] 30 (0, 0)) :: Bd') ++ ((ga, .cells #[.int .u8 a1, .int .u32 a2, .int .u16 a3, .int .u32 a4, .int .u16 a5, .int .u32 a6, .slice sa1 na sc1, .int .i64 a7, .int .u32 a8] 39 (0, 0)) :: (gb, .cells #[.int .u8 a1, .int .u32 a2, .int .u16 a3, .int .u32 a4, .int .u16 a5, .int .u32 a6, .slice sa2 na sc2, .int .i64 a7, .int .u32 a8] 39 (0, 0)) :: (gc, .cells #[.int .u8 c1, .int .u32 c2, .int .u16 c3, .int .u32 c4, .int .u16 c5, .int .u32 c6, .slice sa3 nc sc3, .int .i64 c7, .int .u32 c8] 39 (0, 0)) :: (gd, .cells #[.int .u8 c1, .int .u32 c2, .int .u16 c3, .int .u32 c4, .int .u16 c5, .int .u32 c6, .slice sa4 nc sc4, .int .i64 c7, .int .u32 c8] 39 (0, 0)) :: (D7 ++ (C7 ++ (Bp3 ++ (D3 ++ (D5 ++ [(gx, .cells #[.int .i64 what, .int .u8 s1, .int .u32 s2, .int .u16 s3, .int .u32 o1, .int .u16 o2, .int .u32 f6, .slice pa np pb, .int .i64 f7, .int .u32 f8, .int .i64 most, .int .i64 kk, .bool own] 41 (0, 0))]))))))) from by
          classical
          rw [List.perm_iff_count]
          intro q
          simp only [List.count_append, List.count_cons, List.count_nil]
          omega)
      have hSLb : SL V11 (.slice la N lc) ys := by
        obtain ⟨zs', b', c', ez', hc', hr', hp'⟩ := HR0.out.read hMb
        rw [hMb.cell 0 rfl] at hc'
        simp only [List.getElem?_toArray, List.getElem?_cons_zero, Option.some.injEq, Value.slice.injEq] at hc'
        obtain ⟨rfl, hl', rfl⟩ := hc'
        rw [hl']
        exact ⟨zs', ez', hr', hp'⟩
      have C4 := sessions_yes hSLa hSLb
      clear C3 hM16 hP3 hsl hzs ez hSLa hSLb hMb HP2 hM15
      refine hK.out _ _ (HSE.out _ _ hM17) (fun hHeld => ?_)
      clear hK K
      try simp only [List.getElem_toArray, List.getElem_cons_zero, List.getElem_cons_succ, Act.put, List.setIfInBounds_toArray, List.set_cons_zero, List.set_cons_succ]
      refine wpAnyH_ready (rs := [27]) (by kernel_rfl) (by simp) ?_
      refine AllReadyH.cons rfl (fun K hK => ?_) AllReadyH.nil
      go_simp
      with_reducible refine (C4).mono ?_
      rintro e V12 ⟨rfl, hb⟩
      try go_wp2_with fail
      have hM18 := HM17.out.after hb
      have HM18 : Hid (Mem W V12 ((ga, .cells #[.int .u8 a1, .int .u32 a2, .int .u16 a3, .int .u32 a4, .int .u16 a5, .int .u32 a6, .slice sa1 na sc1, .int .i64 a7, .int .u32 a8] 39 (0, 0)) :: (gb, .cells #[.int .u8 a1, .int .u32 a2, .int .u16 a3, .int .u32 a4, .int .u16 a5, .int .u32 a6, .slice sa2 na sc2, .int .i64 a7, .int .u32 a8] 39 (0, 0)) :: (gc, .cells #[.int .u8 c1, .int .u32 c2, .int .u16 c3, .int .u32 c4, .int .u16 c5, .int .u32 c6, .slice sa3 nc sc3, .int .i64 c7, .int .u32 c8] 39 (0, 0)) :: (gd, .cells #[.int .u8 c1, .int .u32 c2, .int .u16 c3, .int .u32 c4, .int .u16 c5, .int .u32 c6, .slice sa4 nc sc4, .int .i64 c7, .int .u32 c8] 39 (0, 0)) :: (m, .cells #[.slice la N lc] 30 (0, 0)) :: (D7 ++ (C7 ++ (Bp3 ++ (D3 ++ (D5 ++ ((gx, .cells #[.int .i64 what, .int .u8 s1, .int .u32 s2, .int .u16 s3, .int .u32 o1, .int .u16 o2, .int .u32 f6, .slice pa np pb, .int .i64 f7, .int .u32 f8, .int .i64 most, .int .i64 kk, .bool own] 41 (0, 0)) :: Bd')))))))) := hM18
      clear C4 hb hM17
      refine hK.out _ _ (HSE.out _ _ hM18) (fun hHeld => ?_)
      clear hK K
      try simp only [List.getElem_toArray, List.getElem_cons_zero, List.getElem_cons_succ, Act.put, List.setIfInBounds_toArray, List.set_cons_zero, List.set_cons_succ]
      have C5 := HC.out.len HP3.out (hM18.perm (show List.Perm _ (Bp3 ++ ((ga, .cells #[.int .u8 a1, .int .u32 a2, .int .u16 a3, .int .u32 a4, .int .u16 a5, .int .u32 a6, .slice sa1 na sc1, .int .i64 a7, .int .u32 a8] 39 (0, 0)) :: (gb, .cells #[.int .u8 a1, .int .u32 a2, .int .u16 a3, .int .u32 a4, .int .u16 a5, .int .u32 a6, .slice sa2 na sc2, .int .i64 a7, .int .u32 a8] 39 (0, 0)) :: (gc, .cells #[.int .u8 c1, .int .u32 c2, .int .u16 c3, .int .u32 c4, .int .u16 c5, .int .u32 c6, .slice sa3 nc sc3, .int .i64 c7, .int .u32 c8] 39 (0, 0)) :: (gd, .cells #[.int .u8 c1, .int .u32 c2, .int .u16 c3, .int .u32 c4, .int .u16 c5, .int .u32 c6, .slice sa4 nc sc4, .int .i64 c7, .int .u32 c8] 39 (0, 0)) :: (m, .cells #[.slice la N lc] 30 (0, 0)) :: (D7 ++ (C7 ++ (D3 ++ (D5 ++ ((gx, .cells #[.int .i64 what, .int .u8 s1, .int .u32 s2, .int .u16 s3, .int .u32 o1, .int .u16 o2, .int .u32 f6, .slice pa np pb, .int .i64 f7, .int .u32 f8, .int .i64 most, .int .i64 kk, .bool own] 41 (0, 0)) :: Bd'))))))) from by
          classical
          rw [List.perm_iff_count]
          intro q
          simp only [List.count_append, List.count_cons, List.count_nil]
          omega)) HG.out.2
      rw [HN.out] at C5
      refine wpAnyH_take (i := 28) (v := ?_) rfl (by kernel_rfl) (by kernel_rfl) (by kernel_rfl) (fun _ _ _ h => h) (Or.inl ⟨by rfl, ?z58⟩) (by assumption) ?_
      case z58 =>
       intro w hSw
       (try dsimp only at hSw)
       go_simp
       all_goals with_reducible rfl
      try simp only [List.getElem_toArray, List.getElem_cons_zero, List.getElem_cons_succ, Act.put, List.setIfInBounds_toArray, List.set_cons_zero, List.set_cons_succ]
      refine wpAnyH_take (i := 29) (v := ?_) rfl (by kernel_rfl) (by kernel_rfl) (by kernel_rfl) (fun _ _ _ h => h) (Or.inl ⟨by rfl, ?z59⟩) (by assumption) ?_
      case z59 =>
       intro w hSw
       (try dsimp only at hSw)
       go_simp
       all_goals with_reducible rfl
      try simp only [List.getElem_toArray, List.getElem_cons_zero, List.getElem_cons_succ, Act.put, List.setIfInBounds_toArray, List.set_cons_zero, List.set_cons_succ]
      refine wpAnyH_take (i := 30) (v := ?_) rfl (by kernel_rfl) (by kernel_rfl) (by kernel_rfl) (fun _ _ _ h => h) (Or.inl ⟨by rfl, ?z60⟩) (by assumption) ?_
      case z60 =>
       intro w hSw
       (try dsimp only at hSw)
       go_simp
       all_goals with_reducible rfl
      try simp only [List.getElem_toArray, List.getElem_cons_zero, List.getElem_cons_succ, Act.put, List.setIfInBounds_toArray, List.set_cons_zero, List.set_cons_succ]
      refine wpAnyH_take (i := 31) (v := ?_) rfl (by kernel_rfl) (by kernel_rfl) (by kernel_rfl) (fun _ _ _ h => h) (Or.inl ⟨by rfl, ?z61⟩) (by assumption) ?_
      case z61 =>
       intro w hSw
       (try dsimp only at hSw)
       go_simp
       all_goals with_reducible rfl
      try simp only [List.getElem_toArray, List.getElem_cons_zero, List.getElem_cons_succ, Act.put, List.setIfInBounds_toArray, List.set_cons_zero, List.set_cons_succ]
      refine wpAnyH_take (i := 33) (v := ?_) rfl (by kernel_rfl) (by kernel_rfl) (by kernel_rfl) (fun _ _ _ h => h) (Or.inl ⟨by rfl, ?z62⟩) (by assumption) ?_
      case z62 =>
       intro w hSw
       (try dsimp only at hSw)
       go_simp
       all_goals with_reducible rfl
      try simp only [List.getElem_toArray, List.getElem_cons_zero, List.getElem_cons_succ, Act.put, List.setIfInBounds_toArray, List.set_cons_zero, List.set_cons_succ]
      refine wpAnyH_take (i := 34) (v := ?_) rfl (by kernel_rfl) (by kernel_rfl) (by kernel_rfl) (fun _ _ _ h => h) (Or.inl ⟨by rfl, ?z63⟩) (by assumption) ?_
      case z63 =>
       intro w hSw
       (try dsimp only at hSw)
       go_simp
       all_goals with_reducible rfl
      try simp only [List.getElem_toArray, List.getElem_cons_zero, List.getElem_cons_succ, Act.put, List.setIfInBounds_toArray, List.set_cons_zero, List.set_cons_succ]
      refine wpAnyH_take (i := 35) (v := ?_) rfl (by kernel_rfl) (by kernel_rfl) (by kernel_rfl) (fun _ _ _ h => h) (Or.inl ⟨by rfl, ?z64⟩) (by assumption) ?_
      case z64 =>
       intro w hSw
       (try dsimp only at hSw)
       go_simp
       all_goals with_reducible rfl
      try simp only [List.getElem_toArray, List.getElem_cons_zero, List.getElem_cons_succ, Act.put, List.setIfInBounds_toArray, List.set_cons_zero, List.set_cons_succ]
      refine wpAnyH_take (i := 36) (v := ?_) rfl (by kernel_rfl) (by kernel_rfl) (by kernel_rfl) (fun _ _ _ h => h) (Or.inl ⟨by rfl, ?z65⟩) (by assumption) ?_
      case z65 =>
       intro w hSw
       (try dsimp only at hSw)
       go_simp
       all_goals with_reducible rfl
      try simp only [List.getElem_toArray, List.getElem_cons_zero, List.getElem_cons_succ, Act.put, List.setIfInBounds_toArray, List.set_cons_zero, List.set_cons_succ]
      refine wpAnyH_take (i := 37) (v := ?_) rfl (by kernel_rfl) (by kernel_rfl) (by kernel_rfl) (fun _ _ _ h => h) (Or.inl ⟨by rfl, ?z66⟩) (by assumption) ?_
      case z66 =>
       intro w hSw
       (try dsimp only at hSw)
       go_simp
       all_goals with_reducible rfl
      try simp only [List.getElem_toArray, List.getElem_cons_zero, List.getElem_cons_succ, Act.put, List.setIfInBounds_toArray, List.set_cons_zero, List.set_cons_succ]
      refine wpAnyH_ready (rs := [32]) (by kernel_rfl) (by simp) ?_
      refine AllReadyH.cons rfl (fun K hK => ?_) AllReadyH.nil
      go_simp
      with_reducible refine (C5).mono ?_
      rintro e V13 ⟨rfl, Bp4, hP4, hM19⟩
      try go_wp2_with fail
      have hM20 : Mem W V13 ((ga, .cells #[.int .u8 a1, .int .u32 a2, .int .u16 a3, .int .u32 a4, .int .u16 a5, .int .u32 a6, .slice sa1 na sc1, .int .i64 a7, .int .u32 a8] 39 (0, 0)) :: (gb, .cells #[.int .u8 a1, .int .u32 a2, .int .u16 a3, .int .u32 a4, .int .u16 a5, .int .u32 a6, .slice sa2 na sc2, .int .i64 a7, .int .u32 a8] 39 (0, 0)) :: (gc, .cells #[.int .u8 c1, .int .u32 c2, .int .u16 c3, .int .u32 c4, .int .u16 c5, .int .u32 c6, .slice sa3 nc sc3, .int .i64 c7, .int .u32 c8] 39 (0, 0)) :: (gd, .cells #[.int .u8 c1, .int .u32 c2, .int .u16 c3, .int .u32 c4, .int .u16 c5, .int .u32 c6, .slice sa4 nc sc4, .int .i64 c7, .int .u32 c8] 39 (0, 0)) :: (m, .cells #[.slice la N lc] 30 (0, 0)) :: (Bp4 ++ (D7 ++ (C7 ++ (D3 ++ (D5 ++ ((gx, .cells #[.int .i64 what, .int .u8 s1, .int .u32 s2, .int .u16 s3, .int .u32 o1, .int .u16 o2, .int .u32 f6, .slice pa np pb, .int .i64 f7, .int .u32 f8, .int .i64 most, .int .i64 kk, .bool own] 41 (0, 0)) :: Bd'))))))) := hM19.perm (by
          classical
          rw [List.perm_iff_count]
          intro q
          simp only [List.count_append, List.count_cons, List.count_nil]
          omega)
      have HZ : Hid (Tw PS W t m ys [] V13) := by
        have hX := hM20.perm (show List.Perm _ (((ga, .cells #[.int .u8 a1, .int .u32 a2, .int .u16 a3, .int .u32 a4, .int .u16 a5, .int .u32 a6, .slice sa1 na sc1, .int .i64 a7, .int .u32 a8] 39 (0, 0)) :: (gb, .cells #[.int .u8 a1, .int .u32 a2, .int .u16 a3, .int .u32 a4, .int .u16 a5, .int .u32 a6, .slice sa2 na sc2, .int .i64 a7, .int .u32 a8] 39 (0, 0)) :: (gc, .cells #[.int .u8 c1, .int .u32 c2, .int .u16 c3, .int .u32 c4, .int .u16 c5, .int .u32 c6, .slice sa3 nc sc3, .int .i64 c7, .int .u32 c8] 39 (0, 0)) :: (gd, .cells #[.int .u8 c1, .int .u32 c2, .int .u16 c3, .int .u32 c4, .int .u16 c5, .int .u32 c6, .slice sa4 nc sc4, .int .i64 c7, .int .u32 c8] 39 (0, 0)) :: (D7 ++ (C7 ++ (D3 ++ (D5 ++ [(gx, .cells #[.int .i64 what, .int .u8 s1, .int .u32 s2, .int .u16 s3, .int .u32 o1, .int .u16 o2, .int .u32 f6, .slice pa np pb, .int .i64 f7, .int .u32 f8, .int .i64 most, .int .i64 kk, .bool own] 41 (0, 0))]))))) ++ (Bp4 ++ ((m, .cells #[.slice la N lc] 30 (0, 0)) :: Bd'))) from by
          classical
          rw [List.perm_iff_count]
          intro q
          simp only [List.count_append, List.count_cons, List.count_nil]
          omega)
        refine ⟨Bp4, (m, .cells #[.slice la N lc] 30 (0, 0)) :: Bd', hP4, HR0.out, ?_⟩
        rw [List.append_nil]
        exact mem_tail hX
      clear C5 hM19 hP4 HP3
      refine hK.out _ _ (HSE.out _ _ hM20) (fun hHeld => ?_)
      clear hK K
      try simp only [List.getElem_toArray, List.getElem_cons_zero, List.getElem_cons_succ, Act.put, List.setIfInBounds_toArray, List.set_cons_zero, List.set_cons_succ]
      refine wpAnyH_take (i := 38) (v := ?_) rfl (by kernel_rfl) (by kernel_rfl) (by kernel_rfl) (fun _ _ _ h => h) (Or.inl ⟨by rfl, ?z67⟩) (by assumption) ?_
      case z67 =>
       intro w hSw
       (try dsimp only at hSw)
       go_simp
       all_goals with_reducible rfl
      try simp only [List.getElem_toArray, List.getElem_cons_zero, List.getElem_cons_succ, Act.put, List.setIfInBounds_toArray, List.set_cons_zero, List.set_cons_succ]
      refine wpAnyH_take (i := 39) (v := ?_) rfl (by kernel_rfl) (by kernel_rfl) (by kernel_rfl) (fun _ _ _ h => h) (Or.inl ⟨by rfl, ?z68⟩) (by assumption) ?_
      case z68 =>
       intro w hSw
       (try dsimp only at hSw)
       go_simp
       all_goals with_reducible rfl
      try simp only [List.getElem_toArray, List.getElem_cons_zero, List.getElem_cons_succ, Act.put, List.setIfInBounds_toArray, List.set_cons_zero, List.set_cons_succ]
      refine wpAnyH_done (by kernel_rfl) ?_ _
      clear hHeld hM18 hM20 HSE HM18 HM17 HM15 HM14 HMd
      go_wp2_with fail
      go_roundw
      case rel => exact ⟨i + 1, by omega, by go_num, ys, HG.out.1, HZ.out⟩
      case measure => simp [intOf]; omega
    · have j1 : ¬ ((i : Int) < n) := by omega
      obtain rfl : i = n := by omega
      obtain ⟨xs, hxg, hT⟩ := HR.out
      have HB : Hid (Below W.heap.size W wr) := by
        obtain ⟨B, hM, -⟩ := hT.mem
        exact hM.below
      clear HR hxg hT
      go_wp2_with fail
      go_ret
      exact ⟨rfl, HB.out⟩
end
end Ss
end Go.Proofs.Ytgeeijinhneoiaa
