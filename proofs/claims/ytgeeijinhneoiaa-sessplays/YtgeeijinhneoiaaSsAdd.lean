/-
  Sessions: the document's own table: Add.
-/
import Derived.Test.YtgeeijinhneoiaaSsLess
namespace Go.Proofs.Ytgeeijinhneoiaa
open Go.RowKit
open Sm
open Po
open Wh
set_option linter.unusedVariables false
set_option linter.unusedSimpArgs false
set_option maxRecDepth 20000

namespace Ss
theorem ac_one {s : Sn} {most : Int} {xs : List Sn} (h : (fk (key s) xs).isSome = true) : ac s most xs = 131 ∧ ax s most xs = xs := by
  have e : ac s most xs = 131 := if_pos h
  exact ⟨e, by unfold ax; rw [e]; rfl⟩
theorem ac_two {s : Sn} {most : Int} {xs : List Sn} (h1 : (fk (key s) xs).isSome = false) (h : (fo s.pr (s.oip, s.op) xs).isSome = true) : ac s most xs = 131 ∧ ax s most xs = xs := by
  have e : ac s most xs = 131 := by unfold ac; rw [h1, if_neg (by decide), if_pos h]
  exact ⟨e, by unfold ax; rw [e]; rfl⟩
theorem ac_full {s : Sn} {most : Int} {xs : List Sn} (h1 : (fk (key s) xs).isSome = false) (h2 : (fo s.pr (s.oip, s.op) xs).isSome = false) (h : most ≤ xs.length) : ac s most xs = 130 ∧ ax s most xs = xs := by
  have e : ac s most xs = 130 := by unfold ac; rw [h1, h2, if_neg (by decide), if_neg (by decide), if_pos h]
  exact ⟨e, by unfold ax; rw [e]; rfl⟩
theorem ac_fits {s : Sn} {most : Int} {xs : List Sn} (h1 : (fk (key s) xs).isSome = false) (h2 : (fo s.pr (s.oip, s.op) xs).isSome = false) (h : ¬ most ≤ xs.length) : ac s most xs = 0 ∧ ax s most xs = ins s xs := by
  have e : ac s most xs = 0 := by unfold ac; rw [h1, h2, if_neg (by decide), if_neg (by decide), if_neg h]
  exact ⟨e, by unfold ax; rw [e]; rfl⟩
/-- A table's parts, and how they read in whatever world it stands. -/
theorem rt_fix {xs : List Sn} {m : Nat} {B : List (Nat × Obj)} (h : RT xs m B) : ∃ (n : Nat) (zs : List Hn) (a : Option Addr) (c : Nat) (C D : List (Nat × Obj)), xs.length = n ∧ zs.map (·.1) = xs ∧ zs.length = n ∧ SlF 39 9 (.slice a n c) n (sx zs).flatten C ∧ B = (m, .cells #[.slice a n c] 30 (0, 0)) :: (C ++ D) ∧ (∀ z ∈ zs, SlF 34 2 z.2 z.1.ps.length (px z.1.ps).flatten D) ∧ n ≤ c ∧ c ≤ 9223372036854775807 ∧
    ∀ (w V : World) (L : List (Nat × Obj)), Mem w V (B ++ L) → ∀ i (hi : i < xs.length), ∃ pv b off, a = some ⟨b, off, none⟩ ∧ ∀ V', Below V.heap.size V V' → Bo V' b (off + i * 9) xs[i] pv := by
  have h' := h
  obtain ⟨zs, v, C, D, ez, hS, rfl, hP⟩ := h
  have hl : zs.length = xs.length := by rw [← ez, List.length_map]
  obtain ⟨-, a, c, rfl, h1, h2, -, -⟩ := id hS
  refine ⟨zs.length, zs, a, c, C, D, hl.symm, ez, rfl, hS, rfl, hP, h1, by simp only [maxLen] at h2; omega, fun w V L hM i hi => ?_⟩
  obtain ⟨zs', a', c', ez', hc', hr', hp'⟩ := h'.read hM
  have hcm : V.cell? ⟨m, 0, none⟩ = some (.slice a zs.length c) := hM.cell 0 rfl 0
  rw [hcm] at hc'
  simp only [Option.some.injEq, Value.slice.injEq] at hc'
  obtain ⟨rfl, -, rfl⟩ := hc'
  obtain ⟨-, hx⟩ := rt_at ez' hr' hp'
  obtain ⟨pv, b, off, e, hV⟩ := hx i hi
  exact ⟨pv, b, off, e, fun V' hV' => (hV V' hV').1⟩
set_option maxHeartbeats 16000000 in
theorem rsadd_any {w W : World} {m : Nat} {xs : List Sn} {B L : List (Nat × Obj)} (h : RT xs m B) (hM : Mem w W (B ++ L)) (hn : xs.length ≤ 100000) {val : Value} {s : Sn} (hs : SV w val s) (hps : s.ps.length ≤ 1000000) (most : Int) :
    Calls Try.prog 14 #[.pointer (some ⟨m, 0, none⟩), val, .int .i64 most] W fun e W' => e = .returned (.int .i64 (ac s most xs)) ∧ ∃ B', RT (ax s most xs) m B' ∧ Mem w W' (B' ++ L) := by
  obtain ⟨pv, rfl, hp⟩ := hs
  unfold sc
  obtain ⟨s', hs'⟩ : ∃ s', s = s' := ⟨_, rfl⟩
  obtain ⟨k1, k2, k3, f4, f5, f6, ps, f7, f8⟩ := s
  simp only
  rw [hs']
  have HS' : Hid ((⟨k1, k2, k3, f4, f5, f6, ps, f7, f8⟩ : Sn) = s') := hs'
  simp only at hps hp ⊢
  obtain ⟨pa, pb, rfl, p1, p2, -⟩ := pr_at hp
  obtain ⟨np, hnp⟩ : ∃ np, ps.length = np := ⟨_, rfl⟩
  have HNP : Hid (ps.length = np) := hnp
  have HPR : Hid (PR w (.slice pa ps.length pb) ps) := hp
  rw [hnp] at hps p1 ⊢
  obtain ⟨g, hg⟩ : ∃ g, W.heap.size = g := ⟨_, rfl⟩
  have hM1 := (hM.push g (.cells #[.int .u8 k1, .int .u32 k2, .int .u16 k3, .int .u32 f4, .int .u16 f5, .int .u32 f6, .slice pa np pb, .int .i64 f7, .int .u32 f8] 39) hg.symm).perm (show List.Perm _ (B ++ ((g, .cells #[.int .u8 k1, .int .u32 k2, .int .u16 k3, .int .u32 f4, .int .u16 f5, .int .u32 f6, .slice pa np pb, .int .i64 f7, .int .u32 f8] 39 (0, 0)) :: L)) from by
    classical
    rw [List.perm_iff_count]
    intro q
    simp only [List.count_append, List.count_cons, List.count_nil]
    omega)
  obtain ⟨R, hR⟩ : ∃ R, ac s' most xs = R := ⟨_, rfl⟩
  obtain ⟨N, hN⟩ : ∃ N, ax s' most xs = N := ⟨_, rfl⟩
  rw [hR, hN]
  have HR : Hid (ac s' most xs = R ∧ ax s' most xs = N) := ⟨hR, hN⟩
  have HT : Hid (RT xs m B ∧ xs.length ≤ 100000) := ⟨h, hn⟩
  have HM1 : Hid (Mem w _ _) := hM1
  clear h hM hM1 hR hN hs' hnp hp hn
  go_enter Try.func14, Try.ntmps14
  go_upto_region 1 with fail
  refine wp_letter (fun X => Mem w X (B ++ ((g, .cells #[.int .u8 k1, .int .u32 k2, .int .u16 k3, .int .u32 f4, .int .u16 f5, .int .u32 f6, .slice pa np pb, .int .i64 f7, .int .u32 f8] 39 (0, 0)) :: L))) (by exact HM1.out) ?_
  intro X hX
  try simp only [hg]
  obtain ⟨q0, q1, q2, q3, q4, q5, q6, q7, q8⟩ := bx_of 0 (hX.perm (List.perm_middle (l₁ := B))) rfl
  have C1 := rfind_any HT.out.1 hX (k1, k2, k3)
  obtain ⟨r1, ho1⟩ : ∃ r, (fk (k1, k2, k3) xs).isSome = r := ⟨_, rfl⟩
  have HO1 : Hid ((fk (k1, k2, k3) xs).isSome = r1) := ho1
  obtain ⟨o1, ho2⟩ : ∃ o, fk (k1, k2, k3) xs = o := ⟨_, rfl⟩
  rw [ho2] at C1 ho1
  simp only at C1
  clear hg HM1 hX
  go_wp2_with fail
  refine C1.mono ?_
  rintro e V1 ⟨val, rfl, ⟨pv1, rfl, hp1⟩, hM2⟩
  obtain ⟨ra, rc, rfl, -⟩ := pr_at hp1
  rw [ho1]
  clear hp1 C1 q0 q1 q2 q3 q4 q5 q6 q7 q8 ho1 ho2
  unfold sc
  generalize o1.getD sn0 = y
  clear o1
  obtain ⟨ya, yb, yc, yd, ye, yf, yg, yh, yi⟩ := y
  simp only
  generalize yg.length = yn
  clear yg
  obtain ⟨g1, hg1⟩ : ∃ g, V1.heap.size = g := ⟨_, rfl⟩
  go_upto_region 2 with fail
  refine wp_letter (fun X => Mem w X (B ++ ((g, .cells #[.int .u8 k1, .int .u32 k2, .int .u16 k3, .int .u32 f4, .int .u16 f5, .int .u32 f6, .slice pa np pb, .int .i64 f7, .int .u32 f8] 39 (0, 0)) :: L))) (hM2.after ((Below.refl _ _).alloc (Nat.le_refl _) _)) ?_
  clear hM2 hg1 V1
  intro V1 hM2
  cases r1 with
  | true =>
    have HE : Hid (131 = R ∧ xs = N) := by
      obtain ⟨u1, u2⟩ := ac_one (s := s') (most := most) (xs := xs) (by rw [← HS'.out]; exact HO1.out)
      exact ⟨by rw [← u1]; exact HR.out.1, by rw [← HR.out.2, u2]⟩
    have HB : Hid (Mem w V1 (B ++ L)) := (hM2.perm (List.perm_middle (l₁ := B))).sub
    clear HR hM2 HO1
    go_wp2_with fail
    go_ret
    exact ⟨by rw [← HE.out.1]; rfl, B, by rw [← HE.out.2]; exact HT.out.1, HB.out⟩

  | false =>
    obtain ⟨q0, q1, q2, q3, q4, q5, q6, q7, q8⟩ := bx_of 0 (hM2.perm (List.perm_middle (l₁ := B))) rfl
    have C1 := rout_any HT.out.1 hM2 k1 (f4, f5)
    obtain ⟨r2, ho1⟩ : ∃ r, (fo k1 (f4, f5) xs).isSome = r := ⟨_, rfl⟩
    have HO2 : Hid ((fo k1 (f4, f5) xs).isSome = r2) := ho1
    obtain ⟨o1, ho2⟩ : ∃ o, fo k1 (f4, f5) xs = o := ⟨_, rfl⟩
    rw [ho2] at C1 ho1
    simp only at C1
    clear hM2
    go_wp2_with fail
    refine C1.mono ?_
    rintro e V2 ⟨val, rfl, ⟨pv1, rfl, hp1⟩, hM2⟩
    obtain ⟨sa, sc', rfl, -⟩ := pr_at hp1
    rw [ho1]
    clear hp1 C1 q0 q1 q2 q3 q4 q5 q6 q7 q8 ho1 ho2
    unfold sc
    generalize o1.getD sn0 = y
    clear o1
    obtain ⟨za, zb, zc, zd, ze, zf, zg, zh, zi⟩ := y
    simp only
    generalize zg.length = zn
    clear zg
    obtain ⟨g1, hg1⟩ : ∃ g, V2.heap.size = g := ⟨_, rfl⟩
    go_upto_region 5 with fail
    refine wp_letter (fun X => Mem w X (B ++ ((g, .cells #[.int .u8 k1, .int .u32 k2, .int .u16 k3, .int .u32 f4, .int .u16 f5, .int .u32 f6, .slice pa np pb, .int .i64 f7, .int .u32 f8] 39 (0, 0)) :: L))) (hM2.after ((Below.refl _ _).alloc (Nat.le_refl _) _)) ?_
    clear hM2 hg1 V2
    intro V2 hM2
    cases r2 with
    | true =>
      have HE : Hid (131 = R ∧ xs = N) := by
        obtain ⟨u1, u2⟩ := ac_two (s := s') (most := most) (xs := xs) (by rw [← HS'.out]; exact HO1.out) (by rw [← HS'.out]; exact HO2.out)
        exact ⟨by rw [← u1]; exact HR.out.1, by rw [← HR.out.2, u2]⟩
      have HB : Hid (Mem w V2 (B ++ L)) := (hM2.perm (List.perm_middle (l₁ := B))).sub
      clear HR hM2 HO1 HO2
      go_wp2_with fail
      go_ret
      exact ⟨by rw [← HE.out.1]; rfl, B, by rw [← HE.out.2]; exact HT.out.1, HB.out⟩

    | false =>
      obtain ⟨n, zs, a, c, C, D, hnn, z1, z2, z3, rfl, z4, c1, c2, hx⟩ := rt_fix HT.out.1
      have HN : Hid (xs.length = n) := hnn
      have hn1 : n ≤ 100000 := by rw [← hnn]; exact HT.out.2
      have HX : Hid (∀ (w V : World) (L : List (Nat × Obj)), Mem w V (((m, .cells #[.slice a n c] 30 (0, 0)) :: (C ++ D)) ++ L) → ∀ i (hi : i < xs.length), ∃ pv b off, a = some ⟨b, off, none⟩ ∧ ∀ V', Below V.heap.size V V' → Bo V' b (off + i * 9) xs[i] pv) := hx
      have HZ : Hid (zs.map (·.1) = xs ∧ zs.length = n ∧ SlF 39 9 (.slice a n c) n (sx zs).flatten C ∧ ∀ z ∈ zs, SlF 34 2 z.2 z.1.ps.length (px z.1.ps).flatten D) := ⟨z1, z2, z3, z4⟩
      have q0 : V2.cell? ⟨m, 0, none⟩ = some (.slice a n c) := hM2.cell 0 rfl 0
      by_cases hfull : most ≤ n
      · have HE : Hid (130 = R ∧ xs = N) := by
          obtain ⟨u1, u2⟩ := ac_full (s := s') (most := most) (xs := xs) (by rw [← HS'.out]; exact HO1.out) (by rw [← HS'.out]; exact HO2.out) (by rw [HN.out]; exact hfull)
          exact ⟨by rw [← u1]; exact HR.out.1, by rw [← HR.out.2, u2]⟩
        have HB : Hid (Mem w V2 (((m, .cells #[.slice a n c] 30 (0, 0)) :: (C ++ D)) ++ L)) := (hM2.perm (List.perm_middle (l₁ := (m, .cells #[.slice a n c] 30 (0, 0)) :: (C ++ D)))).sub
        clear HR hM2 HO1 HO2 HX HZ hx z1 z2 z3 z4 hnn
        go_wp2_with fail
        go_ret
        exact ⟨by rw [← HE.out.1]; rfl, _, by rw [← HE.out.2]; exact HT.out.1, HB.out⟩
      · have HE : Hid (0 = R ∧ ins s' xs = N) := by
          obtain ⟨u1, u2⟩ := ac_fits (s := s') (most := most) (xs := xs) (by rw [← HS'.out]; exact HO1.out) (by rw [← HS'.out]; exact HO2.out) (by rw [HN.out]; exact hfull)
          exact ⟨by rw [← u1]; exact HR.out.1, by rw [← HR.out.2, u2]⟩
        have HM3 : Hid (Mem w V2 (C ++ ((m, .cells #[.slice a n c] 30 (0, 0)) :: ((g, .cells #[.int .u8 k1, .int .u32 k2, .int .u16 k3, .int .u32 f4, .int .u16 f5, .int .u32 f6, .slice pa np pb, .int .i64 f7, .int .u32 f8] 39 (0, 0)) :: (D ++ L))))) := hM2.perm (by
          classical
          rw [List.perm_iff_count]
          intro q
          simp only [List.count_append, List.count_cons, List.count_nil]
          omega)
        clear HR hM2 HO1 HO2 hx z1 z2 z3 z4 hnn HT
        go_wp2_with fail
        go_loopw [11] (fun u11 w' => ∃ k : Nat, k ≤ n ∧ u11 = .int .i64 k ∧ Hid (Mem w w' (C ++ ((m, .cells #[.slice a n c] 30 (0, 0)) :: ((g, .cells #[.int .u8 k1, .int .u32 k2, .int .u16 k3, .int .u32 f4, .int .u16 f5, .int .u32 f6, .slice pa np pb, .int .i64 f7, .int .u32 f8] 39 (0, 0)) :: (D ++ L)))) ∧ ∀ x ∈ xs.take k, klt (key x) (key s'))) (fun u11 w' => n - (intOf u11).toNat)
        case atStart => exact ⟨0, Nat.zero_le _, rfl, HM3.out, fun d hd => by simp at hd⟩
        case round =>
          obtain ⟨k, hk, rfl, HI⟩ := hrel
          clear HM3 q0
          obtain ⟨hMr, hNo⟩ := HI.out
          have hMx := hMr.perm (show List.Perm _ (((m, .cells #[.slice a n c] 30 (0, 0)) :: (C ++ D)) ++ ((g, .cells #[.int .u8 k1, .int .u32 k2, .int .u16 k3, .int .u32 f4, .int .u16 f5, .int .u32 f6, .slice pa np pb, .int .i64 f7, .int .u32 f8] 39 (0, 0)) :: L)) from by
            classical
            rw [List.perm_iff_count]
            intro q
            simp only [List.count_append, List.count_cons, List.count_nil]
            omega)
          have hMg := hMr.perm (show List.Perm _ ((g, .cells #[.int .u8 k1, .int .u32 k2, .int .u16 k3, .int .u32 f4, .int .u16 f5, .int .u32 f6, .slice pa np pb, .int .i64 f7, .int .u32 f8] 39 (0, 0)) :: (C ++ ((m, .cells #[.slice a n c] 30 (0, 0)) :: (D ++ L)))) from by
            classical
            rw [List.perm_iff_count]
            intro q
            simp only [List.count_append, List.count_cons, List.count_nil]
            omega)
          by_cases hlt : k < n
          · have j3 : (k : Int) < n := by omega
            have i1 : k < xs.length := by rw [HN.out]; exact hlt
            obtain ⟨pv, b, off, hab, hV⟩ := HX.out _ _ _ hMx k i1
            subst hab
            have HS : Hid (∀ V', Mem w V' (C ++ ((m, .cells #[.slice (some ⟨b, off, none⟩) n c] 30 (0, 0)) :: ((g, .cells #[.int .u8 k1, .int .u32 k2, .int .u16 k3, .int .u32 f4, .int .u16 f5, .int .u32 f6, .slice pa np pb, .int .i64 f7, .int .u32 f8] 39 (0, 0)) :: (D ++ L)))) → Below wr.heap.size wr V' → (fun V : World => V.cell? ⟨m, 0, none⟩ = some (.slice (some ⟨b, off, none⟩) n c) ∧ (V.cell? ⟨b, off + k * 9, none⟩ = some (.int .u8 xs[k].pr) ∧ V.cell? ⟨b, off + k * 9 + 1, none⟩ = some (.int .u32 xs[k].ip) ∧ V.cell? ⟨b, off + k * 9 + 2, none⟩ = some (.int .u16 xs[k].port)) ∧ V.cell? ⟨g, 0, none⟩ = some (.int .u8 k1) ∧ V.cell? ⟨g, 1, none⟩ = some (.int .u32 k2) ∧ V.cell? ⟨g, 2, none⟩ = some (.int .u16 k3)) V') := fun V' hM' hB' => by
              obtain ⟨d0, d1, d2, -⟩ := hV V' hB'
              have hA := hM'.perm (List.perm_middle (l₁ := C))
              have hG := hM'.perm (show List.Perm _ ((g, .cells #[.int .u8 k1, .int .u32 k2, .int .u16 k3, .int .u32 f4, .int .u16 f5, .int .u32 f6, .slice pa np pb, .int .i64 f7, .int .u32 f8] 39 (0, 0)) :: (C ++ ((m, .cells #[.slice (some ⟨b, off, none⟩) n c] 30 (0, 0)) :: (D ++ L)))) from by
                classical
                rw [List.perm_iff_count]
                intro q
                simp only [List.count_append, List.count_cons, List.count_nil]
                omega)
              exact ⟨hA.cell 0 rfl 0, ⟨d0, d1, d2⟩, hG.cell 0 rfl 0, hG.cell 0 rfl 1, hG.cell 0 rfl 2⟩
            have hks : key s' = (k1, k2, k3) := by rw [← HS'.out]; rfl
            by_cases hd : klt (key xs[k]) (key s')
            · have HN2 : Hid (∀ x ∈ xs.take (k + 1), klt (key x) (key s')) := fun e he => by
                rw [List.take_add_one, List.getElem?_eq_getElem i1] at he
                rcases List.mem_append.1 he with he | he
                · exact hNo e he
                · simp at he; subst he; exact hd
              have HC : Hid (∀ V, Calls Try.prog 38 #[.agg #[.int .u8 xs[k].pr, .int .u32 xs[k].ip, .int .u16 xs[k].port], .agg #[.int .u8 k1, .int .u32 k2, .int .u16 k3]] V fun e W' => e = .returned (.bool true) ∧ Below V.heap.size V W') := fun V => by
                have := rless_any V (xs[k].pr, xs[k].ip, xs[k].port) (k1, k2, k3)
                rw [← hks, show ((xs[k].pr, xs[k].ip, xs[k].port) : Ky) = key xs[k] from rfl, decide_eq_true hd] at this
                rw [hks] at this
                exact this
              clear hd hNo HI hMx hMg hV HX hks
              generalize xs[k].pr = x1 at *
              generalize xs[k].ip = x2 at *
              generalize xs[k].port = x3 at *
              go_upto_region 10 with fail
              refine wp_region_held_drew (S := (fun V : World => V.cell? ⟨m, 0, none⟩ = some (.slice (some ⟨b, off, none⟩) n c) ∧ (V.cell? ⟨b, off + k * 9, none⟩ = some (.int .u8 x1) ∧ V.cell? ⟨b, off + k * 9 + 1, none⟩ = some (.int .u32 x2) ∧ V.cell? ⟨b, off + k * 9 + 2, none⟩ = some (.int .u16 x3)) ∧ V.cell? ⟨g, 0, none⟩ = some (.int .u8 k1) ∧ V.cell? ⟨g, 1, none⟩ = some (.int .u32 k2) ∧ V.cell? ⟨g, 2, none⟩ = some (.int .u16 k3))) (by kernel_rfl) (HS.out _ hMr.drew (Below.refl _ _).drew) (fun hHeld => ?_)
              refine wpAnyH_take (i := 0) (v := ?_) rfl (by kernel_rfl) (by kernel_rfl) (by kernel_rfl) (fun _ _ _ h => h) (Or.inl ⟨by rfl, ?z1⟩) (by assumption) ?_
              case z1 =>
               intro w hSw
               (try dsimp only at hSw)
               go_simp
               all_goals with_reducible rfl
              try simp only [List.getElem_toArray, List.getElem_cons_zero, List.getElem_cons_succ, Act.put, List.setIfInBounds_toArray, List.set_cons_zero, List.set_cons_succ]
              refine wpAnyH_take (i := 1) (v := ?_) rfl (by kernel_rfl) (by kernel_rfl) (by kernel_rfl) (fun _ _ _ h => h) (Or.inl ⟨by rfl, ?z2⟩) (by assumption) ?_
              case z2 =>
               intro w hSw
               (try dsimp only at hSw)
               go_simp
               all_goals with_reducible rfl
              try simp only [List.getElem_toArray, List.getElem_cons_zero, List.getElem_cons_succ, Act.put, List.setIfInBounds_toArray, List.set_cons_zero, List.set_cons_succ]
              refine wpAnyH_take (i := 2) (v := ?_) rfl (by kernel_rfl) (by kernel_rfl) (by kernel_rfl) (fun _ _ _ h => h) (Or.inl ⟨by rfl, ?z3⟩) (by assumption) ?_
              case z3 =>
               intro w hSw
               (try dsimp only at hSw)
               go_simp
               all_goals with_reducible rfl
              try simp only [List.getElem_toArray, List.getElem_cons_zero, List.getElem_cons_succ, Act.put, List.setIfInBounds_toArray, List.set_cons_zero, List.set_cons_succ]
              refine wpAnyH_take (i := 3) (v := ?_) rfl (by kernel_rfl) (by kernel_rfl) (by kernel_rfl) (fun _ _ _ h => h) (Or.inl ⟨by rfl, ?z4⟩) (by assumption) ?_
              case z4 =>
               intro w hSw
               (try dsimp only at hSw)
               go_simp
               all_goals with_reducible rfl
              try simp only [List.getElem_toArray, List.getElem_cons_zero, List.getElem_cons_succ, Act.put, List.setIfInBounds_toArray, List.set_cons_zero, List.set_cons_succ]
              refine wpAnyH_take (i := 4) (v := ?_) rfl (by kernel_rfl) (by kernel_rfl) (by kernel_rfl) (fun _ _ _ h => h) (Or.inl ⟨by rfl, ?z5⟩) (by assumption) ?_
              case z5 =>
               intro w hSw
               (try dsimp only at hSw)
               go_simp
               all_goals with_reducible rfl
              try simp only [List.getElem_toArray, List.getElem_cons_zero, List.getElem_cons_succ, Act.put, List.setIfInBounds_toArray, List.set_cons_zero, List.set_cons_succ]
              refine wpAnyH_take (i := 5) (v := ?_) rfl (by kernel_rfl) (by kernel_rfl) (by kernel_rfl) (fun _ _ _ h => h) (Or.inl ⟨by rfl, ?z6⟩) (by assumption) ?_
              case z6 =>
               intro w hSw
               (try dsimp only at hSw)
               go_simp
               all_goals with_reducible rfl
              try simp only [List.getElem_toArray, List.getElem_cons_zero, List.getElem_cons_succ, Act.put, List.setIfInBounds_toArray, List.set_cons_zero, List.set_cons_succ]
              refine wpAnyH_take (i := 6) (v := ?_) rfl (by kernel_rfl) (by kernel_rfl) (by kernel_rfl) (fun _ _ _ h => h) (Or.inl ⟨by rfl, ?z7⟩) (by assumption) ?_
              case z7 =>
               intro w hSw
               (try dsimp only at hSw)
               go_simp
               all_goals with_reducible rfl
              try simp only [List.getElem_toArray, List.getElem_cons_zero, List.getElem_cons_succ, Act.put, List.setIfInBounds_toArray, List.set_cons_zero, List.set_cons_succ]
              refine wpAnyH_take (i := 7) (v := ?_) rfl (by kernel_rfl) (by kernel_rfl) (by kernel_rfl) (fun _ _ _ h => h) (Or.inl ⟨by rfl, ?z8⟩) (by assumption) ?_
              case z8 =>
               intro w hSw
               (try dsimp only at hSw)
               go_simp
               all_goals with_reducible rfl
              try simp only [List.getElem_toArray, List.getElem_cons_zero, List.getElem_cons_succ, Act.put, List.setIfInBounds_toArray, List.set_cons_zero, List.set_cons_succ]
              refine wpAnyH_take (i := 8) (v := ?_) rfl (by kernel_rfl) (by kernel_rfl) (by kernel_rfl) (fun _ _ _ h => h) (Or.inl ⟨by rfl, ?z9⟩) (by assumption) ?_
              case z9 =>
               intro w hSw
               (try dsimp only at hSw)
               go_simp
               all_goals with_reducible rfl
              try simp only [List.getElem_toArray, List.getElem_cons_zero, List.getElem_cons_succ, Act.put, List.setIfInBounds_toArray, List.set_cons_zero, List.set_cons_succ]
              refine wpAnyH_take (i := 9) (v := ?_) rfl (by kernel_rfl) (by kernel_rfl) (by kernel_rfl) (fun _ _ _ h => h) (Or.inl ⟨by rfl, ?z10⟩) (by assumption) ?_
              case z10 =>
               intro w hSw
               (try dsimp only at hSw)
               go_simp
               all_goals with_reducible rfl
              try simp only [List.getElem_toArray, List.getElem_cons_zero, List.getElem_cons_succ, Act.put, List.setIfInBounds_toArray, List.set_cons_zero, List.set_cons_succ]
              refine wpAnyH_take (i := 10) (v := ?_) rfl (by kernel_rfl) (by kernel_rfl) (by kernel_rfl) (fun _ _ _ h => h) (Or.inl ⟨by rfl, ?z11⟩) (by assumption) ?_
              case z11 =>
               intro w hSw
               (try dsimp only at hSw)
               go_simp
               all_goals with_reducible rfl
              try simp only [List.getElem_toArray, List.getElem_cons_zero, List.getElem_cons_succ, Act.put, List.setIfInBounds_toArray, List.set_cons_zero, List.set_cons_succ]
              refine wpAnyH_take (i := 11) (v := ?_) rfl (by kernel_rfl) (by kernel_rfl) (by kernel_rfl) (fun _ _ _ h => h) (Or.inl ⟨by rfl, ?z12⟩) (by assumption) ?_
              case z12 =>
               intro w hSw
               (try dsimp only at hSw)
               go_simp
               all_goals with_reducible rfl
              try simp only [List.getElem_toArray, List.getElem_cons_zero, List.getElem_cons_succ, Act.put, List.setIfInBounds_toArray, List.set_cons_zero, List.set_cons_succ]
              refine wpAnyH_take (i := 12) (v := ?_) rfl (by kernel_rfl) (by kernel_rfl) (by kernel_rfl) (fun _ _ _ h => h) (Or.inl ⟨by rfl, ?z13⟩) (by assumption) ?_
              case z13 =>
               intro w hSw
               (try dsimp only at hSw)
               go_simp
               all_goals with_reducible rfl
              try simp only [List.getElem_toArray, List.getElem_cons_zero, List.getElem_cons_succ, Act.put, List.setIfInBounds_toArray, List.set_cons_zero, List.set_cons_succ]
              refine wpAnyH_take (i := 13) (v := ?_) rfl (by kernel_rfl) (by kernel_rfl) (by kernel_rfl) (fun _ _ _ h => h) (Or.inl ⟨by rfl, ?z14⟩) (by assumption) ?_
              case z14 =>
               intro w hSw
               (try dsimp only at hSw)
               go_simp
               all_goals with_reducible rfl
              try simp only [List.getElem_toArray, List.getElem_cons_zero, List.getElem_cons_succ, Act.put, List.setIfInBounds_toArray, List.set_cons_zero, List.set_cons_succ]
              refine wpAnyH_take (i := 14) (v := ?_) rfl (by kernel_rfl) (by kernel_rfl) (by kernel_rfl) (fun _ _ _ h => h) (Or.inl ⟨by rfl, ?z15⟩) (by assumption) ?_
              case z15 =>
               intro w hSw
               (try dsimp only at hSw)
               go_simp
               all_goals with_reducible rfl
              try simp only [List.getElem_toArray, List.getElem_cons_zero, List.getElem_cons_succ, Act.put, List.setIfInBounds_toArray, List.set_cons_zero, List.set_cons_succ]
              refine wpAnyH_take (i := 15) (v := ?_) rfl (by kernel_rfl) (by kernel_rfl) (by kernel_rfl) (fun _ _ _ h => h) (Or.inl ⟨by rfl, ?z16⟩) (by assumption) ?_
              case z16 =>
               intro w hSw
               (try dsimp only at hSw)
               go_simp
               all_goals with_reducible rfl
              try simp only [List.getElem_toArray, List.getElem_cons_zero, List.getElem_cons_succ, Act.put, List.setIfInBounds_toArray, List.set_cons_zero, List.set_cons_succ]
              refine wpAnyH_take (i := 16) (v := ?_) rfl (by kernel_rfl) (by kernel_rfl) (by kernel_rfl) (fun _ _ _ h => h) (Or.inl ⟨by rfl, ?z17⟩) (by assumption) ?_
              case z17 =>
               intro w hSw
               (try dsimp only at hSw)
               go_simp
               all_goals with_reducible rfl
              try simp only [List.getElem_toArray, List.getElem_cons_zero, List.getElem_cons_succ, Act.put, List.setIfInBounds_toArray, List.set_cons_zero, List.set_cons_succ]
              refine wpAnyH_take (i := 17) (v := ?_) rfl (by kernel_rfl) (by kernel_rfl) (by kernel_rfl) (fun _ _ _ h => h) (Or.inl ⟨by rfl, ?z18⟩) (by assumption) ?_
              case z18 =>
               intro w hSw
               (try dsimp only at hSw)
               go_simp
               all_goals with_reducible rfl
              try simp only [List.getElem_toArray, List.getElem_cons_zero, List.getElem_cons_succ, Act.put, List.setIfInBounds_toArray, List.set_cons_zero, List.set_cons_succ]
              refine wpAnyH_ready (rs := [18]) (by kernel_rfl) (by simp) ?_
              refine AllReadyH.cons rfl (fun K hK => ?_) AllReadyH.nil
              go_simp
              with_reducible refine (HC.out _).mono ?_
              rintro e w1 ⟨rfl, hw1⟩
              try go_wp2_with fail
              refine hK.out _ _ (HS.out _ (hMr.drew.after hw1) ((Below.refl _ _).drew.trans (hw1.mono (Nat.le_refl _)))) (fun hHeld => ?_)
              clear hK K
              try simp only [List.getElem_toArray, List.getElem_cons_zero, List.getElem_cons_succ, Act.put, List.setIfInBounds_toArray, List.set_cons_zero, List.set_cons_succ]
              have HX1 : Hid (Mem w w1 (C ++ ((m, .cells #[.slice (some ⟨b, off, none⟩) n c] 30 (0, 0)) :: ((g, .cells #[.int .u8 k1, .int .u32 k2, .int .u16 k3, .int .u32 f4, .int .u16 f5, .int .u32 f6, .slice pa np pb, .int .i64 f7, .int .u32 f8] 39 (0, 0)) :: (D ++ L))))) := hMr.drew.after hw1
              refine wpAnyH_take (i := 19) (v := ?_) rfl (by kernel_rfl) (by kernel_rfl) (by kernel_rfl) (fun _ _ _ h => h) (Or.inl ⟨by rfl, ?z19⟩) (by assumption) ?_
              case z19 =>
               intro w hSw
               (try dsimp only at hSw)
               go_simp
               all_goals with_reducible rfl
              try simp only [List.getElem_toArray, List.getElem_cons_zero, List.getElem_cons_succ, Act.put, List.setIfInBounds_toArray, List.set_cons_zero, List.set_cons_succ]
              refine wpAnyH_done (by kernel_rfl) ?_ _

              clear HC HS hw1 hMr
              go_wp2_with fail
              go_roundw
              case rel => exact ⟨k + 1, by omega, by go_num, HX1.out, HN2.out⟩
              case measure => simp [intOf]; omega
            · have HW : Hid (ins s' xs = xs.take k ++ s' :: xs.drop k) := ins_at (by omega) hNo fun _ => hd
              have HC : Hid (∀ V, Calls Try.prog 38 #[.agg #[.int .u8 xs[k].pr, .int .u32 xs[k].ip, .int .u16 xs[k].port], .agg #[.int .u8 k1, .int .u32 k2, .int .u16 k3]] V fun e W' => e = .returned (.bool false) ∧ Below V.heap.size V W') := fun V => by
                have := rless_any V (xs[k].pr, xs[k].ip, xs[k].port) (k1, k2, k3)
                rw [← hks, show ((xs[k].pr, xs[k].ip, xs[k].port) : Ky) = key xs[k] from rfl, decide_eq_false hd] at this
                rw [hks] at this
                exact this
              clear hd hNo HI hMx hMg hV HX hks
              generalize xs[k].pr = x1 at *
              generalize xs[k].ip = x2 at *
              generalize xs[k].port = x3 at *
              go_upto_region 10 with fail
              refine wp_region_held_drew (S := (fun V : World => V.cell? ⟨m, 0, none⟩ = some (.slice (some ⟨b, off, none⟩) n c) ∧ (V.cell? ⟨b, off + k * 9, none⟩ = some (.int .u8 x1) ∧ V.cell? ⟨b, off + k * 9 + 1, none⟩ = some (.int .u32 x2) ∧ V.cell? ⟨b, off + k * 9 + 2, none⟩ = some (.int .u16 x3)) ∧ V.cell? ⟨g, 0, none⟩ = some (.int .u8 k1) ∧ V.cell? ⟨g, 1, none⟩ = some (.int .u32 k2) ∧ V.cell? ⟨g, 2, none⟩ = some (.int .u16 k3))) (by kernel_rfl) (HS.out _ hMr.drew (Below.refl _ _).drew) (fun hHeld => ?_)
              refine wpAnyH_take (i := 0) (v := ?_) rfl (by kernel_rfl) (by kernel_rfl) (by kernel_rfl) (fun _ _ _ h => h) (Or.inl ⟨by rfl, ?z20⟩) (by assumption) ?_
              case z20 =>
               intro w hSw
               (try dsimp only at hSw)
               go_simp
               all_goals with_reducible rfl
              try simp only [List.getElem_toArray, List.getElem_cons_zero, List.getElem_cons_succ, Act.put, List.setIfInBounds_toArray, List.set_cons_zero, List.set_cons_succ]
              refine wpAnyH_take (i := 1) (v := ?_) rfl (by kernel_rfl) (by kernel_rfl) (by kernel_rfl) (fun _ _ _ h => h) (Or.inl ⟨by rfl, ?z21⟩) (by assumption) ?_
              case z21 =>
               intro w hSw
               (try dsimp only at hSw)
               go_simp
               all_goals with_reducible rfl
              try simp only [List.getElem_toArray, List.getElem_cons_zero, List.getElem_cons_succ, Act.put, List.setIfInBounds_toArray, List.set_cons_zero, List.set_cons_succ]
              refine wpAnyH_take (i := 2) (v := ?_) rfl (by kernel_rfl) (by kernel_rfl) (by kernel_rfl) (fun _ _ _ h => h) (Or.inl ⟨by rfl, ?z22⟩) (by assumption) ?_
              case z22 =>
               intro w hSw
               (try dsimp only at hSw)
               go_simp
               all_goals with_reducible rfl
              try simp only [List.getElem_toArray, List.getElem_cons_zero, List.getElem_cons_succ, Act.put, List.setIfInBounds_toArray, List.set_cons_zero, List.set_cons_succ]
              refine wpAnyH_take (i := 3) (v := ?_) rfl (by kernel_rfl) (by kernel_rfl) (by kernel_rfl) (fun _ _ _ h => h) (Or.inl ⟨by rfl, ?z23⟩) (by assumption) ?_
              case z23 =>
               intro w hSw
               (try dsimp only at hSw)
               go_simp
               all_goals with_reducible rfl
              try simp only [List.getElem_toArray, List.getElem_cons_zero, List.getElem_cons_succ, Act.put, List.setIfInBounds_toArray, List.set_cons_zero, List.set_cons_succ]
              refine wpAnyH_take (i := 4) (v := ?_) rfl (by kernel_rfl) (by kernel_rfl) (by kernel_rfl) (fun _ _ _ h => h) (Or.inl ⟨by rfl, ?z24⟩) (by assumption) ?_
              case z24 =>
               intro w hSw
               (try dsimp only at hSw)
               go_simp
               all_goals with_reducible rfl
              try simp only [List.getElem_toArray, List.getElem_cons_zero, List.getElem_cons_succ, Act.put, List.setIfInBounds_toArray, List.set_cons_zero, List.set_cons_succ]
              refine wpAnyH_take (i := 5) (v := ?_) rfl (by kernel_rfl) (by kernel_rfl) (by kernel_rfl) (fun _ _ _ h => h) (Or.inl ⟨by rfl, ?z25⟩) (by assumption) ?_
              case z25 =>
               intro w hSw
               (try dsimp only at hSw)
               go_simp
               all_goals with_reducible rfl
              try simp only [List.getElem_toArray, List.getElem_cons_zero, List.getElem_cons_succ, Act.put, List.setIfInBounds_toArray, List.set_cons_zero, List.set_cons_succ]
              refine wpAnyH_take (i := 6) (v := ?_) rfl (by kernel_rfl) (by kernel_rfl) (by kernel_rfl) (fun _ _ _ h => h) (Or.inl ⟨by rfl, ?z26⟩) (by assumption) ?_
              case z26 =>
               intro w hSw
               (try dsimp only at hSw)
               go_simp
               all_goals with_reducible rfl
              try simp only [List.getElem_toArray, List.getElem_cons_zero, List.getElem_cons_succ, Act.put, List.setIfInBounds_toArray, List.set_cons_zero, List.set_cons_succ]
              refine wpAnyH_take (i := 7) (v := ?_) rfl (by kernel_rfl) (by kernel_rfl) (by kernel_rfl) (fun _ _ _ h => h) (Or.inl ⟨by rfl, ?z27⟩) (by assumption) ?_
              case z27 =>
               intro w hSw
               (try dsimp only at hSw)
               go_simp
               all_goals with_reducible rfl
              try simp only [List.getElem_toArray, List.getElem_cons_zero, List.getElem_cons_succ, Act.put, List.setIfInBounds_toArray, List.set_cons_zero, List.set_cons_succ]
              refine wpAnyH_take (i := 8) (v := ?_) rfl (by kernel_rfl) (by kernel_rfl) (by kernel_rfl) (fun _ _ _ h => h) (Or.inl ⟨by rfl, ?z28⟩) (by assumption) ?_
              case z28 =>
               intro w hSw
               (try dsimp only at hSw)
               go_simp
               all_goals with_reducible rfl
              try simp only [List.getElem_toArray, List.getElem_cons_zero, List.getElem_cons_succ, Act.put, List.setIfInBounds_toArray, List.set_cons_zero, List.set_cons_succ]
              refine wpAnyH_take (i := 9) (v := ?_) rfl (by kernel_rfl) (by kernel_rfl) (by kernel_rfl) (fun _ _ _ h => h) (Or.inl ⟨by rfl, ?z29⟩) (by assumption) ?_
              case z29 =>
               intro w hSw
               (try dsimp only at hSw)
               go_simp
               all_goals with_reducible rfl
              try simp only [List.getElem_toArray, List.getElem_cons_zero, List.getElem_cons_succ, Act.put, List.setIfInBounds_toArray, List.set_cons_zero, List.set_cons_succ]
              refine wpAnyH_take (i := 10) (v := ?_) rfl (by kernel_rfl) (by kernel_rfl) (by kernel_rfl) (fun _ _ _ h => h) (Or.inl ⟨by rfl, ?z30⟩) (by assumption) ?_
              case z30 =>
               intro w hSw
               (try dsimp only at hSw)
               go_simp
               all_goals with_reducible rfl
              try simp only [List.getElem_toArray, List.getElem_cons_zero, List.getElem_cons_succ, Act.put, List.setIfInBounds_toArray, List.set_cons_zero, List.set_cons_succ]
              refine wpAnyH_take (i := 11) (v := ?_) rfl (by kernel_rfl) (by kernel_rfl) (by kernel_rfl) (fun _ _ _ h => h) (Or.inl ⟨by rfl, ?z31⟩) (by assumption) ?_
              case z31 =>
               intro w hSw
               (try dsimp only at hSw)
               go_simp
               all_goals with_reducible rfl
              try simp only [List.getElem_toArray, List.getElem_cons_zero, List.getElem_cons_succ, Act.put, List.setIfInBounds_toArray, List.set_cons_zero, List.set_cons_succ]
              refine wpAnyH_take (i := 12) (v := ?_) rfl (by kernel_rfl) (by kernel_rfl) (by kernel_rfl) (fun _ _ _ h => h) (Or.inl ⟨by rfl, ?z32⟩) (by assumption) ?_
              case z32 =>
               intro w hSw
               (try dsimp only at hSw)
               go_simp
               all_goals with_reducible rfl
              try simp only [List.getElem_toArray, List.getElem_cons_zero, List.getElem_cons_succ, Act.put, List.setIfInBounds_toArray, List.set_cons_zero, List.set_cons_succ]
              refine wpAnyH_take (i := 13) (v := ?_) rfl (by kernel_rfl) (by kernel_rfl) (by kernel_rfl) (fun _ _ _ h => h) (Or.inl ⟨by rfl, ?z33⟩) (by assumption) ?_
              case z33 =>
               intro w hSw
               (try dsimp only at hSw)
               go_simp
               all_goals with_reducible rfl
              try simp only [List.getElem_toArray, List.getElem_cons_zero, List.getElem_cons_succ, Act.put, List.setIfInBounds_toArray, List.set_cons_zero, List.set_cons_succ]
              refine wpAnyH_take (i := 14) (v := ?_) rfl (by kernel_rfl) (by kernel_rfl) (by kernel_rfl) (fun _ _ _ h => h) (Or.inl ⟨by rfl, ?z34⟩) (by assumption) ?_
              case z34 =>
               intro w hSw
               (try dsimp only at hSw)
               go_simp
               all_goals with_reducible rfl
              try simp only [List.getElem_toArray, List.getElem_cons_zero, List.getElem_cons_succ, Act.put, List.setIfInBounds_toArray, List.set_cons_zero, List.set_cons_succ]
              refine wpAnyH_take (i := 15) (v := ?_) rfl (by kernel_rfl) (by kernel_rfl) (by kernel_rfl) (fun _ _ _ h => h) (Or.inl ⟨by rfl, ?z35⟩) (by assumption) ?_
              case z35 =>
               intro w hSw
               (try dsimp only at hSw)
               go_simp
               all_goals with_reducible rfl
              try simp only [List.getElem_toArray, List.getElem_cons_zero, List.getElem_cons_succ, Act.put, List.setIfInBounds_toArray, List.set_cons_zero, List.set_cons_succ]
              refine wpAnyH_take (i := 16) (v := ?_) rfl (by kernel_rfl) (by kernel_rfl) (by kernel_rfl) (fun _ _ _ h => h) (Or.inl ⟨by rfl, ?z36⟩) (by assumption) ?_
              case z36 =>
               intro w hSw
               (try dsimp only at hSw)
               go_simp
               all_goals with_reducible rfl
              try simp only [List.getElem_toArray, List.getElem_cons_zero, List.getElem_cons_succ, Act.put, List.setIfInBounds_toArray, List.set_cons_zero, List.set_cons_succ]
              refine wpAnyH_take (i := 17) (v := ?_) rfl (by kernel_rfl) (by kernel_rfl) (by kernel_rfl) (fun _ _ _ h => h) (Or.inl ⟨by rfl, ?z37⟩) (by assumption) ?_
              case z37 =>
               intro w hSw
               (try dsimp only at hSw)
               go_simp
               all_goals with_reducible rfl
              try simp only [List.getElem_toArray, List.getElem_cons_zero, List.getElem_cons_succ, Act.put, List.setIfInBounds_toArray, List.set_cons_zero, List.set_cons_succ]
              refine wpAnyH_ready (rs := [18]) (by kernel_rfl) (by simp) ?_
              refine AllReadyH.cons rfl (fun K hK => ?_) AllReadyH.nil
              go_simp
              with_reducible refine (HC.out _).mono ?_
              rintro e w1 ⟨rfl, hw1⟩
              try go_wp2_with fail
              refine hK.out _ _ (HS.out _ (hMr.drew.after hw1) ((Below.refl _ _).drew.trans (hw1.mono (Nat.le_refl _)))) (fun hHeld => ?_)
              clear hK K
              try simp only [List.getElem_toArray, List.getElem_cons_zero, List.getElem_cons_succ, Act.put, List.setIfInBounds_toArray, List.set_cons_zero, List.set_cons_succ]
              have HX1 : Hid (Mem w w1 (C ++ ((m, .cells #[.slice (some ⟨b, off, none⟩) n c] 30 (0, 0)) :: ((g, .cells #[.int .u8 k1, .int .u32 k2, .int .u16 k3, .int .u32 f4, .int .u16 f5, .int .u32 f6, .slice pa np pb, .int .i64 f7, .int .u32 f8] 39 (0, 0)) :: (D ++ L))))) := hMr.drew.after hw1
              refine wpAnyH_take (i := 19) (v := ?_) rfl (by kernel_rfl) (by kernel_rfl) (by kernel_rfl) (fun _ _ _ h => h) (Or.inl ⟨by rfl, ?z38⟩) (by assumption) ?_
              case z38 =>
               intro w hSw
               (try dsimp only at hSw)
               go_simp
               all_goals with_reducible rfl
              try simp only [List.getElem_toArray, List.getElem_cons_zero, List.getElem_cons_succ, Act.put, List.setIfInBounds_toArray, List.set_cons_zero, List.set_cons_succ]
              refine wpAnyH_done (by kernel_rfl) ?_ _

              clear HC HS hw1 hMr
              go_upto_region 12 with fail
              refine wp_letter (fun X => Mem w X (C ++ ((m, .cells #[.slice (some ⟨b, off, none⟩) n c] 30 (0, 0)) :: ((g, .cells #[.int .u8 k1, .int .u32 k2, .int .u16 k3, .int .u32 f4, .int .u16 f5, .int .u32 f6, .slice pa np pb, .int .i64 f7, .int .u32 f8] 39 (0, 0)) :: (D ++ L))))) (by exact HX1.out) ?_
              intro X hX
              clear HX1
              have hpX := HPR.out.below hX.below (Nat.le_refl _)
              obtain ⟨qa, qc, V4, D1, hap, hM4, hS4, -⟩ := copy_pt hpX hX (by rw [HNP.out]; exact hps)
              rw [HNP.out] at hap hS4
              have hMk := hX.perm (show List.Perm _ ((g, .cells #[.int .u8 k1, .int .u32 k2, .int .u16 k3, .int .u32 f4, .int .u16 f5, .int .u32 f6, .slice pa np pb, .int .i64 f7, .int .u32 f8] 39 (0, 0)) :: (C ++ ((m, .cells #[.slice (some ⟨b, off, none⟩) n c] 30 (0, 0)) :: (D ++ L)))) from by
                  classical
                  rw [List.perm_iff_count]
                  intro q
                  simp only [List.count_append, List.count_cons, List.count_nil]
                  omega)
              have y6 : X.cell? ⟨g, 6, none⟩ = some (.slice pa np pb) := hMk.cell 0 rfl 6
              have hM5 := hM4.perm (show List.Perm _ ((g, .cells #[.int .u8 k1, .int .u32 k2, .int .u16 k3, .int .u32 f4, .int .u16 f5, .int .u32 f6, .slice pa np pb, .int .i64 f7, .int .u32 f8] 39 (0, 0)) :: (C ++ ((m, .cells #[.slice (some ⟨b, off, none⟩) n c] 30 (0, 0)) :: (D1 ++ D ++ L)))) from by
                  classical
                  rw [List.perm_iff_count]
                  intro q
                  simp only [List.count_append, List.count_cons, List.count_nil]
                  omega)
              have y7 : V4.cell? ⟨g, 6, none⟩ = some (.slice pa np pb) := hM5.cell 0 rfl 6
              have y8 : V4.frozen? ⟨g, 6, none⟩ = false := hM5.free 0 rfl 6
              have HM6 : Hid (Mem w (V4.setCell ⟨g, 6, none⟩ (.slice qa np qc)) ((g, .cells #[.int .u8 k1, .int .u32 k2, .int .u16 k3, .int .u32 f4, .int .u16 f5, .int .u32 f6, .slice qa np qc, .int .i64 f7, .int .u32 f8] 39 (0, 0)) :: (C ++ ((m, .cells #[.slice (some ⟨b, off, none⟩) n c] 30 (0, 0)) :: (D1 ++ D ++ L))))) := hM5.set 0 rfl 6 (.slice qa np qc)
              have HS4 : Hid (SlF 34 2 (.slice qa np qc) np (px ps).flatten D1) := hS4
              clear hX hpX hM4 hM5 hMk hS4
              go_upto_region 13 with (first | (refine wpList_append_run (.const (.slice none 0 0)) (.tmp 61) 37 37 rfl hap rfl (by rfl) (by simp [Act.eval]) (by simp [Act.eval]) ?_) | fail)
              refine wp_letter (fun Y => Mem w Y (C ++ ((m, .cells #[.slice (some ⟨b, off, none⟩) n c] 30 (0, 0)) :: ((g, .cells #[.int .u8 k1, .int .u32 k2, .int .u16 k3, .int .u32 f4, .int .u16 f5, .int .u32 f6, .slice qa np qc, .int .i64 f7, .int .u32 f8] 39 (0, 0)) :: (D1 ++ D ++ L))))) (HM6.out.perm (by
                  classical
                  rw [List.perm_iff_count]
                  intro q
                  simp only [List.count_append, List.count_cons, List.count_nil]
                  omega)) ?_
              intro Y hY
              clear HM6 hap y6 y7 y8
              obtain ⟨z1, z2, z3, z4⟩ := HZ.out
              have hxs := sx_nine (zs := zs)
              have hsl : (sx zs).length = n := by rw [sx_len]; exact z2
              have hS' : SlF 39 9 (.slice (some ⟨b, off, none⟩) (sx zs).length c) (sx zs).length (sx zs).flatten C := by rw [hsl]; exact z3
              have s1 := fun V => sslice_ii V (some ⟨b, off, none⟩) n c k (by omega)
              have s2 := fun V => sslice_from V (some ⟨b, off, none⟩) n c k (by omega)
              have hii := gf_ii hxs hS' (i := k) (by omega)
              have hff := gf_from hxs hS' (k := k) (by omega)
              have el : ((sx zs).drop k).length = n - k := by rw [List.length_drop, hsl]
              have el2 : ((sx zs).take k).length = k := by rw [List.length_take]; omega
              rw [hsl] at hff
              obtain ⟨Vd, hVd⟩ : ∃ X, Y.drew = X := ⟨_, rfl⟩
              have hMd : Mem w Vd (C ++ ((m, .cells #[.slice (some ⟨b, off, none⟩) n c] 30 (0, 0)) :: ((g, .cells #[.int .u8 k1, .int .u32 k2, .int .u16 k3, .int .u32 f4, .int .u16 f5, .int .u32 f6, .slice qa np qc, .int .i64 f7, .int .u32 f8] 39 (0, 0)) :: (D1 ++ D ++ L)))) := hVd ▸ hY.drew
              obtain ⟨g5, hg5⟩ : ∃ g, Vd.heap.size = g := ⟨_, rfl⟩
              have hM2 : Mem w (Vd.alloc (.cells #[.int .u8 k1, .int .u32 k2, .int .u16 k3, .int .u32 f4, .int .u16 f5, .int .u32 f6, .slice qa np qc, .int .i64 f7, .int .u32 f8] 39)) ((C ++ [(g5, .cells #[.int .u8 k1, .int .u32 k2, .int .u16 k3, .int .u32 f4, .int .u16 f5, .int .u32 f6, .slice qa np qc, .int .i64 f7, .int .u32 f8] 39 (0, 0))]) ++ ((m, .cells #[.slice (some ⟨b, off, none⟩) n c] 30 (0, 0)) :: ((g, .cells #[.int .u8 k1, .int .u32 k2, .int .u16 k3, .int .u32 f4, .int .u16 f5, .int .u32 f6, .slice qa np qc, .int .i64 f7, .int .u32 f8] 39 (0, 0)) :: (D1 ++ D ++ L)))) :=
                (hMd.push g5 (.cells #[.int .u8 k1, .int .u32 k2, .int .u16 k3, .int .u32 f4, .int .u16 f5, .int .u32 f6, .slice qa np qc, .int .i64 f7, .int .u32 f8] 39) hg5.symm).perm (by
                  classical
                  rw [List.perm_iff_count]
                  intro q
                  simp only [List.count_append, List.count_cons, List.count_nil]
                  omega)
              obtain ⟨vs, hvs⟩ : ∃ vs : List Value, [.int .u8 k1, .int .u32 k2, .int .u16 k3, .int .u32 f4, .int .u16 f5, .int .u32 f6, .slice qa np qc, .int .i64 f7, .int .u32 f8] = vs := ⟨_, rfl⟩
              have hv9 : vs.length = 9 := by rw [← hvs]; rfl
              have hlit : SlF 39 9 (.slice (some ⟨g5, 0, none⟩) [vs].length [vs].length) [vs].length [vs].flatten (C ++ [(g5, .cells #[.int .u8 k1, .int .u32 k2, .int .u16 k3, .int .u32 f4, .int .u16 f5, .int .u32 f6, .slice qa np qc, .int .i64 f7, .int .u32 f8] 39 (0, 0))]) := by
                subst hvs
                exact ⟨rfl, _, _, rfl, Nat.le_refl _, by simp [maxLen], nofun, Or.inr ⟨g5, 0, _, rfl, List.mem_append_right _ (List.mem_singleton.2 rfl), rfl⟩⟩
              have hx1 : ∀ x ∈ [vs], x.length = 9 := fun x hx => by rw [List.mem_singleton.1 hx]; exact hv9
              have hx2 : ∀ x ∈ (sx zs).drop k, x.length = 9 := fun x hx => hxs x (List.mem_of_mem_drop hx)
              have hx3 : ∀ x ∈ [vs] ++ (sx zs).drop k, x.length = 9 := fun x hx => by
                rcases List.mem_append.1 hx with hx | hx
                · exact hx1 x hx
                · exact hx2 x hx
              obtain ⟨ja, jc, V5, C4, hrun1, hM4, hs4, -, hsub4⟩ := gf_join (t := 28) (ty := 28) Try.underlying28 infoSs (by kernel_rfl) (by omega) hx1 hx2 (a2 := if c = k then (some ⟨b, off, none⟩) else (show Option Addr from (some ⟨b, off, none⟩)).map (·.add (k * 9))) (c2 := c - k) hlit ((show SlF _ 9 (.slice _ ((sx zs).drop k).length _) _ _ C by rw [el]; exact hff).mono fun q hq => List.mem_append_left _ hq) hM2 (by rw [el]; simp only [List.length_cons, List.length_nil]; omega)
              obtain ⟨jb, jd, V6, C5, hrun2, hM5, hs5, -, -⟩ := gf_join (t := 28) (ty := 28) Try.underlying28 infoSs (by kernel_rfl) (by omega) (fun x hx => hxs x (List.mem_of_mem_take hx)) hx3 (xs := (sx zs).take k) (a := (some ⟨b, off, none⟩)) (c2 := jc) (a2 := ja) (by rw [el2]; exact hii.mono fun q hq => hsub4 q (List.mem_append_left _ hq)) hs4 hM4 (by rw [List.length_append, el, el2]; simp only [List.length_cons, List.length_nil]; omega)
              rw [el] at hrun1
              rw [el2] at hrun2
              have hMd' := hMd.perm (List.perm_middle (l₁ := C))
              have hM2' := hM2.perm (List.perm_middle (l₁ := C ++ [(g5, .cells #[.int .u8 k1, .int .u32 k2, .int .u16 k3, .int .u32 f4, .int .u16 f5, .int .u32 f6, .slice qa np qc, .int .i64 f7, .int .u32 f8] 39 (0, 0))]))
              have hM4' := hM4.perm (List.perm_middle (l₁ := C4))
              have hM6 := hM5.perm (List.perm_middle (l₁ := C5))
              have b0 : Vd.cell? ⟨m, 0, none⟩ = some (.slice (some ⟨b, off, none⟩) n c) := hMd'.cell 0 rfl 0
              have b1 : (Vd.alloc (.cells #[.int .u8 k1, .int .u32 k2, .int .u16 k3, .int .u32 f4, .int .u16 f5, .int .u32 f6, .slice qa np qc, .int .i64 f7, .int .u32 f8] 39)).cell? ⟨m, 0, none⟩ = some (.slice (some ⟨b, off, none⟩) n c) := hM2'.cell 0 rfl 0
              have b2 : V5.cell? ⟨m, 0, none⟩ = some (.slice (some ⟨b, off, none⟩) n c) := hM4'.cell 0 rfl 0
              have b3 : V6.cell? ⟨m, 0, none⟩ = some (.slice (some ⟨b, off, none⟩) n c) := hM6.cell 0 rfl 0
              have b4 : V6.frozen? ⟨m, 0, none⟩ = false := hM6.free 0 rfl 0
              obtain ⟨N3, hN3⟩ : ∃ N, ((sx zs).take k ++ ([vs] ++ (sx zs).drop k)).length = N := ⟨_, rfl⟩
              rw [hN3] at hrun2
              have hM7 := hM6.set 0 rfl 0 (.slice jb N3 jd)
              have HS0 : Hid ((fun V : World => V.cell? ⟨g, 0, none⟩ = some (.int .u8 k1) ∧ V.cell? ⟨g, 1, none⟩ = some (.int .u32 k2) ∧ V.cell? ⟨g, 2, none⟩ = some (.int .u16 k3) ∧ V.cell? ⟨g, 3, none⟩ = some (.int .u32 f4) ∧ V.cell? ⟨g, 4, none⟩ = some (.int .u16 f5) ∧ V.cell? ⟨g, 5, none⟩ = some (.int .u32 f6) ∧ V.cell? ⟨g, 6, none⟩ = some (.slice qa np qc) ∧ V.cell? ⟨g, 7, none⟩ = some (.int .i64 f7) ∧ V.cell? ⟨g, 8, none⟩ = some (.int .u32 f8)) Y.drew) := bx_of 0 (hY.drew.perm (show List.Perm _ ((g, .cells #[.int .u8 k1, .int .u32 k2, .int .u16 k3, .int .u32 f4, .int .u16 f5, .int .u32 f6, .slice qa np qc, .int .i64 f7, .int .u32 f8] 39 (0, 0)) :: (C ++ ((m, .cells #[.slice (some ⟨b, off, none⟩) n c] 30 (0, 0)) :: (D1 ++ D ++ L)))) from by
                  classical
                  rw [List.perm_iff_count]
                  intro q
                  simp only [List.count_append, List.count_cons, List.count_nil]
                  omega)) rfl
              have HS1 : Hid ((fun V : World => V.cell? ⟨g, 0, none⟩ = some (.int .u8 k1) ∧ V.cell? ⟨g, 1, none⟩ = some (.int .u32 k2) ∧ V.cell? ⟨g, 2, none⟩ = some (.int .u16 k3) ∧ V.cell? ⟨g, 3, none⟩ = some (.int .u32 f4) ∧ V.cell? ⟨g, 4, none⟩ = some (.int .u16 f5) ∧ V.cell? ⟨g, 5, none⟩ = some (.int .u32 f6) ∧ V.cell? ⟨g, 6, none⟩ = some (.slice qa np qc) ∧ V.cell? ⟨g, 7, none⟩ = some (.int .i64 f7) ∧ V.cell? ⟨g, 8, none⟩ = some (.int .u32 f8)) Vd) := hVd ▸ HS0.out
              have HS2 : Hid ((fun V : World => V.cell? ⟨g, 0, none⟩ = some (.int .u8 k1) ∧ V.cell? ⟨g, 1, none⟩ = some (.int .u32 k2) ∧ V.cell? ⟨g, 2, none⟩ = some (.int .u16 k3) ∧ V.cell? ⟨g, 3, none⟩ = some (.int .u32 f4) ∧ V.cell? ⟨g, 4, none⟩ = some (.int .u16 f5) ∧ V.cell? ⟨g, 5, none⟩ = some (.int .u32 f6) ∧ V.cell? ⟨g, 6, none⟩ = some (.slice qa np qc) ∧ V.cell? ⟨g, 7, none⟩ = some (.int .i64 f7) ∧ V.cell? ⟨g, 8, none⟩ = some (.int .u32 f8)) (Vd.alloc (.cells #[.int .u8 k1, .int .u32 k2, .int .u16 k3, .int .u32 f4, .int .u16 f5, .int .u32 f6, .slice qa np qc, .int .i64 f7, .int .u32 f8] 39))) := bx_of 0 (hM2.perm (show List.Perm _ ((g, .cells #[.int .u8 k1, .int .u32 k2, .int .u16 k3, .int .u32 f4, .int .u16 f5, .int .u32 f6, .slice qa np qc, .int .i64 f7, .int .u32 f8] 39 (0, 0)) :: ((C ++ [(g5, .cells #[.int .u8 k1, .int .u32 k2, .int .u16 k3, .int .u32 f4, .int .u16 f5, .int .u32 f6, .slice qa np qc, .int .i64 f7, .int .u32 f8] 39 (0, 0))]) ++ ((m, .cells #[.slice (some ⟨b, off, none⟩) n c] 30 (0, 0)) :: (D1 ++ D ++ L)))) from by
                  classical
                  rw [List.perm_iff_count]
                  intro q
                  simp only [List.count_append, List.count_cons, List.count_nil]
                  omega)) rfl
              have HS3 : Hid ((fun V : World => V.cell? ⟨g, 0, none⟩ = some (.int .u8 k1) ∧ V.cell? ⟨g, 1, none⟩ = some (.int .u32 k2) ∧ V.cell? ⟨g, 2, none⟩ = some (.int .u16 k3) ∧ V.cell? ⟨g, 3, none⟩ = some (.int .u32 f4) ∧ V.cell? ⟨g, 4, none⟩ = some (.int .u16 f5) ∧ V.cell? ⟨g, 5, none⟩ = some (.int .u32 f6) ∧ V.cell? ⟨g, 6, none⟩ = some (.slice qa np qc) ∧ V.cell? ⟨g, 7, none⟩ = some (.int .i64 f7) ∧ V.cell? ⟨g, 8, none⟩ = some (.int .u32 f8)) V5) := bx_of 0 (hM4.perm (show List.Perm _ ((g, .cells #[.int .u8 k1, .int .u32 k2, .int .u16 k3, .int .u32 f4, .int .u16 f5, .int .u32 f6, .slice qa np qc, .int .i64 f7, .int .u32 f8] 39 (0, 0)) :: (C4 ++ ((m, .cells #[.slice (some ⟨b, off, none⟩) n c] 30 (0, 0)) :: (D1 ++ D ++ L)))) from by
                  classical
                  rw [List.perm_iff_count]
                  intro q
                  simp only [List.count_append, List.count_cons, List.count_nil]
                  omega)) rfl
              have HS5 : Hid ((fun V : World => V.cell? ⟨g, 0, none⟩ = some (.int .u8 k1) ∧ V.cell? ⟨g, 1, none⟩ = some (.int .u32 k2) ∧ V.cell? ⟨g, 2, none⟩ = some (.int .u16 k3) ∧ V.cell? ⟨g, 3, none⟩ = some (.int .u32 f4) ∧ V.cell? ⟨g, 4, none⟩ = some (.int .u16 f5) ∧ V.cell? ⟨g, 5, none⟩ = some (.int .u32 f6) ∧ V.cell? ⟨g, 6, none⟩ = some (.slice qa np qc) ∧ V.cell? ⟨g, 7, none⟩ = some (.int .i64 f7) ∧ V.cell? ⟨g, 8, none⟩ = some (.int .u32 f8)) V6) := bx_of 0 (hM5.perm (show List.Perm _ ((g, .cells #[.int .u8 k1, .int .u32 k2, .int .u16 k3, .int .u32 f4, .int .u16 f5, .int .u32 f6, .slice qa np qc, .int .i64 f7, .int .u32 f8] 39 (0, 0)) :: (C5 ++ ((m, .cells #[.slice (some ⟨b, off, none⟩) n c] 30 (0, 0)) :: (D1 ++ D ++ L)))) from by
                  classical
                  rw [List.perm_iff_count]
                  intro q
                  simp only [List.count_append, List.count_cons, List.count_nil]
                  omega)) rfl
              have HS6 : Hid ((fun V : World => V.cell? ⟨g, 0, none⟩ = some (.int .u8 k1) ∧ V.cell? ⟨g, 1, none⟩ = some (.int .u32 k2) ∧ V.cell? ⟨g, 2, none⟩ = some (.int .u16 k3) ∧ V.cell? ⟨g, 3, none⟩ = some (.int .u32 f4) ∧ V.cell? ⟨g, 4, none⟩ = some (.int .u16 f5) ∧ V.cell? ⟨g, 5, none⟩ = some (.int .u32 f6) ∧ V.cell? ⟨g, 6, none⟩ = some (.slice qa np qc) ∧ V.cell? ⟨g, 7, none⟩ = some (.int .i64 f7) ∧ V.cell? ⟨g, 8, none⟩ = some (.int .u32 f8)) (V6.setCell ⟨m, 0, none⟩ (.slice jb N3 jd))) := by
                have h8 : Mem w (V6.setCell ⟨m, 0, none⟩ (.slice jb N3 jd)) ((m, .cells #[.slice jb N3 jd] 30 (0, 0)) :: (C5 ++ ((g, .cells #[.int .u8 k1, .int .u32 k2, .int .u16 k3, .int .u32 f4, .int .u16 f5, .int .u32 f6, .slice qa np qc, .int .i64 f7, .int .u32 f8] 39 (0, 0)) :: (D1 ++ D ++ L)))) := hM7
                exact bx_of 0 (h8.perm (show List.Perm _ ((g, .cells #[.int .u8 k1, .int .u32 k2, .int .u16 k3, .int .u32 f4, .int .u16 f5, .int .u32 f6, .slice qa np qc, .int .i64 f7, .int .u32 f8] 39 (0, 0)) :: ((m, .cells #[.slice jb N3 jd] 30 (0, 0)) :: (C5 ++ (D1 ++ D ++ L)))) from by
                  classical
                  rw [List.perm_iff_count]
                  intro q
                  simp only [List.count_append, List.count_cons, List.count_nil]
                  omega)) rfl
              have HQ : Hid (∃ B', RT N m B' ∧ Mem w (V6.setCell ⟨m, 0, none⟩ (.slice jb N3 jd)) (B' ++ L)) := by
                have h8 : Mem w (V6.setCell ⟨m, 0, none⟩ (.slice jb N3 jd)) ((m, .cells #[.slice jb N3 jd] 30 (0, 0)) :: (C5 ++ ((g, .cells #[.int .u8 k1, .int .u32 k2, .int .u16 k3, .int .u32 f4, .int .u16 f5, .int .u32 f6, .slice qa np qc, .int .i64 f7, .int .u32 f8] 39 (0, 0)) :: (D1 ++ D ++ L)))) := hM7
                have h9 := (h8.perm (show List.Perm _ ((g, .cells #[.int .u8 k1, .int .u32 k2, .int .u16 k3, .int .u32 f4, .int .u16 f5, .int .u32 f6, .slice qa np qc, .int .i64 f7, .int .u32 f8] 39 (0, 0)) :: (((m, .cells #[.slice jb N3 jd] 30 (0, 0)) :: (C5 ++ (D1 ++ D))) ++ L)) from by
                  classical
                  rw [List.perm_iff_count]
                  intro q
                  simp only [List.count_append, List.count_cons, List.count_nil]
                  omega)).sub
                rw [← HE.out.2, HW.out]
                have hss : (sx zs).take k ++ ([vs] ++ (sx zs).drop k) = sx (zs.take k ++ (s', .slice qa np qc) :: zs.drop k) := by
                  rw [← hvs, ← HS'.out]
                  unfold sx
                  rw [List.map_append, List.map_cons, List.map_take, List.map_drop]
                  rfl
                refine ⟨_, ⟨zs.take k ++ (s', .slice qa np qc) :: zs.drop k, .slice jb N3 jd, C5, D1 ++ D, ?_, ?_, rfl, fun z hz => ?_⟩, h9⟩
                · rw [List.map_append, List.map_cons, List.map_take, List.map_drop, z1]
                · rw [hN3, hss] at hs5
                  rw [hss, sx_len] at hN3
                  rw [hN3]
                  exact hs5
                · rcases List.mem_append.1 hz with hz | hz
                  · exact (z4 z (List.mem_of_mem_take hz)).mono fun q hq => List.mem_append_right _ hq
                  · rcases List.mem_cons.1 hz with rfl | hz
                    · show SlF _ 2 _ s'.ps.length (px s'.ps).flatten _
                      rw [← HS'.out]
                      show SlF _ 2 _ ps.length (px ps).flatten _
                      rw [HNP.out]
                      exact HS4.out.mono fun q hq => List.mem_append_left _ hq
                    · exact (z4 z (List.mem_of_mem_drop hz)).mono fun q hq => List.mem_append_right _ hq
              clear HZ HW HS' HNP HPR HS4 HN hY hMd hM2 hM4 hM5 hM6 hM7 hMd' hM2' hM4' hs4 hs5 hsub4 hii hff hlit hx1 hx2 hx3 hv9 el2 hN3 z1 z2 z3 z4 hS' hxs hsl
              obtain ⟨a2, ha2⟩ : ∃ x, (if c = k then (some ⟨b, off, none⟩) else (show Option Addr from (some ⟨b, off, none⟩)).map (·.add (k * 9))) = x := ⟨_, rfl⟩
              try simp only at ha2
              rw [ha2] at s2 hrun1
              clear ha2
              subst hvs
              simp only [List.length_cons, List.length_nil, Nat.zero_add] at hrun1 hrun2
              generalize ([([.int .u8 k1, .int .u32 k2, .int .u16 k3, .int .u32 f4, .int .u16 f5, .int .u32 f6, .slice qa np qc, .int .i64 f7, .int .u32 f8] : List Value)] ++ (sx zs).drop k).length = N4 at *
              clear el
              refine wp_region_held_drew (S := (fun V : World => V.cell? ⟨g, 0, none⟩ = some (.int .u8 k1) ∧ V.cell? ⟨g, 1, none⟩ = some (.int .u32 k2) ∧ V.cell? ⟨g, 2, none⟩ = some (.int .u16 k3) ∧ V.cell? ⟨g, 3, none⟩ = some (.int .u32 f4) ∧ V.cell? ⟨g, 4, none⟩ = some (.int .u16 f5) ∧ V.cell? ⟨g, 5, none⟩ = some (.int .u32 f6) ∧ V.cell? ⟨g, 6, none⟩ = some (.slice qa np qc) ∧ V.cell? ⟨g, 7, none⟩ = some (.int .i64 f7) ∧ V.cell? ⟨g, 8, none⟩ = some (.int .u32 f8))) (by kernel_rfl) HS0.out (fun hHeld => ?_)
              refine wpAnyH_take (i := 0) (v := ?_) rfl (by kernel_rfl) (by kernel_rfl) (by kernel_rfl) (fun _ _ _ h => h) (Or.inl ⟨by rfl, ?o1zy0⟩) (by assumption) ?_
              case o1zy0 =>
                intro w hSw
                (try dsimp only at hSw)
                go_simp
                all_goals with_reducible rfl
              try simp only [List.getElem_toArray, List.getElem_cons_zero, List.getElem_cons_succ, Act.put, List.setIfInBounds_toArray, List.set_cons_zero, List.set_cons_succ]
              refine wpAnyH_take (i := 1) (v := ?_) rfl (by kernel_rfl) (by kernel_rfl) (by kernel_rfl) (fun _ _ _ h => h) (Or.inl ⟨by rfl, ?o2zy1⟩) (by assumption) ?_
              case o2zy1 =>
                intro w hSw
                (try dsimp only at hSw)
                go_simp
                all_goals with_reducible rfl
              try simp only [List.getElem_toArray, List.getElem_cons_zero, List.getElem_cons_succ, Act.put, List.setIfInBounds_toArray, List.set_cons_zero, List.set_cons_succ]
              refine wpAnyH_take (i := 2) (v := ?_) rfl (by kernel_rfl) (by kernel_rfl) (by kernel_rfl) (fun _ _ _ h => h) (Or.inl ⟨by rfl, ?o3zy2⟩) (by assumption) ?_
              case o3zy2 =>
                intro w hSw
                (try dsimp only at hSw)
                go_simp
                all_goals with_reducible rfl
              try simp only [List.getElem_toArray, List.getElem_cons_zero, List.getElem_cons_succ, Act.put, List.setIfInBounds_toArray, List.set_cons_zero, List.set_cons_succ]
              refine wpAnyH_take (i := 3) (v := ?_) rfl (by kernel_rfl) (by kernel_rfl) (by kernel_rfl) (fun _ _ _ h => h) (Or.inl ⟨by rfl, ?o4zy3⟩) (by assumption) ?_
              case o4zy3 =>
                intro w hSw
                (try dsimp only at hSw)
                go_simp
                all_goals with_reducible rfl
              try simp only [List.getElem_toArray, List.getElem_cons_zero, List.getElem_cons_succ, Act.put, List.setIfInBounds_toArray, List.set_cons_zero, List.set_cons_succ]
              refine wpAnyH_take (i := 5) (v := ?_) rfl (by kernel_rfl) (by kernel_rfl) (by kernel_rfl) (fun _ _ _ h => h) (Or.inl ⟨by rfl, ?o5zy5⟩) (by assumption) ?_
              case o5zy5 =>
                intro w hSw
                (try dsimp only at hSw)
                go_simp
                all_goals with_reducible rfl
              try simp only [List.getElem_toArray, List.getElem_cons_zero, List.getElem_cons_succ, Act.put, List.setIfInBounds_toArray, List.set_cons_zero, List.set_cons_succ]
              refine wpAnyH_take (i := 6) (v := ?_) rfl (by kernel_rfl) (by kernel_rfl) (by kernel_rfl) (fun _ _ _ h => h) (Or.inl ⟨by rfl, ?o6zy6⟩) (by assumption) ?_
              case o6zy6 =>
                intro w hSw
                (try dsimp only at hSw)
                go_simp
                all_goals with_reducible rfl
              try simp only [List.getElem_toArray, List.getElem_cons_zero, List.getElem_cons_succ, Act.put, List.setIfInBounds_toArray, List.set_cons_zero, List.set_cons_succ]
              refine wpAnyH_take (i := 8) (v := ?_) rfl (by kernel_rfl) (by kernel_rfl) (by kernel_rfl) (fun _ _ _ h => h) (Or.inl ⟨by rfl, ?o7zy8⟩) (by assumption) ?_
              case o7zy8 =>
                intro w hSw
                (try dsimp only at hSw)
                go_simp
                all_goals with_reducible rfl
              try simp only [List.getElem_toArray, List.getElem_cons_zero, List.getElem_cons_succ, Act.put, List.setIfInBounds_toArray, List.set_cons_zero, List.set_cons_succ]
              refine wpAnyH_take (i := 10) (v := ?_) rfl (by kernel_rfl) (by kernel_rfl) (by kernel_rfl) (fun _ _ _ h => h) (Or.inl ⟨by rfl, ?o8zy10⟩) (by assumption) ?_
              case o8zy10 =>
                intro w hSw
                (try dsimp only at hSw)
                go_simp
                all_goals with_reducible rfl
              try simp only [List.getElem_toArray, List.getElem_cons_zero, List.getElem_cons_succ, Act.put, List.setIfInBounds_toArray, List.set_cons_zero, List.set_cons_succ]
              refine wpAnyH_take (i := 11) (v := ?_) rfl (by kernel_rfl) (by kernel_rfl) (by kernel_rfl) (fun _ _ _ h => h) (Or.inl ⟨by rfl, ?o9zy11⟩) (by assumption) ?_
              case o9zy11 =>
                intro w hSw
                (try dsimp only at hSw)
                go_simp
                all_goals with_reducible rfl
              try simp only [List.getElem_toArray, List.getElem_cons_zero, List.getElem_cons_succ, Act.put, List.setIfInBounds_toArray, List.set_cons_zero, List.set_cons_succ]
              refine wpAnyH_take (i := 12) (v := ?_) rfl (by kernel_rfl) (by kernel_rfl) (by kernel_rfl) (fun _ _ _ h => h) (Or.inl ⟨by rfl, ?o10zy12⟩) (by assumption) ?_
              case o10zy12 =>
                intro w hSw
                (try dsimp only at hSw)
                go_simp
                all_goals with_reducible rfl
              try simp only [List.getElem_toArray, List.getElem_cons_zero, List.getElem_cons_succ, Act.put, List.setIfInBounds_toArray, List.set_cons_zero, List.set_cons_succ]
              refine wpAnyH_take (i := 14) (v := ?_) rfl (by kernel_rfl) (by kernel_rfl) (by kernel_rfl) (fun _ _ _ h => h) (Or.inl ⟨by rfl, ?o11zy14⟩) (by assumption) ?_
              case o11zy14 =>
                intro w hSw
                (try dsimp only at hSw)
                go_simp
                all_goals with_reducible rfl
              try simp only [List.getElem_toArray, List.getElem_cons_zero, List.getElem_cons_succ, Act.put, List.setIfInBounds_toArray, List.set_cons_zero, List.set_cons_succ]
              rw [hVd]
              refine wpAnyH_ready (rs := [4, 9, 13]) (by kernel_rfl) (by simp) ?_
              refine AllReadyH.cons rfl (fun KK hK => ?_) (AllReadyH.cons rfl (fun KK hK => ?_) (AllReadyH.cons rfl (fun KK hK => ?_) AllReadyH.nil))
              · go_simp
                refine hK.out _ _ (by first | exact HS1.out | exact HS2.out | exact HS3.out | exact HS5.out | exact HS6.out) (fun hHeld => ?_)
                clear hK KK
                try simp only [List.getElem_toArray, List.getElem_cons_zero, List.getElem_cons_succ, Act.put, List.setIfInBounds_toArray, List.set_cons_zero, List.set_cons_succ]
                refine wpAnyH_take (i := 7) (v := ?_) rfl (by kernel_rfl) (by kernel_rfl) (by kernel_rfl) (fun _ _ _ h => h) (Or.inl ⟨by rfl, ?o12zy7⟩) (by assumption) ?_
                case o12zy7 =>
                  intro w hSw
                  (try dsimp only at hSw)
                  go_simp
                  all_goals with_reducible rfl
                try simp only [List.getElem_toArray, List.getElem_cons_zero, List.getElem_cons_succ, Act.put, List.setIfInBounds_toArray, List.set_cons_zero, List.set_cons_succ]
                refine wpAnyH_ready (rs := [9, 13]) (by kernel_rfl) (by simp) ?_
                refine AllReadyH.cons rfl (fun KK hK => ?_) (AllReadyH.cons rfl (fun KK hK => ?_) AllReadyH.nil)
                · go_simp
                  try simp only [hg5]
                  refine hK.out _ _ (by first | exact HS1.out | exact HS2.out | exact HS3.out | exact HS5.out | exact HS6.out) (fun hHeld => ?_)
                  clear hK KK
                  try simp only [List.getElem_toArray, List.getElem_cons_zero, List.getElem_cons_succ, Act.put, List.setIfInBounds_toArray, List.set_cons_zero, List.set_cons_succ]
                  refine wpAnyH_ready (rs := [13]) (by kernel_rfl) (by simp) ?_
                  refine AllReadyH.cons rfl (fun KK hK => ?_) AllReadyH.nil
                  go_simp
                  refine hK.out _ _ (by first | exact HS1.out | exact HS2.out | exact HS3.out | exact HS5.out | exact HS6.out) (fun hHeld => ?_)
                  clear hK KK
                  try simp only [List.getElem_toArray, List.getElem_cons_zero, List.getElem_cons_succ, Act.put, List.setIfInBounds_toArray, List.set_cons_zero, List.set_cons_succ]
                  refine wpAnyH_take (i := 15) (v := ?_) rfl (by kernel_rfl) (by kernel_rfl) (by kernel_rfl) (fun _ _ _ h => h) (Or.inl ⟨by rfl, ?o13zy15⟩) (by assumption) ?_
                  case o13zy15 =>
                    intro w hSw
                    (try dsimp only at hSw)
                    go_simp
                    all_goals with_reducible rfl
                  try simp only [List.getElem_toArray, List.getElem_cons_zero, List.getElem_cons_succ, Act.put, List.setIfInBounds_toArray, List.set_cons_zero, List.set_cons_succ]
                  refine wpAnyH_ready (rs := [16]) (by kernel_rfl) (by simp) ?_
                  refine AllReadyH.cons rfl (fun KK hK => ?_) AllReadyH.nil
                  refine step_app (ty := 28) rfl (.tmp 73) (.tmp 79) 28 28 rfl (by simp [Act.eval]) (by simp [Act.eval]) hrun1 rfl ?_
                  refine hK.out _ _ (by first | exact HS1.out | exact HS2.out | exact HS3.out | exact HS5.out | exact HS6.out) (fun hHeld => ?_)
                  clear hK KK
                  try simp only [List.getElem_toArray, List.getElem_cons_zero, List.getElem_cons_succ, Act.put, List.setIfInBounds_toArray, List.set_cons_zero, List.set_cons_succ]
                  refine wpAnyH_ready (rs := [17]) (by kernel_rfl) (by simp) ?_
                  refine AllReadyH.cons rfl (fun KK hK => ?_) AllReadyH.nil
                  refine step_app (ty := 28) rfl (.tmp 71) (.tmp 80) 28 28 rfl (by simp [Act.eval]) (by simp [Act.eval]) hrun2 rfl ?_
                  refine hK.out _ _ (by first | exact HS1.out | exact HS2.out | exact HS3.out | exact HS5.out | exact HS6.out) (fun hHeld => ?_)
                  clear hK KK
                  try simp only [List.getElem_toArray, List.getElem_cons_zero, List.getElem_cons_succ, Act.put, List.setIfInBounds_toArray, List.set_cons_zero, List.set_cons_succ]
                  refine wpAnyH_take (i := 18) (v := ?_) rfl (by kernel_rfl) (by kernel_rfl) (by kernel_rfl) (fun _ _ _ h => h) (Or.inl ⟨by rfl, ?o14zy18⟩) (by assumption) ?_
                  case o14zy18 =>
                    intro w hSw
                    (try dsimp only at hSw)
                    go_simp
                    all_goals with_reducible rfl
                  try simp only [List.getElem_toArray, List.getElem_cons_zero, List.getElem_cons_succ, Act.put, List.setIfInBounds_toArray, List.set_cons_zero, List.set_cons_succ]
                  refine wpAnyH_take (i := 19) (v := ?_) rfl (by kernel_rfl) (by kernel_rfl) (by kernel_rfl) (fun _ _ _ h => h) (Or.inl ⟨by rfl, ?o15zy19⟩) (by assumption) ?_
                  case o15zy19 =>
                    intro w hSw
                    (try dsimp only at hSw)
                    go_simp
                    all_goals with_reducible rfl
                  try simp only [List.getElem_toArray, List.getElem_cons_zero, List.getElem_cons_succ, Act.put, List.setIfInBounds_toArray, List.set_cons_zero, List.set_cons_succ]
                  refine wpAnyH_ready (rs := [20]) (by kernel_rfl) (by simp) ?_
                  refine AllReadyH.cons rfl (fun KK hK => ?_) AllReadyH.nil
                  go_simp
                  refine hK.out _ _ (by first | exact HS1.out | exact HS2.out | exact HS3.out | exact HS5.out | exact HS6.out) (fun hHeld => ?_)
                  clear hK KK
                  try simp only [List.getElem_toArray, List.getElem_cons_zero, List.getElem_cons_succ, Act.put, List.setIfInBounds_toArray, List.set_cons_zero, List.set_cons_succ]
                  refine wpAnyH_done (by kernel_rfl) ?_ _
                  go_wp2_with fail
                  go_ret
                  exact ⟨by rw [← HE.out.1]; rfl, HQ.out⟩
                · go_simp
                  refine hK.out _ _ (by first | exact HS1.out | exact HS2.out | exact HS3.out | exact HS5.out | exact HS6.out) (fun hHeld => ?_)
                  clear hK KK
                  try simp only [List.getElem_toArray, List.getElem_cons_zero, List.getElem_cons_succ, Act.put, List.setIfInBounds_toArray, List.set_cons_zero, List.set_cons_succ]
                  refine wpAnyH_take (i := 15) (v := ?_) rfl (by kernel_rfl) (by kernel_rfl) (by kernel_rfl) (fun _ _ _ h => h) (Or.inl ⟨by rfl, ?o16zy15⟩) (by assumption) ?_
                  case o16zy15 =>
                    intro w hSw
                    (try dsimp only at hSw)
                    go_simp
                    all_goals with_reducible rfl
                  try simp only [List.getElem_toArray, List.getElem_cons_zero, List.getElem_cons_succ, Act.put, List.setIfInBounds_toArray, List.set_cons_zero, List.set_cons_succ]
                  refine wpAnyH_ready (rs := [9]) (by kernel_rfl) (by simp) ?_
                  refine AllReadyH.cons rfl (fun KK hK => ?_) AllReadyH.nil
                  go_simp
                  try simp only [hg5]
                  refine hK.out _ _ (by first | exact HS1.out | exact HS2.out | exact HS3.out | exact HS5.out | exact HS6.out) (fun hHeld => ?_)
                  clear hK KK
                  try simp only [List.getElem_toArray, List.getElem_cons_zero, List.getElem_cons_succ, Act.put, List.setIfInBounds_toArray, List.set_cons_zero, List.set_cons_succ]
                  refine wpAnyH_ready (rs := [16]) (by kernel_rfl) (by simp) ?_
                  refine AllReadyH.cons rfl (fun KK hK => ?_) AllReadyH.nil
                  refine step_app (ty := 28) rfl (.tmp 73) (.tmp 79) 28 28 rfl (by simp [Act.eval]) (by simp [Act.eval]) hrun1 rfl ?_
                  refine hK.out _ _ (by first | exact HS1.out | exact HS2.out | exact HS3.out | exact HS5.out | exact HS6.out) (fun hHeld => ?_)
                  clear hK KK
                  try simp only [List.getElem_toArray, List.getElem_cons_zero, List.getElem_cons_succ, Act.put, List.setIfInBounds_toArray, List.set_cons_zero, List.set_cons_succ]
                  refine wpAnyH_ready (rs := [17]) (by kernel_rfl) (by simp) ?_
                  refine AllReadyH.cons rfl (fun KK hK => ?_) AllReadyH.nil
                  refine step_app (ty := 28) rfl (.tmp 71) (.tmp 80) 28 28 rfl (by simp [Act.eval]) (by simp [Act.eval]) hrun2 rfl ?_
                  refine hK.out _ _ (by first | exact HS1.out | exact HS2.out | exact HS3.out | exact HS5.out | exact HS6.out) (fun hHeld => ?_)
                  clear hK KK
                  try simp only [List.getElem_toArray, List.getElem_cons_zero, List.getElem_cons_succ, Act.put, List.setIfInBounds_toArray, List.set_cons_zero, List.set_cons_succ]
                  refine wpAnyH_take (i := 18) (v := ?_) rfl (by kernel_rfl) (by kernel_rfl) (by kernel_rfl) (fun _ _ _ h => h) (Or.inl ⟨by rfl, ?o17zy18⟩) (by assumption) ?_
                  case o17zy18 =>
                    intro w hSw
                    (try dsimp only at hSw)
                    go_simp
                    all_goals with_reducible rfl
                  try simp only [List.getElem_toArray, List.getElem_cons_zero, List.getElem_cons_succ, Act.put, List.setIfInBounds_toArray, List.set_cons_zero, List.set_cons_succ]
                  refine wpAnyH_take (i := 19) (v := ?_) rfl (by kernel_rfl) (by kernel_rfl) (by kernel_rfl) (fun _ _ _ h => h) (Or.inl ⟨by rfl, ?o18zy19⟩) (by assumption) ?_
                  case o18zy19 =>
                    intro w hSw
                    (try dsimp only at hSw)
                    go_simp
                    all_goals with_reducible rfl
                  try simp only [List.getElem_toArray, List.getElem_cons_zero, List.getElem_cons_succ, Act.put, List.setIfInBounds_toArray, List.set_cons_zero, List.set_cons_succ]
                  refine wpAnyH_ready (rs := [20]) (by kernel_rfl) (by simp) ?_
                  refine AllReadyH.cons rfl (fun KK hK => ?_) AllReadyH.nil
                  go_simp
                  refine hK.out _ _ (by first | exact HS1.out | exact HS2.out | exact HS3.out | exact HS5.out | exact HS6.out) (fun hHeld => ?_)
                  clear hK KK
                  try simp only [List.getElem_toArray, List.getElem_cons_zero, List.getElem_cons_succ, Act.put, List.setIfInBounds_toArray, List.set_cons_zero, List.set_cons_succ]
                  refine wpAnyH_done (by kernel_rfl) ?_ _
                  go_wp2_with fail
                  go_ret
                  exact ⟨by rw [← HE.out.1]; rfl, HQ.out⟩
              · go_simp
                try simp only [hg5]
                refine hK.out _ _ (by first | exact HS1.out | exact HS2.out | exact HS3.out | exact HS5.out | exact HS6.out) (fun hHeld => ?_)
                clear hK KK
                try simp only [List.getElem_toArray, List.getElem_cons_zero, List.getElem_cons_succ, Act.put, List.setIfInBounds_toArray, List.set_cons_zero, List.set_cons_succ]
                refine wpAnyH_ready (rs := [4, 13]) (by kernel_rfl) (by simp) ?_
                refine AllReadyH.cons rfl (fun KK hK => ?_) (AllReadyH.cons rfl (fun KK hK => ?_) AllReadyH.nil)
                · go_simp
                  refine hK.out _ _ (by first | exact HS1.out | exact HS2.out | exact HS3.out | exact HS5.out | exact HS6.out) (fun hHeld => ?_)
                  clear hK KK
                  try simp only [List.getElem_toArray, List.getElem_cons_zero, List.getElem_cons_succ, Act.put, List.setIfInBounds_toArray, List.set_cons_zero, List.set_cons_succ]
                  refine wpAnyH_take (i := 7) (v := ?_) rfl (by kernel_rfl) (by kernel_rfl) (by kernel_rfl) (fun _ _ _ h => h) (Or.inl ⟨by rfl, ?o19zy7⟩) (by assumption) ?_
                  case o19zy7 =>
                    intro w hSw
                    (try dsimp only at hSw)
                    go_simp
                    all_goals with_reducible rfl
                  try simp only [List.getElem_toArray, List.getElem_cons_zero, List.getElem_cons_succ, Act.put, List.setIfInBounds_toArray, List.set_cons_zero, List.set_cons_succ]
                  refine wpAnyH_ready (rs := [13]) (by kernel_rfl) (by simp) ?_
                  refine AllReadyH.cons rfl (fun KK hK => ?_) AllReadyH.nil
                  go_simp
                  refine hK.out _ _ (by first | exact HS1.out | exact HS2.out | exact HS3.out | exact HS5.out | exact HS6.out) (fun hHeld => ?_)
                  clear hK KK
                  try simp only [List.getElem_toArray, List.getElem_cons_zero, List.getElem_cons_succ, Act.put, List.setIfInBounds_toArray, List.set_cons_zero, List.set_cons_succ]
                  refine wpAnyH_take (i := 15) (v := ?_) rfl (by kernel_rfl) (by kernel_rfl) (by kernel_rfl) (fun _ _ _ h => h) (Or.inl ⟨by rfl, ?o20zy15⟩) (by assumption) ?_
                  case o20zy15 =>
                    intro w hSw
                    (try dsimp only at hSw)
                    go_simp
                    all_goals with_reducible rfl
                  try simp only [List.getElem_toArray, List.getElem_cons_zero, List.getElem_cons_succ, Act.put, List.setIfInBounds_toArray, List.set_cons_zero, List.set_cons_succ]
                  refine wpAnyH_ready (rs := [16]) (by kernel_rfl) (by simp) ?_
                  refine AllReadyH.cons rfl (fun KK hK => ?_) AllReadyH.nil
                  refine step_app (ty := 28) rfl (.tmp 73) (.tmp 79) 28 28 rfl (by simp [Act.eval]) (by simp [Act.eval]) hrun1 rfl ?_
                  refine hK.out _ _ (by first | exact HS1.out | exact HS2.out | exact HS3.out | exact HS5.out | exact HS6.out) (fun hHeld => ?_)
                  clear hK KK
                  try simp only [List.getElem_toArray, List.getElem_cons_zero, List.getElem_cons_succ, Act.put, List.setIfInBounds_toArray, List.set_cons_zero, List.set_cons_succ]
                  refine wpAnyH_ready (rs := [17]) (by kernel_rfl) (by simp) ?_
                  refine AllReadyH.cons rfl (fun KK hK => ?_) AllReadyH.nil
                  refine step_app (ty := 28) rfl (.tmp 71) (.tmp 80) 28 28 rfl (by simp [Act.eval]) (by simp [Act.eval]) hrun2 rfl ?_
                  refine hK.out _ _ (by first | exact HS1.out | exact HS2.out | exact HS3.out | exact HS5.out | exact HS6.out) (fun hHeld => ?_)
                  clear hK KK
                  try simp only [List.getElem_toArray, List.getElem_cons_zero, List.getElem_cons_succ, Act.put, List.setIfInBounds_toArray, List.set_cons_zero, List.set_cons_succ]
                  refine wpAnyH_take (i := 18) (v := ?_) rfl (by kernel_rfl) (by kernel_rfl) (by kernel_rfl) (fun _ _ _ h => h) (Or.inl ⟨by rfl, ?o21zy18⟩) (by assumption) ?_
                  case o21zy18 =>
                    intro w hSw
                    (try dsimp only at hSw)
                    go_simp
                    all_goals with_reducible rfl
                  try simp only [List.getElem_toArray, List.getElem_cons_zero, List.getElem_cons_succ, Act.put, List.setIfInBounds_toArray, List.set_cons_zero, List.set_cons_succ]
                  refine wpAnyH_take (i := 19) (v := ?_) rfl (by kernel_rfl) (by kernel_rfl) (by kernel_rfl) (fun _ _ _ h => h) (Or.inl ⟨by rfl, ?o22zy19⟩) (by assumption) ?_
                  case o22zy19 =>
                    intro w hSw
                    (try dsimp only at hSw)
                    go_simp
                    all_goals with_reducible rfl
                  try simp only [List.getElem_toArray, List.getElem_cons_zero, List.getElem_cons_succ, Act.put, List.setIfInBounds_toArray, List.set_cons_zero, List.set_cons_succ]
                  refine wpAnyH_ready (rs := [20]) (by kernel_rfl) (by simp) ?_
                  refine AllReadyH.cons rfl (fun KK hK => ?_) AllReadyH.nil
                  go_simp
                  refine hK.out _ _ (by first | exact HS1.out | exact HS2.out | exact HS3.out | exact HS5.out | exact HS6.out) (fun hHeld => ?_)
                  clear hK KK
                  try simp only [List.getElem_toArray, List.getElem_cons_zero, List.getElem_cons_succ, Act.put, List.setIfInBounds_toArray, List.set_cons_zero, List.set_cons_succ]
                  refine wpAnyH_done (by kernel_rfl) ?_ _
                  go_wp2_with fail
                  go_ret
                  exact ⟨by rw [← HE.out.1]; rfl, HQ.out⟩
                · go_simp
                  refine hK.out _ _ (by first | exact HS1.out | exact HS2.out | exact HS3.out | exact HS5.out | exact HS6.out) (fun hHeld => ?_)
                  clear hK KK
                  try simp only [List.getElem_toArray, List.getElem_cons_zero, List.getElem_cons_succ, Act.put, List.setIfInBounds_toArray, List.set_cons_zero, List.set_cons_succ]
                  refine wpAnyH_take (i := 15) (v := ?_) rfl (by kernel_rfl) (by kernel_rfl) (by kernel_rfl) (fun _ _ _ h => h) (Or.inl ⟨by rfl, ?o23zy15⟩) (by assumption) ?_
                  case o23zy15 =>
                    intro w hSw
                    (try dsimp only at hSw)
                    go_simp
                    all_goals with_reducible rfl
                  try simp only [List.getElem_toArray, List.getElem_cons_zero, List.getElem_cons_succ, Act.put, List.setIfInBounds_toArray, List.set_cons_zero, List.set_cons_succ]
                  refine wpAnyH_ready (rs := [4, 16]) (by kernel_rfl) (by simp) ?_
                  refine AllReadyH.cons rfl (fun KK hK => ?_) (AllReadyH.cons rfl (fun KK hK => ?_) AllReadyH.nil)
                  · go_simp
                    refine hK.out _ _ (by first | exact HS1.out | exact HS2.out | exact HS3.out | exact HS5.out | exact HS6.out) (fun hHeld => ?_)
                    clear hK KK
                    try simp only [List.getElem_toArray, List.getElem_cons_zero, List.getElem_cons_succ, Act.put, List.setIfInBounds_toArray, List.set_cons_zero, List.set_cons_succ]
                    refine wpAnyH_take (i := 7) (v := ?_) rfl (by kernel_rfl) (by kernel_rfl) (by kernel_rfl) (fun _ _ _ h => h) (Or.inl ⟨by rfl, ?o24zy7⟩) (by assumption) ?_
                    case o24zy7 =>
                      intro w hSw
                      (try dsimp only at hSw)
                      go_simp
                      all_goals with_reducible rfl
                    try simp only [List.getElem_toArray, List.getElem_cons_zero, List.getElem_cons_succ, Act.put, List.setIfInBounds_toArray, List.set_cons_zero, List.set_cons_succ]
                    refine wpAnyH_ready (rs := [16]) (by kernel_rfl) (by simp) ?_
                    refine AllReadyH.cons rfl (fun KK hK => ?_) AllReadyH.nil
                    refine step_app (ty := 28) rfl (.tmp 73) (.tmp 79) 28 28 rfl (by simp [Act.eval]) (by simp [Act.eval]) hrun1 rfl ?_
                    refine hK.out _ _ (by first | exact HS1.out | exact HS2.out | exact HS3.out | exact HS5.out | exact HS6.out) (fun hHeld => ?_)
                    clear hK KK
                    try simp only [List.getElem_toArray, List.getElem_cons_zero, List.getElem_cons_succ, Act.put, List.setIfInBounds_toArray, List.set_cons_zero, List.set_cons_succ]
                    refine wpAnyH_ready (rs := [17]) (by kernel_rfl) (by simp) ?_
                    refine AllReadyH.cons rfl (fun KK hK => ?_) AllReadyH.nil
                    refine step_app (ty := 28) rfl (.tmp 71) (.tmp 80) 28 28 rfl (by simp [Act.eval]) (by simp [Act.eval]) hrun2 rfl ?_
                    refine hK.out _ _ (by first | exact HS1.out | exact HS2.out | exact HS3.out | exact HS5.out | exact HS6.out) (fun hHeld => ?_)
                    clear hK KK
                    try simp only [List.getElem_toArray, List.getElem_cons_zero, List.getElem_cons_succ, Act.put, List.setIfInBounds_toArray, List.set_cons_zero, List.set_cons_succ]
                    refine wpAnyH_take (i := 18) (v := ?_) rfl (by kernel_rfl) (by kernel_rfl) (by kernel_rfl) (fun _ _ _ h => h) (Or.inl ⟨by rfl, ?o25zy18⟩) (by assumption) ?_
                    case o25zy18 =>
                      intro w hSw
                      (try dsimp only at hSw)
                      go_simp
                      all_goals with_reducible rfl
                    try simp only [List.getElem_toArray, List.getElem_cons_zero, List.getElem_cons_succ, Act.put, List.setIfInBounds_toArray, List.set_cons_zero, List.set_cons_succ]
                    refine wpAnyH_take (i := 19) (v := ?_) rfl (by kernel_rfl) (by kernel_rfl) (by kernel_rfl) (fun _ _ _ h => h) (Or.inl ⟨by rfl, ?o26zy19⟩) (by assumption) ?_
                    case o26zy19 =>
                      intro w hSw
                      (try dsimp only at hSw)
                      go_simp
                      all_goals with_reducible rfl
                    try simp only [List.getElem_toArray, List.getElem_cons_zero, List.getElem_cons_succ, Act.put, List.setIfInBounds_toArray, List.set_cons_zero, List.set_cons_succ]
                    refine wpAnyH_ready (rs := [20]) (by kernel_rfl) (by simp) ?_
                    refine AllReadyH.cons rfl (fun KK hK => ?_) AllReadyH.nil
                    go_simp
                    refine hK.out _ _ (by first | exact HS1.out | exact HS2.out | exact HS3.out | exact HS5.out | exact HS6.out) (fun hHeld => ?_)
                    clear hK KK
                    try simp only [List.getElem_toArray, List.getElem_cons_zero, List.getElem_cons_succ, Act.put, List.setIfInBounds_toArray, List.set_cons_zero, List.set_cons_succ]
                    refine wpAnyH_done (by kernel_rfl) ?_ _
                    go_wp2_with fail
                    go_ret
                    exact ⟨by rw [← HE.out.1]; rfl, HQ.out⟩
                  · refine step_app (ty := 28) rfl (.tmp 73) (.tmp 79) 28 28 rfl (by simp [Act.eval]) (by simp [Act.eval]) hrun1 rfl ?_
                    refine hK.out _ _ (by first | exact HS1.out | exact HS2.out | exact HS3.out | exact HS5.out | exact HS6.out) (fun hHeld => ?_)
                    clear hK KK
                    try simp only [List.getElem_toArray, List.getElem_cons_zero, List.getElem_cons_succ, Act.put, List.setIfInBounds_toArray, List.set_cons_zero, List.set_cons_succ]
                    refine wpAnyH_ready (rs := [4]) (by kernel_rfl) (by simp) ?_
                    refine AllReadyH.cons rfl (fun KK hK => ?_) AllReadyH.nil
                    go_simp
                    refine hK.out _ _ (by first | exact HS1.out | exact HS2.out | exact HS3.out | exact HS5.out | exact HS6.out) (fun hHeld => ?_)
                    clear hK KK
                    try simp only [List.getElem_toArray, List.getElem_cons_zero, List.getElem_cons_succ, Act.put, List.setIfInBounds_toArray, List.set_cons_zero, List.set_cons_succ]
                    refine wpAnyH_take (i := 7) (v := ?_) rfl (by kernel_rfl) (by kernel_rfl) (by kernel_rfl) (fun _ _ _ h => h) (Or.inl ⟨by rfl, ?o27zy7⟩) (by assumption) ?_
                    case o27zy7 =>
                      intro w hSw
                      (try dsimp only at hSw)
                      go_simp
                      all_goals with_reducible rfl
                    try simp only [List.getElem_toArray, List.getElem_cons_zero, List.getElem_cons_succ, Act.put, List.setIfInBounds_toArray, List.set_cons_zero, List.set_cons_succ]
                    refine wpAnyH_ready (rs := [17]) (by kernel_rfl) (by simp) ?_
                    refine AllReadyH.cons rfl (fun KK hK => ?_) AllReadyH.nil
                    refine step_app (ty := 28) rfl (.tmp 71) (.tmp 80) 28 28 rfl (by simp [Act.eval]) (by simp [Act.eval]) hrun2 rfl ?_
                    refine hK.out _ _ (by first | exact HS1.out | exact HS2.out | exact HS3.out | exact HS5.out | exact HS6.out) (fun hHeld => ?_)
                    clear hK KK
                    try simp only [List.getElem_toArray, List.getElem_cons_zero, List.getElem_cons_succ, Act.put, List.setIfInBounds_toArray, List.set_cons_zero, List.set_cons_succ]
                    refine wpAnyH_take (i := 18) (v := ?_) rfl (by kernel_rfl) (by kernel_rfl) (by kernel_rfl) (fun _ _ _ h => h) (Or.inl ⟨by rfl, ?o28zy18⟩) (by assumption) ?_
                    case o28zy18 =>
                      intro w hSw
                      (try dsimp only at hSw)
                      go_simp
                      all_goals with_reducible rfl
                    try simp only [List.getElem_toArray, List.getElem_cons_zero, List.getElem_cons_succ, Act.put, List.setIfInBounds_toArray, List.set_cons_zero, List.set_cons_succ]
                    refine wpAnyH_take (i := 19) (v := ?_) rfl (by kernel_rfl) (by kernel_rfl) (by kernel_rfl) (fun _ _ _ h => h) (Or.inl ⟨by rfl, ?o29zy19⟩) (by assumption) ?_
                    case o29zy19 =>
                      intro w hSw
                      (try dsimp only at hSw)
                      go_simp
                      all_goals with_reducible rfl
                    try simp only [List.getElem_toArray, List.getElem_cons_zero, List.getElem_cons_succ, Act.put, List.setIfInBounds_toArray, List.set_cons_zero, List.set_cons_succ]
                    refine wpAnyH_ready (rs := [20]) (by kernel_rfl) (by simp) ?_
                    refine AllReadyH.cons rfl (fun KK hK => ?_) AllReadyH.nil
                    go_simp
                    refine hK.out _ _ (by first | exact HS1.out | exact HS2.out | exact HS3.out | exact HS5.out | exact HS6.out) (fun hHeld => ?_)
                    clear hK KK
                    try simp only [List.getElem_toArray, List.getElem_cons_zero, List.getElem_cons_succ, Act.put, List.setIfInBounds_toArray, List.set_cons_zero, List.set_cons_succ]
                    refine wpAnyH_done (by kernel_rfl) ?_ _
                    go_wp2_with fail
                    go_ret
                    exact ⟨by rw [← HE.out.1]; rfl, HQ.out⟩
              · go_simp
                refine hK.out _ _ (by first | exact HS1.out | exact HS2.out | exact HS3.out | exact HS5.out | exact HS6.out) (fun hHeld => ?_)
                clear hK KK
                try simp only [List.getElem_toArray, List.getElem_cons_zero, List.getElem_cons_succ, Act.put, List.setIfInBounds_toArray, List.set_cons_zero, List.set_cons_succ]
                refine wpAnyH_take (i := 15) (v := ?_) rfl (by kernel_rfl) (by kernel_rfl) (by kernel_rfl) (fun _ _ _ h => h) (Or.inl ⟨by rfl, ?o30zy15⟩) (by assumption) ?_
                case o30zy15 =>
                  intro w hSw
                  (try dsimp only at hSw)
                  go_simp
                  all_goals with_reducible rfl
                try simp only [List.getElem_toArray, List.getElem_cons_zero, List.getElem_cons_succ, Act.put, List.setIfInBounds_toArray, List.set_cons_zero, List.set_cons_succ]
                refine wpAnyH_ready (rs := [4, 9]) (by kernel_rfl) (by simp) ?_
                refine AllReadyH.cons rfl (fun KK hK => ?_) (AllReadyH.cons rfl (fun KK hK => ?_) AllReadyH.nil)
                · go_simp
                  refine hK.out _ _ (by first | exact HS1.out | exact HS2.out | exact HS3.out | exact HS5.out | exact HS6.out) (fun hHeld => ?_)
                  clear hK KK
                  try simp only [List.getElem_toArray, List.getElem_cons_zero, List.getElem_cons_succ, Act.put, List.setIfInBounds_toArray, List.set_cons_zero, List.set_cons_succ]
                  refine wpAnyH_take (i := 7) (v := ?_) rfl (by kernel_rfl) (by kernel_rfl) (by kernel_rfl) (fun _ _ _ h => h) (Or.inl ⟨by rfl, ?o31zy7⟩) (by assumption) ?_
                  case o31zy7 =>
                    intro w hSw
                    (try dsimp only at hSw)
                    go_simp
                    all_goals with_reducible rfl
                  try simp only [List.getElem_toArray, List.getElem_cons_zero, List.getElem_cons_succ, Act.put, List.setIfInBounds_toArray, List.set_cons_zero, List.set_cons_succ]
                  refine wpAnyH_ready (rs := [9]) (by kernel_rfl) (by simp) ?_
                  refine AllReadyH.cons rfl (fun KK hK => ?_) AllReadyH.nil
                  go_simp
                  try simp only [hg5]
                  refine hK.out _ _ (by first | exact HS1.out | exact HS2.out | exact HS3.out | exact HS5.out | exact HS6.out) (fun hHeld => ?_)
                  clear hK KK
                  try simp only [List.getElem_toArray, List.getElem_cons_zero, List.getElem_cons_succ, Act.put, List.setIfInBounds_toArray, List.set_cons_zero, List.set_cons_succ]
                  refine wpAnyH_ready (rs := [16]) (by kernel_rfl) (by simp) ?_
                  refine AllReadyH.cons rfl (fun KK hK => ?_) AllReadyH.nil
                  refine step_app (ty := 28) rfl (.tmp 73) (.tmp 79) 28 28 rfl (by simp [Act.eval]) (by simp [Act.eval]) hrun1 rfl ?_
                  refine hK.out _ _ (by first | exact HS1.out | exact HS2.out | exact HS3.out | exact HS5.out | exact HS6.out) (fun hHeld => ?_)
                  clear hK KK
                  try simp only [List.getElem_toArray, List.getElem_cons_zero, List.getElem_cons_succ, Act.put, List.setIfInBounds_toArray, List.set_cons_zero, List.set_cons_succ]
                  refine wpAnyH_ready (rs := [17]) (by kernel_rfl) (by simp) ?_
                  refine AllReadyH.cons rfl (fun KK hK => ?_) AllReadyH.nil
                  refine step_app (ty := 28) rfl (.tmp 71) (.tmp 80) 28 28 rfl (by simp [Act.eval]) (by simp [Act.eval]) hrun2 rfl ?_
                  refine hK.out _ _ (by first | exact HS1.out | exact HS2.out | exact HS3.out | exact HS5.out | exact HS6.out) (fun hHeld => ?_)
                  clear hK KK
                  try simp only [List.getElem_toArray, List.getElem_cons_zero, List.getElem_cons_succ, Act.put, List.setIfInBounds_toArray, List.set_cons_zero, List.set_cons_succ]
                  refine wpAnyH_take (i := 18) (v := ?_) rfl (by kernel_rfl) (by kernel_rfl) (by kernel_rfl) (fun _ _ _ h => h) (Or.inl ⟨by rfl, ?o32zy18⟩) (by assumption) ?_
                  case o32zy18 =>
                    intro w hSw
                    (try dsimp only at hSw)
                    go_simp
                    all_goals with_reducible rfl
                  try simp only [List.getElem_toArray, List.getElem_cons_zero, List.getElem_cons_succ, Act.put, List.setIfInBounds_toArray, List.set_cons_zero, List.set_cons_succ]
                  refine wpAnyH_take (i := 19) (v := ?_) rfl (by kernel_rfl) (by kernel_rfl) (by kernel_rfl) (fun _ _ _ h => h) (Or.inl ⟨by rfl, ?o33zy19⟩) (by assumption) ?_
                  case o33zy19 =>
                    intro w hSw
                    (try dsimp only at hSw)
                    go_simp
                    all_goals with_reducible rfl
                  try simp only [List.getElem_toArray, List.getElem_cons_zero, List.getElem_cons_succ, Act.put, List.setIfInBounds_toArray, List.set_cons_zero, List.set_cons_succ]
                  refine wpAnyH_ready (rs := [20]) (by kernel_rfl) (by simp) ?_
                  refine AllReadyH.cons rfl (fun KK hK => ?_) AllReadyH.nil
                  go_simp
                  refine hK.out _ _ (by first | exact HS1.out | exact HS2.out | exact HS3.out | exact HS5.out | exact HS6.out) (fun hHeld => ?_)
                  clear hK KK
                  try simp only [List.getElem_toArray, List.getElem_cons_zero, List.getElem_cons_succ, Act.put, List.setIfInBounds_toArray, List.set_cons_zero, List.set_cons_succ]
                  refine wpAnyH_done (by kernel_rfl) ?_ _
                  go_wp2_with fail
                  go_ret
                  exact ⟨by rw [← HE.out.1]; rfl, HQ.out⟩
                · go_simp
                  try simp only [hg5]
                  refine hK.out _ _ (by first | exact HS1.out | exact HS2.out | exact HS3.out | exact HS5.out | exact HS6.out) (fun hHeld => ?_)
                  clear hK KK
                  try simp only [List.getElem_toArray, List.getElem_cons_zero, List.getElem_cons_succ, Act.put, List.setIfInBounds_toArray, List.set_cons_zero, List.set_cons_succ]
                  refine wpAnyH_ready (rs := [4, 16]) (by kernel_rfl) (by simp) ?_
                  refine AllReadyH.cons rfl (fun KK hK => ?_) (AllReadyH.cons rfl (fun KK hK => ?_) AllReadyH.nil)
                  · go_simp
                    refine hK.out _ _ (by first | exact HS1.out | exact HS2.out | exact HS3.out | exact HS5.out | exact HS6.out) (fun hHeld => ?_)
                    clear hK KK
                    try simp only [List.getElem_toArray, List.getElem_cons_zero, List.getElem_cons_succ, Act.put, List.setIfInBounds_toArray, List.set_cons_zero, List.set_cons_succ]
                    refine wpAnyH_take (i := 7) (v := ?_) rfl (by kernel_rfl) (by kernel_rfl) (by kernel_rfl) (fun _ _ _ h => h) (Or.inl ⟨by rfl, ?o34zy7⟩) (by assumption) ?_
                    case o34zy7 =>
                      intro w hSw
                      (try dsimp only at hSw)
                      go_simp
                      all_goals with_reducible rfl
                    try simp only [List.getElem_toArray, List.getElem_cons_zero, List.getElem_cons_succ, Act.put, List.setIfInBounds_toArray, List.set_cons_zero, List.set_cons_succ]
                    refine wpAnyH_ready (rs := [16]) (by kernel_rfl) (by simp) ?_
                    refine AllReadyH.cons rfl (fun KK hK => ?_) AllReadyH.nil
                    refine step_app (ty := 28) rfl (.tmp 73) (.tmp 79) 28 28 rfl (by simp [Act.eval]) (by simp [Act.eval]) hrun1 rfl ?_
                    refine hK.out _ _ (by first | exact HS1.out | exact HS2.out | exact HS3.out | exact HS5.out | exact HS6.out) (fun hHeld => ?_)
                    clear hK KK
                    try simp only [List.getElem_toArray, List.getElem_cons_zero, List.getElem_cons_succ, Act.put, List.setIfInBounds_toArray, List.set_cons_zero, List.set_cons_succ]
                    refine wpAnyH_ready (rs := [17]) (by kernel_rfl) (by simp) ?_
                    refine AllReadyH.cons rfl (fun KK hK => ?_) AllReadyH.nil
                    refine step_app (ty := 28) rfl (.tmp 71) (.tmp 80) 28 28 rfl (by simp [Act.eval]) (by simp [Act.eval]) hrun2 rfl ?_
                    refine hK.out _ _ (by first | exact HS1.out | exact HS2.out | exact HS3.out | exact HS5.out | exact HS6.out) (fun hHeld => ?_)
                    clear hK KK
                    try simp only [List.getElem_toArray, List.getElem_cons_zero, List.getElem_cons_succ, Act.put, List.setIfInBounds_toArray, List.set_cons_zero, List.set_cons_succ]
                    refine wpAnyH_take (i := 18) (v := ?_) rfl (by kernel_rfl) (by kernel_rfl) (by kernel_rfl) (fun _ _ _ h => h) (Or.inl ⟨by rfl, ?o35zy18⟩) (by assumption) ?_
                    case o35zy18 =>
                      intro w hSw
                      (try dsimp only at hSw)
                      go_simp
                      all_goals with_reducible rfl
                    try simp only [List.getElem_toArray, List.getElem_cons_zero, List.getElem_cons_succ, Act.put, List.setIfInBounds_toArray, List.set_cons_zero, List.set_cons_succ]
                    refine wpAnyH_take (i := 19) (v := ?_) rfl (by kernel_rfl) (by kernel_rfl) (by kernel_rfl) (fun _ _ _ h => h) (Or.inl ⟨by rfl, ?o36zy19⟩) (by assumption) ?_
                    case o36zy19 =>
                      intro w hSw
                      (try dsimp only at hSw)
                      go_simp
                      all_goals with_reducible rfl
                    try simp only [List.getElem_toArray, List.getElem_cons_zero, List.getElem_cons_succ, Act.put, List.setIfInBounds_toArray, List.set_cons_zero, List.set_cons_succ]
                    refine wpAnyH_ready (rs := [20]) (by kernel_rfl) (by simp) ?_
                    refine AllReadyH.cons rfl (fun KK hK => ?_) AllReadyH.nil
                    go_simp
                    refine hK.out _ _ (by first | exact HS1.out | exact HS2.out | exact HS3.out | exact HS5.out | exact HS6.out) (fun hHeld => ?_)
                    clear hK KK
                    try simp only [List.getElem_toArray, List.getElem_cons_zero, List.getElem_cons_succ, Act.put, List.setIfInBounds_toArray, List.set_cons_zero, List.set_cons_succ]
                    refine wpAnyH_done (by kernel_rfl) ?_ _
                    go_wp2_with fail
                    go_ret
                    exact ⟨by rw [← HE.out.1]; rfl, HQ.out⟩
                  · refine step_app (ty := 28) rfl (.tmp 73) (.tmp 79) 28 28 rfl (by simp [Act.eval]) (by simp [Act.eval]) hrun1 rfl ?_
                    refine hK.out _ _ (by first | exact HS1.out | exact HS2.out | exact HS3.out | exact HS5.out | exact HS6.out) (fun hHeld => ?_)
                    clear hK KK
                    try simp only [List.getElem_toArray, List.getElem_cons_zero, List.getElem_cons_succ, Act.put, List.setIfInBounds_toArray, List.set_cons_zero, List.set_cons_succ]
                    refine wpAnyH_ready (rs := [4]) (by kernel_rfl) (by simp) ?_
                    refine AllReadyH.cons rfl (fun KK hK => ?_) AllReadyH.nil
                    go_simp
                    refine hK.out _ _ (by first | exact HS1.out | exact HS2.out | exact HS3.out | exact HS5.out | exact HS6.out) (fun hHeld => ?_)
                    clear hK KK
                    try simp only [List.getElem_toArray, List.getElem_cons_zero, List.getElem_cons_succ, Act.put, List.setIfInBounds_toArray, List.set_cons_zero, List.set_cons_succ]
                    refine wpAnyH_take (i := 7) (v := ?_) rfl (by kernel_rfl) (by kernel_rfl) (by kernel_rfl) (fun _ _ _ h => h) (Or.inl ⟨by rfl, ?o37zy7⟩) (by assumption) ?_
                    case o37zy7 =>
                      intro w hSw
                      (try dsimp only at hSw)
                      go_simp
                      all_goals with_reducible rfl
                    try simp only [List.getElem_toArray, List.getElem_cons_zero, List.getElem_cons_succ, Act.put, List.setIfInBounds_toArray, List.set_cons_zero, List.set_cons_succ]
                    refine wpAnyH_ready (rs := [17]) (by kernel_rfl) (by simp) ?_
                    refine AllReadyH.cons rfl (fun KK hK => ?_) AllReadyH.nil
                    refine step_app (ty := 28) rfl (.tmp 71) (.tmp 80) 28 28 rfl (by simp [Act.eval]) (by simp [Act.eval]) hrun2 rfl ?_
                    refine hK.out _ _ (by first | exact HS1.out | exact HS2.out | exact HS3.out | exact HS5.out | exact HS6.out) (fun hHeld => ?_)
                    clear hK KK
                    try simp only [List.getElem_toArray, List.getElem_cons_zero, List.getElem_cons_succ, Act.put, List.setIfInBounds_toArray, List.set_cons_zero, List.set_cons_succ]
                    refine wpAnyH_take (i := 18) (v := ?_) rfl (by kernel_rfl) (by kernel_rfl) (by kernel_rfl) (fun _ _ _ h => h) (Or.inl ⟨by rfl, ?o38zy18⟩) (by assumption) ?_
                    case o38zy18 =>
                      intro w hSw
                      (try dsimp only at hSw)
                      go_simp
                      all_goals with_reducible rfl
                    try simp only [List.getElem_toArray, List.getElem_cons_zero, List.getElem_cons_succ, Act.put, List.setIfInBounds_toArray, List.set_cons_zero, List.set_cons_succ]
                    refine wpAnyH_take (i := 19) (v := ?_) rfl (by kernel_rfl) (by kernel_rfl) (by kernel_rfl) (fun _ _ _ h => h) (Or.inl ⟨by rfl, ?o39zy19⟩) (by assumption) ?_
                    case o39zy19 =>
                      intro w hSw
                      (try dsimp only at hSw)
                      go_simp
                      all_goals with_reducible rfl
                    try simp only [List.getElem_toArray, List.getElem_cons_zero, List.getElem_cons_succ, Act.put, List.setIfInBounds_toArray, List.set_cons_zero, List.set_cons_succ]
                    refine wpAnyH_ready (rs := [20]) (by kernel_rfl) (by simp) ?_
                    refine AllReadyH.cons rfl (fun KK hK => ?_) AllReadyH.nil
                    go_simp
                    refine hK.out _ _ (by first | exact HS1.out | exact HS2.out | exact HS3.out | exact HS5.out | exact HS6.out) (fun hHeld => ?_)
                    clear hK KK
                    try simp only [List.getElem_toArray, List.getElem_cons_zero, List.getElem_cons_succ, Act.put, List.setIfInBounds_toArray, List.set_cons_zero, List.set_cons_succ]
                    refine wpAnyH_done (by kernel_rfl) ?_ _
                    go_wp2_with fail
                    go_ret
                    exact ⟨by rw [← HE.out.1]; rfl, HQ.out⟩

          · have j3 : ¬ ((k : Int) < n) := by omega
            have j4 : decide ((k : Int) < n) = false := decide_eq_false j3
            have HW : Hid (ins s' xs = xs.take k ++ s' :: xs.drop k) := ins_at (by rw [HN.out]; omega) hNo fun h => absurd h (by rw [HN.out]; omega)
            have HSn : Hid ((fun V : World => V.cell? ⟨m, 0, none⟩ = some (.slice a n c)) wr.drew) := (hMr.drew.perm (List.perm_middle (l₁ := C))).cell 0 rfl 0
            have HX1 : Hid (Mem w wr.drew (C ++ ((m, .cells #[.slice a n c] 30 (0, 0)) :: ((g, .cells #[.int .u8 k1, .int .u32 k2, .int .u16 k3, .int .u32 f4, .int .u16 f5, .int .u32 f6, .slice pa np pb, .int .i64 f7, .int .u32 f8] 39 (0, 0)) :: (D ++ L))))) := hMr.drew
            clear hNo HI hMx hMg HX hMr
            go_upto_region 10 with fail
            refine wp_region_held_drew (S := (fun V : World => V.cell? ⟨m, 0, none⟩ = some (.slice a n c))) (by kernel_rfl) HSn.out (fun hHeld => ?_)
            refine wpAnyH_take (i := 0) (v := ?_) rfl (by kernel_rfl) (by kernel_rfl) (by kernel_rfl) (fun _ _ _ h => h) (Or.inl ⟨by rfl, ?z39⟩) (by assumption) ?_
            case z39 =>
             intro w hSw
             (try dsimp only at hSw)
             go_simp
             all_goals with_reducible rfl
            try simp only [List.getElem_toArray, List.getElem_cons_zero, List.getElem_cons_succ, Act.put, List.setIfInBounds_toArray, List.set_cons_zero, List.set_cons_succ]
            refine wpAnyH_take (i := 1) (v := ?_) rfl (by kernel_rfl) (by kernel_rfl) (by kernel_rfl) (fun _ _ _ h => h) (Or.inl ⟨by rfl, ?z40⟩) (by assumption) ?_
            case z40 =>
             intro w hSw
             (try dsimp only at hSw)
             go_simp
             all_goals with_reducible rfl
            try simp only [List.getElem_toArray, List.getElem_cons_zero, List.getElem_cons_succ, Act.put, List.setIfInBounds_toArray, List.set_cons_zero, List.set_cons_succ]
            refine wpAnyH_take (i := 2) (v := ?_) rfl (by kernel_rfl) (by kernel_rfl) (by kernel_rfl) (fun _ _ _ h => h) (Or.inl ⟨by rfl, ?z41⟩) (by assumption) ?_
            case z41 =>
             intro w hSw
             (try dsimp only at hSw)
             go_simp
             all_goals with_reducible rfl
            try simp only [List.getElem_toArray, List.getElem_cons_zero, List.getElem_cons_succ, Act.put, List.setIfInBounds_toArray, List.set_cons_zero, List.set_cons_succ]
            refine wpAnyH_take (i := 3) (v := ?_) rfl (by kernel_rfl) (by kernel_rfl) (by kernel_rfl) (fun _ _ _ h => h) (Or.inl ⟨by rfl, ?z42⟩) (by assumption) ?_
            case z42 =>
             intro w hSw
             (try dsimp only at hSw)
             go_simp
             all_goals with_reducible rfl
            try simp only [List.getElem_toArray, List.getElem_cons_zero, List.getElem_cons_succ, Act.put, List.setIfInBounds_toArray, List.set_cons_zero, List.set_cons_succ]
            refine wpAnyH_take (i := 4) (v := ?_) rfl (by kernel_rfl) (by kernel_rfl) (by kernel_rfl) (fun _ _ _ h => h) (Or.inl ⟨by rfl, ?z43⟩) (by assumption) ?_
            case z43 =>
             intro w hSw
             (try dsimp only at hSw)
             go_simp
             all_goals with_reducible rfl
            try simp only [List.getElem_toArray, List.getElem_cons_zero, List.getElem_cons_succ, Act.put, List.setIfInBounds_toArray, List.set_cons_zero, List.set_cons_succ]
            refine wpAnyH_take (i := 5) (v := ?_) rfl (by kernel_rfl) (by kernel_rfl) (by kernel_rfl) (fun _ _ _ h => h) (Or.inl ⟨by rfl, ?z44⟩) (by assumption) ?_
            case z44 =>
             intro w hSw
             (try dsimp only at hSw)
             go_simp
             all_goals with_reducible rfl
            try simp only [List.getElem_toArray, List.getElem_cons_zero, List.getElem_cons_succ, Act.put, List.setIfInBounds_toArray, List.set_cons_zero, List.set_cons_succ]
            refine wpAnyH_take (i := 6) (v := ?_) rfl (by kernel_rfl) (by kernel_rfl) (by kernel_rfl) (fun _ _ _ h => h) (Or.inl ⟨by rfl, ?z45⟩) (by assumption) ?_
            case z45 =>
             intro w hSw
             (try dsimp only at hSw)
             go_simp
             all_goals with_reducible rfl
            try simp only [List.getElem_toArray, List.getElem_cons_zero, List.getElem_cons_succ, Act.put, List.setIfInBounds_toArray, List.set_cons_zero, List.set_cons_succ]
            refine wpAnyH_take (i := 7) (v := ?_) rfl (by kernel_rfl) (by kernel_rfl) (by kernel_rfl) (fun _ _ _ h => h) (Or.inl ⟨by rfl, ?z46⟩) (by assumption) ?_
            case z46 =>
             intro w hSw
             (try dsimp only at hSw)
             go_simp
             all_goals with_reducible rfl
            try simp only [List.getElem_toArray, List.getElem_cons_zero, List.getElem_cons_succ, Act.put, List.setIfInBounds_toArray, List.set_cons_zero, List.set_cons_succ]
            refine wpAnyH_take (i := 8) (v := undef) rfl (by kernel_rfl) (by kernel_rfl) (by kernel_rfl) (fun _ _ _ h => h) (Or.inr ⟨by rfl, rfl⟩) (by assumption) ?_
            try simp only [List.getElem_toArray, List.getElem_cons_zero, List.getElem_cons_succ, Act.put, List.setIfInBounds_toArray, List.set_cons_zero, List.set_cons_succ]
            refine wpAnyH_take (i := 9) (v := undef) rfl (by kernel_rfl) (by kernel_rfl) (by kernel_rfl) (fun _ _ _ h => h) (Or.inr ⟨by rfl, rfl⟩) (by assumption) ?_
            try simp only [List.getElem_toArray, List.getElem_cons_zero, List.getElem_cons_succ, Act.put, List.setIfInBounds_toArray, List.set_cons_zero, List.set_cons_succ]
            refine wpAnyH_take (i := 10) (v := undef) rfl (by kernel_rfl) (by kernel_rfl) (by kernel_rfl) (fun _ _ _ h => h) (Or.inr ⟨by rfl, rfl⟩) (by assumption) ?_
            try simp only [List.getElem_toArray, List.getElem_cons_zero, List.getElem_cons_succ, Act.put, List.setIfInBounds_toArray, List.set_cons_zero, List.set_cons_succ]
            refine wpAnyH_take (i := 11) (v := undef) rfl (by kernel_rfl) (by kernel_rfl) (by kernel_rfl) (fun _ _ _ h => h) (Or.inr ⟨by rfl, rfl⟩) (by assumption) ?_
            try simp only [List.getElem_toArray, List.getElem_cons_zero, List.getElem_cons_succ, Act.put, List.setIfInBounds_toArray, List.set_cons_zero, List.set_cons_succ]
            refine wpAnyH_take (i := 12) (v := undef) rfl (by kernel_rfl) (by kernel_rfl) (by kernel_rfl) (fun _ _ _ h => h) (Or.inr ⟨by rfl, rfl⟩) (by assumption) ?_
            try simp only [List.getElem_toArray, List.getElem_cons_zero, List.getElem_cons_succ, Act.put, List.setIfInBounds_toArray, List.set_cons_zero, List.set_cons_succ]
            refine wpAnyH_take (i := 13) (v := undef) rfl (by kernel_rfl) (by kernel_rfl) (by kernel_rfl) (fun _ _ _ h => h) (Or.inr ⟨by rfl, rfl⟩) (by assumption) ?_
            try simp only [List.getElem_toArray, List.getElem_cons_zero, List.getElem_cons_succ, Act.put, List.setIfInBounds_toArray, List.set_cons_zero, List.set_cons_succ]
            refine wpAnyH_take (i := 14) (v := undef) rfl (by kernel_rfl) (by kernel_rfl) (by kernel_rfl) (fun _ _ _ h => h) (Or.inr ⟨by rfl, rfl⟩) (by assumption) ?_
            try simp only [List.getElem_toArray, List.getElem_cons_zero, List.getElem_cons_succ, Act.put, List.setIfInBounds_toArray, List.set_cons_zero, List.set_cons_succ]
            refine wpAnyH_take (i := 15) (v := undef) rfl (by kernel_rfl) (by kernel_rfl) (by kernel_rfl) (fun _ _ _ h => h) (Or.inr ⟨by rfl, rfl⟩) (by assumption) ?_
            try simp only [List.getElem_toArray, List.getElem_cons_zero, List.getElem_cons_succ, Act.put, List.setIfInBounds_toArray, List.set_cons_zero, List.set_cons_succ]
            refine wpAnyH_take (i := 16) (v := undef) rfl (by kernel_rfl) (by kernel_rfl) (by kernel_rfl) (fun _ _ _ h => h) (Or.inr ⟨by rfl, rfl⟩) (by assumption) ?_
            try simp only [List.getElem_toArray, List.getElem_cons_zero, List.getElem_cons_succ, Act.put, List.setIfInBounds_toArray, List.set_cons_zero, List.set_cons_succ]
            refine wpAnyH_take (i := 17) (v := undef) rfl (by kernel_rfl) (by kernel_rfl) (by kernel_rfl) (fun _ _ _ h => h) (Or.inr ⟨by rfl, rfl⟩) (by assumption) ?_
            try simp only [List.getElem_toArray, List.getElem_cons_zero, List.getElem_cons_succ, Act.put, List.setIfInBounds_toArray, List.set_cons_zero, List.set_cons_succ]
            refine wpAnyH_take (i := 18) (v := undef) rfl (by kernel_rfl) (by kernel_rfl) (by kernel_rfl) (fun _ _ _ h => h) (Or.inr ⟨by rfl, rfl⟩) (by assumption) ?_
            try simp only [List.getElem_toArray, List.getElem_cons_zero, List.getElem_cons_succ, Act.put, List.setIfInBounds_toArray, List.set_cons_zero, List.set_cons_succ]
            refine wpAnyH_take (i := 19) (v := ?_) rfl (by kernel_rfl) (by kernel_rfl) (by kernel_rfl) (fun _ _ _ h => h) (Or.inl ⟨by rfl, ?z47⟩) (by assumption) ?_
            case z47 =>
             intro w hSw
             (try dsimp only at hSw)
             go_simp
             all_goals with_reducible rfl
            try simp only [List.getElem_toArray, List.getElem_cons_zero, List.getElem_cons_succ, Act.put, List.setIfInBounds_toArray, List.set_cons_zero, List.set_cons_succ]
            refine wpAnyH_done (by kernel_rfl) ?_ _

            go_upto_region 12 with fail
            refine wp_letter (fun X => Mem w X (C ++ ((m, .cells #[.slice a n c] 30 (0, 0)) :: ((g, .cells #[.int .u8 k1, .int .u32 k2, .int .u16 k3, .int .u32 f4, .int .u16 f5, .int .u32 f6, .slice pa np pb, .int .i64 f7, .int .u32 f8] 39 (0, 0)) :: (D ++ L))))) (by exact HX1.out) ?_
            intro X hX
            clear HX1
            have hpX := HPR.out.below hX.below (Nat.le_refl _)
            obtain ⟨qa, qc, V4, D1, hap, hM4, hS4, -⟩ := copy_pt hpX hX (by rw [HNP.out]; exact hps)
            rw [HNP.out] at hap hS4
            have hMk := hX.perm (show List.Perm _ ((g, .cells #[.int .u8 k1, .int .u32 k2, .int .u16 k3, .int .u32 f4, .int .u16 f5, .int .u32 f6, .slice pa np pb, .int .i64 f7, .int .u32 f8] 39 (0, 0)) :: (C ++ ((m, .cells #[.slice a n c] 30 (0, 0)) :: (D ++ L)))) from by
                classical
                rw [List.perm_iff_count]
                intro q
                simp only [List.count_append, List.count_cons, List.count_nil]
                omega)
            have y6 : X.cell? ⟨g, 6, none⟩ = some (.slice pa np pb) := hMk.cell 0 rfl 6
            have hM5 := hM4.perm (show List.Perm _ ((g, .cells #[.int .u8 k1, .int .u32 k2, .int .u16 k3, .int .u32 f4, .int .u16 f5, .int .u32 f6, .slice pa np pb, .int .i64 f7, .int .u32 f8] 39 (0, 0)) :: (C ++ ((m, .cells #[.slice a n c] 30 (0, 0)) :: (D1 ++ D ++ L)))) from by
                classical
                rw [List.perm_iff_count]
                intro q
                simp only [List.count_append, List.count_cons, List.count_nil]
                omega)
            have y7 : V4.cell? ⟨g, 6, none⟩ = some (.slice pa np pb) := hM5.cell 0 rfl 6
            have y8 : V4.frozen? ⟨g, 6, none⟩ = false := hM5.free 0 rfl 6
            have HM6 : Hid (Mem w (V4.setCell ⟨g, 6, none⟩ (.slice qa np qc)) ((g, .cells #[.int .u8 k1, .int .u32 k2, .int .u16 k3, .int .u32 f4, .int .u16 f5, .int .u32 f6, .slice qa np qc, .int .i64 f7, .int .u32 f8] 39 (0, 0)) :: (C ++ ((m, .cells #[.slice a n c] 30 (0, 0)) :: (D1 ++ D ++ L))))) := hM5.set 0 rfl 6 (.slice qa np qc)
            have HS4 : Hid (SlF 34 2 (.slice qa np qc) np (px ps).flatten D1) := hS4
            clear hX hpX hM4 hM5 hMk hS4
            go_upto_region 13 with (first | (refine wpList_append_run (.const (.slice none 0 0)) (.tmp 61) 37 37 rfl hap rfl (by rfl) (by simp [Act.eval]) (by simp [Act.eval]) ?_) | fail)
            refine wp_letter (fun Y => Mem w Y (C ++ ((m, .cells #[.slice a n c] 30 (0, 0)) :: ((g, .cells #[.int .u8 k1, .int .u32 k2, .int .u16 k3, .int .u32 f4, .int .u16 f5, .int .u32 f6, .slice qa np qc, .int .i64 f7, .int .u32 f8] 39 (0, 0)) :: (D1 ++ D ++ L))))) (HM6.out.perm (by
                classical
                rw [List.perm_iff_count]
                intro q
                simp only [List.count_append, List.count_cons, List.count_nil]
                omega)) ?_
            intro Y hY
            clear HM6 hap y6 y7 y8
            obtain ⟨z1, z2, z3, z4⟩ := HZ.out
            have hxs := sx_nine (zs := zs)
            have hsl : (sx zs).length = n := by rw [sx_len]; exact z2
            have hS' : SlF 39 9 (.slice a (sx zs).length c) (sx zs).length (sx zs).flatten C := by rw [hsl]; exact z3
            have s1 := fun V => sslice_ii V a n c k (by omega)
            have s2 := fun V => sslice_from V a n c k (by omega)
            have hii := gf_ii hxs hS' (i := k) (by omega)
            have hff := gf_from hxs hS' (k := k) (by omega)
            have el : ((sx zs).drop k).length = n - k := by rw [List.length_drop, hsl]
            have el2 : ((sx zs).take k).length = k := by rw [List.length_take]; omega
            rw [hsl] at hff
            obtain ⟨Vd, hVd⟩ : ∃ X, Y.drew = X := ⟨_, rfl⟩
            have hMd : Mem w Vd (C ++ ((m, .cells #[.slice a n c] 30 (0, 0)) :: ((g, .cells #[.int .u8 k1, .int .u32 k2, .int .u16 k3, .int .u32 f4, .int .u16 f5, .int .u32 f6, .slice qa np qc, .int .i64 f7, .int .u32 f8] 39 (0, 0)) :: (D1 ++ D ++ L)))) := hVd ▸ hY.drew
            obtain ⟨g5, hg5⟩ : ∃ g, Vd.heap.size = g := ⟨_, rfl⟩
            have hM2 : Mem w (Vd.alloc (.cells #[.int .u8 k1, .int .u32 k2, .int .u16 k3, .int .u32 f4, .int .u16 f5, .int .u32 f6, .slice qa np qc, .int .i64 f7, .int .u32 f8] 39)) ((C ++ [(g5, .cells #[.int .u8 k1, .int .u32 k2, .int .u16 k3, .int .u32 f4, .int .u16 f5, .int .u32 f6, .slice qa np qc, .int .i64 f7, .int .u32 f8] 39 (0, 0))]) ++ ((m, .cells #[.slice a n c] 30 (0, 0)) :: ((g, .cells #[.int .u8 k1, .int .u32 k2, .int .u16 k3, .int .u32 f4, .int .u16 f5, .int .u32 f6, .slice qa np qc, .int .i64 f7, .int .u32 f8] 39 (0, 0)) :: (D1 ++ D ++ L)))) :=
              (hMd.push g5 (.cells #[.int .u8 k1, .int .u32 k2, .int .u16 k3, .int .u32 f4, .int .u16 f5, .int .u32 f6, .slice qa np qc, .int .i64 f7, .int .u32 f8] 39) hg5.symm).perm (by
                classical
                rw [List.perm_iff_count]
                intro q
                simp only [List.count_append, List.count_cons, List.count_nil]
                omega)
            obtain ⟨vs, hvs⟩ : ∃ vs : List Value, [.int .u8 k1, .int .u32 k2, .int .u16 k3, .int .u32 f4, .int .u16 f5, .int .u32 f6, .slice qa np qc, .int .i64 f7, .int .u32 f8] = vs := ⟨_, rfl⟩
            have hv9 : vs.length = 9 := by rw [← hvs]; rfl
            have hlit : SlF 39 9 (.slice (some ⟨g5, 0, none⟩) [vs].length [vs].length) [vs].length [vs].flatten (C ++ [(g5, .cells #[.int .u8 k1, .int .u32 k2, .int .u16 k3, .int .u32 f4, .int .u16 f5, .int .u32 f6, .slice qa np qc, .int .i64 f7, .int .u32 f8] 39 (0, 0))]) := by
              subst hvs
              exact ⟨rfl, _, _, rfl, Nat.le_refl _, by simp [maxLen], nofun, Or.inr ⟨g5, 0, _, rfl, List.mem_append_right _ (List.mem_singleton.2 rfl), rfl⟩⟩
            have hx1 : ∀ x ∈ [vs], x.length = 9 := fun x hx => by rw [List.mem_singleton.1 hx]; exact hv9
            have hx2 : ∀ x ∈ (sx zs).drop k, x.length = 9 := fun x hx => hxs x (List.mem_of_mem_drop hx)
            have hx3 : ∀ x ∈ [vs] ++ (sx zs).drop k, x.length = 9 := fun x hx => by
              rcases List.mem_append.1 hx with hx | hx
              · exact hx1 x hx
              · exact hx2 x hx
            obtain ⟨ja, jc, V5, C4, hrun1, hM4, hs4, -, hsub4⟩ := gf_join (t := 28) (ty := 28) Try.underlying28 infoSs (by kernel_rfl) (by omega) hx1 hx2 (a2 := if c = k then a else (show Option Addr from a).map (·.add (k * 9))) (c2 := c - k) hlit ((show SlF _ 9 (.slice _ ((sx zs).drop k).length _) _ _ C by rw [el]; exact hff).mono fun q hq => List.mem_append_left _ hq) hM2 (by rw [el]; simp only [List.length_cons, List.length_nil]; omega)
            obtain ⟨jb, jd, V6, C5, hrun2, hM5, hs5, -, -⟩ := gf_join (t := 28) (ty := 28) Try.underlying28 infoSs (by kernel_rfl) (by omega) (fun x hx => hxs x (List.mem_of_mem_take hx)) hx3 (xs := (sx zs).take k) (a := a) (c2 := jc) (a2 := ja) (by rw [el2]; exact hii.mono fun q hq => hsub4 q (List.mem_append_left _ hq)) hs4 hM4 (by rw [List.length_append, el, el2]; simp only [List.length_cons, List.length_nil]; omega)
            rw [el] at hrun1
            rw [el2] at hrun2
            have hMd' := hMd.perm (List.perm_middle (l₁ := C))
            have hM2' := hM2.perm (List.perm_middle (l₁ := C ++ [(g5, .cells #[.int .u8 k1, .int .u32 k2, .int .u16 k3, .int .u32 f4, .int .u16 f5, .int .u32 f6, .slice qa np qc, .int .i64 f7, .int .u32 f8] 39 (0, 0))]))
            have hM4' := hM4.perm (List.perm_middle (l₁ := C4))
            have hM6 := hM5.perm (List.perm_middle (l₁ := C5))
            have b0 : Vd.cell? ⟨m, 0, none⟩ = some (.slice a n c) := hMd'.cell 0 rfl 0
            have b1 : (Vd.alloc (.cells #[.int .u8 k1, .int .u32 k2, .int .u16 k3, .int .u32 f4, .int .u16 f5, .int .u32 f6, .slice qa np qc, .int .i64 f7, .int .u32 f8] 39)).cell? ⟨m, 0, none⟩ = some (.slice a n c) := hM2'.cell 0 rfl 0
            have b2 : V5.cell? ⟨m, 0, none⟩ = some (.slice a n c) := hM4'.cell 0 rfl 0
            have b3 : V6.cell? ⟨m, 0, none⟩ = some (.slice a n c) := hM6.cell 0 rfl 0
            have b4 : V6.frozen? ⟨m, 0, none⟩ = false := hM6.free 0 rfl 0
            obtain ⟨N3, hN3⟩ : ∃ N, ((sx zs).take k ++ ([vs] ++ (sx zs).drop k)).length = N := ⟨_, rfl⟩
            rw [hN3] at hrun2
            have hM7 := hM6.set 0 rfl 0 (.slice jb N3 jd)
            have HS0 : Hid ((fun V : World => V.cell? ⟨g, 0, none⟩ = some (.int .u8 k1) ∧ V.cell? ⟨g, 1, none⟩ = some (.int .u32 k2) ∧ V.cell? ⟨g, 2, none⟩ = some (.int .u16 k3) ∧ V.cell? ⟨g, 3, none⟩ = some (.int .u32 f4) ∧ V.cell? ⟨g, 4, none⟩ = some (.int .u16 f5) ∧ V.cell? ⟨g, 5, none⟩ = some (.int .u32 f6) ∧ V.cell? ⟨g, 6, none⟩ = some (.slice qa np qc) ∧ V.cell? ⟨g, 7, none⟩ = some (.int .i64 f7) ∧ V.cell? ⟨g, 8, none⟩ = some (.int .u32 f8)) Y.drew) := bx_of 0 (hY.drew.perm (show List.Perm _ ((g, .cells #[.int .u8 k1, .int .u32 k2, .int .u16 k3, .int .u32 f4, .int .u16 f5, .int .u32 f6, .slice qa np qc, .int .i64 f7, .int .u32 f8] 39 (0, 0)) :: (C ++ ((m, .cells #[.slice a n c] 30 (0, 0)) :: (D1 ++ D ++ L)))) from by
                classical
                rw [List.perm_iff_count]
                intro q
                simp only [List.count_append, List.count_cons, List.count_nil]
                omega)) rfl
            have HS1 : Hid ((fun V : World => V.cell? ⟨g, 0, none⟩ = some (.int .u8 k1) ∧ V.cell? ⟨g, 1, none⟩ = some (.int .u32 k2) ∧ V.cell? ⟨g, 2, none⟩ = some (.int .u16 k3) ∧ V.cell? ⟨g, 3, none⟩ = some (.int .u32 f4) ∧ V.cell? ⟨g, 4, none⟩ = some (.int .u16 f5) ∧ V.cell? ⟨g, 5, none⟩ = some (.int .u32 f6) ∧ V.cell? ⟨g, 6, none⟩ = some (.slice qa np qc) ∧ V.cell? ⟨g, 7, none⟩ = some (.int .i64 f7) ∧ V.cell? ⟨g, 8, none⟩ = some (.int .u32 f8)) Vd) := hVd ▸ HS0.out
            have HS2 : Hid ((fun V : World => V.cell? ⟨g, 0, none⟩ = some (.int .u8 k1) ∧ V.cell? ⟨g, 1, none⟩ = some (.int .u32 k2) ∧ V.cell? ⟨g, 2, none⟩ = some (.int .u16 k3) ∧ V.cell? ⟨g, 3, none⟩ = some (.int .u32 f4) ∧ V.cell? ⟨g, 4, none⟩ = some (.int .u16 f5) ∧ V.cell? ⟨g, 5, none⟩ = some (.int .u32 f6) ∧ V.cell? ⟨g, 6, none⟩ = some (.slice qa np qc) ∧ V.cell? ⟨g, 7, none⟩ = some (.int .i64 f7) ∧ V.cell? ⟨g, 8, none⟩ = some (.int .u32 f8)) (Vd.alloc (.cells #[.int .u8 k1, .int .u32 k2, .int .u16 k3, .int .u32 f4, .int .u16 f5, .int .u32 f6, .slice qa np qc, .int .i64 f7, .int .u32 f8] 39))) := bx_of 0 (hM2.perm (show List.Perm _ ((g, .cells #[.int .u8 k1, .int .u32 k2, .int .u16 k3, .int .u32 f4, .int .u16 f5, .int .u32 f6, .slice qa np qc, .int .i64 f7, .int .u32 f8] 39 (0, 0)) :: ((C ++ [(g5, .cells #[.int .u8 k1, .int .u32 k2, .int .u16 k3, .int .u32 f4, .int .u16 f5, .int .u32 f6, .slice qa np qc, .int .i64 f7, .int .u32 f8] 39 (0, 0))]) ++ ((m, .cells #[.slice a n c] 30 (0, 0)) :: (D1 ++ D ++ L)))) from by
                classical
                rw [List.perm_iff_count]
                intro q
                simp only [List.count_append, List.count_cons, List.count_nil]
                omega)) rfl
            have HS3 : Hid ((fun V : World => V.cell? ⟨g, 0, none⟩ = some (.int .u8 k1) ∧ V.cell? ⟨g, 1, none⟩ = some (.int .u32 k2) ∧ V.cell? ⟨g, 2, none⟩ = some (.int .u16 k3) ∧ V.cell? ⟨g, 3, none⟩ = some (.int .u32 f4) ∧ V.cell? ⟨g, 4, none⟩ = some (.int .u16 f5) ∧ V.cell? ⟨g, 5, none⟩ = some (.int .u32 f6) ∧ V.cell? ⟨g, 6, none⟩ = some (.slice qa np qc) ∧ V.cell? ⟨g, 7, none⟩ = some (.int .i64 f7) ∧ V.cell? ⟨g, 8, none⟩ = some (.int .u32 f8)) V5) := bx_of 0 (hM4.perm (show List.Perm _ ((g, .cells #[.int .u8 k1, .int .u32 k2, .int .u16 k3, .int .u32 f4, .int .u16 f5, .int .u32 f6, .slice qa np qc, .int .i64 f7, .int .u32 f8] 39 (0, 0)) :: (C4 ++ ((m, .cells #[.slice a n c] 30 (0, 0)) :: (D1 ++ D ++ L)))) from by
                classical
                rw [List.perm_iff_count]
                intro q
                simp only [List.count_append, List.count_cons, List.count_nil]
                omega)) rfl
            have HS5 : Hid ((fun V : World => V.cell? ⟨g, 0, none⟩ = some (.int .u8 k1) ∧ V.cell? ⟨g, 1, none⟩ = some (.int .u32 k2) ∧ V.cell? ⟨g, 2, none⟩ = some (.int .u16 k3) ∧ V.cell? ⟨g, 3, none⟩ = some (.int .u32 f4) ∧ V.cell? ⟨g, 4, none⟩ = some (.int .u16 f5) ∧ V.cell? ⟨g, 5, none⟩ = some (.int .u32 f6) ∧ V.cell? ⟨g, 6, none⟩ = some (.slice qa np qc) ∧ V.cell? ⟨g, 7, none⟩ = some (.int .i64 f7) ∧ V.cell? ⟨g, 8, none⟩ = some (.int .u32 f8)) V6) := bx_of 0 (hM5.perm (show List.Perm _ ((g, .cells #[.int .u8 k1, .int .u32 k2, .int .u16 k3, .int .u32 f4, .int .u16 f5, .int .u32 f6, .slice qa np qc, .int .i64 f7, .int .u32 f8] 39 (0, 0)) :: (C5 ++ ((m, .cells #[.slice a n c] 30 (0, 0)) :: (D1 ++ D ++ L)))) from by
                classical
                rw [List.perm_iff_count]
                intro q
                simp only [List.count_append, List.count_cons, List.count_nil]
                omega)) rfl
            have HS6 : Hid ((fun V : World => V.cell? ⟨g, 0, none⟩ = some (.int .u8 k1) ∧ V.cell? ⟨g, 1, none⟩ = some (.int .u32 k2) ∧ V.cell? ⟨g, 2, none⟩ = some (.int .u16 k3) ∧ V.cell? ⟨g, 3, none⟩ = some (.int .u32 f4) ∧ V.cell? ⟨g, 4, none⟩ = some (.int .u16 f5) ∧ V.cell? ⟨g, 5, none⟩ = some (.int .u32 f6) ∧ V.cell? ⟨g, 6, none⟩ = some (.slice qa np qc) ∧ V.cell? ⟨g, 7, none⟩ = some (.int .i64 f7) ∧ V.cell? ⟨g, 8, none⟩ = some (.int .u32 f8)) (V6.setCell ⟨m, 0, none⟩ (.slice jb N3 jd))) := by
              have h8 : Mem w (V6.setCell ⟨m, 0, none⟩ (.slice jb N3 jd)) ((m, .cells #[.slice jb N3 jd] 30 (0, 0)) :: (C5 ++ ((g, .cells #[.int .u8 k1, .int .u32 k2, .int .u16 k3, .int .u32 f4, .int .u16 f5, .int .u32 f6, .slice qa np qc, .int .i64 f7, .int .u32 f8] 39 (0, 0)) :: (D1 ++ D ++ L)))) := hM7
              exact bx_of 0 (h8.perm (show List.Perm _ ((g, .cells #[.int .u8 k1, .int .u32 k2, .int .u16 k3, .int .u32 f4, .int .u16 f5, .int .u32 f6, .slice qa np qc, .int .i64 f7, .int .u32 f8] 39 (0, 0)) :: ((m, .cells #[.slice jb N3 jd] 30 (0, 0)) :: (C5 ++ (D1 ++ D ++ L)))) from by
                classical
                rw [List.perm_iff_count]
                intro q
                simp only [List.count_append, List.count_cons, List.count_nil]
                omega)) rfl
            have HQ : Hid (∃ B', RT N m B' ∧ Mem w (V6.setCell ⟨m, 0, none⟩ (.slice jb N3 jd)) (B' ++ L)) := by
              have h8 : Mem w (V6.setCell ⟨m, 0, none⟩ (.slice jb N3 jd)) ((m, .cells #[.slice jb N3 jd] 30 (0, 0)) :: (C5 ++ ((g, .cells #[.int .u8 k1, .int .u32 k2, .int .u16 k3, .int .u32 f4, .int .u16 f5, .int .u32 f6, .slice qa np qc, .int .i64 f7, .int .u32 f8] 39 (0, 0)) :: (D1 ++ D ++ L)))) := hM7
              have h9 := (h8.perm (show List.Perm _ ((g, .cells #[.int .u8 k1, .int .u32 k2, .int .u16 k3, .int .u32 f4, .int .u16 f5, .int .u32 f6, .slice qa np qc, .int .i64 f7, .int .u32 f8] 39 (0, 0)) :: (((m, .cells #[.slice jb N3 jd] 30 (0, 0)) :: (C5 ++ (D1 ++ D))) ++ L)) from by
                classical
                rw [List.perm_iff_count]
                intro q
                simp only [List.count_append, List.count_cons, List.count_nil]
                omega)).sub
              rw [← HE.out.2, HW.out]
              have hss : (sx zs).take k ++ ([vs] ++ (sx zs).drop k) = sx (zs.take k ++ (s', .slice qa np qc) :: zs.drop k) := by
                rw [← hvs, ← HS'.out]
                unfold sx
                rw [List.map_append, List.map_cons, List.map_take, List.map_drop]
                rfl
              refine ⟨_, ⟨zs.take k ++ (s', .slice qa np qc) :: zs.drop k, .slice jb N3 jd, C5, D1 ++ D, ?_, ?_, rfl, fun z hz => ?_⟩, h9⟩
              · rw [List.map_append, List.map_cons, List.map_take, List.map_drop, z1]
              · rw [hN3, hss] at hs5
                rw [hss, sx_len] at hN3
                rw [hN3]
                exact hs5
              · rcases List.mem_append.1 hz with hz | hz
                · exact (z4 z (List.mem_of_mem_take hz)).mono fun q hq => List.mem_append_right _ hq
                · rcases List.mem_cons.1 hz with rfl | hz
                  · show SlF _ 2 _ s'.ps.length (px s'.ps).flatten _
                    rw [← HS'.out]
                    show SlF _ 2 _ ps.length (px ps).flatten _
                    rw [HNP.out]
                    exact HS4.out.mono fun q hq => List.mem_append_left _ hq
                  · exact (z4 z (List.mem_of_mem_drop hz)).mono fun q hq => List.mem_append_right _ hq
            clear HZ HW HS' HNP HPR HS4 HN hY hMd hM2 hM4 hM5 hM6 hM7 hMd' hM2' hM4' hs4 hs5 hsub4 hii hff hlit hx1 hx2 hx3 hv9 el2 hN3 z1 z2 z3 z4 hS' hxs hsl
            obtain ⟨a2, ha2⟩ : ∃ x, (if c = k then a else (show Option Addr from a).map (·.add (k * 9))) = x := ⟨_, rfl⟩
            try simp only at ha2
            rw [ha2] at s2 hrun1
            clear ha2
            subst hvs
            simp only [List.length_cons, List.length_nil, Nat.zero_add] at hrun1 hrun2
            generalize ([([.int .u8 k1, .int .u32 k2, .int .u16 k3, .int .u32 f4, .int .u16 f5, .int .u32 f6, .slice qa np qc, .int .i64 f7, .int .u32 f8] : List Value)] ++ (sx zs).drop k).length = N4 at *
            clear el
            refine wp_region_held_drew (S := (fun V : World => V.cell? ⟨g, 0, none⟩ = some (.int .u8 k1) ∧ V.cell? ⟨g, 1, none⟩ = some (.int .u32 k2) ∧ V.cell? ⟨g, 2, none⟩ = some (.int .u16 k3) ∧ V.cell? ⟨g, 3, none⟩ = some (.int .u32 f4) ∧ V.cell? ⟨g, 4, none⟩ = some (.int .u16 f5) ∧ V.cell? ⟨g, 5, none⟩ = some (.int .u32 f6) ∧ V.cell? ⟨g, 6, none⟩ = some (.slice qa np qc) ∧ V.cell? ⟨g, 7, none⟩ = some (.int .i64 f7) ∧ V.cell? ⟨g, 8, none⟩ = some (.int .u32 f8))) (by kernel_rfl) HS0.out (fun hHeld => ?_)
            refine wpAnyH_take (i := 0) (v := ?_) rfl (by kernel_rfl) (by kernel_rfl) (by kernel_rfl) (fun _ _ _ h => h) (Or.inl ⟨by rfl, ?o40zy0⟩) (by assumption) ?_
            case o40zy0 =>
              intro w hSw
              (try dsimp only at hSw)
              go_simp
              all_goals with_reducible rfl
            try simp only [List.getElem_toArray, List.getElem_cons_zero, List.getElem_cons_succ, Act.put, List.setIfInBounds_toArray, List.set_cons_zero, List.set_cons_succ]
            refine wpAnyH_take (i := 1) (v := ?_) rfl (by kernel_rfl) (by kernel_rfl) (by kernel_rfl) (fun _ _ _ h => h) (Or.inl ⟨by rfl, ?o41zy1⟩) (by assumption) ?_
            case o41zy1 =>
              intro w hSw
              (try dsimp only at hSw)
              go_simp
              all_goals with_reducible rfl
            try simp only [List.getElem_toArray, List.getElem_cons_zero, List.getElem_cons_succ, Act.put, List.setIfInBounds_toArray, List.set_cons_zero, List.set_cons_succ]
            refine wpAnyH_take (i := 2) (v := ?_) rfl (by kernel_rfl) (by kernel_rfl) (by kernel_rfl) (fun _ _ _ h => h) (Or.inl ⟨by rfl, ?o42zy2⟩) (by assumption) ?_
            case o42zy2 =>
              intro w hSw
              (try dsimp only at hSw)
              go_simp
              all_goals with_reducible rfl
            try simp only [List.getElem_toArray, List.getElem_cons_zero, List.getElem_cons_succ, Act.put, List.setIfInBounds_toArray, List.set_cons_zero, List.set_cons_succ]
            refine wpAnyH_take (i := 3) (v := ?_) rfl (by kernel_rfl) (by kernel_rfl) (by kernel_rfl) (fun _ _ _ h => h) (Or.inl ⟨by rfl, ?o43zy3⟩) (by assumption) ?_
            case o43zy3 =>
              intro w hSw
              (try dsimp only at hSw)
              go_simp
              all_goals with_reducible rfl
            try simp only [List.getElem_toArray, List.getElem_cons_zero, List.getElem_cons_succ, Act.put, List.setIfInBounds_toArray, List.set_cons_zero, List.set_cons_succ]
            refine wpAnyH_take (i := 5) (v := ?_) rfl (by kernel_rfl) (by kernel_rfl) (by kernel_rfl) (fun _ _ _ h => h) (Or.inl ⟨by rfl, ?o44zy5⟩) (by assumption) ?_
            case o44zy5 =>
              intro w hSw
              (try dsimp only at hSw)
              go_simp
              all_goals with_reducible rfl
            try simp only [List.getElem_toArray, List.getElem_cons_zero, List.getElem_cons_succ, Act.put, List.setIfInBounds_toArray, List.set_cons_zero, List.set_cons_succ]
            refine wpAnyH_take (i := 6) (v := ?_) rfl (by kernel_rfl) (by kernel_rfl) (by kernel_rfl) (fun _ _ _ h => h) (Or.inl ⟨by rfl, ?o45zy6⟩) (by assumption) ?_
            case o45zy6 =>
              intro w hSw
              (try dsimp only at hSw)
              go_simp
              all_goals with_reducible rfl
            try simp only [List.getElem_toArray, List.getElem_cons_zero, List.getElem_cons_succ, Act.put, List.setIfInBounds_toArray, List.set_cons_zero, List.set_cons_succ]
            refine wpAnyH_take (i := 8) (v := ?_) rfl (by kernel_rfl) (by kernel_rfl) (by kernel_rfl) (fun _ _ _ h => h) (Or.inl ⟨by rfl, ?o46zy8⟩) (by assumption) ?_
            case o46zy8 =>
              intro w hSw
              (try dsimp only at hSw)
              go_simp
              all_goals with_reducible rfl
            try simp only [List.getElem_toArray, List.getElem_cons_zero, List.getElem_cons_succ, Act.put, List.setIfInBounds_toArray, List.set_cons_zero, List.set_cons_succ]
            refine wpAnyH_take (i := 10) (v := ?_) rfl (by kernel_rfl) (by kernel_rfl) (by kernel_rfl) (fun _ _ _ h => h) (Or.inl ⟨by rfl, ?o47zy10⟩) (by assumption) ?_
            case o47zy10 =>
              intro w hSw
              (try dsimp only at hSw)
              go_simp
              all_goals with_reducible rfl
            try simp only [List.getElem_toArray, List.getElem_cons_zero, List.getElem_cons_succ, Act.put, List.setIfInBounds_toArray, List.set_cons_zero, List.set_cons_succ]
            refine wpAnyH_take (i := 11) (v := ?_) rfl (by kernel_rfl) (by kernel_rfl) (by kernel_rfl) (fun _ _ _ h => h) (Or.inl ⟨by rfl, ?o48zy11⟩) (by assumption) ?_
            case o48zy11 =>
              intro w hSw
              (try dsimp only at hSw)
              go_simp
              all_goals with_reducible rfl
            try simp only [List.getElem_toArray, List.getElem_cons_zero, List.getElem_cons_succ, Act.put, List.setIfInBounds_toArray, List.set_cons_zero, List.set_cons_succ]
            refine wpAnyH_take (i := 12) (v := ?_) rfl (by kernel_rfl) (by kernel_rfl) (by kernel_rfl) (fun _ _ _ h => h) (Or.inl ⟨by rfl, ?o49zy12⟩) (by assumption) ?_
            case o49zy12 =>
              intro w hSw
              (try dsimp only at hSw)
              go_simp
              all_goals with_reducible rfl
            try simp only [List.getElem_toArray, List.getElem_cons_zero, List.getElem_cons_succ, Act.put, List.setIfInBounds_toArray, List.set_cons_zero, List.set_cons_succ]
            refine wpAnyH_take (i := 14) (v := ?_) rfl (by kernel_rfl) (by kernel_rfl) (by kernel_rfl) (fun _ _ _ h => h) (Or.inl ⟨by rfl, ?o50zy14⟩) (by assumption) ?_
            case o50zy14 =>
              intro w hSw
              (try dsimp only at hSw)
              go_simp
              all_goals with_reducible rfl
            try simp only [List.getElem_toArray, List.getElem_cons_zero, List.getElem_cons_succ, Act.put, List.setIfInBounds_toArray, List.set_cons_zero, List.set_cons_succ]
            rw [hVd]
            refine wpAnyH_ready (rs := [4, 9, 13]) (by kernel_rfl) (by simp) ?_
            refine AllReadyH.cons rfl (fun KK hK => ?_) (AllReadyH.cons rfl (fun KK hK => ?_) (AllReadyH.cons rfl (fun KK hK => ?_) AllReadyH.nil))
            · go_simp
              refine hK.out _ _ (by first | exact HS1.out | exact HS2.out | exact HS3.out | exact HS5.out | exact HS6.out) (fun hHeld => ?_)
              clear hK KK
              try simp only [List.getElem_toArray, List.getElem_cons_zero, List.getElem_cons_succ, Act.put, List.setIfInBounds_toArray, List.set_cons_zero, List.set_cons_succ]
              refine wpAnyH_take (i := 7) (v := ?_) rfl (by kernel_rfl) (by kernel_rfl) (by kernel_rfl) (fun _ _ _ h => h) (Or.inl ⟨by rfl, ?o51zy7⟩) (by assumption) ?_
              case o51zy7 =>
                intro w hSw
                (try dsimp only at hSw)
                go_simp
                all_goals with_reducible rfl
              try simp only [List.getElem_toArray, List.getElem_cons_zero, List.getElem_cons_succ, Act.put, List.setIfInBounds_toArray, List.set_cons_zero, List.set_cons_succ]
              refine wpAnyH_ready (rs := [9, 13]) (by kernel_rfl) (by simp) ?_
              refine AllReadyH.cons rfl (fun KK hK => ?_) (AllReadyH.cons rfl (fun KK hK => ?_) AllReadyH.nil)
              · go_simp
                try simp only [hg5]
                refine hK.out _ _ (by first | exact HS1.out | exact HS2.out | exact HS3.out | exact HS5.out | exact HS6.out) (fun hHeld => ?_)
                clear hK KK
                try simp only [List.getElem_toArray, List.getElem_cons_zero, List.getElem_cons_succ, Act.put, List.setIfInBounds_toArray, List.set_cons_zero, List.set_cons_succ]
                refine wpAnyH_ready (rs := [13]) (by kernel_rfl) (by simp) ?_
                refine AllReadyH.cons rfl (fun KK hK => ?_) AllReadyH.nil
                go_simp
                refine hK.out _ _ (by first | exact HS1.out | exact HS2.out | exact HS3.out | exact HS5.out | exact HS6.out) (fun hHeld => ?_)
                clear hK KK
                try simp only [List.getElem_toArray, List.getElem_cons_zero, List.getElem_cons_succ, Act.put, List.setIfInBounds_toArray, List.set_cons_zero, List.set_cons_succ]
                refine wpAnyH_take (i := 15) (v := ?_) rfl (by kernel_rfl) (by kernel_rfl) (by kernel_rfl) (fun _ _ _ h => h) (Or.inl ⟨by rfl, ?o52zy15⟩) (by assumption) ?_
                case o52zy15 =>
                  intro w hSw
                  (try dsimp only at hSw)
                  go_simp
                  all_goals with_reducible rfl
                try simp only [List.getElem_toArray, List.getElem_cons_zero, List.getElem_cons_succ, Act.put, List.setIfInBounds_toArray, List.set_cons_zero, List.set_cons_succ]
                refine wpAnyH_ready (rs := [16]) (by kernel_rfl) (by simp) ?_
                refine AllReadyH.cons rfl (fun KK hK => ?_) AllReadyH.nil
                refine step_app (ty := 28) rfl (.tmp 73) (.tmp 79) 28 28 rfl (by simp [Act.eval]) (by simp [Act.eval]) hrun1 rfl ?_
                refine hK.out _ _ (by first | exact HS1.out | exact HS2.out | exact HS3.out | exact HS5.out | exact HS6.out) (fun hHeld => ?_)
                clear hK KK
                try simp only [List.getElem_toArray, List.getElem_cons_zero, List.getElem_cons_succ, Act.put, List.setIfInBounds_toArray, List.set_cons_zero, List.set_cons_succ]
                refine wpAnyH_ready (rs := [17]) (by kernel_rfl) (by simp) ?_
                refine AllReadyH.cons rfl (fun KK hK => ?_) AllReadyH.nil
                refine step_app (ty := 28) rfl (.tmp 71) (.tmp 80) 28 28 rfl (by simp [Act.eval]) (by simp [Act.eval]) hrun2 rfl ?_
                refine hK.out _ _ (by first | exact HS1.out | exact HS2.out | exact HS3.out | exact HS5.out | exact HS6.out) (fun hHeld => ?_)
                clear hK KK
                try simp only [List.getElem_toArray, List.getElem_cons_zero, List.getElem_cons_succ, Act.put, List.setIfInBounds_toArray, List.set_cons_zero, List.set_cons_succ]
                refine wpAnyH_take (i := 18) (v := ?_) rfl (by kernel_rfl) (by kernel_rfl) (by kernel_rfl) (fun _ _ _ h => h) (Or.inl ⟨by rfl, ?o53zy18⟩) (by assumption) ?_
                case o53zy18 =>
                  intro w hSw
                  (try dsimp only at hSw)
                  go_simp
                  all_goals with_reducible rfl
                try simp only [List.getElem_toArray, List.getElem_cons_zero, List.getElem_cons_succ, Act.put, List.setIfInBounds_toArray, List.set_cons_zero, List.set_cons_succ]
                refine wpAnyH_take (i := 19) (v := ?_) rfl (by kernel_rfl) (by kernel_rfl) (by kernel_rfl) (fun _ _ _ h => h) (Or.inl ⟨by rfl, ?o54zy19⟩) (by assumption) ?_
                case o54zy19 =>
                  intro w hSw
                  (try dsimp only at hSw)
                  go_simp
                  all_goals with_reducible rfl
                try simp only [List.getElem_toArray, List.getElem_cons_zero, List.getElem_cons_succ, Act.put, List.setIfInBounds_toArray, List.set_cons_zero, List.set_cons_succ]
                refine wpAnyH_ready (rs := [20]) (by kernel_rfl) (by simp) ?_
                refine AllReadyH.cons rfl (fun KK hK => ?_) AllReadyH.nil
                go_simp
                refine hK.out _ _ (by first | exact HS1.out | exact HS2.out | exact HS3.out | exact HS5.out | exact HS6.out) (fun hHeld => ?_)
                clear hK KK
                try simp only [List.getElem_toArray, List.getElem_cons_zero, List.getElem_cons_succ, Act.put, List.setIfInBounds_toArray, List.set_cons_zero, List.set_cons_succ]
                refine wpAnyH_done (by kernel_rfl) ?_ _
                go_wp2_with fail
                go_ret
                exact ⟨by rw [← HE.out.1]; rfl, HQ.out⟩
              · go_simp
                refine hK.out _ _ (by first | exact HS1.out | exact HS2.out | exact HS3.out | exact HS5.out | exact HS6.out) (fun hHeld => ?_)
                clear hK KK
                try simp only [List.getElem_toArray, List.getElem_cons_zero, List.getElem_cons_succ, Act.put, List.setIfInBounds_toArray, List.set_cons_zero, List.set_cons_succ]
                refine wpAnyH_take (i := 15) (v := ?_) rfl (by kernel_rfl) (by kernel_rfl) (by kernel_rfl) (fun _ _ _ h => h) (Or.inl ⟨by rfl, ?o55zy15⟩) (by assumption) ?_
                case o55zy15 =>
                  intro w hSw
                  (try dsimp only at hSw)
                  go_simp
                  all_goals with_reducible rfl
                try simp only [List.getElem_toArray, List.getElem_cons_zero, List.getElem_cons_succ, Act.put, List.setIfInBounds_toArray, List.set_cons_zero, List.set_cons_succ]
                refine wpAnyH_ready (rs := [9]) (by kernel_rfl) (by simp) ?_
                refine AllReadyH.cons rfl (fun KK hK => ?_) AllReadyH.nil
                go_simp
                try simp only [hg5]
                refine hK.out _ _ (by first | exact HS1.out | exact HS2.out | exact HS3.out | exact HS5.out | exact HS6.out) (fun hHeld => ?_)
                clear hK KK
                try simp only [List.getElem_toArray, List.getElem_cons_zero, List.getElem_cons_succ, Act.put, List.setIfInBounds_toArray, List.set_cons_zero, List.set_cons_succ]
                refine wpAnyH_ready (rs := [16]) (by kernel_rfl) (by simp) ?_
                refine AllReadyH.cons rfl (fun KK hK => ?_) AllReadyH.nil
                refine step_app (ty := 28) rfl (.tmp 73) (.tmp 79) 28 28 rfl (by simp [Act.eval]) (by simp [Act.eval]) hrun1 rfl ?_
                refine hK.out _ _ (by first | exact HS1.out | exact HS2.out | exact HS3.out | exact HS5.out | exact HS6.out) (fun hHeld => ?_)
                clear hK KK
                try simp only [List.getElem_toArray, List.getElem_cons_zero, List.getElem_cons_succ, Act.put, List.setIfInBounds_toArray, List.set_cons_zero, List.set_cons_succ]
                refine wpAnyH_ready (rs := [17]) (by kernel_rfl) (by simp) ?_
                refine AllReadyH.cons rfl (fun KK hK => ?_) AllReadyH.nil
                refine step_app (ty := 28) rfl (.tmp 71) (.tmp 80) 28 28 rfl (by simp [Act.eval]) (by simp [Act.eval]) hrun2 rfl ?_
                refine hK.out _ _ (by first | exact HS1.out | exact HS2.out | exact HS3.out | exact HS5.out | exact HS6.out) (fun hHeld => ?_)
                clear hK KK
                try simp only [List.getElem_toArray, List.getElem_cons_zero, List.getElem_cons_succ, Act.put, List.setIfInBounds_toArray, List.set_cons_zero, List.set_cons_succ]
                refine wpAnyH_take (i := 18) (v := ?_) rfl (by kernel_rfl) (by kernel_rfl) (by kernel_rfl) (fun _ _ _ h => h) (Or.inl ⟨by rfl, ?o56zy18⟩) (by assumption) ?_
                case o56zy18 =>
                  intro w hSw
                  (try dsimp only at hSw)
                  go_simp
                  all_goals with_reducible rfl
                try simp only [List.getElem_toArray, List.getElem_cons_zero, List.getElem_cons_succ, Act.put, List.setIfInBounds_toArray, List.set_cons_zero, List.set_cons_succ]
                refine wpAnyH_take (i := 19) (v := ?_) rfl (by kernel_rfl) (by kernel_rfl) (by kernel_rfl) (fun _ _ _ h => h) (Or.inl ⟨by rfl, ?o57zy19⟩) (by assumption) ?_
                case o57zy19 =>
                  intro w hSw
                  (try dsimp only at hSw)
                  go_simp
                  all_goals with_reducible rfl
                try simp only [List.getElem_toArray, List.getElem_cons_zero, List.getElem_cons_succ, Act.put, List.setIfInBounds_toArray, List.set_cons_zero, List.set_cons_succ]
                refine wpAnyH_ready (rs := [20]) (by kernel_rfl) (by simp) ?_
                refine AllReadyH.cons rfl (fun KK hK => ?_) AllReadyH.nil
                go_simp
                refine hK.out _ _ (by first | exact HS1.out | exact HS2.out | exact HS3.out | exact HS5.out | exact HS6.out) (fun hHeld => ?_)
                clear hK KK
                try simp only [List.getElem_toArray, List.getElem_cons_zero, List.getElem_cons_succ, Act.put, List.setIfInBounds_toArray, List.set_cons_zero, List.set_cons_succ]
                refine wpAnyH_done (by kernel_rfl) ?_ _
                go_wp2_with fail
                go_ret
                exact ⟨by rw [← HE.out.1]; rfl, HQ.out⟩
            · go_simp
              try simp only [hg5]
              refine hK.out _ _ (by first | exact HS1.out | exact HS2.out | exact HS3.out | exact HS5.out | exact HS6.out) (fun hHeld => ?_)
              clear hK KK
              try simp only [List.getElem_toArray, List.getElem_cons_zero, List.getElem_cons_succ, Act.put, List.setIfInBounds_toArray, List.set_cons_zero, List.set_cons_succ]
              refine wpAnyH_ready (rs := [4, 13]) (by kernel_rfl) (by simp) ?_
              refine AllReadyH.cons rfl (fun KK hK => ?_) (AllReadyH.cons rfl (fun KK hK => ?_) AllReadyH.nil)
              · go_simp
                refine hK.out _ _ (by first | exact HS1.out | exact HS2.out | exact HS3.out | exact HS5.out | exact HS6.out) (fun hHeld => ?_)
                clear hK KK
                try simp only [List.getElem_toArray, List.getElem_cons_zero, List.getElem_cons_succ, Act.put, List.setIfInBounds_toArray, List.set_cons_zero, List.set_cons_succ]
                refine wpAnyH_take (i := 7) (v := ?_) rfl (by kernel_rfl) (by kernel_rfl) (by kernel_rfl) (fun _ _ _ h => h) (Or.inl ⟨by rfl, ?o58zy7⟩) (by assumption) ?_
                case o58zy7 =>
                  intro w hSw
                  (try dsimp only at hSw)
                  go_simp
                  all_goals with_reducible rfl
                try simp only [List.getElem_toArray, List.getElem_cons_zero, List.getElem_cons_succ, Act.put, List.setIfInBounds_toArray, List.set_cons_zero, List.set_cons_succ]
                refine wpAnyH_ready (rs := [13]) (by kernel_rfl) (by simp) ?_
                refine AllReadyH.cons rfl (fun KK hK => ?_) AllReadyH.nil
                go_simp
                refine hK.out _ _ (by first | exact HS1.out | exact HS2.out | exact HS3.out | exact HS5.out | exact HS6.out) (fun hHeld => ?_)
                clear hK KK
                try simp only [List.getElem_toArray, List.getElem_cons_zero, List.getElem_cons_succ, Act.put, List.setIfInBounds_toArray, List.set_cons_zero, List.set_cons_succ]
                refine wpAnyH_take (i := 15) (v := ?_) rfl (by kernel_rfl) (by kernel_rfl) (by kernel_rfl) (fun _ _ _ h => h) (Or.inl ⟨by rfl, ?o59zy15⟩) (by assumption) ?_
                case o59zy15 =>
                  intro w hSw
                  (try dsimp only at hSw)
                  go_simp
                  all_goals with_reducible rfl
                try simp only [List.getElem_toArray, List.getElem_cons_zero, List.getElem_cons_succ, Act.put, List.setIfInBounds_toArray, List.set_cons_zero, List.set_cons_succ]
                refine wpAnyH_ready (rs := [16]) (by kernel_rfl) (by simp) ?_
                refine AllReadyH.cons rfl (fun KK hK => ?_) AllReadyH.nil
                refine step_app (ty := 28) rfl (.tmp 73) (.tmp 79) 28 28 rfl (by simp [Act.eval]) (by simp [Act.eval]) hrun1 rfl ?_
                refine hK.out _ _ (by first | exact HS1.out | exact HS2.out | exact HS3.out | exact HS5.out | exact HS6.out) (fun hHeld => ?_)
                clear hK KK
                try simp only [List.getElem_toArray, List.getElem_cons_zero, List.getElem_cons_succ, Act.put, List.setIfInBounds_toArray, List.set_cons_zero, List.set_cons_succ]
                refine wpAnyH_ready (rs := [17]) (by kernel_rfl) (by simp) ?_
                refine AllReadyH.cons rfl (fun KK hK => ?_) AllReadyH.nil
                refine step_app (ty := 28) rfl (.tmp 71) (.tmp 80) 28 28 rfl (by simp [Act.eval]) (by simp [Act.eval]) hrun2 rfl ?_
                refine hK.out _ _ (by first | exact HS1.out | exact HS2.out | exact HS3.out | exact HS5.out | exact HS6.out) (fun hHeld => ?_)
                clear hK KK
                try simp only [List.getElem_toArray, List.getElem_cons_zero, List.getElem_cons_succ, Act.put, List.setIfInBounds_toArray, List.set_cons_zero, List.set_cons_succ]
                refine wpAnyH_take (i := 18) (v := ?_) rfl (by kernel_rfl) (by kernel_rfl) (by kernel_rfl) (fun _ _ _ h => h) (Or.inl ⟨by rfl, ?o60zy18⟩) (by assumption) ?_
                case o60zy18 =>
                  intro w hSw
                  (try dsimp only at hSw)
                  go_simp
                  all_goals with_reducible rfl
                try simp only [List.getElem_toArray, List.getElem_cons_zero, List.getElem_cons_succ, Act.put, List.setIfInBounds_toArray, List.set_cons_zero, List.set_cons_succ]
                refine wpAnyH_take (i := 19) (v := ?_) rfl (by kernel_rfl) (by kernel_rfl) (by kernel_rfl) (fun _ _ _ h => h) (Or.inl ⟨by rfl, ?o61zy19⟩) (by assumption) ?_
                case o61zy19 =>
                  intro w hSw
                  (try dsimp only at hSw)
                  go_simp
                  all_goals with_reducible rfl
                try simp only [List.getElem_toArray, List.getElem_cons_zero, List.getElem_cons_succ, Act.put, List.setIfInBounds_toArray, List.set_cons_zero, List.set_cons_succ]
                refine wpAnyH_ready (rs := [20]) (by kernel_rfl) (by simp) ?_
                refine AllReadyH.cons rfl (fun KK hK => ?_) AllReadyH.nil
                go_simp
                refine hK.out _ _ (by first | exact HS1.out | exact HS2.out | exact HS3.out | exact HS5.out | exact HS6.out) (fun hHeld => ?_)
                clear hK KK
                try simp only [List.getElem_toArray, List.getElem_cons_zero, List.getElem_cons_succ, Act.put, List.setIfInBounds_toArray, List.set_cons_zero, List.set_cons_succ]
                refine wpAnyH_done (by kernel_rfl) ?_ _
                go_wp2_with fail
                go_ret
                exact ⟨by rw [← HE.out.1]; rfl, HQ.out⟩
              · go_simp
                refine hK.out _ _ (by first | exact HS1.out | exact HS2.out | exact HS3.out | exact HS5.out | exact HS6.out) (fun hHeld => ?_)
                clear hK KK
                try simp only [List.getElem_toArray, List.getElem_cons_zero, List.getElem_cons_succ, Act.put, List.setIfInBounds_toArray, List.set_cons_zero, List.set_cons_succ]
                refine wpAnyH_take (i := 15) (v := ?_) rfl (by kernel_rfl) (by kernel_rfl) (by kernel_rfl) (fun _ _ _ h => h) (Or.inl ⟨by rfl, ?o62zy15⟩) (by assumption) ?_
                case o62zy15 =>
                  intro w hSw
                  (try dsimp only at hSw)
                  go_simp
                  all_goals with_reducible rfl
                try simp only [List.getElem_toArray, List.getElem_cons_zero, List.getElem_cons_succ, Act.put, List.setIfInBounds_toArray, List.set_cons_zero, List.set_cons_succ]
                refine wpAnyH_ready (rs := [4, 16]) (by kernel_rfl) (by simp) ?_
                refine AllReadyH.cons rfl (fun KK hK => ?_) (AllReadyH.cons rfl (fun KK hK => ?_) AllReadyH.nil)
                · go_simp
                  refine hK.out _ _ (by first | exact HS1.out | exact HS2.out | exact HS3.out | exact HS5.out | exact HS6.out) (fun hHeld => ?_)
                  clear hK KK
                  try simp only [List.getElem_toArray, List.getElem_cons_zero, List.getElem_cons_succ, Act.put, List.setIfInBounds_toArray, List.set_cons_zero, List.set_cons_succ]
                  refine wpAnyH_take (i := 7) (v := ?_) rfl (by kernel_rfl) (by kernel_rfl) (by kernel_rfl) (fun _ _ _ h => h) (Or.inl ⟨by rfl, ?o63zy7⟩) (by assumption) ?_
                  case o63zy7 =>
                    intro w hSw
                    (try dsimp only at hSw)
                    go_simp
                    all_goals with_reducible rfl
                  try simp only [List.getElem_toArray, List.getElem_cons_zero, List.getElem_cons_succ, Act.put, List.setIfInBounds_toArray, List.set_cons_zero, List.set_cons_succ]
                  refine wpAnyH_ready (rs := [16]) (by kernel_rfl) (by simp) ?_
                  refine AllReadyH.cons rfl (fun KK hK => ?_) AllReadyH.nil
                  refine step_app (ty := 28) rfl (.tmp 73) (.tmp 79) 28 28 rfl (by simp [Act.eval]) (by simp [Act.eval]) hrun1 rfl ?_
                  refine hK.out _ _ (by first | exact HS1.out | exact HS2.out | exact HS3.out | exact HS5.out | exact HS6.out) (fun hHeld => ?_)
                  clear hK KK
                  try simp only [List.getElem_toArray, List.getElem_cons_zero, List.getElem_cons_succ, Act.put, List.setIfInBounds_toArray, List.set_cons_zero, List.set_cons_succ]
                  refine wpAnyH_ready (rs := [17]) (by kernel_rfl) (by simp) ?_
                  refine AllReadyH.cons rfl (fun KK hK => ?_) AllReadyH.nil
                  refine step_app (ty := 28) rfl (.tmp 71) (.tmp 80) 28 28 rfl (by simp [Act.eval]) (by simp [Act.eval]) hrun2 rfl ?_
                  refine hK.out _ _ (by first | exact HS1.out | exact HS2.out | exact HS3.out | exact HS5.out | exact HS6.out) (fun hHeld => ?_)
                  clear hK KK
                  try simp only [List.getElem_toArray, List.getElem_cons_zero, List.getElem_cons_succ, Act.put, List.setIfInBounds_toArray, List.set_cons_zero, List.set_cons_succ]
                  refine wpAnyH_take (i := 18) (v := ?_) rfl (by kernel_rfl) (by kernel_rfl) (by kernel_rfl) (fun _ _ _ h => h) (Or.inl ⟨by rfl, ?o64zy18⟩) (by assumption) ?_
                  case o64zy18 =>
                    intro w hSw
                    (try dsimp only at hSw)
                    go_simp
                    all_goals with_reducible rfl
                  try simp only [List.getElem_toArray, List.getElem_cons_zero, List.getElem_cons_succ, Act.put, List.setIfInBounds_toArray, List.set_cons_zero, List.set_cons_succ]
                  refine wpAnyH_take (i := 19) (v := ?_) rfl (by kernel_rfl) (by kernel_rfl) (by kernel_rfl) (fun _ _ _ h => h) (Or.inl ⟨by rfl, ?o65zy19⟩) (by assumption) ?_
                  case o65zy19 =>
                    intro w hSw
                    (try dsimp only at hSw)
                    go_simp
                    all_goals with_reducible rfl
                  try simp only [List.getElem_toArray, List.getElem_cons_zero, List.getElem_cons_succ, Act.put, List.setIfInBounds_toArray, List.set_cons_zero, List.set_cons_succ]
                  refine wpAnyH_ready (rs := [20]) (by kernel_rfl) (by simp) ?_
                  refine AllReadyH.cons rfl (fun KK hK => ?_) AllReadyH.nil
                  go_simp
                  refine hK.out _ _ (by first | exact HS1.out | exact HS2.out | exact HS3.out | exact HS5.out | exact HS6.out) (fun hHeld => ?_)
                  clear hK KK
                  try simp only [List.getElem_toArray, List.getElem_cons_zero, List.getElem_cons_succ, Act.put, List.setIfInBounds_toArray, List.set_cons_zero, List.set_cons_succ]
                  refine wpAnyH_done (by kernel_rfl) ?_ _
                  go_wp2_with fail
                  go_ret
                  exact ⟨by rw [← HE.out.1]; rfl, HQ.out⟩
                · refine step_app (ty := 28) rfl (.tmp 73) (.tmp 79) 28 28 rfl (by simp [Act.eval]) (by simp [Act.eval]) hrun1 rfl ?_
                  refine hK.out _ _ (by first | exact HS1.out | exact HS2.out | exact HS3.out | exact HS5.out | exact HS6.out) (fun hHeld => ?_)
                  clear hK KK
                  try simp only [List.getElem_toArray, List.getElem_cons_zero, List.getElem_cons_succ, Act.put, List.setIfInBounds_toArray, List.set_cons_zero, List.set_cons_succ]
                  refine wpAnyH_ready (rs := [4]) (by kernel_rfl) (by simp) ?_
                  refine AllReadyH.cons rfl (fun KK hK => ?_) AllReadyH.nil
                  go_simp
                  refine hK.out _ _ (by first | exact HS1.out | exact HS2.out | exact HS3.out | exact HS5.out | exact HS6.out) (fun hHeld => ?_)
                  clear hK KK
                  try simp only [List.getElem_toArray, List.getElem_cons_zero, List.getElem_cons_succ, Act.put, List.setIfInBounds_toArray, List.set_cons_zero, List.set_cons_succ]
                  refine wpAnyH_take (i := 7) (v := ?_) rfl (by kernel_rfl) (by kernel_rfl) (by kernel_rfl) (fun _ _ _ h => h) (Or.inl ⟨by rfl, ?o66zy7⟩) (by assumption) ?_
                  case o66zy7 =>
                    intro w hSw
                    (try dsimp only at hSw)
                    go_simp
                    all_goals with_reducible rfl
                  try simp only [List.getElem_toArray, List.getElem_cons_zero, List.getElem_cons_succ, Act.put, List.setIfInBounds_toArray, List.set_cons_zero, List.set_cons_succ]
                  refine wpAnyH_ready (rs := [17]) (by kernel_rfl) (by simp) ?_
                  refine AllReadyH.cons rfl (fun KK hK => ?_) AllReadyH.nil
                  refine step_app (ty := 28) rfl (.tmp 71) (.tmp 80) 28 28 rfl (by simp [Act.eval]) (by simp [Act.eval]) hrun2 rfl ?_
                  refine hK.out _ _ (by first | exact HS1.out | exact HS2.out | exact HS3.out | exact HS5.out | exact HS6.out) (fun hHeld => ?_)
                  clear hK KK
                  try simp only [List.getElem_toArray, List.getElem_cons_zero, List.getElem_cons_succ, Act.put, List.setIfInBounds_toArray, List.set_cons_zero, List.set_cons_succ]
                  refine wpAnyH_take (i := 18) (v := ?_) rfl (by kernel_rfl) (by kernel_rfl) (by kernel_rfl) (fun _ _ _ h => h) (Or.inl ⟨by rfl, ?o67zy18⟩) (by assumption) ?_
                  case o67zy18 =>
                    intro w hSw
                    (try dsimp only at hSw)
                    go_simp
                    all_goals with_reducible rfl
                  try simp only [List.getElem_toArray, List.getElem_cons_zero, List.getElem_cons_succ, Act.put, List.setIfInBounds_toArray, List.set_cons_zero, List.set_cons_succ]
                  refine wpAnyH_take (i := 19) (v := ?_) rfl (by kernel_rfl) (by kernel_rfl) (by kernel_rfl) (fun _ _ _ h => h) (Or.inl ⟨by rfl, ?o68zy19⟩) (by assumption) ?_
                  case o68zy19 =>
                    intro w hSw
                    (try dsimp only at hSw)
                    go_simp
                    all_goals with_reducible rfl
                  try simp only [List.getElem_toArray, List.getElem_cons_zero, List.getElem_cons_succ, Act.put, List.setIfInBounds_toArray, List.set_cons_zero, List.set_cons_succ]
                  refine wpAnyH_ready (rs := [20]) (by kernel_rfl) (by simp) ?_
                  refine AllReadyH.cons rfl (fun KK hK => ?_) AllReadyH.nil
                  go_simp
                  refine hK.out _ _ (by first | exact HS1.out | exact HS2.out | exact HS3.out | exact HS5.out | exact HS6.out) (fun hHeld => ?_)
                  clear hK KK
                  try simp only [List.getElem_toArray, List.getElem_cons_zero, List.getElem_cons_succ, Act.put, List.setIfInBounds_toArray, List.set_cons_zero, List.set_cons_succ]
                  refine wpAnyH_done (by kernel_rfl) ?_ _
                  go_wp2_with fail
                  go_ret
                  exact ⟨by rw [← HE.out.1]; rfl, HQ.out⟩
            · go_simp
              refine hK.out _ _ (by first | exact HS1.out | exact HS2.out | exact HS3.out | exact HS5.out | exact HS6.out) (fun hHeld => ?_)
              clear hK KK
              try simp only [List.getElem_toArray, List.getElem_cons_zero, List.getElem_cons_succ, Act.put, List.setIfInBounds_toArray, List.set_cons_zero, List.set_cons_succ]
              refine wpAnyH_take (i := 15) (v := ?_) rfl (by kernel_rfl) (by kernel_rfl) (by kernel_rfl) (fun _ _ _ h => h) (Or.inl ⟨by rfl, ?o69zy15⟩) (by assumption) ?_
              case o69zy15 =>
                intro w hSw
                (try dsimp only at hSw)
                go_simp
                all_goals with_reducible rfl
              try simp only [List.getElem_toArray, List.getElem_cons_zero, List.getElem_cons_succ, Act.put, List.setIfInBounds_toArray, List.set_cons_zero, List.set_cons_succ]
              refine wpAnyH_ready (rs := [4, 9]) (by kernel_rfl) (by simp) ?_
              refine AllReadyH.cons rfl (fun KK hK => ?_) (AllReadyH.cons rfl (fun KK hK => ?_) AllReadyH.nil)
              · go_simp
                refine hK.out _ _ (by first | exact HS1.out | exact HS2.out | exact HS3.out | exact HS5.out | exact HS6.out) (fun hHeld => ?_)
                clear hK KK
                try simp only [List.getElem_toArray, List.getElem_cons_zero, List.getElem_cons_succ, Act.put, List.setIfInBounds_toArray, List.set_cons_zero, List.set_cons_succ]
                refine wpAnyH_take (i := 7) (v := ?_) rfl (by kernel_rfl) (by kernel_rfl) (by kernel_rfl) (fun _ _ _ h => h) (Or.inl ⟨by rfl, ?o70zy7⟩) (by assumption) ?_
                case o70zy7 =>
                  intro w hSw
                  (try dsimp only at hSw)
                  go_simp
                  all_goals with_reducible rfl
                try simp only [List.getElem_toArray, List.getElem_cons_zero, List.getElem_cons_succ, Act.put, List.setIfInBounds_toArray, List.set_cons_zero, List.set_cons_succ]
                refine wpAnyH_ready (rs := [9]) (by kernel_rfl) (by simp) ?_
                refine AllReadyH.cons rfl (fun KK hK => ?_) AllReadyH.nil
                go_simp
                try simp only [hg5]
                refine hK.out _ _ (by first | exact HS1.out | exact HS2.out | exact HS3.out | exact HS5.out | exact HS6.out) (fun hHeld => ?_)
                clear hK KK
                try simp only [List.getElem_toArray, List.getElem_cons_zero, List.getElem_cons_succ, Act.put, List.setIfInBounds_toArray, List.set_cons_zero, List.set_cons_succ]
                refine wpAnyH_ready (rs := [16]) (by kernel_rfl) (by simp) ?_
                refine AllReadyH.cons rfl (fun KK hK => ?_) AllReadyH.nil
                refine step_app (ty := 28) rfl (.tmp 73) (.tmp 79) 28 28 rfl (by simp [Act.eval]) (by simp [Act.eval]) hrun1 rfl ?_
                refine hK.out _ _ (by first | exact HS1.out | exact HS2.out | exact HS3.out | exact HS5.out | exact HS6.out) (fun hHeld => ?_)
                clear hK KK
                try simp only [List.getElem_toArray, List.getElem_cons_zero, List.getElem_cons_succ, Act.put, List.setIfInBounds_toArray, List.set_cons_zero, List.set_cons_succ]
                refine wpAnyH_ready (rs := [17]) (by kernel_rfl) (by simp) ?_
                refine AllReadyH.cons rfl (fun KK hK => ?_) AllReadyH.nil
                refine step_app (ty := 28) rfl (.tmp 71) (.tmp 80) 28 28 rfl (by simp [Act.eval]) (by simp [Act.eval]) hrun2 rfl ?_
                refine hK.out _ _ (by first | exact HS1.out | exact HS2.out | exact HS3.out | exact HS5.out | exact HS6.out) (fun hHeld => ?_)
                clear hK KK
                try simp only [List.getElem_toArray, List.getElem_cons_zero, List.getElem_cons_succ, Act.put, List.setIfInBounds_toArray, List.set_cons_zero, List.set_cons_succ]
                refine wpAnyH_take (i := 18) (v := ?_) rfl (by kernel_rfl) (by kernel_rfl) (by kernel_rfl) (fun _ _ _ h => h) (Or.inl ⟨by rfl, ?o71zy18⟩) (by assumption) ?_
                case o71zy18 =>
                  intro w hSw
                  (try dsimp only at hSw)
                  go_simp
                  all_goals with_reducible rfl
                try simp only [List.getElem_toArray, List.getElem_cons_zero, List.getElem_cons_succ, Act.put, List.setIfInBounds_toArray, List.set_cons_zero, List.set_cons_succ]
                refine wpAnyH_take (i := 19) (v := ?_) rfl (by kernel_rfl) (by kernel_rfl) (by kernel_rfl) (fun _ _ _ h => h) (Or.inl ⟨by rfl, ?o72zy19⟩) (by assumption) ?_
                case o72zy19 =>
                  intro w hSw
                  (try dsimp only at hSw)
                  go_simp
                  all_goals with_reducible rfl
                try simp only [List.getElem_toArray, List.getElem_cons_zero, List.getElem_cons_succ, Act.put, List.setIfInBounds_toArray, List.set_cons_zero, List.set_cons_succ]
                refine wpAnyH_ready (rs := [20]) (by kernel_rfl) (by simp) ?_
                refine AllReadyH.cons rfl (fun KK hK => ?_) AllReadyH.nil
                go_simp
                refine hK.out _ _ (by first | exact HS1.out | exact HS2.out | exact HS3.out | exact HS5.out | exact HS6.out) (fun hHeld => ?_)
                clear hK KK
                try simp only [List.getElem_toArray, List.getElem_cons_zero, List.getElem_cons_succ, Act.put, List.setIfInBounds_toArray, List.set_cons_zero, List.set_cons_succ]
                refine wpAnyH_done (by kernel_rfl) ?_ _
                go_wp2_with fail
                go_ret
                exact ⟨by rw [← HE.out.1]; rfl, HQ.out⟩
              · go_simp
                try simp only [hg5]
                refine hK.out _ _ (by first | exact HS1.out | exact HS2.out | exact HS3.out | exact HS5.out | exact HS6.out) (fun hHeld => ?_)
                clear hK KK
                try simp only [List.getElem_toArray, List.getElem_cons_zero, List.getElem_cons_succ, Act.put, List.setIfInBounds_toArray, List.set_cons_zero, List.set_cons_succ]
                refine wpAnyH_ready (rs := [4, 16]) (by kernel_rfl) (by simp) ?_
                refine AllReadyH.cons rfl (fun KK hK => ?_) (AllReadyH.cons rfl (fun KK hK => ?_) AllReadyH.nil)
                · go_simp
                  refine hK.out _ _ (by first | exact HS1.out | exact HS2.out | exact HS3.out | exact HS5.out | exact HS6.out) (fun hHeld => ?_)
                  clear hK KK
                  try simp only [List.getElem_toArray, List.getElem_cons_zero, List.getElem_cons_succ, Act.put, List.setIfInBounds_toArray, List.set_cons_zero, List.set_cons_succ]
                  refine wpAnyH_take (i := 7) (v := ?_) rfl (by kernel_rfl) (by kernel_rfl) (by kernel_rfl) (fun _ _ _ h => h) (Or.inl ⟨by rfl, ?o73zy7⟩) (by assumption) ?_
                  case o73zy7 =>
                    intro w hSw
                    (try dsimp only at hSw)
                    go_simp
                    all_goals with_reducible rfl
                  try simp only [List.getElem_toArray, List.getElem_cons_zero, List.getElem_cons_succ, Act.put, List.setIfInBounds_toArray, List.set_cons_zero, List.set_cons_succ]
                  refine wpAnyH_ready (rs := [16]) (by kernel_rfl) (by simp) ?_
                  refine AllReadyH.cons rfl (fun KK hK => ?_) AllReadyH.nil
                  refine step_app (ty := 28) rfl (.tmp 73) (.tmp 79) 28 28 rfl (by simp [Act.eval]) (by simp [Act.eval]) hrun1 rfl ?_
                  refine hK.out _ _ (by first | exact HS1.out | exact HS2.out | exact HS3.out | exact HS5.out | exact HS6.out) (fun hHeld => ?_)
                  clear hK KK
                  try simp only [List.getElem_toArray, List.getElem_cons_zero, List.getElem_cons_succ, Act.put, List.setIfInBounds_toArray, List.set_cons_zero, List.set_cons_succ]
                  refine wpAnyH_ready (rs := [17]) (by kernel_rfl) (by simp) ?_
                  refine AllReadyH.cons rfl (fun KK hK => ?_) AllReadyH.nil
                  refine step_app (ty := 28) rfl (.tmp 71) (.tmp 80) 28 28 rfl (by simp [Act.eval]) (by simp [Act.eval]) hrun2 rfl ?_
                  refine hK.out _ _ (by first | exact HS1.out | exact HS2.out | exact HS3.out | exact HS5.out | exact HS6.out) (fun hHeld => ?_)
                  clear hK KK
                  try simp only [List.getElem_toArray, List.getElem_cons_zero, List.getElem_cons_succ, Act.put, List.setIfInBounds_toArray, List.set_cons_zero, List.set_cons_succ]
                  refine wpAnyH_take (i := 18) (v := ?_) rfl (by kernel_rfl) (by kernel_rfl) (by kernel_rfl) (fun _ _ _ h => h) (Or.inl ⟨by rfl, ?o74zy18⟩) (by assumption) ?_
                  case o74zy18 =>
                    intro w hSw
                    (try dsimp only at hSw)
                    go_simp
                    all_goals with_reducible rfl
                  try simp only [List.getElem_toArray, List.getElem_cons_zero, List.getElem_cons_succ, Act.put, List.setIfInBounds_toArray, List.set_cons_zero, List.set_cons_succ]
                  refine wpAnyH_take (i := 19) (v := ?_) rfl (by kernel_rfl) (by kernel_rfl) (by kernel_rfl) (fun _ _ _ h => h) (Or.inl ⟨by rfl, ?o75zy19⟩) (by assumption) ?_
                  case o75zy19 =>
                    intro w hSw
                    (try dsimp only at hSw)
                    go_simp
                    all_goals with_reducible rfl
                  try simp only [List.getElem_toArray, List.getElem_cons_zero, List.getElem_cons_succ, Act.put, List.setIfInBounds_toArray, List.set_cons_zero, List.set_cons_succ]
                  refine wpAnyH_ready (rs := [20]) (by kernel_rfl) (by simp) ?_
                  refine AllReadyH.cons rfl (fun KK hK => ?_) AllReadyH.nil
                  go_simp
                  refine hK.out _ _ (by first | exact HS1.out | exact HS2.out | exact HS3.out | exact HS5.out | exact HS6.out) (fun hHeld => ?_)
                  clear hK KK
                  try simp only [List.getElem_toArray, List.getElem_cons_zero, List.getElem_cons_succ, Act.put, List.setIfInBounds_toArray, List.set_cons_zero, List.set_cons_succ]
                  refine wpAnyH_done (by kernel_rfl) ?_ _
                  go_wp2_with fail
                  go_ret
                  exact ⟨by rw [← HE.out.1]; rfl, HQ.out⟩
                · refine step_app (ty := 28) rfl (.tmp 73) (.tmp 79) 28 28 rfl (by simp [Act.eval]) (by simp [Act.eval]) hrun1 rfl ?_
                  refine hK.out _ _ (by first | exact HS1.out | exact HS2.out | exact HS3.out | exact HS5.out | exact HS6.out) (fun hHeld => ?_)
                  clear hK KK
                  try simp only [List.getElem_toArray, List.getElem_cons_zero, List.getElem_cons_succ, Act.put, List.setIfInBounds_toArray, List.set_cons_zero, List.set_cons_succ]
                  refine wpAnyH_ready (rs := [4]) (by kernel_rfl) (by simp) ?_
                  refine AllReadyH.cons rfl (fun KK hK => ?_) AllReadyH.nil
                  go_simp
                  refine hK.out _ _ (by first | exact HS1.out | exact HS2.out | exact HS3.out | exact HS5.out | exact HS6.out) (fun hHeld => ?_)
                  clear hK KK
                  try simp only [List.getElem_toArray, List.getElem_cons_zero, List.getElem_cons_succ, Act.put, List.setIfInBounds_toArray, List.set_cons_zero, List.set_cons_succ]
                  refine wpAnyH_take (i := 7) (v := ?_) rfl (by kernel_rfl) (by kernel_rfl) (by kernel_rfl) (fun _ _ _ h => h) (Or.inl ⟨by rfl, ?o76zy7⟩) (by assumption) ?_
                  case o76zy7 =>
                    intro w hSw
                    (try dsimp only at hSw)
                    go_simp
                    all_goals with_reducible rfl
                  try simp only [List.getElem_toArray, List.getElem_cons_zero, List.getElem_cons_succ, Act.put, List.setIfInBounds_toArray, List.set_cons_zero, List.set_cons_succ]
                  refine wpAnyH_ready (rs := [17]) (by kernel_rfl) (by simp) ?_
                  refine AllReadyH.cons rfl (fun KK hK => ?_) AllReadyH.nil
                  refine step_app (ty := 28) rfl (.tmp 71) (.tmp 80) 28 28 rfl (by simp [Act.eval]) (by simp [Act.eval]) hrun2 rfl ?_
                  refine hK.out _ _ (by first | exact HS1.out | exact HS2.out | exact HS3.out | exact HS5.out | exact HS6.out) (fun hHeld => ?_)
                  clear hK KK
                  try simp only [List.getElem_toArray, List.getElem_cons_zero, List.getElem_cons_succ, Act.put, List.setIfInBounds_toArray, List.set_cons_zero, List.set_cons_succ]
                  refine wpAnyH_take (i := 18) (v := ?_) rfl (by kernel_rfl) (by kernel_rfl) (by kernel_rfl) (fun _ _ _ h => h) (Or.inl ⟨by rfl, ?o77zy18⟩) (by assumption) ?_
                  case o77zy18 =>
                    intro w hSw
                    (try dsimp only at hSw)
                    go_simp
                    all_goals with_reducible rfl
                  try simp only [List.getElem_toArray, List.getElem_cons_zero, List.getElem_cons_succ, Act.put, List.setIfInBounds_toArray, List.set_cons_zero, List.set_cons_succ]
                  refine wpAnyH_take (i := 19) (v := ?_) rfl (by kernel_rfl) (by kernel_rfl) (by kernel_rfl) (fun _ _ _ h => h) (Or.inl ⟨by rfl, ?o78zy19⟩) (by assumption) ?_
                  case o78zy19 =>
                    intro w hSw
                    (try dsimp only at hSw)
                    go_simp
                    all_goals with_reducible rfl
                  try simp only [List.getElem_toArray, List.getElem_cons_zero, List.getElem_cons_succ, Act.put, List.setIfInBounds_toArray, List.set_cons_zero, List.set_cons_succ]
                  refine wpAnyH_ready (rs := [20]) (by kernel_rfl) (by simp) ?_
                  refine AllReadyH.cons rfl (fun KK hK => ?_) AllReadyH.nil
                  go_simp
                  refine hK.out _ _ (by first | exact HS1.out | exact HS2.out | exact HS3.out | exact HS5.out | exact HS6.out) (fun hHeld => ?_)
                  clear hK KK
                  try simp only [List.getElem_toArray, List.getElem_cons_zero, List.getElem_cons_succ, Act.put, List.setIfInBounds_toArray, List.set_cons_zero, List.set_cons_succ]
                  refine wpAnyH_done (by kernel_rfl) ?_ _
                  go_wp2_with fail
                  go_ret
                  exact ⟨by rw [← HE.out.1]; rfl, HQ.out⟩

end Ss
end Go.Proofs.Ytgeeijinhneoiaa
