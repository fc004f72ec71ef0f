/-
  Sessions: the document's own table: Put.
-/
import Derived.Test.YtgeeijinhneoiaaSsCpy
namespace Go.Proofs.Ytgeeijinhneoiaa
open Go.RowKit
open Sm
open Po
open Wh
set_option linter.unusedVariables false
set_option linter.unusedSimpArgs false
set_option maxRecDepth 20000

namespace Ss
def pt (s : Sn) : List Sn → List Sn
  | [] => []
  | x :: r => if key x = key s then { s with oip := x.oip, op := x.op } :: r else x :: pt s r
theorem pt_at {s : Sn} : ∀ {xs : List Sn} {i : Nat} (hi : i < xs.length), (∀ x ∈ xs.take i, key x ≠ key s) → key xs[i] = key s → fk (key s) xs = some xs[i] ∧ pt s xs = xs.set i { s with oip := xs[i].oip, op := xs[i].op }
  | d :: r, 0, _, _, h => by
    have h' : key d = key s := h
    simp [fk, pt, h']
  | d :: r, i + 1, hi, hn, h => by
    have h0 : key d ≠ key s := hn d (by simp)
    obtain ⟨h1, h2⟩ := pt_at (s := s) (xs := r) (i := i) (by simpa using hi) (fun e he => hn e (by simp [he])) h
    simp [fk, pt, h0, h1, h2]
theorem pt_no {s : Sn} : ∀ {xs : List Sn}, (∀ x ∈ xs, key x ≠ key s) → fk (key s) xs = none ∧ pt s xs = xs
  | [], _ => ⟨rfl, rfl⟩
  | d :: r, hn => by
    have h0 : key d ≠ key s := hn d (by simp)
    obtain ⟨h1, h2⟩ := pt_no (s := s) (xs := r) fun e he => hn e (by simp [he])
    simp [fk, pt, h0, h1, h2]
theorem pt_len (s : Sn) : ∀ xs : List Sn, (pt s xs).length = xs.length
  | [] => rfl
  | x :: r => by
    unfold pt
    split
    · rfl
    · simp [pt_len s r]
set_option maxHeartbeats 8000000 in
theorem rsput_any {w W : World} {m : Nat} {xs : List Sn} {B L : List (Nat × Obj)} (h : RT xs m B) (hM : Mem w W (B ++ L)) (hn : xs.length ≤ 100000) {val : Value} {s : Sn} (hs : SV W val s) (hps : s.ps.length ≤ 1000000) :
    Calls Try.prog 16 #[.pointer (some ⟨m, 0, none⟩), val] W fun e W' => e = .returned (.bool (fk (key s) xs).isSome) ∧ ∃ B', RT (pt s xs) m B' ∧ Mem w W' (B' ++ L) := by
  obtain ⟨zs', a', c', ez', hc', hr', hp'⟩ := h.read hM
  obtain ⟨zs, v, C, D, ez, hS, rfl, hP⟩ := h
  have hlz : zs.length = xs.length := by rw [← ez, List.length_map]
  have hlz' : zs'.length = xs.length := by rw [← ez', List.length_map]
  obtain ⟨-, a, c, rfl, h1, h2, -, -⟩ := id hS
  have hcm : W.cell? ⟨m, 0, none⟩ = some (.slice a zs.length c) := hM.cell 0 rfl 0
  rw [hcm] at hc'
  simp only [Option.some.injEq, Value.slice.injEq] at hc'
  obtain ⟨rfl, -, rfl⟩ := hc'
  obtain ⟨-, hx⟩ := rt_at ez' hr' hp'
  obtain ⟨n, hnn⟩ : ∃ n, xs.length = n := ⟨_, rfl⟩
  rw [hnn] at hlz hn
  rw [hlz] at hM hS h1
  obtain ⟨R, hR⟩ : ∃ R, (fk (key s) xs).isSome = R := ⟨_, rfl⟩
  rw [hR]
  have HR : Hid ((fk (key s) xs).isSome = R) := hR
  obtain ⟨N, hN⟩ : ∃ N, pt s xs = N := ⟨_, rfl⟩
  rw [hN]
  have HNN : Hid (pt s xs = N) := hN
  obtain ⟨s', hs'⟩ : ∃ s', s = s' := ⟨_, rfl⟩
  obtain ⟨pv, rfl, hp⟩ := hs
  unfold sc
  obtain ⟨k1, k2, k3, f4, f5, f6, ps, f7, f8⟩ := s
  simp only at hps hp ⊢
  obtain ⟨pa, pb, rfl, p1, p2, -⟩ := pr_at hp
  obtain ⟨np, hnp⟩ : ∃ np, ps.length = np := ⟨_, rfl⟩
  have HNP : Hid (ps.length = np) := hnp
  have HPR : Hid (PR W (.slice pa ps.length pb) ps) := hp
  rw [hnp] at hps p1 ⊢
  have HS' : Hid ((⟨k1, k2, k3, f4, f5, f6, ps, f7, f8⟩ : Sn) = s') := hs'
  have hks : key (⟨k1, k2, k3, f4, f5, f6, ps, f7, f8⟩ : Sn) = (k1, k2, k3) := rfl
  rw [hs'] at hR hks HR HNN
  have HKS : Hid (key s' = (k1, k2, k3)) := hks
  have HX : Hid (∀ i (hi : i < xs.length), ∃ pv b off, a = some ⟨b, off, none⟩ ∧ ∀ V, Below W.heap.size W V → Bo V b (off + i * 9) xs[i] pv ∧ PR V pv xs[i].ps) := hx
  have HN : Hid (xs.length = n) := hnn
  have HZ : Hid (zs.map (·.1) = xs ∧ zs.length = n ∧ SlF 39 9 (.slice a n c) n (sx zs).flatten C ∧ ∀ z ∈ zs, SlF 34 2 z.2 z.1.ps.length (px z.1.ps).flatten D) := ⟨ez, hlz, hS, hP⟩
  have h2' : c ≤ 9223372036854775807 := by simp only [maxLen] at h2; omega
  obtain ⟨g, hg⟩ : ∃ g, W.heap.size = g := ⟨_, rfl⟩
  have HG : Hid (W.heap.size = g) := hg
  have HM0 : Hid (Mem w (W.alloc (.cells #[.int .u8 k1, .int .u32 k2, .int .u16 k3, .int .u32 f4, .int .u16 f5, .int .u32 f6, .slice pa np pb, .int .i64 f7, .int .u32 f8] 39)) (C ++ ((m, .cells #[.slice a n c] 30 (0, 0)) :: ((g, .cells #[.int .u8 k1, .int .u32 k2, .int .u16 k3, .int .u32 f4, .int .u16 f5, .int .u32 f6, .slice pa np pb, .int .i64 f7, .int .u32 f8] 39 (0, 0)) :: (D ++ L)))) ∧ Below W.heap.size W (W.alloc (.cells #[.int .u8 k1, .int .u32 k2, .int .u16 k3, .int .u32 f4, .int .u16 f5, .int .u32 f6, .slice pa np pb, .int .i64 f7, .int .u32 f8] 39))) := by
    refine ⟨(hM.push g _ hg.symm).perm ?_, (Below.refl _ _).alloc (Nat.le_refl _) _⟩
    classical
    rw [List.perm_iff_count]
    intro q
    simp only [List.count_append, List.count_cons, List.count_nil]
    omega
  clear hx hM h2 hS hP hR hnn ez ez' hr' hp' hlz hlz' hcm hN hs' hp hnp hks
  go_enter Try.func16, Try.ntmps16
  go_upto_region 1 with fail
  refine wp_letter (fun X => Mem w X (C ++ ((m, .cells #[.slice a n c] 30 (0, 0)) :: ((g, .cells #[.int .u8 k1, .int .u32 k2, .int .u16 k3, .int .u32 f4, .int .u16 f5, .int .u32 f6, .slice pa np pb, .int .i64 f7, .int .u32 f8] 39 (0, 0)) :: (D ++ L)))) ∧ Below W.heap.size W X) (by exact HM0.out) ?_
  intro V0 hM0
  try simp only [hg]
  have H0 : Hid (Mem w V0 (C ++ ((m, .cells #[.slice a n c] 30 (0, 0)) :: ((g, .cells #[.int .u8 k1, .int .u32 k2, .int .u16 k3, .int .u32 f4, .int .u16 f5, .int .u32 f6, .slice pa np pb, .int .i64 f7, .int .u32 f8] 39 (0, 0)) :: (D ++ L)))) ∧ Below W.heap.size W V0) := hM0
  clear HM0 hM0
  go_wp2_with fail
  go_loopw [5] (fun u5 w' => ∃ i : Nat, i ≤ n ∧ u5 = .int .i64 i ∧ Hid ((Mem w w' (C ++ ((m, .cells #[.slice a n c] 30 (0, 0)) :: ((g, .cells #[.int .u8 k1, .int .u32 k2, .int .u16 k3, .int .u32 f4, .int .u16 f5, .int .u32 f6, .slice pa np pb, .int .i64 f7, .int .u32 f8] 39 (0, 0)) :: (D ++ L)))) ∧ Below W.heap.size W w') ∧ ∀ x ∈ xs.take i, key x ≠ (k1, k2, k3))) (fun u5 w' => n - (intOf u5).toNat)
  case atStart => exact ⟨0, Nat.zero_le _, rfl, H0.out, fun d hd => by simp at hd⟩
  case round =>
    obtain ⟨i, hi, rfl, HI⟩ := hrel
    clear H0
    obtain ⟨⟨hMr, hBr⟩, hNo⟩ := HI.out
    have hMm := hMr.perm (List.perm_middle (l₁ := C))
    have km : wr.cell? ⟨m, 0, none⟩ = some (.slice a n c) := hMm.cell 0 rfl 0
    by_cases hlt : i < n
    · have j1 : (i : Int) < n := by omega
      have i1 : i < xs.length := by rw [HN.out]; exact hlt
      obtain ⟨pv, b, off, hab, hV⟩ := HX.out i i1
      obtain ⟨hB, -⟩ := hV _ hBr
      have hMk := hMr.perm (show List.Perm _ ((g, .cells #[.int .u8 k1, .int .u32 k2, .int .u16 k3, .int .u32 f4, .int .u16 f5, .int .u32 f6, .slice pa np pb, .int .i64 f7, .int .u32 f8] 39 (0, 0)) :: (C ++ ((m, .cells #[.slice a n c] 30 (0, 0)) :: (D ++ L)))) from by
        classical
        rw [List.perm_iff_count]
        intro q
        simp only [List.count_append, List.count_cons, List.count_nil]
        omega)
      obtain ⟨q0, q1, q2, q3, q4, q5, q6, q7, q8⟩ := bx_of 0 hMk rfl
      have t3 : wr.frozen? ⟨g, 3, none⟩ = false := hMk.free 0 rfl 3
      have t4 : wr.frozen? ⟨g, 4, none⟩ = false := hMk.free 0 rfl 4
      have HBN : Hid (key xs[i] ≠ (k1, k2, k3) → ∀ x ∈ xs.take (i + 1), key x ≠ (k1, k2, k3)) := fun e d hd => by
        rw [List.take_add_one, List.getElem?_eq_getElem i1] at hd
        rcases List.mem_append.1 hd with hd | hd
        · exact hNo d hd
        · simp at hd; subst hd; exact e
      have HMr : Hid (∀ q, Mem w (wr.drewN q) (C ++ ((m, .cells #[.slice a n c] 30 (0, 0)) :: ((g, .cells #[.int .u8 k1, .int .u32 k2, .int .u16 k3, .int .u32 f4, .int .u16 f5, .int .u32 f6, .slice pa np pb, .int .i64 f7, .int .u32 f8] 39 (0, 0)) :: (D ++ L)))) ∧ Below W.heap.size W (wr.drewN q)) := fun q => ⟨hMr.drewN q, below_drewN hBr q⟩
      have HPK : Hid (∀ q x4 x5, Mem w (((wr.drewN q).setCell ⟨g, 3, none⟩ (.int .u32 x4)).setCell ⟨g, 4, none⟩ (.int .u16 x5)) (C ++ ((m, .cells #[.slice a n c] 30 (0, 0)) :: ((g, .cells #[.int .u8 k1, .int .u32 k2, .int .u16 k3, .int .u32 x4, .int .u16 x5, .int .u32 f6, .slice pa np pb, .int .i64 f7, .int .u32 f8] 39 (0, 0)) :: (D ++ L)))) ∧ Below W.heap.size W (((wr.drewN q).setCell ⟨g, 3, none⟩ (.int .u32 x4)).setCell ⟨g, 4, none⟩ (.int .u16 x5))) := fun q x4 x5 => by
        have u1 := ((hMk.drewN q).set 0 rfl 3 (.int .u32 x4)).set 0 rfl 4 (.int .u16 x5)
        refine ⟨Mem.perm u1 (show List.Perm ((g, .cells #[.int .u8 k1, .int .u32 k2, .int .u16 k3, .int .u32 x4, .int .u16 x5, .int .u32 f6, .slice pa np pb, .int .i64 f7, .int .u32 f8] 39 (0, 0)) :: (C ++ ((m, .cells #[.slice a n c] 30 (0, 0)) :: (D ++ L)))) _ from by
          classical
          rw [List.perm_iff_count]
          intro q
          simp only [List.count_append, List.count_cons, List.count_nil]
          omega), ?_⟩
        exact ((below_drewN hBr q).setCell (by show W.heap.size ≤ g; rw [HG.out]; exact Nat.le_refl _) _).setCell (by show W.heap.size ≤ g; rw [HG.out]; exact Nat.le_refl _) _
      obtain ⟨d0, d1, d2, d3, d4, -⟩ := hB
      have heq := key_eq xs[i].pr xs[i].ip xs[i].port k1 k2 k3
      by_cases e1 : key xs[i] = (k1, k2, k3)
      · have he : (xs[i].pr == k1 && (xs[i].ip == k2 && xs[i].port == k3)) = true := by simp [key] at e1; simp [e1]
        rw [he] at heq
        obtain ⟨r1, r2⟩ := pt_at (s := s') i1 (by rw [HKS.out]; exact hNo) (by rw [HKS.out]; exact e1)
        have HE : Hid (R = true ∧ N = xs.set i ⟨k1, k2, k3, xs[i].oip, xs[i].op, f6, ps, f7, f8⟩) := ⟨by rw [← HR.out, r1]; rfl, by rw [← HNN.out, r2, ← HS'.out]⟩
        clear hMr hBr hNo hMm HI hV hMk HBN HX r1 r2 e1 he HMr
        generalize xs[i].pr = x1 at *
        generalize xs[i].ip = x2 at *
        generalize xs[i].port = x3 at *
        generalize xs[i].oip = x4 at *
        generalize xs[i].op = x5 at *
        subst hab
        go_wp2_with fail
        go_quiet (fail)
        go_upto_region 6 with fail
        refine wp_letter (fun X => Mem w X (C ++ ((m, .cells #[.slice (some ⟨b, off, none⟩) n c] 30 (0, 0)) :: ((g, .cells #[.int .u8 k1, .int .u32 k2, .int .u16 k3, .int .u32 x4, .int .u16 x5, .int .u32 f6, .slice pa np pb, .int .i64 f7, .int .u32 f8] 39 (0, 0)) :: (D ++ L)))) ∧ Below W.heap.size W X) (by exact HPK.out _ _ _) ?_
        rintro X ⟨hX, hXb⟩
        clear d0 d1 d2 d3 d4 q0 q1 q2 q3 q4 q5 q6 q7 q8 t3 t4 km heq HPK
        have hpX := HPR.out.below hXb (Nat.le_refl _)
        obtain ⟨qa, qc, V4, D1, hap, hM4, hS4, -⟩ := copy_pt hpX hX (by rw [HNP.out]; exact hps)
        rw [HNP.out] at hap hS4
        have hMk := hX.perm (show List.Perm _ ((g, .cells #[.int .u8 k1, .int .u32 k2, .int .u16 k3, .int .u32 x4, .int .u16 x5, .int .u32 f6, .slice pa np pb, .int .i64 f7, .int .u32 f8] 39 (0, 0)) :: (C ++ ((m, .cells #[.slice (some ⟨b, off, none⟩) n c] 30 (0, 0)) :: (D ++ L)))) from by
          classical
          rw [List.perm_iff_count]
          intro q
          simp only [List.count_append, List.count_cons, List.count_nil]
          omega)
        have y6 : X.cell? ⟨g, 6, none⟩ = some (.slice pa np pb) := hMk.cell 0 rfl 6
        have hM5 := hM4.perm (show List.Perm _ ((g, .cells #[.int .u8 k1, .int .u32 k2, .int .u16 k3, .int .u32 x4, .int .u16 x5, .int .u32 f6, .slice pa np pb, .int .i64 f7, .int .u32 f8] 39 (0, 0)) :: (C ++ ((m, .cells #[.slice (some ⟨b, off, none⟩) n c] 30 (0, 0)) :: (D1 ++ D ++ L)))) from by
          classical
          rw [List.perm_iff_count]
          intro q
          simp only [List.count_append, List.count_cons, List.count_nil]
          omega)
        have y7 : V4.cell? ⟨g, 6, none⟩ = some (.slice pa np pb) := hM5.cell 0 rfl 6
        have y8 : V4.frozen? ⟨g, 6, none⟩ = false := hM5.free 0 rfl 6
        have HM6 : Hid (Mem w (V4.setCell ⟨g, 6, none⟩ (.slice qa np qc)) ((g, .cells #[.int .u8 k1, .int .u32 k2, .int .u16 k3, .int .u32 x4, .int .u16 x5, .int .u32 f6, .slice qa np qc, .int .i64 f7, .int .u32 f8] 39 (0, 0)) :: (C ++ ((m, .cells #[.slice (some ⟨b, off, none⟩) n c] 30 (0, 0)) :: (D1 ++ D ++ L))))) := hM5.set 0 rfl 6 (.slice qa np qc)
        have HS4 : Hid (SlF 34 2 (.slice qa np qc) np (px ps).flatten D1) := hS4
        clear hX hXb hpX hM4 hM5 hMk hS4
        go_upto_region 7 with (first | (refine wpList_append_run (.const (.slice none 0 0)) (.tmp 36) 37 37 rfl hap rfl (by rfl) (by simp [Act.eval]) (by simp [Act.eval]) ?_) | fail)
        refine wp_letter (fun Y => Mem w Y ((g, .cells #[.int .u8 k1, .int .u32 k2, .int .u16 k3, .int .u32 x4, .int .u16 x5, .int .u32 f6, .slice qa np qc, .int .i64 f7, .int .u32 f8] 39 (0, 0)) :: (C ++ ((m, .cells #[.slice (some ⟨b, off, none⟩) n c] 30 (0, 0)) :: (D1 ++ D ++ L))))) (by exact HM6.out) ?_
        intro Y hY
        clear HM6 hap y6 y7 y8
        have hab : (some ⟨b, off, none⟩ : Option Addr) = some ⟨b, off, none⟩ := rfl
        obtain ⟨z1, z2, z3, z4⟩ := HZ.out
        have hxs := sx_nine (zs := zs)
        have hsl : (sx zs).length = n := by rw [sx_len]; exact z2
        have hS' : SlF 39 9 (.slice (some ⟨b, off, none⟩) (sx zs).length c) (sx zs).length (sx zs).flatten C := by rw [hsl]; exact z3
        have hYC := hY.perm (show List.Perm _ (C ++ ((g, .cells #[.int .u8 k1, .int .u32 k2, .int .u16 k3, .int .u32 x4, .int .u16 x5, .int .u32 f6, .slice qa np qc, .int .i64 f7, .int .u32 f8] 39 (0, 0)) :: ((m, .cells #[.slice (some ⟨b, off, none⟩) n c] 30 (0, 0)) :: (D1 ++ D ++ L)))) from by
          classical
          rw [List.perm_iff_count]
          intro q
          simp only [List.count_append, List.count_cons, List.count_nil]
          omega)
        obtain ⟨hth, C', hM7, hS7⟩ := slf_put hxs hS' hYC.drew (i := i) (by omega) (vs := [.int .u8 k1, .int .u32 k2, .int .u16 k3, .int .u32 x4, .int .u16 x5, .int .u32 f6, .slice qa np qc, .int .i64 f7, .int .u32 f8]) rfl
        have hYm := hY.drew.perm (show List.Perm _ (((m, .cells #[.slice (some ⟨b, off, none⟩) n c] 30 (0, 0))) :: ((g, .cells #[.int .u8 k1, .int .u32 k2, .int .u16 k3, .int .u32 x4, .int .u16 x5, .int .u32 f6, .slice qa np qc, .int .i64 f7, .int .u32 f8] 39 (0, 0)) :: (C ++ (D1 ++ D ++ L)))) from by
          classical
          rw [List.perm_iff_count]
          intro q
          simp only [List.count_append, List.count_cons, List.count_nil]
          omega)
        have HSS : Hid ((fun V : World => V.cell? ⟨m, 0, none⟩ = some (.slice (some ⟨b, off, none⟩) n c) ∧ V.cell? ⟨g, 0, none⟩ = some (.int .u8 k1) ∧ V.cell? ⟨g, 1, none⟩ = some (.int .u32 k2) ∧ V.cell? ⟨g, 2, none⟩ = some (.int .u16 k3) ∧ V.cell? ⟨g, 3, none⟩ = some (.int .u32 x4) ∧ V.cell? ⟨g, 4, none⟩ = some (.int .u16 x5) ∧ V.cell? ⟨g, 5, none⟩ = some (.int .u32 f6) ∧ V.cell? ⟨g, 6, none⟩ = some (.slice qa np qc) ∧ V.cell? ⟨g, 7, none⟩ = some (.int .i64 f7) ∧ V.cell? ⟨g, 8, none⟩ = some (.int .u32 f8)) Y.drew) := ⟨hYm.cell 0 rfl 0, bx_of 1 hYm rfl⟩
        have hM8 := hM7.perm (show List.Perm _ (((m, .cells #[.slice (some ⟨b, off, none⟩) n c] 30 (0, 0))) :: ((g, .cells #[.int .u8 k1, .int .u32 k2, .int .u16 k3, .int .u32 x4, .int .u16 x5, .int .u32 f6, .slice qa np qc, .int .i64 f7, .int .u32 f8] 39 (0, 0)) :: (C' ++ (D1 ++ D ++ L)))) from by
          classical
          rw [List.perm_iff_count]
          intro q
          simp only [List.count_append, List.count_cons, List.count_nil]
          omega)
        have HSE := (show Hid ((fun V : World => V.cell? ⟨m, 0, none⟩ = some (.slice (some ⟨b, off, none⟩) n c) ∧ V.cell? ⟨g, 0, none⟩ = some (.int .u8 k1) ∧ V.cell? ⟨g, 1, none⟩ = some (.int .u32 k2) ∧ V.cell? ⟨g, 2, none⟩ = some (.int .u16 k3) ∧ V.cell? ⟨g, 3, none⟩ = some (.int .u32 x4) ∧ V.cell? ⟨g, 4, none⟩ = some (.int .u16 x5) ∧ V.cell? ⟨g, 5, none⟩ = some (.int .u32 f6) ∧ V.cell? ⟨g, 6, none⟩ = some (.slice qa np qc) ∧ V.cell? ⟨g, 7, none⟩ = some (.int .i64 f7) ∧ V.cell? ⟨g, 8, none⟩ = some (.int .u32 f8)) _) from ⟨hM8.cell 0 rfl 0, bx_of 1 hM8 rfl⟩)
        have hM9 := (hM8.perm (List.Perm.swap ..)).sub
        have HQ := (show Hid (∃ B', RT N m B' ∧ Mem w _ (B' ++ L)) from by
          rw [HE.out.2]
          refine ⟨_, ⟨zs.set i (⟨k1, k2, k3, x4, x5, f6, ps, f7, f8⟩, .slice qa np qc), .slice (some ⟨b, off, none⟩) n c, C', D1 ++ D, ?_, ?_, rfl, fun z hz => ?_⟩, Mem.perm hM9 ?_⟩
          · rw [List.map_set, z1]
          · have hss : sx (zs.set i (⟨k1, k2, k3, x4, x5, f6, ps, f7, f8⟩, .slice qa np qc)) = (sx zs).set i [.int .u8 k1, .int .u32 k2, .int .u16 k3, .int .u32 x4, .int .u16 x5, .int .u32 f6, .slice qa np qc, .int .i64 f7, .int .u32 f8] := by
              unfold sx
              rw [List.map_set]
              rfl
            rw [hss, List.length_set, z2]
            rw [hsl] at hS7
            exact hS7
          · rcases List.mem_or_eq_of_mem_set hz with hz | rfl
            · exact (z4 z hz).mono fun q hq => List.mem_append_right _ hq
            · show SlF _ 2 _ ps.length _ _
              rw [HNP.out]
              exact HS4.out.mono fun q hq => List.mem_append_left _ hq
          · classical
            rw [List.perm_iff_count]
            intro q
            simp only [List.count_append, List.count_cons, List.count_nil]
            omega)
        have HRR : Hid (R = true) := HE.out.1
        clear HR HE HN HNN HZ HG HNP HPR HS' HKS HS4 hY hYC hYm hM7 hM8 hM9 hS7 hS' hxs hsl z1 z2 z3 z4 i1 hlt
        refine wp_region_held_drew (S := (fun V : World => V.cell? ⟨m, 0, none⟩ = some (.slice (some ⟨b, off, none⟩) n c) ∧ V.cell? ⟨g, 0, none⟩ = some (.int .u8 k1) ∧ V.cell? ⟨g, 1, none⟩ = some (.int .u32 k2) ∧ V.cell? ⟨g, 2, none⟩ = some (.int .u16 k3) ∧ V.cell? ⟨g, 3, none⟩ = some (.int .u32 x4) ∧ V.cell? ⟨g, 4, none⟩ = some (.int .u16 x5) ∧ V.cell? ⟨g, 5, none⟩ = some (.int .u32 f6) ∧ V.cell? ⟨g, 6, none⟩ = some (.slice qa np qc) ∧ V.cell? ⟨g, 7, none⟩ = some (.int .i64 f7) ∧ V.cell? ⟨g, 8, none⟩ = some (.int .u32 f8))) (by kernel_rfl) HSS.out (fun hHeld => ?_)
        refine wpAnyH_take (i := 0) (v := ?_) rfl (by kernel_rfl) (by kernel_rfl) (by kernel_rfl) (fun _ _ _ h => h) (Or.inl ⟨by rfl, ?ay0⟩) (by assumption) ?ar0
        case ay0 =>
          intro w hSw
          (try dsimp only at hSw)
          go_simp
          all_goals with_reducible rfl
        try simp only [List.getElem_toArray, List.getElem_cons_zero, List.getElem_cons_succ, Act.put, List.setIfInBounds_toArray, List.set_cons_zero, List.set_cons_succ]
        refine wpAnyH_take (i := 1) (v := ?_) rfl (by kernel_rfl) (by kernel_rfl) (by kernel_rfl) (fun _ _ _ h => h) (Or.inl ⟨by rfl, ?ay1⟩) (by assumption) ?ar1
        case ay1 =>
          intro w hSw
          (try dsimp only at hSw)
          go_simp
          all_goals with_reducible rfl
        try simp only [List.getElem_toArray, List.getElem_cons_zero, List.getElem_cons_succ, Act.put, List.setIfInBounds_toArray, List.set_cons_zero, List.set_cons_succ]
        refine wpAnyH_take (i := 2) (v := ?_) rfl (by kernel_rfl) (by kernel_rfl) (by kernel_rfl) (fun _ _ _ h => h) (Or.inl ⟨by rfl, ?ay2⟩) (by assumption) ?ar2
        case ay2 =>
          intro w hSw
          (try dsimp only at hSw)
          go_simp
          all_goals with_reducible rfl
        try simp only [List.getElem_toArray, List.getElem_cons_zero, List.getElem_cons_succ, Act.put, List.setIfInBounds_toArray, List.set_cons_zero, List.set_cons_succ]
        refine wpAnyH_take (i := 3) (v := ?_) rfl (by kernel_rfl) (by kernel_rfl) (by kernel_rfl) (fun _ _ _ h => h) (Or.inl ⟨by rfl, ?ay3⟩) (by assumption) ?ar3
        case ay3 =>
          intro w hSw
          (try dsimp only at hSw)
          go_simp
          all_goals with_reducible rfl
        try simp only [List.getElem_toArray, List.getElem_cons_zero, List.getElem_cons_succ, Act.put, List.setIfInBounds_toArray, List.set_cons_zero, List.set_cons_succ]
        refine wpAnyH_take (i := 4) (v := ?_) rfl (by kernel_rfl) (by kernel_rfl) (by kernel_rfl) (fun _ _ _ h => h) (Or.inl ⟨by rfl, ?ay4⟩) (by assumption) ?ar4
        case ay4 =>
          intro w hSw
          (try dsimp only at hSw)
          go_simp
          all_goals with_reducible rfl
        try simp only [List.getElem_toArray, List.getElem_cons_zero, List.getElem_cons_succ, Act.put, List.setIfInBounds_toArray, List.set_cons_zero, List.set_cons_succ]
        refine wpAnyH_take (i := 5) (v := ?_) rfl (by kernel_rfl) (by kernel_rfl) (by kernel_rfl) (fun _ _ _ h => h) (Or.inl ⟨by rfl, ?ay5⟩) (by assumption) ?ar5
        case ay5 =>
          intro w hSw
          (try dsimp only at hSw)
          go_simp
          all_goals with_reducible rfl
        try simp only [List.getElem_toArray, List.getElem_cons_zero, List.getElem_cons_succ, Act.put, List.setIfInBounds_toArray, List.set_cons_zero, List.set_cons_succ]
        refine wpAnyH_take (i := 6) (v := ?_) rfl (by kernel_rfl) (by kernel_rfl) (by kernel_rfl) (fun _ _ _ h => h) (Or.inl ⟨by rfl, ?ay6⟩) (by assumption) ?ar6
        case ay6 =>
          intro w hSw
          (try dsimp only at hSw)
          go_simp
          all_goals with_reducible rfl
        try simp only [List.getElem_toArray, List.getElem_cons_zero, List.getElem_cons_succ, Act.put, List.setIfInBounds_toArray, List.set_cons_zero, List.set_cons_succ]
        refine wpAnyH_ready (rs := [7]) (by kernel_rfl) (by simp) ?_
        refine AllReadyH.cons rfl (fun KK hK => ?_) AllReadyH.nil
        refine step_store_mid rfl 39 (.tmp 45) (.tmp 44) rfl b (off + i * 9) #[.int .u8 k1, .int .u32 k2, .int .u16 k3, .int .u32 x4, .int .u16 x5, .int .u32 f6, .slice qa np qc, .int .i64 f7, .int .u32 f8] (by simp [Act.eval]) (by simp [Act.eval]) hth (by kernel_rfl) (by simp [Value.oneCell']) ?_
        refine hK.out _ _ HSE.out (fun hHeld => ?_)
        clear hK KK
        try simp only [List.getElem_toArray, List.getElem_cons_zero, List.getElem_cons_succ, Act.put, List.setIfInBounds_toArray, List.set_cons_zero, List.set_cons_succ]
        refine wpAnyH_done (by kernel_rfl) ?_ _
        go_wp2_with fail
        go_ret
        exact ⟨by rw [HRR.out]; rfl, HQ.out⟩

      · have he : (xs[i].pr == k1 && (xs[i].ip == k2 && xs[i].port == k3)) = false := by
          rw [Bool.eq_false_iff]
          intro h
          simp at h
          exact e1 (by simp [key, h])
        rw [he] at heq
        have HNo : Hid (∀ x ∈ xs.take (i + 1), key x ≠ (k1, k2, k3)) := HBN.out e1
        clear hMr hBr hNo hMm HI hV hMk HBN HX e1 he HPK d3 d4 t3 t4 q3 q4 q5 q6 q7 q8
        generalize xs[i].pr = x1 at *
        generalize xs[i].ip = x2 at *
        generalize xs[i].port = x3 at *
        subst hab
        go_wp2_with fail
        go_quiet (fail)
        go_wp2_with fail
        go_roundw
        case rel => exact ⟨i + 1, by omega, by go_num, HMr.out _, HNo.out⟩
        case measure => simp [intOf]; omega
    · have j1 : ¬ ((i : Int) < n) := by omega
      obtain rfl : i = n := by omega
      obtain ⟨r1, r2⟩ := pt_no (s := s') fun x hx => by rw [HKS.out]; exact hNo x (by rw [← HN.out, List.take_length]; exact hx)
      have HQ : Hid (R = false ∧ ∃ B', RT N m B' ∧ Mem w wr (B' ++ L)) := by
        refine ⟨by rw [← HR.out, r1]; rfl, ?_⟩
        rw [← HNN.out, r2]
        obtain ⟨z1, z2, z3, z4⟩ := HZ.out
        refine ⟨_, ⟨zs, .slice a i c, C, D, z1, by rw [z2]; exact z3, rfl, z4⟩, ?_⟩
        have h7 := hMr.perm (show List.Perm _ ((g, .cells #[.int .u8 k1, .int .u32 k2, .int .u16 k3, .int .u32 f4, .int .u16 f5, .int .u32 f6, .slice pa np pb, .int .i64 f7, .int .u32 f8] 39 (0, 0)) :: ((m, .cells #[.slice a i c] 30 (0, 0)) :: (C ++ D) ++ L)) from by
          classical
          rw [List.perm_iff_count]
          intro q
          simp only [List.count_append, List.count_cons, List.count_nil]
          omega)
        exact h7.sub
      clear hMr hBr hNo hMm HI HX r1 r2 HZ
      go_wp2_with fail
      go_ret
      exact ⟨by rw [HQ.out.1]; rfl, HQ.out.2⟩
end Ss
end Go.Proofs.Ytgeeijinhneoiaa
