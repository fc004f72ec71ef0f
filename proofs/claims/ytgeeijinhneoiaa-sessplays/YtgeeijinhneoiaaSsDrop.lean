/-
  Sessions: the document's own table: Drop.
-/
import Derived.Test.YtgeeijinhneoiaaSsGen
namespace Go.Proofs.Ytgeeijinhneoiaa
open Go.RowKit
open Sm
open Po
open Wh
set_option linter.unusedVariables false
set_option linter.unusedSimpArgs false
set_option maxRecDepth 20000

namespace Ss
def dk (k : Ky) : List Sn → List Sn
  | [] => []
  | x :: r => if key x = k then r else x :: dk k r
theorem dk_at {k : Ky} : ∀ {xs : List Sn} {i : Nat} (hi : i < xs.length), (∀ x ∈ xs.take i, key x ≠ k) → key xs[i] = k → fk k xs = some xs[i] ∧ dk k xs = xs.take i ++ xs.drop (i + 1)
  | d :: r, 0, _, _, h => by
    have h' : key d = k := h
    simp [fk, dk, h']
  | d :: r, i + 1, hi, hn, h => by
    have h0 : key d ≠ k := hn d (by simp)
    obtain ⟨h1, h2⟩ := dk_at (k := k) (xs := r) (i := i) (by simpa using hi) (fun e he => hn e (by simp [he])) h
    simp [fk, dk, h0, h1, h2]
theorem dk_no {k : Ky} : ∀ {xs : List Sn}, (∀ x ∈ xs, key x ≠ k) → fk k xs = none ∧ dk k xs = xs
  | [], _ => ⟨rfl, rfl⟩
  | d :: r, hn => by
    have h0 : key d ≠ k := hn d (by simp)
    obtain ⟨h1, h2⟩ := dk_no (k := k) (xs := r) fun e he => hn e (by simp [he])
    simp [fk, dk, h0, h1, h2]
theorem dk_le (k : Ky) : ∀ xs : List Sn, (dk k xs).length ≤ xs.length
  | [] => Nat.le_refl _
  | d :: r => by
    unfold dk
    split
    · simp
    · have := dk_le k r
      simp only [List.length_cons]
      omega
set_option maxHeartbeats 8000000 in
theorem rsdrop_any {w W : World} {m : Nat} {xs : List Sn} {B L : List (Nat × Obj)} (h : RT xs m B) (hM : Mem w W (B ++ L)) (hn : xs.length ≤ 100000) (k : Ky) :
    Calls Try.prog 18 #[.pointer (some ⟨m, 0, none⟩), .agg #[.int .u8 k.1, .int .u32 k.2.1, .int .u16 k.2.2]] W fun e W' => e = .returned (.bool (fk k xs).isSome) ∧ ∃ B', RT (dk k xs) m B' ∧ Mem w W' (B' ++ L) := by
  obtain ⟨zs', a', c', ez', hc', hr', hp'⟩ := h.read hM
  obtain ⟨zs, v, C, D, ez, hS, rfl, hP⟩ := h
  have hlz : zs.length = xs.length := by rw [← ez, List.length_map]
  have hlz' : zs'.length = xs.length := by rw [← ez', List.length_map]
  obtain ⟨-, a, c, rfl, h1, h2, -, -⟩ := id hS
  have hcm : W.cell? ⟨m, 0, none⟩ = some (.slice a zs.length c) := hM.cell 0 rfl 0
  rw [hcm] at hc'
  simp only [Option.some.injEq, Value.slice.injEq] at hc'
  obtain ⟨rfl, -, rfl⟩ := hc'
  obtain ⟨-, hx⟩ := rt_at ez' hr' hp'
  obtain ⟨n, hnn⟩ : ∃ n, xs.length = n := ⟨_, rfl⟩
  rw [hnn] at hlz hn
  rw [hlz] at hM hS h1
  obtain ⟨k1, k2, k3⟩ := k
  simp only
  obtain ⟨R, hR⟩ : ∃ R, (fk (k1, k2, k3) xs).isSome = R := ⟨_, rfl⟩
  rw [hR]
  have HR : Hid ((fk (k1, k2, k3) xs).isSome = R) := hR
  have HX : Hid (∀ i (hi : i < xs.length), ∃ pv b off, a = some ⟨b, off, none⟩ ∧ ∀ V, Below W.heap.size W V → Bo V b (off + i * 9) xs[i] pv ∧ PR V pv xs[i].ps) := hx
  have HN : Hid (xs.length = n) := hnn
  have HZ : Hid (zs.map (·.1) = xs ∧ zs.length = n ∧ SlF 39 9 (.slice a n c) n (sx zs).flatten C ∧ ∀ z ∈ zs, SlF 34 2 z.2 z.1.ps.length (px z.1.ps).flatten D) := ⟨ez, hlz, hS, hP⟩
  have h2' : c ≤ 9223372036854775807 := by simp only [maxLen] at h2; omega
  obtain ⟨g, hg⟩ : ∃ g, W.heap.size = g := ⟨_, rfl⟩
  have HM0 : Hid (Mem w (W.alloc (.cells #[.int .u8 k1, .int .u32 k2, .int .u16 k3] 36)) (C ++ ((m, .cells #[.slice a n c] 30 (0, 0)) :: ((g, .cells #[.int .u8 k1, .int .u32 k2, .int .u16 k3] 36 (0, 0)) :: (D ++ L)))) ∧ Below W.heap.size W (W.alloc (.cells #[.int .u8 k1, .int .u32 k2, .int .u16 k3] 36))) := by
    refine ⟨(hM.push g _ hg.symm).perm ?_, (Below.refl _ _).alloc (Nat.le_refl _) _⟩
    classical
    rw [List.perm_iff_count]
    intro q
    simp only [List.count_append, List.count_cons, List.count_nil]
    omega
  clear hx hM h2 hS hP hR hnn ez ez' hr' hp' hlz hlz' hcm
  go_enter Try.func18, Try.ntmps18
  go_upto_region 1 with fail
  refine wp_letter (fun X => Mem w X (C ++ ((m, .cells #[.slice a n c] 30 (0, 0)) :: ((g, .cells #[.int .u8 k1, .int .u32 k2, .int .u16 k3] 36 (0, 0)) :: (D ++ L)))) ∧ Below W.heap.size W X) (by exact HM0.out) ?_
  intro V0 hM0
  try simp only [hg]
  have H0 : Hid (Mem w V0 (C ++ ((m, .cells #[.slice a n c] 30 (0, 0)) :: ((g, .cells #[.int .u8 k1, .int .u32 k2, .int .u16 k3] 36 (0, 0)) :: (D ++ L)))) ∧ Below W.heap.size W V0) := hM0
  clear HM0 hM0
  go_wp2_with fail
  go_loopw [5] (fun u5 w' => ∃ i : Nat, i ≤ n ∧ u5 = .int .i64 i ∧ Hid ((Mem w w' (C ++ ((m, .cells #[.slice a n c] 30 (0, 0)) :: ((g, .cells #[.int .u8 k1, .int .u32 k2, .int .u16 k3] 36 (0, 0)) :: (D ++ L)))) ∧ Below W.heap.size W w') ∧ ∀ x ∈ xs.take i, key x ≠ (k1, k2, k3))) (fun u5 w' => n - (intOf u5).toNat)
  case atStart => exact ⟨0, Nat.zero_le _, rfl, H0.out, fun d hd => by simp at hd⟩
  case round =>
    obtain ⟨i, hi, rfl, HI⟩ := hrel
    clear H0
    obtain ⟨⟨hMr, hBr⟩, hNo⟩ := HI.out
    have hMm := hMr.perm (List.perm_middle (l₁ := C))
    have km : wr.cell? ⟨m, 0, none⟩ = some (.slice a n c) := hMm.cell 0 rfl 0
    by_cases hlt : i < n
    · have j1 : (i : Int) < n := by omega
      have i1 : i < xs.length := by rw [HN.out]; exact hlt
      obtain ⟨pv, b, off, hab, hV⟩ := HX.out i i1
      obtain ⟨hB, -⟩ := hV _ hBr
      have hMk := hMr.perm (show List.Perm _ ((g, .cells #[.int .u8 k1, .int .u32 k2, .int .u16 k3] 36 (0, 0)) :: (C ++ ((m, .cells #[.slice a n c] 30 (0, 0)) :: (D ++ L)))) by
        classical
        rw [List.perm_iff_count]
        intro q
        simp only [List.count_append, List.count_cons]
        omega)
      have q0 : wr.cell? ⟨g, 0, none⟩ = some (.int .u8 k1) := hMk.cell 0 rfl 0
      have q1 : wr.cell? ⟨g, 1, none⟩ = some (.int .u32 k2) := hMk.cell 0 rfl 1
      have q2 : wr.cell? ⟨g, 2, none⟩ = some (.int .u16 k3) := hMk.cell 0 rfl 2
      have HBN : Hid (key xs[i] ≠ (k1, k2, k3) → ∀ x ∈ xs.take (i + 1), key x ≠ (k1, k2, k3)) := fun e d hd => by
        rw [List.take_add_one, List.getElem?_eq_getElem i1] at hd
        rcases List.mem_append.1 hd with hd | hd
        · exact hNo d hd
        · simp at hd; subst hd; exact e
      have HMr : Hid (∀ q, Mem w (wr.drewN q) (C ++ ((m, .cells #[.slice a n c] 30 (0, 0)) :: ((g, .cells #[.int .u8 k1, .int .u32 k2, .int .u16 k3] 36 (0, 0)) :: (D ++ L)))) ∧ Below W.heap.size W (wr.drewN q)) := fun q => ⟨hMr.drewN q, below_drewN hBr q⟩
      obtain ⟨d0, d1, d2, -⟩ := hB
      have heq := key_eq xs[i].pr xs[i].ip xs[i].port k1 k2 k3
      by_cases e1 : key xs[i] = (k1, k2, k3)
      · have he : (xs[i].pr == k1 && (xs[i].ip == k2 && xs[i].port == k3)) = true := by simp [key] at e1; simp [e1]
        rw [he] at heq
        obtain ⟨r1, r2⟩ := dk_at i1 hNo e1
        have HE : Hid (R = true ∧ dk (k1, k2, k3) xs = xs.take i ++ xs.drop (i + 1)) := ⟨by rw [← HR.out, r1]; rfl, r2⟩
        clear hMr hBr hNo hMm HI hV hMk HBN HX r1 r2 e1 he
        generalize xs[i].pr = x1 at *
        generalize xs[i].ip = x2 at *
        generalize xs[i].port = x3 at *
        subst hab
        go_wp2_with fail
        go_quiet (fail)
        go_upto_region 5 with fail
        refine wp_letter (fun X => Mem w X (C ++ ((m, .cells #[.slice (some ⟨b, off, none⟩) n c] 30 (0, 0)) :: ((g, .cells #[.int .u8 k1, .int .u32 k2, .int .u16 k3] 36 (0, 0)) :: (D ++ L)))) ∧ Below W.heap.size W X) (by exact HMr.out _) ?_
        rintro X ⟨hX, -⟩
        clear d0 d1 d2 q0 q1 q2 km heq
        have hab : (some ⟨b, off, none⟩ : Option Addr) = some ⟨b, off, none⟩ := rfl
        obtain ⟨a, ha⟩ : ∃ a : Option Addr, some ⟨b, off, none⟩ = a := ⟨_, rfl⟩
        obtain ⟨z1, z2, z3, z4⟩ := HZ.out
        have hxs := sx_nine (zs := zs)
        have hsl : (sx zs).length = n := by rw [sx_len]; exact z2
        have s1 := fun V => sslice_ii V (some ⟨b, off, none⟩) n c i (by omega)
        have s2 := fun V => sslice_from V (some ⟨b, off, none⟩) n c (i + 1) (by omega)
        have s2' : ∀ V : World, (Instr.slice 28 (.slice (some ⟨b, off, none⟩) n c) (some (.int .i64 ((i : Int) + 1))) none none).run Try.prog V = .ok (.slice (if c = i + 1 then (some ⟨b, off, none⟩) else (some (⟨b, off, none⟩ : Addr)).map (·.add ((i + 1) * 9))) (n - (i + 1)) (c - (i + 1))) V := fun V => by
          have := s2 V
          rwa [show ((i + 1 : Nat) : Int) = (i : Int) + 1 by omega] at this
        have hw : IntKind.i64.wrap ((i : Int) + 1) = (i : Int) + 1 := by rw [IntKind.wrap_i64]; omega
        have hS' : SlF 39 9 (.slice (some ⟨b, off, none⟩) (sx zs).length c) (sx zs).length (sx zs).flatten C := by rw [hsl]; exact z3
        have hii := gf_ii hxs hS' (i := i) (by omega)
        have hff := gf_from hxs hS' (k := i + 1) (by omega)
        have el : ((sx zs).drop (i + 1)).length = n - (i + 1) := by rw [List.length_drop, hsl]
        have el2 : ((sx zs).take i).length = i := by rw [List.length_take]; omega
        rw [hsl] at hff
        obtain ⟨qa, qc, V4, C', hrun, hM4, hs4, hb4, -⟩ := gf_join (t := 28) (ty := 28) Try.underlying28 infoSs (by kernel_rfl) (by omega) (fun x hx => hxs x (List.mem_of_mem_take hx)) (fun x hx => hxs x (List.mem_of_mem_drop hx)) (xs := (sx zs).take i) (ys := (sx zs).drop (i + 1)) (by rw [el2]; exact hii) (by rw [el]; exact hff) hX.drew (by rw [el, el2]; omega)
        rw [el, el2] at hrun
        have hsj : (sx zs).take i ++ (sx zs).drop (i + 1) = sx (zs.take i ++ zs.drop (i + 1)) := by unfold sx; rw [List.map_append, List.map_take, List.map_drop]
        rw [hsj] at hrun hs4
        have hM5 := hM4.perm (List.perm_middle (l₁ := C'))
        have hM6 := hM5.set 0 rfl 0 (.slice qa (sx (zs.take i ++ zs.drop (i + 1))).length qc)
        have c4 : V4.cell? ⟨m, 0, none⟩ = some (.slice (some ⟨b, off, none⟩) n c) := hM5.cell 0 rfl 0
        have f4 : V4.frozen? ⟨m, 0, none⟩ = false := hM5.free 0 rfl 0
        have c5 : X.cell? ⟨m, 0, none⟩ = some (.slice (some ⟨b, off, none⟩) n c) := (hX.perm (List.perm_middle (l₁ := C))).cell 0 rfl 0
        have HQ : Hid (∃ B', RT (dk (k1, k2, k3) xs) m B' ∧ Mem w (V4.setCell ⟨m, 0, none⟩ (.slice qa (sx (zs.take i ++ zs.drop (i + 1))).length qc)) (B' ++ L)) := by
          rw [HE.out.2]
          refine ⟨_, ⟨zs.take i ++ zs.drop (i + 1), .slice qa (sx (zs.take i ++ zs.drop (i + 1))).length qc, C', D, ?_, by rw [sx_len] at hs4 ⊢; exact hs4, rfl, fun z hz => z4 z ?_⟩, ?_⟩
          · rw [List.map_append, List.map_take, List.map_drop, z1]
          · rcases List.mem_append.1 hz with hz | hz
            · exact List.mem_of_mem_take hz
            · exact List.mem_of_mem_drop hz
          · have h7 := hM6.perm (show List.Perm _ ((g, .cells #[.int .u8 k1, .int .u32 k2, .int .u16 k3] 36 (0, 0)) :: ((m, .cells #[.slice qa (sx (zs.take i ++ zs.drop (i + 1))).length qc] 30 (0, 0)) :: (C' ++ D) ++ L)) by
              classical
              rw [List.perm_iff_count]
              intro q
              simp only [List.count_append, List.count_cons, List.set_cons_zero, Array.setIfInBounds]
              simp
              omega)
            exact h7.sub
        have HRR : Hid (R = true) := HE.out.1
        clear HR HE HN HZ hM4 hM5 hM6 hs4 hb4 hii hff s2 hS' hsj hX HMr el el2 z1 z2 z3 z4 hsl hxs hab ha
        generalize (sx (zs.take i ++ zs.drop (i + 1))).length = N at *
        obtain ⟨a2, ha2⟩ : ∃ x, (if c = i + 1 then (some (⟨b, off, none⟩ : Addr)) else (some (⟨b, off, none⟩ : Addr)).map (·.add ((i + 1) * 9))) = x := ⟨_, rfl⟩
        rw [ha2] at s2' hrun
        clear ha2
        generalize n - (i + 1) = N1 at *
        generalize c - (i + 1) = N2 at *
        refine wp_region_held_drew (S := fun _ => True) (by kernel_rfl) trivial (fun hHeld => ?_)
        refine wpAnyH_take (i := 0) (v := ?_) rfl (by kernel_rfl) (by kernel_rfl) (by kernel_rfl) (fun _ _ _ h => h) (Or.inl ⟨by rfl, ?ay0⟩) (by assumption) ?ar0
        case ay0 =>
          intro w hSw
          (try dsimp only at hSw)
          go_simp
          all_goals with_reducible rfl
        try simp only [List.getElem_toArray, List.getElem_cons_zero, List.getElem_cons_succ, Act.put, List.setIfInBounds_toArray, List.set_cons_zero, List.set_cons_succ]
        refine wpAnyH_take (i := 1) (v := ?_) rfl (by kernel_rfl) (by kernel_rfl) (by kernel_rfl) (fun _ _ _ h => h) (Or.inl ⟨by rfl, ?ay1⟩) (by assumption) ?ar1
        case ay1 =>
          intro w hSw
          (try dsimp only at hSw)
          go_simp
          all_goals with_reducible rfl
        try simp only [List.getElem_toArray, List.getElem_cons_zero, List.getElem_cons_succ, Act.put, List.setIfInBounds_toArray, List.set_cons_zero, List.set_cons_succ]
        refine wpAnyH_take (i := 2) (v := ?_) rfl (by kernel_rfl) (by kernel_rfl) (by kernel_rfl) (fun _ _ _ h => h) (Or.inl ⟨by rfl, ?ay2⟩) (by assumption) ?ar2
        case ay2 =>
          intro w hSw
          (try dsimp only at hSw)
          go_simp
          all_goals with_reducible rfl
        try simp only [List.getElem_toArray, List.getElem_cons_zero, List.getElem_cons_succ, Act.put, List.setIfInBounds_toArray, List.set_cons_zero, List.set_cons_succ]
        refine wpAnyH_take (i := 3) (v := ?_) rfl (by kernel_rfl) (by kernel_rfl) (by kernel_rfl) (fun _ _ _ h => h) (Or.inl ⟨by rfl, ?ay3⟩) (by assumption) ?ar3
        case ay3 =>
          intro w hSw
          (try dsimp only at hSw)
          go_simp
          all_goals with_reducible rfl
        try simp only [List.getElem_toArray, List.getElem_cons_zero, List.getElem_cons_succ, Act.put, List.setIfInBounds_toArray, List.set_cons_zero, List.set_cons_succ]
        refine wpAnyH_take (i := 5) (v := ?_) rfl (by kernel_rfl) (by kernel_rfl) (by kernel_rfl) (fun _ _ _ h => h) (Or.inl ⟨by rfl, ?ay5⟩) (by assumption) ?ar5
        case ay5 =>
          intro w hSw
          (try dsimp only at hSw)
          go_simp
          all_goals with_reducible rfl
        try simp only [List.getElem_toArray, List.getElem_cons_zero, List.getElem_cons_succ, Act.put, List.setIfInBounds_toArray, List.set_cons_zero, List.set_cons_succ]
        refine wpAnyH_take (i := 6) (v := ?_) rfl (by kernel_rfl) (by kernel_rfl) (by kernel_rfl) (fun _ _ _ h => h) (Or.inl ⟨by rfl, ?ay6⟩) (by assumption) ?ar6
        case ay6 =>
          intro w hSw
          (try dsimp only at hSw)
          go_simp
          all_goals with_reducible rfl
        try simp only [List.getElem_toArray, List.getElem_cons_zero, List.getElem_cons_succ, Act.put, List.setIfInBounds_toArray, List.set_cons_zero, List.set_cons_succ]
        refine wpAnyH_take (i := 8) (v := ?_) rfl (by kernel_rfl) (by kernel_rfl) (by kernel_rfl) (fun _ _ _ h => h) (Or.inl ⟨by rfl, ?ay8⟩) (by assumption) ?ar8
        case ay8 =>
          intro w hSw
          (try dsimp only at hSw)
          go_simp
          all_goals with_reducible rfl
        try simp only [List.getElem_toArray, List.getElem_cons_zero, List.getElem_cons_succ, Act.put, List.setIfInBounds_toArray, List.set_cons_zero, List.set_cons_succ]
        refine wpAnyH_take (i := 9) (v := ?_) rfl (by kernel_rfl) (by kernel_rfl) (by kernel_rfl) (fun _ _ _ h => h) (Or.inl ⟨by rfl, ?ay9⟩) (by assumption) ?ar9
        case ay9 =>
          intro w hSw
          (try dsimp only at hSw)
          go_simp
          all_goals with_reducible rfl
        try simp only [List.getElem_toArray, List.getElem_cons_zero, List.getElem_cons_succ, Act.put, List.setIfInBounds_toArray, List.set_cons_zero, List.set_cons_succ]
        refine wpAnyH_take (i := 10) (v := ?_) rfl (by kernel_rfl) (by kernel_rfl) (by kernel_rfl) (fun _ _ _ h => h) (Or.inl ⟨by rfl, ?ay10⟩) (by assumption) ?ar10
        case ay10 =>
          intro w hSw
          (try dsimp only at hSw)
          go_simp
          all_goals with_reducible rfl
        try simp only [List.getElem_toArray, List.getElem_cons_zero, List.getElem_cons_succ, Act.put, List.setIfInBounds_toArray, List.set_cons_zero, List.set_cons_succ]
        refine wpAnyH_take (i := 12) (v := ?_) rfl (by kernel_rfl) (by kernel_rfl) (by kernel_rfl) (fun _ _ _ h => h) (Or.inl ⟨by rfl, ?ay12⟩) (by assumption) ?ar12
        case ay12 =>
          intro w hSw
          (try dsimp only at hSw)
          go_simp
          all_goals with_reducible rfl
        try simp only [List.getElem_toArray, List.getElem_cons_zero, List.getElem_cons_succ, Act.put, List.setIfInBounds_toArray, List.set_cons_zero, List.set_cons_succ]
        refine wpAnyH_take (i := 13) (v := ?_) rfl (by kernel_rfl) (by kernel_rfl) (by kernel_rfl) (fun _ _ _ h => h) (Or.inl ⟨by rfl, ?ay13⟩) (by assumption) ?ar13
        case ay13 =>
          intro w hSw
          (try dsimp only at hSw)
          go_simp
          all_goals with_reducible rfl
        try simp only [List.getElem_toArray, List.getElem_cons_zero, List.getElem_cons_succ, Act.put, List.setIfInBounds_toArray, List.set_cons_zero, List.set_cons_succ]
        refine wpAnyH_ready (rs := [4, 11]) (by kernel_rfl) (by simp) ?_
        refine AllReadyH.cons rfl (fun KK hK => ?_) (AllReadyH.cons rfl (fun KK hK => ?_) AllReadyH.nil)
        · go_simp
          refine hK.out _ _ trivial (fun hHeld => ?_)
          clear hK KK
          try simp only [List.getElem_toArray, List.getElem_cons_zero, List.getElem_cons_succ, Act.put, List.setIfInBounds_toArray, List.set_cons_zero, List.set_cons_succ]
          refine wpAnyH_take (i := 7) (v := ?_) rfl (by kernel_rfl) (by kernel_rfl) (by kernel_rfl) (fun _ _ _ h => h) (Or.inl ⟨by rfl, ?bsy7⟩) (by assumption) ?bsr7
          case bsy7 =>
            intro w hSw
            (try dsimp only at hSw)
            go_simp
            all_goals with_reducible rfl
          try simp only [List.getElem_toArray, List.getElem_cons_zero, List.getElem_cons_succ, Act.put, List.setIfInBounds_toArray, List.set_cons_zero, List.set_cons_succ]
          refine wpAnyH_ready (rs := [11]) (by kernel_rfl) (by simp) ?_
          refine AllReadyH.cons rfl (fun KK hK => ?_) AllReadyH.nil
          go_simp
          refine hK.out _ _ trivial (fun hHeld => ?_)
          clear hK KK
          try simp only [List.getElem_toArray, List.getElem_cons_zero, List.getElem_cons_succ, Act.put, List.setIfInBounds_toArray, List.set_cons_zero, List.set_cons_succ]
          refine wpAnyH_take (i := 14) (v := ?_) rfl (by kernel_rfl) (by kernel_rfl) (by kernel_rfl) (fun _ _ _ h => h) (Or.inl ⟨by rfl, ?bty14⟩) (by assumption) ?btr14
          case bty14 =>
            intro w hSw
            (try dsimp only at hSw)
            go_simp
            all_goals with_reducible rfl
          try simp only [List.getElem_toArray, List.getElem_cons_zero, List.getElem_cons_succ, Act.put, List.setIfInBounds_toArray, List.set_cons_zero, List.set_cons_succ]
          refine wpAnyH_ready (rs := [15]) (by kernel_rfl) (by simp) ?_
          refine AllReadyH.cons rfl (fun KK hK => ?_) AllReadyH.nil
          refine step_app (ty := 28) rfl (.tmp 32) (.tmp 39) 28 28 rfl (by simp [Act.eval]) (by simp [Act.eval]) hrun rfl ?_
          refine hK.out _ _ trivial (fun hHeld => ?_)
          clear hK KK
          try simp only [List.getElem_toArray, List.getElem_cons_zero, List.getElem_cons_succ, Act.put, List.setIfInBounds_toArray, List.set_cons_zero, List.set_cons_succ]
          refine wpAnyH_take (i := 16) (v := ?_) rfl (by kernel_rfl) (by kernel_rfl) (by kernel_rfl) (fun _ _ _ h => h) (Or.inl ⟨by rfl, ?bzy16⟩) (by assumption) ?bzr16
          case bzy16 =>
            intro w hSw
            (try dsimp only at hSw)
            go_simp
            all_goals with_reducible rfl
          try simp only [List.getElem_toArray, List.getElem_cons_zero, List.getElem_cons_succ, Act.put, List.setIfInBounds_toArray, List.set_cons_zero, List.set_cons_succ]
          refine wpAnyH_take (i := 17) (v := ?_) rfl (by kernel_rfl) (by kernel_rfl) (by kernel_rfl) (fun _ _ _ h => h) (Or.inl ⟨by rfl, ?bzy17⟩) (by assumption) ?bzr17
          case bzy17 =>
            intro w hSw
            (try dsimp only at hSw)
            go_simp
            all_goals with_reducible rfl
          try simp only [List.getElem_toArray, List.getElem_cons_zero, List.getElem_cons_succ, Act.put, List.setIfInBounds_toArray, List.set_cons_zero, List.set_cons_succ]
          refine wpAnyH_ready (rs := [18]) (by kernel_rfl) (by simp) ?_
          refine AllReadyH.cons rfl (fun KK hK => ?_) AllReadyH.nil
          go_simp
          refine hK.out _ _ trivial (fun hHeld => ?_)
          clear hK KK
          try simp only [List.getElem_toArray, List.getElem_cons_zero, List.getElem_cons_succ, Act.put, List.setIfInBounds_toArray, List.set_cons_zero, List.set_cons_succ]
          refine wpAnyH_done (by kernel_rfl) ?_ _
          go_wp2_with fail
          go_ret
          exact ⟨by rw [HRR.out]; rfl, HQ.out⟩
        · go_simp
          refine hK.out _ _ trivial (fun hHeld => ?_)
          clear hK KK
          try simp only [List.getElem_toArray, List.getElem_cons_zero, List.getElem_cons_succ, Act.put, List.setIfInBounds_toArray, List.set_cons_zero, List.set_cons_succ]
          refine wpAnyH_take (i := 14) (v := ?_) rfl (by kernel_rfl) (by kernel_rfl) (by kernel_rfl) (fun _ _ _ h => h) (Or.inl ⟨by rfl, ?csy14⟩) (by assumption) ?csr14
          case csy14 =>
            intro w hSw
            (try dsimp only at hSw)
            go_simp
            all_goals with_reducible rfl
          try simp only [List.getElem_toArray, List.getElem_cons_zero, List.getElem_cons_succ, Act.put, List.setIfInBounds_toArray, List.set_cons_zero, List.set_cons_succ]
          refine wpAnyH_ready (rs := [4]) (by kernel_rfl) (by simp) ?_
          refine AllReadyH.cons rfl (fun KK hK => ?_) AllReadyH.nil
          go_simp
          refine hK.out _ _ trivial (fun hHeld => ?_)
          clear hK KK
          try simp only [List.getElem_toArray, List.getElem_cons_zero, List.getElem_cons_succ, Act.put, List.setIfInBounds_toArray, List.set_cons_zero, List.set_cons_succ]
          refine wpAnyH_take (i := 7) (v := ?_) rfl (by kernel_rfl) (by kernel_rfl) (by kernel_rfl) (fun _ _ _ h => h) (Or.inl ⟨by rfl, ?cty7⟩) (by assumption) ?ctr7
          case cty7 =>
            intro w hSw
            (try dsimp only at hSw)
            go_simp
            all_goals with_reducible rfl
          try simp only [List.getElem_toArray, List.getElem_cons_zero, List.getElem_cons_succ, Act.put, List.setIfInBounds_toArray, List.set_cons_zero, List.set_cons_succ]
          refine wpAnyH_ready (rs := [15]) (by kernel_rfl) (by simp) ?_
          refine AllReadyH.cons rfl (fun KK hK => ?_) AllReadyH.nil
          refine step_app (ty := 28) rfl (.tmp 32) (.tmp 39) 28 28 rfl (by simp [Act.eval]) (by simp [Act.eval]) hrun rfl ?_
          refine hK.out _ _ trivial (fun hHeld => ?_)
          clear hK KK
          try simp only [List.getElem_toArray, List.getElem_cons_zero, List.getElem_cons_succ, Act.put, List.setIfInBounds_toArray, List.set_cons_zero, List.set_cons_succ]
          refine wpAnyH_take (i := 16) (v := ?_) rfl (by kernel_rfl) (by kernel_rfl) (by kernel_rfl) (fun _ _ _ h => h) (Or.inl ⟨by rfl, ?czy16⟩) (by assumption) ?czr16
          case czy16 =>
            intro w hSw
            (try dsimp only at hSw)
            go_simp
            all_goals with_reducible rfl
          try simp only [List.getElem_toArray, List.getElem_cons_zero, List.getElem_cons_succ, Act.put, List.setIfInBounds_toArray, List.set_cons_zero, List.set_cons_succ]
          refine wpAnyH_take (i := 17) (v := ?_) rfl (by kernel_rfl) (by kernel_rfl) (by kernel_rfl) (fun _ _ _ h => h) (Or.inl ⟨by rfl, ?czy17⟩) (by assumption) ?czr17
          case czy17 =>
            intro w hSw
            (try dsimp only at hSw)
            go_simp
            all_goals with_reducible rfl
          try simp only [List.getElem_toArray, List.getElem_cons_zero, List.getElem_cons_succ, Act.put, List.setIfInBounds_toArray, List.set_cons_zero, List.set_cons_succ]
          refine wpAnyH_ready (rs := [18]) (by kernel_rfl) (by simp) ?_
          refine AllReadyH.cons rfl (fun KK hK => ?_) AllReadyH.nil
          go_simp
          refine hK.out _ _ trivial (fun hHeld => ?_)
          clear hK KK
          try simp only [List.getElem_toArray, List.getElem_cons_zero, List.getElem_cons_succ, Act.put, List.setIfInBounds_toArray, List.set_cons_zero, List.set_cons_succ]
          refine wpAnyH_done (by kernel_rfl) ?_ _
          go_wp2_with fail
          go_ret
          exact ⟨by rw [HRR.out]; rfl, HQ.out⟩
      · have he : (xs[i].pr == k1 && (xs[i].ip == k2 && xs[i].port == k3)) = false := by
          rw [Bool.eq_false_iff]
          intro h
          simp at h
          exact e1 (by simp [key, h])
        rw [he] at heq
        have HNo : Hid (∀ x ∈ xs.take (i + 1), key x ≠ (k1, k2, k3)) := HBN.out e1
        clear hMr hBr hNo hMm HI hV hMk HBN HX e1 he
        generalize xs[i].pr = x1 at *
        generalize xs[i].ip = x2 at *
        generalize xs[i].port = x3 at *
        subst hab
        go_wp2_with fail
        go_quiet (fail)
        go_wp2_with fail
        go_roundw
        case rel => exact ⟨i + 1, by omega, by go_num, HMr.out _, HNo.out⟩
        case measure => simp [intOf]; omega
    · have j1 : ¬ ((i : Int) < n) := by omega
      obtain rfl : i = n := by omega
      obtain ⟨r1, r2⟩ := dk_no (k := (k1, k2, k3)) fun x hx => hNo x (by rw [← HN.out, List.take_length]; exact hx)
      have HQ : Hid (R = false ∧ ∃ B', RT (dk (k1, k2, k3) xs) m B' ∧ Mem w wr (B' ++ L)) := by
        refine ⟨by rw [← HR.out, r1]; rfl, ?_⟩
        rw [r2]
        obtain ⟨z1, z2, z3, z4⟩ := HZ.out
        refine ⟨_, ⟨zs, .slice a i c, C, D, z1, by rw [z2]; exact z3, rfl, z4⟩, ?_⟩
        have h7 := hMr.perm (show List.Perm _ ((g, .cells #[.int .u8 k1, .int .u32 k2, .int .u16 k3] 36 (0, 0)) :: ((m, .cells #[.slice a i c] 30 (0, 0)) :: (C ++ D) ++ L)) by
          classical
          rw [List.perm_iff_count]
          intro q
          simp only [List.count_append, List.count_cons]
          omega)
        exact h7.sub
      clear hMr hBr hNo hMm HI HX r1 r2 HZ
      go_wp2_with fail
      go_ret
      exact ⟨by rw [HQ.out.1]; rfl, HQ.out.2⟩
end Ss
end Go.Proofs.Ytgeeijinhneoiaa
