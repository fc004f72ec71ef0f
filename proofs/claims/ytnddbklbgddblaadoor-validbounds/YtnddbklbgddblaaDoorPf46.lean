/-
  The statements' seat of settings: its settings, block by block.
-/
import Derived.Test.YtnddbklbgddblaaDoorPf43
import Derived.Test.YtnddbklbgddblaaDoorPf45
namespace Go.Proofs.YtnddbklbgddblaaDoor
open Go.RowKit
open La
open Ad
open Va
open Sm (IsBytes)
set_option linter.unusedVariables false
set_option linter.unusedSimpArgs false
set_option maxRecDepth 20000

abbrev Ty := Tv × List (Nat × Obj)
/-- Settings in box gc, their tenants the value u, beside a box of noughts; each tenant's lists in blocks of its own. -/
def Cx (w V : World) (gc g4 : Nat) (c : Cgf) (u : Value) : Prop := ∃ (ys : List Ty) (B : List (Nat × Obj)), ys.map (fun y => y.1.1) = c.ten ∧ OwB 39 33 u ys.length (ys.map (fun y => zc y.1)).flatten B ∧ (∀ y ∈ ys, ZX y.1 y.2) ∧ CLen c ∧ Mem w V ((gc, .cells (cc c u).toArray 28 (0, 0)) :: (g4, .cells cz 28 (0, 0)) :: (B ++ ys.flatMap (·.2)))
theorem Cx.after {w V V' : World} {gc g4 : Nat} {c : Cgf} {u : Value} (h : Cx w V gc g4 c u) (hb : Below V.heap.size V V') : Cx w V' gc g4 c u := by
  obtain ⟨ys, B, h1, h2, h3, h4, h5⟩ := h; exact ⟨ys, B, h1, h2, h3, h4, h5.after hb⟩
theorem Cx.below {w V : World} {gc g4 : Nat} {c : Cgf} {u : Value} (h : Cx w V gc g4 c u) : Below w.heap.size w V := by
  obtain ⟨ys, B, h1, h2, h3, h4, h5⟩ := h; exact h5.below
theorem Cx.cell {w V : World} {gc g4 : Nat} {c : Cgf} {u : Value} (h : Cx w V gc g4 c u) : V.cell? ⟨gc, 28, none⟩ = some u := by
  obtain ⟨ys, B, h1, h2, h3, h4, h5⟩ := h; exact (h5.cell 0 rfl 28).trans (cc_at28 h4 u)
theorem Cx.sl {w V : World} {gc g4 : Nat} {c : Cgf} {u : Value} (h : Cx w V gc g4 c u) : ∃ a m c', u = .slice a m c' := by
  obtain ⟨ys, B, h1, h2, h3, h4, h5⟩ := h; exact owb_slice h2
theorem cx_more {w X X' : World} {gc g4 : Nat} {c : Cgf} {u : Value} {t : Ten} {p s q : Value} {C' : List (Nat × Obj)} (h : Cx w X gc g4 c u) (hn : c.ten.length ≤ 900000) (hz : ZX (t, p, s, q) C') (hM' : Mem X X' C') {A : Array Value} (hA : (tc t p s q).toArray = A) (hon : A.all (·.oneCell') = true) :
    ∃ v4 V4, (Builtin.append_ #[26, 26] 26 #[u, .slice (some ⟨X'.heap.size, 0, none⟩) 1 1]).run Tryd.prog (X'.alloc (.cells A 39)) = .ok v4 V4 ∧ (∃ a m c, v4 = .slice a m c) ∧ (∃ v0, V4.cell? ⟨gc, 28, none⟩ = some v0) ∧ (∀ j, V4.frozen? ⟨gc, j, none⟩ = false) ∧ Below w.heap.size w V4 ∧ Below w.heap.size w (V4.setCell ⟨gc, 28, none⟩ v4) ∧
      Cx w (V4.setCell ⟨gc, 28, none⟩ v4) gc g4 { c with ten := c.ten ++ [t] } v4 := by
  obtain ⟨ys, B, ez, hB, hzs, hcl, hM⟩ := h
  have hl := hz.1
  have hzl : ys.length = c.ten.length := by rw [← ez, List.length_map]
  have hM2 := (hM.join hM').after ((Below.refl X'.heap.size X').alloc (Nat.le_refl _) (.cells A 39 (0, 0)))
  have hon2 : ∀ v ∈ tc t p s q, v.oneCell' = true := by
    rw [← hA, Array.all_eq_true_iff_forall_mem] at hon
    intro v hv
    exact hon v (by simpa using hv)
  obtain ⟨v4, V4, B4, hrun, hM4, hB4⟩ := mem_append (t := 26) (ty := 26) Tryd.underlying26 infoT (by kernel_rfl) (by omega) (K := (gc, .cells (cc c u).toArray 28 (0, 0)) :: (g4, .cells cz 28 (0, 0)) :: (ys.flatMap (·.2) ++ C')) (hM2.perm (by
    classical
    rw [List.perm_iff_count]
    intro z
    simp only [List.count_append, List.count_cons, List.count_nil]
    omega)) hB ⟨X'.heap.size, 0, none⟩ (tc t p s q) (tc_len hl _ _ _) (fun j u hj => by
      rw [addr_mid, Nat.zero_add, World.cell?_alloc_new, ← hA]
      simpa using hj) hon2 (by omega) (by omega)
  have hM5 : Mem w V4 ((gc, .cells (cc c u).toArray 28 (0, 0)) :: (g4, .cells cz 28 (0, 0)) :: (B4 ++ (ys.flatMap (·.2) ++ C'))) := hM4.perm (by
    classical
    rw [List.perm_iff_count]
    intro z
    simp only [List.count_append, List.count_cons, List.count_nil]
    omega)
  have h6 := hM5.set 0 rfl 28 v4
  rw [List.set_cons_zero, cc_ten c _ v4 hcl] at h6
  refine ⟨v4, V4, hrun, owb_slice hB4, ⟨_, (hM5.cell 0 rfl 28).trans (cc_at28 hcl _)⟩, hM5.free 0 rfl, hM5.below, h6.below, ys ++ [((t, p, s, q), C')], B4, ?_, ?_, ?_, ⟨hcl.mac, hcl.omac, hcl.nmac, hcl.key⟩, ?_⟩
  · rw [List.map_append, ez]; rfl
  · rw [List.length_append, List.map_append, List.flatten_append]
    simpa [zc] using hB4
  · intro y hy
    rcases List.mem_append.1 hy with hy | hy
    · exact hzs y hy
    · rw [List.mem_singleton] at hy; subst hy; exact hz
  · have e : [((t, p, s, q), C')].flatMap (fun y : Ty => y.2) = C' := by simp
    rw [List.flatMap_append, e]; exact h6
/-- What lychseat.Config answers. -/
def ScQ (n : Nat) (ks : Nat → Int) (w : World) (e : Ending) (V : World) : Prop := ∃ (f : Int) (ys : List Ty) (u : Value) (B : List (Nat × Obj)), (0 ≤ f ∧ f ≤ 7) ∧ e = .returned (.agg (cc ⟨adr 10 9 0 200, [2, 1, 0, 0, 0, 0], [2, 2, 0, 0, 0, 0], [2, 3, 0, 0, 0, 0], [200, 0, 0, 0, 0, 0, 0, 0], f, ys.map (fun y => y.1.1)⟩ u).toArray) ∧ ys.length = n ∧ (∀ j y, ys[j]? = some y → SeatQ j (ks j) y.1.1) ∧ OwB 39 33 u ys.length (ys.map (fun y => zc y.1)).flatten B ∧ (∀ y ∈ ys, ZX y.1 y.2) ∧ Mem w V (B ++ ys.flatMap (·.2))
set_option maxHeartbeats 16000000 in
theorem sconf14_any (w : World) (a : Option Addr) (n cap : Nat) (ks : Nat → Int) (hks : ∀ i, i < n → ∃ b off, a = some ⟨b, off, none⟩ ∧ w.cell? ⟨b, off + i, none⟩ = some (.int .u16 (ks i)) ∧ 0 ≤ ks i ∧ ks i ≤ 65535) (d : Int) (hd0 : 0 ≤ d) (hd1 : d ≤ 255) :
    Calls Tryd.prog 20 #[.slice a n cap, .int .u8 d] w (ScQ (min n 4) ks w) := by
  obtain ⟨g4, hg4⟩ : ∃ g4, w.heap.size = g4 := ⟨_, rfl⟩
  obtain ⟨f, hf⟩ : ∃ x : Int, Int.tmod d 8 = x := ⟨_, rfl⟩
  have hf2 : 0 ≤ f ∧ f ≤ 7 := by rw [← hf, Int.tmod_eq_emod_of_nonneg hd0]; omega
  obtain ⟨a0, ha0⟩ : ∃ x : Int, adr 10 9 0 200 = x := ⟨_, rfl⟩
  have A1 : ∀ X, Calls Tryd.prog 23 #[.int .u8 10, .int .u8 9, .int .u8 0, .int .u8 200] X fun e w' => e = .returned (.int .u32 a0) ∧ X = w' := fun X => by rw [← ha0]; exact addr_any X 10 9 0 200 (by omega) (by omega) (by omega) (by omega)
  have e5 : IntKind.u32.wrap f = f := wrap32_small _ (by omega) (by omega)
  have HB0 : Hid ((cc ⟨a0, [2, 1, 0, 0, 0, 0], [2, 2, 0, 0, 0, 0], [2, 3, 0, 0, 0, 0], [200, 0, 0, 0, 0, 0, 0, 0], f, []⟩ nilV).toArray = (cc ⟨a0, [2, 1, 0, 0, 0, 0], [2, 2, 0, 0, 0, 0], [2, 3, 0, 0, 0, 0], [200, 0, 0, 0, 0, 0, 0, 0], f, []⟩ nilV).toArray) := rfl
  obtain ⟨B0, hB0⟩ : ∃ B0, (cc ⟨a0, [2, 1, 0, 0, 0, 0], [2, 2, 0, 0, 0, 0], [2, 3, 0, 0, 0, 0], [200, 0, 0, 0, 0, 0, 0, 0], f, []⟩ nilV).toArray = B0 := ⟨_, rfl⟩
  have HB1 : Hid ((cc ⟨a0, [2, 1, 0, 0, 0, 0], [2, 2, 0, 0, 0, 0], [2, 3, 0, 0, 0, 0], [200, 0, 0, 0, 0, 0, 0, 0], f, []⟩ nilV).toArray = B0) := hB0
  have hsz : B0.size = 29 := by rw [← hB0]; rfl
  have hone : B0.all (·.oneCell') = true := by rw [← hB0]; exact cc_one _ rfl
  have i29 : (Tryd.prog.info? 28).map (·.size) = some B0.size := by rw [hsz]; kernel_rfl
  have hM0 : Mem w (w.alloc (.cells cz 28 (0, 0))) [(g4, .cells cz 28 (0, 0))] := (Mem.nil w).push1 hg4.symm
  obtain ⟨N, hN⟩ : ∃ N, min n 4 = N := ⟨_, rfl⟩
  rw [hN]
  have HN : Hid (N ≤ n ∧ N ≤ 4 ∧ (N = n ∨ N = 4)) := by rw [← hN]; exact ⟨by omega, by omega, by omega⟩
  have HK : Hid (∀ i, i < n → ∃ b off, a = some ⟨b, off, none⟩ ∧ 0 ≤ ks i ∧ ks i ≤ 65535 ∧ ∀ X, Below w.heap.size w X → X.cell? ⟨b, off + i, none⟩ = some (.int .u16 (ks i))) := by
    intro i hi
    obtain ⟨b, off, e, hc, h0, h1⟩ := hks i hi
    exact ⟨b, off, e, h0, h1, fun X hb => (hb.cell (cell_in hc)).trans hc⟩
  have HV : Hid (adr 10 9 0 200 = a0 ∧ 0 ≤ f ∧ f ≤ 7) := ⟨ha0, hf2⟩
  clear hB0 HB0 hf2 ha0 hks hN
  go_enter Tryd.func20, Tryd.ntmps20
  go_upto_region 1 with fail
  refine wp_letter (fun X => Mem w X [(g4, Obj.cells cz 28 (0, 0))]) (by exact hM0) ?_
  intro V0 hM
  try simp only [hg4]
  clear hM0 hg4
  obtain ⟨gc, hgc⟩ : ∃ gc, V0.heap.size = gc := ⟨_, rfl⟩
  have hk1 : (V0.alloc (.cells cz 28)).heap[gc]? = some (.cells cz 28 (0, 0)) := by rw [← hgc]; exact heap_alloc_new _ _
  have e9 : (V0.alloc (.cells cz 28)).setRow gc B0 = V0.alloc (.cells B0 28) := by
    rw [← hgc]; exact World.setRow_alloc_new V0 cz B0 28
  have HP : Hid (Cx w ((V0.alloc (.cells cz 28)).setRow gc B0) gc g4 ⟨a0, [2, 1, 0, 0, 0, 0], [2, 2, 0, 0, 0, 0], [2, 3, 0, 0, 0, 0], [200, 0, 0, 0, 0, 0, 0, 0], f, []⟩ nilV) := by
    rw [e9]
    refine ⟨[], [], rfl, OwB.nil _ _, by simp, ⟨rfl, rfl, rfl, rfl⟩, ?_⟩
    rw [HB1.out]
    exact hM.front _ hgc.symm
  clear e9 hM
  go_wp2_with fail
  refine (A1 _).mono ?_
  rintro e _ ⟨rfl, rfl⟩
  clear A1
  go_upto_region 2 with (refine wpList_store_row rfl 28 (.tmp 5) (.tmp 15) (by with_reducible rfl) gc B0 (by simp [Act.eval]; try exact hgc) (by rw [← HB1.out]; rfl) 28 cz hk1 i29 (by rw [hsz]; rfl) hone ?_)
  refine wp_letter (fun X => Cx w X gc g4 ⟨a0, [2, 1, 0, 0, 0, 0], [2, 2, 0, 0, 0, 0], [2, 3, 0, 0, 0, 0], [200, 0, 0, 0, 0, 0, 0, 0], f, []⟩ nilV) (by exact HP.out) ?_
  intro V1 hR
  try simp only [hgc]
  have H0 : Hid (∃ ts u, ts.length = 0 ∧ (∀ j t, ts[j]? = some t → SeatQ j (ks j) t) ∧ Cx w V1 gc g4 ⟨a0, [2, 1, 0, 0, 0, 0], [2, 2, 0, 0, 0, 0], [2, 3, 0, 0, 0, 0], [200, 0, 0, 0, 0, 0, 0, 0], f, ts⟩ u) := ⟨[], nilV, rfl, by simp, hR⟩
  clear HP hgc hk1 hsz hone i29 HB1 hR
  go_wp2_with fail
  go_loopw [6] (fun v w' => ∃ i : Nat, i ≤ N ∧ v = .int .i64 i ∧ Hid (∃ ts u, ts.length = i ∧ (∀ j t, ts[j]? = some t → SeatQ j (ks j) t) ∧ Cx w w' gc g4 ⟨a0, [2, 1, 0, 0, 0, 0], [2, 2, 0, 0, 0, 0], [2, 3, 0, 0, 0, 0], [200, 0, 0, 0, 0, 0, 0, 0], f, ts⟩ u)) (fun v w' => N - (intOf v).toNat)
  case atStart => exact ⟨0, Nat.zero_le _, rfl, H0⟩
  case round =>
    obtain ⟨i, hi, rfl, HR⟩ := hrel
    clear H0
    obtain ⟨ts, u, hts, hSt, hC⟩ := HR.out
    obtain ⟨pa, pm, pc, rfl⟩ := hC.sl
    have hNN := HN.out
    by_cases hlt : i < N
    · have h1 : (i : Int) < n := by omega
      have h2 : (i : Int) < 4 := by omega
      have e7 : IntKind.i64.wrap ((i : Int) + 1) = (i : Int) + 1 := wrap64 (by omega) (by omega)
      obtain ⟨b, off, rfl, hk0, hk1, hkc⟩ := HK.out i (by omega)
      obtain ⟨kk, hkk⟩ : ∃ kk, ks i = kk := ⟨_, rfl⟩
      rw [hkk] at hk0 hk1 hkc
      have CT : ∀ X, Calls Tryd.prog 22 #[.int .i64 (i : Int), .int .u16 kk] X (StQ i kk X) := fun X => sten14_any X i (by omega) kk hk0 hk1
      have HKC : Hid (∀ X, Below w.heap.size w X → X.cell? ⟨b, off + i, none⟩ = some (.int .u16 kk)) := hkc
      have HKK : Hid (kk = ks i) := hkk.symm
      have HC : Hid (Cx w wr.drew gc g4 ⟨a0, [2, 1, 0, 0, 0, 0], [2, 2, 0, 0, 0, 0], [2, 3, 0, 0, 0, 0], [200, 0, 0, 0, 0, 0, 0, 0], f, ts⟩ (.slice pa pm pc)) := hC.after ((Below.refl _ _).drew)
      have HTS : Hid (ts.length = i ∧ i < N ∧ N ≤ 4 ∧ ∀ j t, ts[j]? = some t → SeatQ j (ks j) t) := ⟨hts, hlt, hNN.2.1, hSt⟩
      have p0 := HC.out.cell
      have pk0 := HKC.out _ HC.out.below
      have pk9 := HKC.out _ hC.below
      have hii : (0 : Int) ≤ i := by omega
      clear hkc hC HR hts hSt hNN hkk hk0 hk1
      go_upto_region 5 with fail
      refine wp_region_held_drew (S := fun X => X.cell? ⟨b, off + i, none⟩ = some (.int .u16 kk)) (by kernel_rfl) pk0 (fun hHeld => ?_)
      refine wpAnyH_take (i := 0) (v := ?_) rfl (by kernel_rfl) (by kernel_rfl) (by kernel_rfl) (fun _ _ _ h => h) (Or.inl ⟨by rfl, ?qay0⟩) (by assumption) ?qar0
      case qay0 =>
        intro w hSw
        (try dsimp only at hSw)
        go_simp
        all_goals with_reducible rfl
      try simp only [List.getElem_toArray, List.getElem_cons_zero, List.getElem_cons_succ, Act.put, List.setIfInBounds_toArray, List.set_cons_zero, List.set_cons_succ]
      refine wpAnyH_take (i := 2) (v := ?_) rfl (by kernel_rfl) (by kernel_rfl) (by kernel_rfl) (fun _ _ _ h => h) (Or.inl ⟨by rfl, ?qay2⟩) (by assumption) ?qar2
      case qay2 =>
        intro w hSw
        (try dsimp only at hSw)
        go_simp
        all_goals with_reducible rfl
      try simp only [List.getElem_toArray, List.getElem_cons_zero, List.getElem_cons_succ, Act.put, List.setIfInBounds_toArray, List.set_cons_zero, List.set_cons_succ]
      refine wpAnyH_take (i := 3) (v := ?_) rfl (by kernel_rfl) (by kernel_rfl) (by kernel_rfl) (fun _ _ _ h => h) (Or.inl ⟨by rfl, ?qay3⟩) (by assumption) ?qar3
      case qay3 =>
        intro w hSw
        (try dsimp only at hSw)
        go_simp
        all_goals with_reducible rfl
      try simp only [List.getElem_toArray, List.getElem_cons_zero, List.getElem_cons_succ, Act.put, List.setIfInBounds_toArray, List.set_cons_zero, List.set_cons_succ]
      refine wpAnyH_take (i := 4) (v := ?_) rfl (by kernel_rfl) (by kernel_rfl) (by kernel_rfl) (fun _ _ _ h => h) (Or.inl ⟨by rfl, ?qay4⟩) (by assumption) ?qar4
      case qay4 =>
        intro w hSw
        (try dsimp only at hSw)
        go_simp
        all_goals with_reducible rfl
      try simp only [List.getElem_toArray, List.getElem_cons_zero, List.getElem_cons_succ, Act.put, List.setIfInBounds_toArray, List.set_cons_zero, List.set_cons_succ]
      refine wpAnyH_take (i := 5) (v := ?_) rfl (by kernel_rfl) (by kernel_rfl) (by kernel_rfl) (fun _ _ _ h => h) (Or.inl ⟨by rfl, ?qay5⟩) (by assumption) ?qar5
      case qay5 =>
        intro w hSw
        (try dsimp only at hSw)
        go_simp
        all_goals with_reducible rfl
      try simp only [List.getElem_toArray, List.getElem_cons_zero, List.getElem_cons_succ, Act.put, List.setIfInBounds_toArray, List.set_cons_zero, List.set_cons_succ]
      refine wpAnyH_take (i := 6) (v := ?_) rfl (by kernel_rfl) (by kernel_rfl) (by kernel_rfl) (fun _ _ _ h => h) (Or.inl ⟨by rfl, ?qay6⟩) (by assumption) ?qar6
      case qay6 =>
        intro w hSw
        (try dsimp only at hSw)
        go_simp
        all_goals with_reducible rfl
      try simp only [List.getElem_toArray, List.getElem_cons_zero, List.getElem_cons_succ, Act.put, List.setIfInBounds_toArray, List.set_cons_zero, List.set_cons_succ]
      refine wpAnyH_ready (rs := [1, 7]) (by kernel_rfl) (by simp) ?_
      refine AllReadyH.cons rfl (fun KK hK => ?_) (AllReadyH.cons rfl (fun KK hK => ?_) AllReadyH.nil)
      · go_simp
        refine hK.out _ _ (by assumption) (fun hHeld => ?_)
        clear hK KK
        try simp only [List.getElem_toArray, List.getElem_cons_zero, List.getElem_cons_succ, Act.put, List.setIfInBounds_toArray, List.set_cons_zero, List.set_cons_succ]
        refine wpAnyH_ready (rs := [7]) (by kernel_rfl) (by simp) ?_
        refine AllReadyH.cons rfl (fun KK hK => ?_) AllReadyH.nil
        go_simp
        with_reducible refine (CT _).mono ?_
        rintro e V2 ⟨t, p, s, q, C', rfl, hS, hzx, hM'⟩
        have hl := hzx.1
        have hz := hzx.zb (C := C') (fun x hx => hx)
        obtain ⟨A, hA⟩ : ∃ A, (tc t p s q).toArray = A := ⟨_, rfl⟩
        rw [hA]
        have hbs := bsliceT (t, p, s, q) hl
        rw [show (zc (t, p, s, q)).toArray = A from hA] at hbs
        have hbs1 := hbs V2
        have hon : A.all (·.oneCell') = true := by rw [← hA]; exact all_oneCell_toArray (zb_one hz)
        have hB2 := HC.out.below.trans (hM'.below.mono (Below.size HC.out.below))
        have hC2 := HC.out.after hM'.below
        have p1 := hC2.cell
        have p2 := (hC2.after ((Below.refl V2.heap.size V2).alloc (Nat.le_refl _) (.cells A 39 (0, 0)))).cell
        have pk1 := HKC.out _ hC2.below
        have pk2 := HKC.out _ (hC2.after ((Below.refl V2.heap.size V2).alloc (Nat.le_refl _) (.cells A 39 (0, 0)))).below
        obtain ⟨v4, V4, hrun, ⟨qa, qm, qc, rfl⟩, ⟨v0, cv0⟩, fr4, hb4, hb5, hH⟩ := cx_more HC.out (by show ts.length ≤ _; have := HTS.out; omega) hzx hM' hA hon
        have pk4 := HKC.out _ hb4
        have pk5 := HKC.out _ hb5
        have HH : Hid (∃ ts u, ts.length = i + 1 ∧ (∀ j t, ts[j]? = some t → SeatQ j (ks j) t) ∧ Cx w (V4.setCell ⟨gc, 28, none⟩ (.slice qa qm qc)) gc g4 ⟨a0, [2, 1, 0, 0, 0, 0], [2, 2, 0, 0, 0, 0], [2, 3, 0, 0, 0, 0], [200, 0, 0, 0, 0, 0, 0, 0], f, ts⟩ u) := by
          refine ⟨ts ++ [t], _, by rw [List.length_append, HTS.out.1]; rfl, fun j t' hj => ?_, hH⟩
          rcases Nat.lt_or_ge j ts.length with hjl | hjl
          · rw [List.getElem?_append_left hjl] at hj; exact HTS.out.2.2.2 j t' hj
          · rw [List.getElem?_append_right hjl] at hj
            have hj0 : j - ts.length = 0 := by
              rcases Nat.eq_zero_or_pos (j - ts.length) with h0 | h0
              · exact h0
              · rw [List.getElem?_eq_none (by simp; omega)] at hj; cases hj
            rw [hj0] at hj
            have ej : j = i := by have := HTS.out.1; omega
            simp at hj; subst hj; rw [ej]; exact HKK.out ▸ hS
        clear hH hM' hz hS hon hA hl hbs hB2 hC2 hzx
        try go_wp2_with fail
        refine hK.out _ _ (by assumption) (fun hHeld => ?_)
        clear hK KK
        try simp only [List.getElem_toArray, List.getElem_cons_zero, List.getElem_cons_succ, Act.put, List.setIfInBounds_toArray, List.set_cons_zero, List.set_cons_succ]
        refine wpAnyH_ready (rs := [8]) (by kernel_rfl) (by simp) ?_
        refine AllReadyH.cons rfl (fun KK hK => ?_) AllReadyH.nil
        refine step_bsl rfl 26 1 _ rfl hbs1 (by simp [Act.eval]) ?_
        refine hK.out _ _ (by assumption) (fun hHeld => ?_)
        clear hK KK
        try simp only [List.getElem_toArray, List.getElem_cons_zero, List.getElem_cons_succ, Act.put, List.setIfInBounds_toArray, List.set_cons_zero, List.set_cons_succ]
        refine wpAnyH_ready (rs := [9]) (by kernel_rfl) (by simp) ?_
        refine AllReadyH.cons rfl (fun KK hK => ?_) AllReadyH.nil
        refine step_append_run rfl (.tmp 27) (.tmp 34) 26 26 rfl (by simp [Act.eval]) (by simp [Act.eval]) hrun ?_
        refine hK.out _ _ (by assumption) (fun hHeld => ?_)
        clear hK KK
        try simp only [List.getElem_toArray, List.getElem_cons_zero, List.getElem_cons_succ, Act.put, List.setIfInBounds_toArray, List.set_cons_zero, List.set_cons_succ]
        refine wpAnyH_take (i := 10) (v := ?_) rfl (by kernel_rfl) (by kernel_rfl) (by kernel_rfl) (fun _ _ _ h => h) (Or.inl ⟨by rfl, ?qbzy10⟩) (by assumption) ?qbzr10
        case qbzy10 =>
          intro w hSw
          (try dsimp only at hSw)
          go_simp
          all_goals with_reducible rfl
        try simp only [List.getElem_toArray, List.getElem_cons_zero, List.getElem_cons_succ, Act.put, List.setIfInBounds_toArray, List.set_cons_zero, List.set_cons_succ]
        refine wpAnyH_ready (rs := [11]) (by kernel_rfl) (by simp) ?_
        refine AllReadyH.cons rfl (fun KK hK => ?_) AllReadyH.nil
        go_simp
        refine hK.out _ _ (by assumption) (fun hHeld => ?_)
        clear hK KK
        try simp only [List.getElem_toArray, List.getElem_cons_zero, List.getElem_cons_succ, Act.put, List.setIfInBounds_toArray, List.set_cons_zero, List.set_cons_succ]
        refine wpAnyH_done (by kernel_rfl) ?_ _
        go_wp2_with fail
        go_roundw
        case rel => exact ⟨i + 1, by omega, by go_num, HH⟩
        case measure => simp [intOf]; omega
      · go_simp
        with_reducible refine (CT _).mono ?_
        rintro e V2 ⟨t, p, s, q, C', rfl, hS, hzx, hM'⟩
        have hl := hzx.1
        have hz := hzx.zb (C := C') (fun x hx => hx)
        obtain ⟨A, hA⟩ : ∃ A, (tc t p s q).toArray = A := ⟨_, rfl⟩
        rw [hA]
        have hbs := bsliceT (t, p, s, q) hl
        rw [show (zc (t, p, s, q)).toArray = A from hA] at hbs
        have hbs1 := hbs V2
        have hon : A.all (·.oneCell') = true := by rw [← hA]; exact all_oneCell_toArray (zb_one hz)
        have hB2 := HC.out.below.trans (hM'.below.mono (Below.size HC.out.below))
        have hC2 := HC.out.after hM'.below
        have p1 := hC2.cell
        have p2 := (hC2.after ((Below.refl V2.heap.size V2).alloc (Nat.le_refl _) (.cells A 39 (0, 0)))).cell
        have pk1 := HKC.out _ hC2.below
        have pk2 := HKC.out _ (hC2.after ((Below.refl V2.heap.size V2).alloc (Nat.le_refl _) (.cells A 39 (0, 0)))).below
        obtain ⟨v4, V4, hrun, ⟨qa, qm, qc, rfl⟩, ⟨v0, cv0⟩, fr4, hb4, hb5, hH⟩ := cx_more HC.out (by show ts.length ≤ _; have := HTS.out; omega) hzx hM' hA hon
        have pk4 := HKC.out _ hb4
        have pk5 := HKC.out _ hb5
        have HH : Hid (∃ ts u, ts.length = i + 1 ∧ (∀ j t, ts[j]? = some t → SeatQ j (ks j) t) ∧ Cx w (V4.setCell ⟨gc, 28, none⟩ (.slice qa qm qc)) gc g4 ⟨a0, [2, 1, 0, 0, 0, 0], [2, 2, 0, 0, 0, 0], [2, 3, 0, 0, 0, 0], [200, 0, 0, 0, 0, 0, 0, 0], f, ts⟩ u) := by
          refine ⟨ts ++ [t], _, by rw [List.length_append, HTS.out.1]; rfl, fun j t' hj => ?_, hH⟩
          rcases Nat.lt_or_ge j ts.length with hjl | hjl
          · rw [List.getElem?_append_left hjl] at hj; exact HTS.out.2.2.2 j t' hj
          · rw [List.getElem?_append_right hjl] at hj
            have hj0 : j - ts.length = 0 := by
              rcases Nat.eq_zero_or_pos (j - ts.length) with h0 | h0
              · exact h0
              · rw [List.getElem?_eq_none (by simp; omega)] at hj; cases hj
            rw [hj0] at hj
            have ej : j = i := by have := HTS.out.1; omega
            simp at hj; subst hj; rw [ej]; exact HKK.out ▸ hS
        clear hH hM' hz hS hon hA hl hbs hB2 hC2 hzx
        try go_wp2_with fail
        refine hK.out _ _ (by assumption) (fun hHeld => ?_)
        clear hK KK
        try simp only [List.getElem_toArray, List.getElem_cons_zero, List.getElem_cons_succ, Act.put, List.setIfInBounds_toArray, List.set_cons_zero, List.set_cons_succ]
        refine wpAnyH_ready (rs := [1, 8]) (by kernel_rfl) (by simp) ?_
        refine AllReadyH.cons rfl (fun KK hK => ?_) (AllReadyH.cons rfl (fun KK hK => ?_) AllReadyH.nil)
        · go_simp
          refine hK.out _ _ (by assumption) (fun hHeld => ?_)
          clear hK KK
          try simp only [List.getElem_toArray, List.getElem_cons_zero, List.getElem_cons_succ, Act.put, List.setIfInBounds_toArray, List.set_cons_zero, List.set_cons_succ]
          refine wpAnyH_ready (rs := [8]) (by kernel_rfl) (by simp) ?_
          refine AllReadyH.cons rfl (fun KK hK => ?_) AllReadyH.nil
          refine step_bsl rfl 26 1 _ rfl hbs1 (by simp [Act.eval]) ?_
          refine hK.out _ _ (by assumption) (fun hHeld => ?_)
          clear hK KK
          try simp only [List.getElem_toArray, List.getElem_cons_zero, List.getElem_cons_succ, Act.put, List.setIfInBounds_toArray, List.set_cons_zero, List.set_cons_succ]
          refine wpAnyH_ready (rs := [9]) (by kernel_rfl) (by simp) ?_
          refine AllReadyH.cons rfl (fun KK hK => ?_) AllReadyH.nil
          refine step_append_run rfl (.tmp 27) (.tmp 34) 26 26 rfl (by simp [Act.eval]) (by simp [Act.eval]) hrun ?_
          refine hK.out _ _ (by assumption) (fun hHeld => ?_)
          clear hK KK
          try simp only [List.getElem_toArray, List.getElem_cons_zero, List.getElem_cons_succ, Act.put, List.setIfInBounds_toArray, List.set_cons_zero, List.set_cons_succ]
          refine wpAnyH_take (i := 10) (v := ?_) rfl (by kernel_rfl) (by kernel_rfl) (by kernel_rfl) (fun _ _ _ h => h) (Or.inl ⟨by rfl, ?qczy10⟩) (by assumption) ?qczr10
          case qczy10 =>
            intro w hSw
            (try dsimp only at hSw)
            go_simp
            all_goals with_reducible rfl
          try simp only [List.getElem_toArray, List.getElem_cons_zero, List.getElem_cons_succ, Act.put, List.setIfInBounds_toArray, List.set_cons_zero, List.set_cons_succ]
          refine wpAnyH_ready (rs := [11]) (by kernel_rfl) (by simp) ?_
          refine AllReadyH.cons rfl (fun KK hK => ?_) AllReadyH.nil
          go_simp
          refine hK.out _ _ (by assumption) (fun hHeld => ?_)
          clear hK KK
          try simp only [List.getElem_toArray, List.getElem_cons_zero, List.getElem_cons_succ, Act.put, List.setIfInBounds_toArray, List.set_cons_zero, List.set_cons_succ]
          refine wpAnyH_done (by kernel_rfl) ?_ _
          go_wp2_with fail
          go_roundw
          case rel => exact ⟨i + 1, by omega, by go_num, HH⟩
          case measure => simp [intOf]; omega
        · refine step_bsl rfl 26 1 _ rfl hbs1 (by simp [Act.eval]) ?_
          refine hK.out _ _ (by assumption) (fun hHeld => ?_)
          clear hK KK
          try simp only [List.getElem_toArray, List.getElem_cons_zero, List.getElem_cons_succ, Act.put, List.setIfInBounds_toArray, List.set_cons_zero, List.set_cons_succ]
          refine wpAnyH_ready (rs := [1]) (by kernel_rfl) (by simp) ?_
          refine AllReadyH.cons rfl (fun KK hK => ?_) AllReadyH.nil
          go_simp
          refine hK.out _ _ (by assumption) (fun hHeld => ?_)
          clear hK KK
          try simp only [List.getElem_toArray, List.getElem_cons_zero, List.getElem_cons_succ, Act.put, List.setIfInBounds_toArray, List.set_cons_zero, List.set_cons_succ]
          refine wpAnyH_ready (rs := [9]) (by kernel_rfl) (by simp) ?_
          refine AllReadyH.cons rfl (fun KK hK => ?_) AllReadyH.nil
          refine step_append_run rfl (.tmp 27) (.tmp 34) 26 26 rfl (by simp [Act.eval]) (by simp [Act.eval]) hrun ?_
          refine hK.out _ _ (by assumption) (fun hHeld => ?_)
          clear hK KK
          try simp only [List.getElem_toArray, List.getElem_cons_zero, List.getElem_cons_succ, Act.put, List.setIfInBounds_toArray, List.set_cons_zero, List.set_cons_succ]
          refine wpAnyH_take (i := 10) (v := ?_) rfl (by kernel_rfl) (by kernel_rfl) (by kernel_rfl) (fun _ _ _ h => h) (Or.inl ⟨by rfl, ?qdzy10⟩) (by assumption) ?qdzr10
          case qdzy10 =>
            intro w hSw
            (try dsimp only at hSw)
            go_simp
            all_goals with_reducible rfl
          try simp only [List.getElem_toArray, List.getElem_cons_zero, List.getElem_cons_succ, Act.put, List.setIfInBounds_toArray, List.set_cons_zero, List.set_cons_succ]
          refine wpAnyH_ready (rs := [11]) (by kernel_rfl) (by simp) ?_
          refine AllReadyH.cons rfl (fun KK hK => ?_) AllReadyH.nil
          go_simp
          refine hK.out _ _ (by assumption) (fun hHeld => ?_)
          clear hK KK
          try simp only [List.getElem_toArray, List.getElem_cons_zero, List.getElem_cons_succ, Act.put, List.setIfInBounds_toArray, List.set_cons_zero, List.set_cons_succ]
          refine wpAnyH_done (by kernel_rfl) ?_ _
          go_wp2_with fail
          go_roundw
          case rel => exact ⟨i + 1, by omega, by go_num, HH⟩
          case measure => simp [intOf]; omega
    · obtain rfl : i = N := by omega
      obtain ⟨ys, B, ez, hB, hz, hcl, hM⟩ := hC
      obtain ⟨A, hA⟩ : ∃ A, (cc ⟨a0, [2, 1, 0, 0, 0, 0], [2, 2, 0, 0, 0, 0], [2, 3, 0, 0, 0, 0], [200, 0, 0, 0, 0, 0, 0, 0], f, ts⟩ (.slice pa pm pc)).toArray = A := ⟨_, rfl⟩
      rw [hA] at hM
      have hsz : A.size = 29 := by rw [← hA, List.size_toArray]; exact cc_len hcl _
      have hone : A.all (·.oneCell') = true := by rw [← hA]; exact cc_one _ rfl
      have i29 : (Tryd.prog.info? 28).map (·.size) = some A.size := by rw [hsz]; kernel_rfl
      have k4 := hM.get 0 rfl
      have k5 := hM.get 1 rfl
      have hM3 := hM.wrote 1 rfl (wrote_setRow wr g4 _ A _ k5)
      have HQ : Hid ((wr.setRow g4 A).heap[g4]? = some (.cells A 28 (0, 0)) ∧ ScQ i ks w (.returned (.agg A)) (wr.setRow g4 A)) := by
        refine ⟨hM3.get 1 rfl, f, ys, _, B, HV.out.2, ?_, ?_, ?_, hB, hz, hM3.sub.sub⟩
        · have ez' : ys.map (fun y => y.1.1) = ts := ez
          rw [← hA, ez', HV.out.1]
        · have := congrArg List.length ez
          rw [List.length_map] at this
          rw [this]; exact hts
        · intro j y hj
          apply hSt j
          have ez' : ys.map (fun y => y.1.1) = ts := ez
          rw [← ez', List.getElem?_map, hj]; rfl
      have d1 : (((i : Int) < n) ∧ ¬ ((i : Int) < 4)) ∨ ¬ ((i : Int) < n) := by omega
      clear HR hM hM3 hB hz ez hSt hts hcl hA HK hNN HN
      rcases d1 with ⟨h1, h2⟩ | h1
      all_goals
        go_wp2_with (first | (refine wpList_load_row rfl 28 (.tmp 5) (by with_reducible rfl) gc (by first | rfl | simp [Act.eval]) 28 A (0, 0) _ k4 Tryd.underlying28 rfl i29 ?_) | (refine wpList_store_row rfl 28 (.tmp 4) (.tmp 37) (by with_reducible rfl) g4 A (by first | rfl | simp [Act.eval]) (by first | rfl | simp [Act.eval]) 28 cz k5 i29 (by rw [hsz]; rfl) hone ?_))
        refine bodyPost_ret (v := .agg A) ?_ rfl HQ.out.2
        exact results_cell_row (p := 4) (ty := 28) rfl _ _ g4 28 _ (0, 0) _ rfl HQ.out.1 Tryd.underlying28 rfl i29
end Go.Proofs.YtnddbklbgddblaaDoor

