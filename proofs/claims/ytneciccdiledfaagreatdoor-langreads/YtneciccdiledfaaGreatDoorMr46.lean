/-
  The statements' seat of settings: its settings.
  Settings as text: the program's reader: a line behind the first, of a tenant or of none.
  Settings as text: the document's own reader of a line behind the first: no tenant yet, no such word.
-/
import Derived.Test.YtneciccdiledfaaGreatDoorMr43
import Derived.Test.YtneciccdiledfaaGreatDoorMr45
import Derived.Test.YtneciccdiledfaaGreatDoorMr35
import Derived.Deep.RegionHeld3
namespace Go.Proofs.YtneciccdiledfaaGreatDoor
open Go.RowKit
open La
open Ad
open Sm (IsBytes)
set_option linter.unusedVariables false
set_option linter.unusedSimpArgs false
set_option maxRecDepth 20000

/-- Settings in box gc, their tenants the value u, beside a box of noughts. -/
def Cu (w V : World) (gc g4 : Nat) (c : Cgf) (u : Value) : Prop := ∃ (zs : List Tv) (B C : List (Nat × Obj)), zs.map Prod.fst = c.ten ∧ OwB 45 33 u zs.length (zs.map zc).flatten B ∧ (∀ z ∈ zs, ZB z C) ∧ CLen c ∧ Mem w V ((gc, .cells (cc c u).toArray 29 (0, 0)) :: (g4, .cells cz 29 (0, 0)) :: (B ++ C))
theorem Cu.after {w V V' : World} {gc g4 : Nat} {c : Cgf} {u : Value} (h : Cu w V gc g4 c u) (hb : Below V.heap.size V V') : Cu w V' gc g4 c u := by
  obtain ⟨zs, B, C, h1, h2, h3, h4, h5⟩ := h; exact ⟨zs, B, C, h1, h2, h3, h4, h5.after hb⟩
theorem Cu.below {w V : World} {gc g4 : Nat} {c : Cgf} {u : Value} (h : Cu w V gc g4 c u) : Below w.heap.size w V := by
  obtain ⟨zs, B, C, h1, h2, h3, h4, h5⟩ := h; exact h5.below
theorem Cu.cell {w V : World} {gc g4 : Nat} {c : Cgf} {u : Value} (h : Cu w V gc g4 c u) : V.cell? ⟨gc, 28, none⟩ = some u := by
  obtain ⟨zs, B, C, h1, h2, h3, h4, h5⟩ := h; exact (h5.cell 0 rfl 28).trans (cc_at28 h4 u)
theorem Cu.sl {w V : World} {gc g4 : Nat} {c : Cgf} {u : Value} (h : Cu w V gc g4 c u) : ∃ a m c', u = .slice a m c' := by
  obtain ⟨zs, B, C, h1, h2, h3, h4, h5⟩ := h; exact owb_slice h2
theorem cu_more {w X X' : World} {gc g4 : Nat} {c : Cgf} {u : Value} {t : Ten} {p s q : Value} {C' : List (Nat × Obj)} (h : Cu w X gc g4 c u) (hn : c.ten.length ≤ 900000) (hl : TLen t) (hz : ZB (t, p, s, q) C') (hM' : Mem X X' C') {A : Array Value} (hA : (tc t p s q).toArray = A) (hon : A.all (·.oneCell') = true) :
    ∃ v4 V4, (Builtin.append_ #[27, 27] 27 #[u, .slice (some ⟨X'.heap.size, 0, none⟩) 1 1]).run Tryz.prog (X'.alloc (.cells A 45)) = .ok v4 V4 ∧ (∃ a m c, v4 = .slice a m c) ∧ (∃ v0, V4.cell? ⟨gc, 28, none⟩ = some v0) ∧ (∀ j, V4.frozen? ⟨gc, j, none⟩ = false) ∧ Below w.heap.size w V4 ∧ Below w.heap.size w (V4.setCell ⟨gc, 28, none⟩ v4) ∧
      Cu w (V4.setCell ⟨gc, 28, none⟩ v4) gc g4 { c with ten := c.ten ++ [t] } v4 := by
  obtain ⟨zs, B, C, ez, hB, hzs, hcl, hM⟩ := h
  have hzl : zs.length = c.ten.length := by rw [← ez, List.length_map]
  have hM2 := (hM.join hM').after ((Below.refl X'.heap.size X').alloc (Nat.le_refl _) (.cells A 45 (0, 0)))
  have hon2 : ∀ v ∈ tc t p s q, v.oneCell' = true := by
    rw [← hA, Array.all_eq_true_iff_forall_mem] at hon
    intro v hv
    exact hon v (by simpa using hv)
  obtain ⟨v4, V4, B4, hrun, hM4, hB4⟩ := mem_append (t := 27) (ty := 27) Tryz.underlying27 infoT (by kernel_rfl) (by omega) (K := (gc, .cells (cc c u).toArray 29 (0, 0)) :: (g4, .cells cz 29 (0, 0)) :: (C ++ C')) (hM2.perm (by
    classical
    rw [List.perm_iff_count]
    intro z
    simp only [List.count_append, List.count_cons, List.count_nil]
    omega)) hB ⟨X'.heap.size, 0, none⟩ (tc t p s q) (tc_len hl _ _ _) (fun j u hj => by
      rw [addr_mid, Nat.zero_add, World.cell?_alloc_new, ← hA]
      simpa using hj) hon2 (by omega) (by omega)
  have hM5 : Mem w V4 ((gc, .cells (cc c u).toArray 29 (0, 0)) :: (g4, .cells cz 29 (0, 0)) :: (B4 ++ (C ++ C'))) := hM4.perm (by
    classical
    rw [List.perm_iff_count]
    intro z
    simp only [List.count_append, List.count_cons, List.count_nil]
    omega)
  have h6 := hM5.set 0 rfl 28 v4
  rw [List.set_cons_zero, cc_ten c _ v4 hcl] at h6
  refine ⟨v4, V4, hrun, owb_slice hB4, ⟨_, (hM5.cell 0 rfl 28).trans (cc_at28 hcl _)⟩, hM5.free 0 rfl, hM5.below, h6.below, zs ++ [(t, p, s, q)], B4, C ++ C', ?_, ?_, ?_, ⟨hcl.mac, hcl.omac, hcl.nmac, hcl.key⟩, h6⟩
  · rw [List.map_append, ez]; rfl
  · rw [List.length_append, List.map_append, List.flatten_append]
    simpa [zc] using hB4
  · intro z hz'
    rcases List.mem_append.1 hz' with hz' | hz'
    · exact (hzs z hz').more (fun x hx => List.mem_append_left _ hx)
    · rw [List.mem_singleton] at hz'; subst hz'
      exact hz.more (fun x hx => List.mem_append_right _ hx)
/-- What lychseat.Config answers. -/
def ScP (n : Nat) (w : World) (e : Ending) (V : World) : Prop := ∃ c v, e = .returned v ∧ SeatC n c ∧ CVs w.heap.size V v c ∧ Below w.heap.size w V
set_option maxHeartbeats 16000000 in
theorem sconf_any (w : World) (a : Option Addr) (n cap : Nat) (ks : Nat → Int) (hks : ∀ i, i < n → ∃ b off, a = some ⟨b, off, none⟩ ∧ w.cell? ⟨b, off + i, none⟩ = some (.int .u16 (ks i)) ∧ 0 ≤ ks i ∧ ks i ≤ 65535) (d : Int) (hd0 : 0 ≤ d) (hd1 : d ≤ 255) :
    Calls Tryz.prog 17 #[.slice a n cap, .int .u8 d] w (ScP (min n 4) w) := by
  obtain ⟨g4, hg4⟩ : ∃ g4, w.heap.size = g4 := ⟨_, rfl⟩
  obtain ⟨f, hf⟩ : ∃ x : Int, Int.tmod d 8 = x := ⟨_, rfl⟩
  have hf2 : 0 ≤ f ∧ f ≤ 7 := by rw [← hf, Int.tmod_eq_emod_of_nonneg hd0]; omega
  obtain ⟨a0, ha0⟩ : ∃ x : Int, adr 10 9 0 200 = x := ⟨_, rfl⟩
  have A1 : ∀ X, Calls Tryz.prog 41 #[.int .u8 10, .int .u8 9, .int .u8 0, .int .u8 200] X fun e w' => e = .returned (.int .u32 a0) ∧ X = w' := fun X => by rw [← ha0]; exact addr_any X 10 9 0 200 (by omega) (by omega) (by omega) (by omega)
  have e5 : IntKind.u32.wrap f = f := wrap32_small _ (by omega) (by omega)
  have HB0 : Hid ((cc ⟨a0, [2, 1, 0, 0, 0, 0], [2, 2, 0, 0, 0, 0], [2, 3, 0, 0, 0, 0], [200, 0, 0, 0, 0, 0, 0, 0], f, []⟩ nilV).toArray = (cc ⟨a0, [2, 1, 0, 0, 0, 0], [2, 2, 0, 0, 0, 0], [2, 3, 0, 0, 0, 0], [200, 0, 0, 0, 0, 0, 0, 0], f, []⟩ nilV).toArray) := rfl
  obtain ⟨B0, hB0⟩ : ∃ B0, (cc ⟨a0, [2, 1, 0, 0, 0, 0], [2, 2, 0, 0, 0, 0], [2, 3, 0, 0, 0, 0], [200, 0, 0, 0, 0, 0, 0, 0], f, []⟩ nilV).toArray = B0 := ⟨_, rfl⟩
  have HB1 : Hid ((cc ⟨a0, [2, 1, 0, 0, 0, 0], [2, 2, 0, 0, 0, 0], [2, 3, 0, 0, 0, 0], [200, 0, 0, 0, 0, 0, 0, 0], f, []⟩ nilV).toArray = B0) := hB0
  have hsz : B0.size = 29 := by rw [← hB0]; rfl
  have hone : B0.all (·.oneCell') = true := by rw [← hB0]; exact cc_one _ rfl
  have i29 : (Tryz.prog.info? 29).map (·.size) = some B0.size := by rw [hsz]; kernel_rfl
  have hM0 : Mem w (w.alloc (.cells cz 29 (0, 0))) [(g4, .cells cz 29 (0, 0))] := (Mem.nil w).push1 hg4.symm
  obtain ⟨N, hN⟩ : ∃ N, min n 4 = N := ⟨_, rfl⟩
  rw [hN]
  have HN : Hid (N ≤ n ∧ N ≤ 4 ∧ (N = n ∨ N = 4)) := by rw [← hN]; exact ⟨by omega, by omega, by omega⟩
  have HK : Hid (∀ i, i < n → ∃ b off, a = some ⟨b, off, none⟩ ∧ 0 ≤ ks i ∧ ks i ≤ 65535 ∧ ∀ X, Below w.heap.size w X → X.cell? ⟨b, off + i, none⟩ = some (.int .u16 (ks i))) := by
    intro i hi
    obtain ⟨b, off, e, hc, h0, h1⟩ := hks i hi
    exact ⟨b, off, e, h0, h1, fun X hb => (hb.cell (cell_in hc)).trans hc⟩
  have HV : Hid (adr 10 9 0 200 = a0 ∧ 0 ≤ f ∧ f ≤ 7) := ⟨ha0, hf2⟩
  clear hB0 HB0 hf2 ha0 hks hN
  go_enter Tryz.func17, Tryz.ntmps17
  go_upto_region 1 with fail
  refine wp_letter (fun X => Mem w X [(g4, Obj.cells cz 29 (0, 0))]) (by exact hM0) ?_
  intro V0 hM
  try simp only [hg4]
  clear hM0 hg4
  obtain ⟨gc, hgc⟩ : ∃ gc, V0.heap.size = gc := ⟨_, rfl⟩
  have hk1 : (V0.alloc (.cells cz 29)).heap[gc]? = some (.cells cz 29 (0, 0)) := by rw [← hgc]; exact heap_alloc_new _ _
  have e9 : (V0.alloc (.cells cz 29)).setRow gc B0 = V0.alloc (.cells B0 29) := by
    rw [← hgc]; exact World.setRow_alloc_new V0 cz B0 29
  have HP : Hid (Cu w ((V0.alloc (.cells cz 29)).setRow gc B0) gc g4 ⟨a0, [2, 1, 0, 0, 0, 0], [2, 2, 0, 0, 0, 0], [2, 3, 0, 0, 0, 0], [200, 0, 0, 0, 0, 0, 0, 0], f, []⟩ nilV) := by
    rw [e9]
    refine ⟨[], [], [], rfl, OwB.nil _ _, by simp, ⟨rfl, rfl, rfl, rfl⟩, ?_⟩
    rw [HB1.out]
    exact hM.front _ hgc.symm
  clear e9 hM
  go_wp2_with fail
  refine (A1 _).mono ?_
  rintro e _ ⟨rfl, rfl⟩
  clear A1
  go_upto_region 2 with (refine wpList_store_row rfl 29 (.tmp 5) (.tmp 15) (by with_reducible rfl) gc B0 (by simp [Act.eval]; try exact hgc) (by rw [← HB1.out]; rfl) 29 cz hk1 i29 (by rw [hsz]; rfl) hone ?_)
  refine wp_letter (fun X => Cu w X gc g4 ⟨a0, [2, 1, 0, 0, 0, 0], [2, 2, 0, 0, 0, 0], [2, 3, 0, 0, 0, 0], [200, 0, 0, 0, 0, 0, 0, 0], f, []⟩ nilV) (by exact HP.out) ?_
  intro V1 hR
  try simp only [hgc]
  have H0 : Hid (∃ ts u, ts.length = 0 ∧ (∀ j t, ts[j]? = some t → SeatT j t) ∧ Cu w V1 gc g4 ⟨a0, [2, 1, 0, 0, 0, 0], [2, 2, 0, 0, 0, 0], [2, 3, 0, 0, 0, 0], [200, 0, 0, 0, 0, 0, 0, 0], f, ts⟩ u) := ⟨[], nilV, rfl, by simp, hR⟩
  clear HP hgc hk1 hsz hone i29 HB1 hR
  go_wp2_with fail
  go_loopw [6] (fun v w' => ∃ i : Nat, i ≤ N ∧ v = .int .i64 i ∧ Hid (∃ ts u, ts.length = i ∧ (∀ j t, ts[j]? = some t → SeatT j t) ∧ Cu w w' gc g4 ⟨a0, [2, 1, 0, 0, 0, 0], [2, 2, 0, 0, 0, 0], [2, 3, 0, 0, 0, 0], [200, 0, 0, 0, 0, 0, 0, 0], f, ts⟩ u)) (fun v w' => N - (intOf v).toNat)
  case atStart => exact ⟨0, Nat.zero_le _, rfl, H0⟩
  case round =>
    obtain ⟨i, hi, rfl, HR⟩ := hrel
    clear H0
    obtain ⟨ts, u, hts, hSt, hC⟩ := HR.out
    obtain ⟨pa, pm, pc, rfl⟩ := hC.sl
    have hNN := HN.out
    by_cases hlt : i < N
    · have h1 : (i : Int) < n := by omega
      have h2 : (i : Int) < 4 := by omega
      have e7 : IntKind.i64.wrap ((i : Int) + 1) = (i : Int) + 1 := wrap64 (by omega) (by omega)
      obtain ⟨b, off, rfl, hk0, hk1, hkc⟩ := HK.out i (by omega)
      obtain ⟨kk, hkk⟩ : ∃ kk, ks i = kk := ⟨_, rfl⟩
      rw [hkk] at hk0 hk1 hkc
      have CT : ∀ X, Calls Tryz.prog 42 #[.int .i64 (i : Int), .int .u16 kk] X (StP i X) := fun X => sten_any X i (by omega) kk hk0 hk1
      have HKC : Hid (∀ X, Below w.heap.size w X → X.cell? ⟨b, off + i, none⟩ = some (.int .u16 kk)) := hkc
      have HC : Hid (Cu w wr.drew gc g4 ⟨a0, [2, 1, 0, 0, 0, 0], [2, 2, 0, 0, 0, 0], [2, 3, 0, 0, 0, 0], [200, 0, 0, 0, 0, 0, 0, 0], f, ts⟩ (.slice pa pm pc)) := hC.after ((Below.refl _ _).drew)
      have HTS : Hid (ts.length = i ∧ i < N ∧ N ≤ 4 ∧ ∀ j t, ts[j]? = some t → SeatT j t) := ⟨hts, hlt, hNN.2.1, hSt⟩
      have p0 := HC.out.cell
      have pk0 := HKC.out _ HC.out.below
      have pk9 := HKC.out _ hC.below
      have hii : (0 : Int) ≤ i := by omega
      clear hkc hC HR hts hSt hNN hkk hk0 hk1
      go_upto_region 5 with fail
      refine wp_region_held_drew (S := fun X => X.cell? ⟨b, off + i, none⟩ = some (.int .u16 kk)) (by kernel_rfl) pk0 (fun hHeld => ?_)
      refine wpAnyH_take (i := 0) (v := ?_) rfl (by kernel_rfl) (by kernel_rfl) (by kernel_rfl) (fun _ _ _ h => h) (Or.inl ⟨by rfl, ?qay0⟩) (by assumption) ?qar0
      case qay0 =>
        intro w hSw
        (try dsimp only at hSw)
        go_simp
        all_goals with_reducible rfl
      try simp only [List.getElem_toArray, List.getElem_cons_zero, List.getElem_cons_succ, Act.put, List.setIfInBounds_toArray, List.set_cons_zero, List.set_cons_succ]
      refine wpAnyH_take (i := 2) (v := ?_) rfl (by kernel_rfl) (by kernel_rfl) (by kernel_rfl) (fun _ _ _ h => h) (Or.inl ⟨by rfl, ?qay2⟩) (by assumption) ?qar2
      case qay2 =>
        intro w hSw
        (try dsimp only at hSw)
        go_simp
        all_goals with_reducible rfl
      try simp only [List.getElem_toArray, List.getElem_cons_zero, List.getElem_cons_succ, Act.put, List.setIfInBounds_toArray, List.set_cons_zero, List.set_cons_succ]
      refine wpAnyH_take (i := 3) (v := ?_) rfl (by kernel_rfl) (by kernel_rfl) (by kernel_rfl) (fun _ _ _ h => h) (Or.inl ⟨by rfl, ?qay3⟩) (by assumption) ?qar3
      case qay3 =>
        intro w hSw
        (try dsimp only at hSw)
        go_simp
        all_goals with_reducible rfl
      try simp only [List.getElem_toArray, List.getElem_cons_zero, List.getElem_cons_succ, Act.put, List.setIfInBounds_toArray, List.set_cons_zero, List.set_cons_succ]
      refine wpAnyH_take (i := 4) (v := ?_) rfl (by kernel_rfl) (by kernel_rfl) (by kernel_rfl) (fun _ _ _ h => h) (Or.inl ⟨by rfl, ?qay4⟩) (by assumption) ?qar4
      case qay4 =>
        intro w hSw
        (try dsimp only at hSw)
        go_simp
        all_goals with_reducible rfl
      try simp only [List.getElem_toArray, List.getElem_cons_zero, List.getElem_cons_succ, Act.put, List.setIfInBounds_toArray, List.set_cons_zero, List.set_cons_succ]
      refine wpAnyH_take (i := 5) (v := ?_) rfl (by kernel_rfl) (by kernel_rfl) (by kernel_rfl) (fun _ _ _ h => h) (Or.inl ⟨by rfl, ?qay5⟩) (by assumption) ?qar5
      case qay5 =>
        intro w hSw
        (try dsimp only at hSw)
        go_simp
        all_goals with_reducible rfl
      try simp only [List.getElem_toArray, List.getElem_cons_zero, List.getElem_cons_succ, Act.put, List.setIfInBounds_toArray, List.set_cons_zero, List.set_cons_succ]
      refine wpAnyH_take (i := 6) (v := ?_) rfl (by kernel_rfl) (by kernel_rfl) (by kernel_rfl) (fun _ _ _ h => h) (Or.inl ⟨by rfl, ?qay6⟩) (by assumption) ?qar6
      case qay6 =>
        intro w hSw
        (try dsimp only at hSw)
        go_simp
        all_goals with_reducible rfl
      try simp only [List.getElem_toArray, List.getElem_cons_zero, List.getElem_cons_succ, Act.put, List.setIfInBounds_toArray, List.set_cons_zero, List.set_cons_succ]
      refine wpAnyH_ready (rs := [1, 7]) (by kernel_rfl) (by simp) ?_
      refine AllReadyH.cons rfl (fun KK hK => ?_) (AllReadyH.cons rfl (fun KK hK => ?_) AllReadyH.nil)
      · go_simp
        refine hK.out _ _ (by assumption) (fun hHeld => ?_)
        clear hK KK
        try simp only [List.getElem_toArray, List.getElem_cons_zero, List.getElem_cons_succ, Act.put, List.setIfInBounds_toArray, List.set_cons_zero, List.set_cons_succ]
        refine wpAnyH_ready (rs := [7]) (by kernel_rfl) (by simp) ?_
        refine AllReadyH.cons rfl (fun KK hK => ?_) AllReadyH.nil
        go_simp
        with_reducible refine (CT _).mono ?_
        rintro e V2 ⟨t, p, s, q, C', rfl, hS, hl, hz, hM'⟩
        obtain ⟨A, hA⟩ : ∃ A, (tc t p s q).toArray = A := ⟨_, rfl⟩
        rw [hA]
        have hbs := bsliceT (t, p, s, q) hl
        rw [show (zc (t, p, s, q)).toArray = A from hA] at hbs
        have hbs1 := hbs V2
        have hon : A.all (·.oneCell') = true := by rw [← hA]; exact all_oneCell_toArray (zb_one hz)
        have hB2 := HC.out.below.trans (hM'.below.mono (Below.size HC.out.below))
        have hC2 := HC.out.after hM'.below
        have p1 := hC2.cell
        have p2 := (hC2.after ((Below.refl V2.heap.size V2).alloc (Nat.le_refl _) (.cells A 45 (0, 0)))).cell
        have pk1 := HKC.out _ hC2.below
        have pk2 := HKC.out _ (hC2.after ((Below.refl V2.heap.size V2).alloc (Nat.le_refl _) (.cells A 45 (0, 0)))).below
        obtain ⟨v4, V4, hrun, ⟨qa, qm, qc, rfl⟩, ⟨v0, cv0⟩, fr4, hb4, hb5, hH⟩ := cu_more HC.out (by show ts.length ≤ _; have := HTS.out; omega) hl hz hM' hA hon
        have pk4 := HKC.out _ hb4
        have pk5 := HKC.out _ hb5
        have HH : Hid (∃ ts u, ts.length = i + 1 ∧ (∀ j t, ts[j]? = some t → SeatT j t) ∧ Cu w (V4.setCell ⟨gc, 28, none⟩ (.slice qa qm qc)) gc g4 ⟨a0, [2, 1, 0, 0, 0, 0], [2, 2, 0, 0, 0, 0], [2, 3, 0, 0, 0, 0], [200, 0, 0, 0, 0, 0, 0, 0], f, ts⟩ u) := by
          refine ⟨ts ++ [t], _, by rw [List.length_append, HTS.out.1]; rfl, fun j t' hj => ?_, hH⟩
          rcases Nat.lt_or_ge j ts.length with hjl | hjl
          · rw [List.getElem?_append_left hjl] at hj; exact HTS.out.2.2.2 j t' hj
          · rw [List.getElem?_append_right hjl] at hj
            have hj0 : j - ts.length = 0 := by
              rcases Nat.eq_zero_or_pos (j - ts.length) with h0 | h0
              · exact h0
              · rw [List.getElem?_eq_none (by simp; omega)] at hj; cases hj
            rw [hj0] at hj
            have ej : j = i := by have := HTS.out.1; omega
            simp at hj; subst hj; rw [ej]; exact hS
        clear hH hM' hz hS hon hA hl hbs hB2 hC2
        try go_wp2_with fail
        refine hK.out _ _ (by assumption) (fun hHeld => ?_)
        clear hK KK
        try simp only [List.getElem_toArray, List.getElem_cons_zero, List.getElem_cons_succ, Act.put, List.setIfInBounds_toArray, List.set_cons_zero, List.set_cons_succ]
        refine wpAnyH_ready (rs := [8]) (by kernel_rfl) (by simp) ?_
        refine AllReadyH.cons rfl (fun KK hK => ?_) AllReadyH.nil
        refine step_bsl rfl 27 1 _ rfl hbs1 (by simp [Act.eval]) ?_
        refine hK.out _ _ (by assumption) (fun hHeld => ?_)
        clear hK KK
        try simp only [List.getElem_toArray, List.getElem_cons_zero, List.getElem_cons_succ, Act.put, List.setIfInBounds_toArray, List.set_cons_zero, List.set_cons_succ]
        refine wpAnyH_ready (rs := [9]) (by kernel_rfl) (by simp) ?_
        refine AllReadyH.cons rfl (fun KK hK => ?_) AllReadyH.nil
        refine step_append_run rfl (.tmp 27) (.tmp 34) 27 27 rfl (by simp [Act.eval]) (by simp [Act.eval]) hrun ?_
        refine hK.out _ _ (by assumption) (fun hHeld => ?_)
        clear hK KK
        try simp only [List.getElem_toArray, List.getElem_cons_zero, List.getElem_cons_succ, Act.put, List.setIfInBounds_toArray, List.set_cons_zero, List.set_cons_succ]
        refine wpAnyH_take (i := 10) (v := ?_) rfl (by kernel_rfl) (by kernel_rfl) (by kernel_rfl) (fun _ _ _ h => h) (Or.inl ⟨by rfl, ?qbzy10⟩) (by assumption) ?qbzr10
        case qbzy10 =>
          intro w hSw
          (try dsimp only at hSw)
          go_simp
          all_goals with_reducible rfl
        try simp only [List.getElem_toArray, List.getElem_cons_zero, List.getElem_cons_succ, Act.put, List.setIfInBounds_toArray, List.set_cons_zero, List.set_cons_succ]
        refine wpAnyH_ready (rs := [11]) (by kernel_rfl) (by simp) ?_
        refine AllReadyH.cons rfl (fun KK hK => ?_) AllReadyH.nil
        go_simp
        refine hK.out _ _ (by assumption) (fun hHeld => ?_)
        clear hK KK
        try simp only [List.getElem_toArray, List.getElem_cons_zero, List.getElem_cons_succ, Act.put, List.setIfInBounds_toArray, List.set_cons_zero, List.set_cons_succ]
        refine wpAnyH_done (by kernel_rfl) ?_ _
        go_wp2_with fail
        go_roundw
        case rel => exact ⟨i + 1, by omega, by go_num, HH⟩
        case measure => simp [intOf]; omega
      · go_simp
        with_reducible refine (CT _).mono ?_
        rintro e V2 ⟨t, p, s, q, C', rfl, hS, hl, hz, hM'⟩
        obtain ⟨A, hA⟩ : ∃ A, (tc t p s q).toArray = A := ⟨_, rfl⟩
        rw [hA]
        have hbs := bsliceT (t, p, s, q) hl
        rw [show (zc (t, p, s, q)).toArray = A from hA] at hbs
        have hbs1 := hbs V2
        have hon : A.all (·.oneCell') = true := by rw [← hA]; exact all_oneCell_toArray (zb_one hz)
        have hB2 := HC.out.below.trans (hM'.below.mono (Below.size HC.out.below))
        have hC2 := HC.out.after hM'.below
        have p1 := hC2.cell
        have p2 := (hC2.after ((Below.refl V2.heap.size V2).alloc (Nat.le_refl _) (.cells A 45 (0, 0)))).cell
        have pk1 := HKC.out _ hC2.below
        have pk2 := HKC.out _ (hC2.after ((Below.refl V2.heap.size V2).alloc (Nat.le_refl _) (.cells A 45 (0, 0)))).below
        obtain ⟨v4, V4, hrun, ⟨qa, qm, qc, rfl⟩, ⟨v0, cv0⟩, fr4, hb4, hb5, hH⟩ := cu_more HC.out (by show ts.length ≤ _; have := HTS.out; omega) hl hz hM' hA hon
        have pk4 := HKC.out _ hb4
        have pk5 := HKC.out _ hb5
        have HH : Hid (∃ ts u, ts.length = i + 1 ∧ (∀ j t, ts[j]? = some t → SeatT j t) ∧ Cu w (V4.setCell ⟨gc, 28, none⟩ (.slice qa qm qc)) gc g4 ⟨a0, [2, 1, 0, 0, 0, 0], [2, 2, 0, 0, 0, 0], [2, 3, 0, 0, 0, 0], [200, 0, 0, 0, 0, 0, 0, 0], f, ts⟩ u) := by
          refine ⟨ts ++ [t], _, by rw [List.length_append, HTS.out.1]; rfl, fun j t' hj => ?_, hH⟩
          rcases Nat.lt_or_ge j ts.length with hjl | hjl
          · rw [List.getElem?_append_left hjl] at hj; exact HTS.out.2.2.2 j t' hj
          · rw [List.getElem?_append_right hjl] at hj
            have hj0 : j - ts.length = 0 := by
              rcases Nat.eq_zero_or_pos (j - ts.length) with h0 | h0
              · exact h0
              · rw [List.getElem?_eq_none (by simp; omega)] at hj; cases hj
            rw [hj0] at hj
            have ej : j = i := by have := HTS.out.1; omega
            simp at hj; subst hj; rw [ej]; exact hS
        clear hH hM' hz hS hon hA hl hbs hB2 hC2
        try go_wp2_with fail
        refine hK.out _ _ (by assumption) (fun hHeld => ?_)
        clear hK KK
        try simp only [List.getElem_toArray, List.getElem_cons_zero, List.getElem_cons_succ, Act.put, List.setIfInBounds_toArray, List.set_cons_zero, List.set_cons_succ]
        refine wpAnyH_ready (rs := [1, 8]) (by kernel_rfl) (by simp) ?_
        refine AllReadyH.cons rfl (fun KK hK => ?_) (AllReadyH.cons rfl (fun KK hK => ?_) AllReadyH.nil)
        · go_simp
          refine hK.out _ _ (by assumption) (fun hHeld => ?_)
          clear hK KK
          try simp only [List.getElem_toArray, List.getElem_cons_zero, List.getElem_cons_succ, Act.put, List.setIfInBounds_toArray, List.set_cons_zero, List.set_cons_succ]
          refine wpAnyH_ready (rs := [8]) (by kernel_rfl) (by simp) ?_
          refine AllReadyH.cons rfl (fun KK hK => ?_) AllReadyH.nil
          refine step_bsl rfl 27 1 _ rfl hbs1 (by simp [Act.eval]) ?_
          refine hK.out _ _ (by assumption) (fun hHeld => ?_)
          clear hK KK
          try simp only [List.getElem_toArray, List.getElem_cons_zero, List.getElem_cons_succ, Act.put, List.setIfInBounds_toArray, List.set_cons_zero, List.set_cons_succ]
          refine wpAnyH_ready (rs := [9]) (by kernel_rfl) (by simp) ?_
          refine AllReadyH.cons rfl (fun KK hK => ?_) AllReadyH.nil
          refine step_append_run rfl (.tmp 27) (.tmp 34) 27 27 rfl (by simp [Act.eval]) (by simp [Act.eval]) hrun ?_
          refine hK.out _ _ (by assumption) (fun hHeld => ?_)
          clear hK KK
          try simp only [List.getElem_toArray, List.getElem_cons_zero, List.getElem_cons_succ, Act.put, List.setIfInBounds_toArray, List.set_cons_zero, List.set_cons_succ]
          refine wpAnyH_take (i := 10) (v := ?_) rfl (by kernel_rfl) (by kernel_rfl) (by kernel_rfl) (fun _ _ _ h => h) (Or.inl ⟨by rfl, ?qczy10⟩) (by assumption) ?qczr10
          case qczy10 =>
            intro w hSw
            (try dsimp only at hSw)
            go_simp
            all_goals with_reducible rfl
          try simp only [List.getElem_toArray, List.getElem_cons_zero, List.getElem_cons_succ, Act.put, List.setIfInBounds_toArray, List.set_cons_zero, List.set_cons_succ]
          refine wpAnyH_ready (rs := [11]) (by kernel_rfl) (by simp) ?_
          refine AllReadyH.cons rfl (fun KK hK => ?_) AllReadyH.nil
          go_simp
          refine hK.out _ _ (by assumption) (fun hHeld => ?_)
          clear hK KK
          try simp only [List.getElem_toArray, List.getElem_cons_zero, List.getElem_cons_succ, Act.put, List.setIfInBounds_toArray, List.set_cons_zero, List.set_cons_succ]
          refine wpAnyH_done (by kernel_rfl) ?_ _
          go_wp2_with fail
          go_roundw
          case rel => exact ⟨i + 1, by omega, by go_num, HH⟩
          case measure => simp [intOf]; omega
        · refine step_bsl rfl 27 1 _ rfl hbs1 (by simp [Act.eval]) ?_
          refine hK.out _ _ (by assumption) (fun hHeld => ?_)
          clear hK KK
          try simp only [List.getElem_toArray, List.getElem_cons_zero, List.getElem_cons_succ, Act.put, List.setIfInBounds_toArray, List.set_cons_zero, List.set_cons_succ]
          refine wpAnyH_ready (rs := [1]) (by kernel_rfl) (by simp) ?_
          refine AllReadyH.cons rfl (fun KK hK => ?_) AllReadyH.nil
          go_simp
          refine hK.out _ _ (by assumption) (fun hHeld => ?_)
          clear hK KK
          try simp only [List.getElem_toArray, List.getElem_cons_zero, List.getElem_cons_succ, Act.put, List.setIfInBounds_toArray, List.set_cons_zero, List.set_cons_succ]
          refine wpAnyH_ready (rs := [9]) (by kernel_rfl) (by simp) ?_
          refine AllReadyH.cons rfl (fun KK hK => ?_) AllReadyH.nil
          refine step_append_run rfl (.tmp 27) (.tmp 34) 27 27 rfl (by simp [Act.eval]) (by simp [Act.eval]) hrun ?_
          refine hK.out _ _ (by assumption) (fun hHeld => ?_)
          clear hK KK
          try simp only [List.getElem_toArray, List.getElem_cons_zero, List.getElem_cons_succ, Act.put, List.setIfInBounds_toArray, List.set_cons_zero, List.set_cons_succ]
          refine wpAnyH_take (i := 10) (v := ?_) rfl (by kernel_rfl) (by kernel_rfl) (by kernel_rfl) (fun _ _ _ h => h) (Or.inl ⟨by rfl, ?qdzy10⟩) (by assumption) ?qdzr10
          case qdzy10 =>
            intro w hSw
            (try dsimp only at hSw)
            go_simp
            all_goals with_reducible rfl
          try simp only [List.getElem_toArray, List.getElem_cons_zero, List.getElem_cons_succ, Act.put, List.setIfInBounds_toArray, List.set_cons_zero, List.set_cons_succ]
          refine wpAnyH_ready (rs := [11]) (by kernel_rfl) (by simp) ?_
          refine AllReadyH.cons rfl (fun KK hK => ?_) AllReadyH.nil
          go_simp
          refine hK.out _ _ (by assumption) (fun hHeld => ?_)
          clear hK KK
          try simp only [List.getElem_toArray, List.getElem_cons_zero, List.getElem_cons_succ, Act.put, List.setIfInBounds_toArray, List.set_cons_zero, List.set_cons_succ]
          refine wpAnyH_done (by kernel_rfl) ?_ _
          go_wp2_with fail
          go_roundw
          case rel => exact ⟨i + 1, by omega, by go_num, HH⟩
          case measure => simp [intOf]; omega
    · obtain rfl : i = N := by omega
      have hend : SeatC i ⟨a0, [2, 1, 0, 0, 0, 0], [2, 2, 0, 0, 0, 0], [2, 3, 0, 0, 0, 0], [200, 0, 0, 0, 0, 0, 0, 0], f, ts⟩ := ⟨f, ts, HV.out.2.1, HV.out.2.2, by rw [HV.out.1], hts, hNN.2.1, hSt⟩
      obtain ⟨zs, B, C, ez, hB, hz, hcl, hM⟩ := hC
      obtain ⟨A, hA⟩ : ∃ A, (cc ⟨a0, [2, 1, 0, 0, 0, 0], [2, 2, 0, 0, 0, 0], [2, 3, 0, 0, 0, 0], [200, 0, 0, 0, 0, 0, 0, 0], f, ts⟩ (.slice pa pm pc)).toArray = A := ⟨_, rfl⟩
      rw [hA] at hM
      have hsz : A.size = 29 := by rw [← hA, List.size_toArray]; exact cc_len hcl _
      have hone : A.all (·.oneCell') = true := by rw [← hA]; exact cc_one _ rfl
      have i29 : (Tryz.prog.info? 29).map (·.size) = some A.size := by rw [hsz]; kernel_rfl
      have k4 := hM.get 0 rfl
      have k5 := hM.get 1 rfl
      have hM3 := hM.wrote 1 rfl (wrote_setRow wr g4 _ A _ k5)
      have HQ : Hid ((wr.setRow g4 A).heap[g4]? = some (.cells A 29 (0, 0)) ∧ ScP i w (.returned (.agg A)) (wr.setRow g4 A)) := by
        refine ⟨hM3.get 1 rfl, _, _, rfl, hend, ?_, hM3.below⟩
        rw [← hA]
        exact cvs_tsb hcl ⟨zs, ez, hB, hz⟩ (by rw [hA]; exact hM3.sub.sub)
      have d1 : (((i : Int) < n) ∧ ¬ ((i : Int) < 4)) ∨ ¬ ((i : Int) < n) := by omega
      clear HR hM hM3 hB hz ez hend hSt hts hcl hA HK hNN HN
      rcases d1 with ⟨h1, h2⟩ | h1
      all_goals
        go_wp2_with (first | (refine wpList_load_row rfl 29 (.tmp 5) (by with_reducible rfl) gc (by first | rfl | simp [Act.eval]) 29 A (0, 0) _ k4 Tryz.underlying29 rfl i29 ?_) | (refine wpList_store_row rfl 29 (.tmp 4) (.tmp 37) (by with_reducible rfl) g4 A (by first | rfl | simp [Act.eval]) (by first | rfl | simp [Act.eval]) 29 cz k5 i29 (by rw [hsz]; rfl) hone ?_))
        refine bodyPost_ret (v := .agg A) ?_ rfl HQ.out.2
        exact results_cell_row (p := 4) (ty := 29) rfl _ _ g4 29 _ (0, 0) _ rfl HQ.out.1 Tryz.underlying29 rfl i29
end Go.Proofs.YtneciccdiledfaaGreatDoor

namespace Go.Proofs.YtneciccdiledfaaGreatDoor
open Go.RowKit
open La
open Ad
set_option linter.unusedVariables false
set_option linter.unusedSimpArgs false
set_option maxRecDepth 20000

set_option maxHeartbeats 16000000 in
theorem into_none {w V : World} {g : Nat} {lp : List Value} {lt : TypeId} {σ : Sg} {W K L : List (Nat × Obj)} {gc : Nat} {c : Cgf} (hV : Vs w) (hF : FW w) (h : LnS w V g lp lt σ W (L ++ K)) (hC : CfI gc c L) (ht : c.ten = []) {x : Wd} {r : List Wd} (hws : σ.ws = x :: r) (hx : x.1.data.toList ≠ wTenant) :
    Calls Tryz.prog 46 #[.pointer (some ⟨g, 0, none⟩), .pointer (some ⟨gc, 0, none⟩)] V (VP w (done (ln c σ).2) fun e V' => e = .returned (.tuple #[]) ∧ ∃ L', CfI gc (ln c σ).1 L' ∧ LnS w V' g lp lt (done (ln c σ).2) W (L' ++ K)) := by
  have hwd : La.wd σ = x := by unfold La.wd; rw [hws]
  have hnx : nxt σ = ⟨r, σ.fin, none⟩ := by unfold nxt; rw [hws, h.1]
  have hwt : wt σ ≠ wTenant := by unfold wt; rw [hwd]; exact hx
  obtain ⟨fin, hfin⟩ : ∃ f, σ.fin = f := ⟨_, rfl⟩
  have C := take_yes h hws
  rw [hfin] at C hnx
  obtain ⟨x1, x2⟩ := x
  have hln : ln c σ = (c, (⟨r, fin, none⟩ : Sg).fail x2) := by rw [ln_none hwt ht, hnx, hwd]
  rw [hln]
  have HB : Hid ((done ((⟨r, fin, none⟩ : Sg).fail x2)).bad = some x2) := done_bad rfl
  simp only at hx
  have n0 : (x1.toList == [116, 101, 110, 97, 110, 116]) = false := str_ne hx
  obtain ⟨hcl, hh⟩ := hC
  have hLe : L = [(gc, .cells (cc c nilV).toArray 29 (0, 0))] := by
    rcases hh with ⟨-, e⟩ | ⟨zs, t, gt, cap, post, C0, L1, e, -⟩
    · exact e
    · rw [ht] at e; simp at e
  subst hLe
  have HCL : Hid (CLen c) := hcl
  clear h hws hx hwd hnx hwt hln hfin hh hcl ht
  go_enter Tryz.func46, Tryz.ntmps46
  go_wp2_with fail
  refine C.mono ?_
  rintro e V1 ⟨rfl, hL⟩
  have HL : Hid (LnS w (V1.alloc (.cells #[.string x1, .int .i64 x2] 149 (0, 0))) g lp lt ⟨r, fin, none⟩ W ((V1.heap.size, .cells #[.string x1, .int .i64 x2] 149 (0, 0)) :: ([(gc, .cells (cc c nilV).toArray 29 (0, 0))] ++ K))) := hL.push _ rfl
  clear C hL
  go_upto_region 4 with fail
  refine wp_letter (fun X => LnS w X g lp lt ⟨r, fin, none⟩ W ((V1.heap.size, .cells #[.string x1, .int .i64 x2] 149 (0, 0)) :: ([(gc, .cells (cc c nilV).toArray 29 (0, 0))] ++ K))) (by exact HL.out) ?_
  intro V2 hR
  have d28 : V2.cell? ⟨gc, 28, none⟩ = some nilV := (hR.cellK (i := 1) rfl 28).trans (cc_at28 HCL.out _)
  have dw : V2.cell? ⟨V1.heap.size, 1, none⟩ = some (.int .i64 x2) := hR.cellK (i := 0) rfl 1
  have CF := fail_any hR.mem x2
  clear hR HL
  go_wp2_with fail
  refine CF.mono ?_
  rintro e V3 ⟨g', rfl, hM⟩
  exact ⟨rfl, Or.inr ⟨_, HB.out, g', rfl, hM⟩⟩
set_option maxHeartbeats 16000000 in
theorem into_part {w V : World} {g : Nat} {lp : List Value} {lt : TypeId} {σ : Sg} {W K L : List (Nat × Obj)} {gc : Nat} {c : Cgf} (hV : Vs w) (hF : FW w) (h : LnS w V g lp lt σ W (L ++ K)) (hC : CfI gc c L) (hn : ∀ t ∈ c.ten, t.pool.length + σ.ws.length ≤ 900000 ∧ t.stat.length ≤ 900000 ∧ t.twi.length ≤ 900000) (hne : c.ten ≠ []) {x : Wd} {r : List Wd} (hws : σ.ws = x :: r) (hx : x.1.data.toList ≠ wTenant) :
    Calls Tryz.prog 46 #[.pointer (some ⟨g, 0, none⟩), .pointer (some ⟨gc, 0, none⟩)] V (VP w (done (ln c σ).2) fun e V' => e = .returned (.tuple #[]) ∧ ∃ L', CfI gc (ln c σ).1 L' ∧ LnS w V' g lp lt (done (ln c σ).2) W (L' ++ K)) := by
  have hwd : La.wd σ = x := by unfold La.wd; rw [hws]
  have hnx : nxt σ = ⟨r, σ.fin, none⟩ := by unfold nxt; rw [hws, h.1]
  have hwt : wt σ ≠ wTenant := by unfold wt; rw [hwd]; exact hx
  obtain ⟨fin, hfin⟩ : ∃ f, σ.fin = f := ⟨_, rfl⟩
  have C := take_yes h hws
  rw [hfin] at C hnx
  obtain ⟨x1, x2⟩ := x
  obtain ⟨hcl, hh⟩ := hC
  rcases hh with ⟨e, -⟩ | ⟨zs, t, gt, cap, post, C0, L1, e, hz, hT, hc1, hc2, hc3, rfl⟩
  · exact absurd e hne
  have hln : ln c σ = ({ c with ten := zs.map Prod.fst ++ [(La.part (x1, x2) t ⟨r, fin, none⟩).1] }, (La.part (x1, x2) t ⟨r, fin, none⟩).2) := by rw [ln_some hwt e, hnx, hwd]
  rw [hln]
  simp only at hx
  have n0 : (x1.toList == [116, 101, 110, 97, 110, 116]) = false := str_ne hx
  have hlen : t.pool.length + r.length ≤ 900000 ∧ t.stat.length ≤ 900000 ∧ t.twi.length ≤ 900000 := by
    have := hn t (by rw [e]; simp)
    rw [hws, List.length_cons] at this
    omega
  have hpl : (zs.map zc).flatten.length = zs.length * 33 := zcs_len hz
  obtain ⟨N, hN⟩ : ∃ N, zs.length = N := ⟨_, rfl⟩
  rw [hN] at hpl hc1 hc3
  have HT : Hid (TAt gt (zs.map zc).flatten post 45 t L1) := hT
  have HZ : Hid (zs.length = N ∧ (zs.map zc).flatten.length = N * 33 ∧ CLen c ∧ (∀ z ∈ zs, ZB z C0) ∧ N + 1 ≤ cap ∧ cap ≤ maxLen ∧ (N + 1) * 33 + post.length = cap * 33) := ⟨hN, hpl, hcl, hz, hc1, hc2, hc3⟩
  rw [hN] at h C
  obtain ⟨R, hRR⟩ : ∃ R, La.part (x1, x2) t ⟨r, fin, none⟩ = R := ⟨_, rfl⟩
  have HRR : Hid (La.part (x1, x2) t ⟨r, fin, none⟩ = R) := hRR
  rw [hRR]
  have HLn : Hid (t.pool.length + r.length ≤ 900000 ∧ t.stat.length ≤ 900000 ∧ t.twi.length ≤ 900000) := hlen
  have lz : (0 : Int) < ((N + 1 : Nat) : Int) := by omega
  have wz : IntKind.i64.wrap (((N + 1 : Nat) : Int) - 1) = (N : Int) := by rw [wrap64 (by unfold maxLen at hc2; omega) (by unfold maxLen at hc2; omega)]; omega
  have lz2 : (N : Int) < ((N + 1 : Nat) : Int) := by omega
  clear h hws hx hwd hnx hwt hln hfin hcl hz hT hc1 hc2 hc3 hn hne e hlen hpl hRR
  obtain ⟨M, hM1⟩ : ∃ M, N + 1 = M := ⟨_, rfl⟩
  rw [hM1] at C lz wz lz2
  have HM1 : Hid (N + 1 = M) := hM1
  clear hM1
  go_enter Tryz.func46, Tryz.ntmps46
  go_wp2_with fail
  refine C.mono ?_
  rintro e V1 ⟨rfl, hL⟩
  have HL : Hid (LnS w (V1.alloc (.cells #[.string x1, .int .i64 x2] 149 (0, 0))) g lp lt ⟨r, fin, none⟩ W (L1 ++ ((V1.heap.size, .cells #[.string x1, .int .i64 x2] 149 (0, 0)) :: (gc, .cells (cc c (.slice (some ⟨gt, 0, none⟩) M cap)).toArray 29 (0, 0)) :: (C0 ++ K)))) := (hL.push _ rfl).perm (by
    classical
    rw [List.perm_iff_count]
    intro z
    simp only [List.count_append, List.count_cons]
    omega)
  clear C hL
  go_upto_region 4 with fail
  obtain ⟨gw, hgw⟩ : ∃ gw, V1.heap.size = gw := ⟨_, rfl⟩
  rw [hgw] at HL
  refine wp_letter (fun X => LnS w X g lp lt ⟨r, fin, none⟩ W (L1 ++ ((gw, .cells #[.string x1, .int .i64 x2] 149 (0, 0)) :: (gc, .cells (cc c (.slice (some ⟨gt, 0, none⟩) M cap)).toArray 29 (0, 0)) :: (C0 ++ K)))) (by exact HL.out) ?_
  intro V2 hR
  try simp only [hgw]
  clear hgw
  have HG : Hid (∀ X σ' L', LnS w X g lp lt σ' W (L' ++ ((gw, .cells #[.string x1, .int .i64 x2] 149 (0, 0)) :: (gc, .cells (cc c (.slice (some ⟨gt, 0, none⟩) M cap)).toArray 29 (0, 0)) :: (C0 ++ K))) → X.cell? ⟨gw, 0, none⟩ = some (.string x1) ∧ X.cell? ⟨gw, 1, none⟩ = some (.int .i64 x2) ∧ X.cell? ⟨gc, 28, none⟩ = some (.slice (some ⟨gt, 0, none⟩) M cap)) := by
    intro X σ' L' hX
    have h2 := hX.perm (K' := (gw, .cells #[.string x1, .int .i64 x2] 149 (0, 0)) :: (gc, .cells (cc c (.slice (some ⟨gt, 0, none⟩) M cap)).toArray 29 (0, 0)) :: (L' ++ (C0 ++ K))) (by
      classical
      rw [List.perm_iff_count]
      intro z
      simp only [List.count_append, List.count_cons]
      omega)
    exact ⟨h2.cellK (i := 0) rfl 0, h2.cellK (i := 0) rfl 1, (h2.cellK (i := 1) rfl 28).trans (cc_at28 HZ.out.2.2.1 _)⟩
  obtain ⟨c0, c1, c2⟩ := HG.out _ _ _ hR
  have CP := part_any hV hF (hR.after ((Below.refl _ _).drew)) HT.out HLn.out (x1, x2)
  rw [HRR.out, HZ.out.2.1] at CP
  simp only at CP
  clear hR HL
  go_upto_region 5 with fail
  cases hbz : R.2.bad with
  | some a =>
    have hdb : (done R.2).bad = some a := done_bad hbz
    have C2 : Calls Tryz.prog 83 #[.pointer (some ⟨g, 0, none⟩), .agg #[.string x1, .int .i64 x2], .pointer (some ⟨gt, N * 33, none⟩)] V2.drew (Pan w a) := CP.mono (by
      rintro e V3 (⟨h1, -⟩ | ⟨a', h1, hP⟩)
      · rw [hbz] at h1; cases h1
      · rw [hbz] at h1; cases h1; exact hP)
    clear CP hbz
    refine wp_region_held_drew (S := fun X => X.cell? ⟨gw, 0, none⟩ = some (.string x1) ∧ X.cell? ⟨gw, 1, none⟩ = some (.int .i64 x2) ∧ X.cell? ⟨gc, 28, none⟩ = some (.slice (some ⟨gt, 0, none⟩) M cap)) (by kernel_rfl) ⟨c0, c1, c2⟩ (fun hHeld => ?_)
    refine wpAnyH_take (i := 0) (v := ?_) rfl (by kernel_rfl) (by kernel_rfl) (by kernel_rfl) (fun _ _ _ h => h) (Or.inl ⟨by rfl, ?py0⟩) (by assumption) ?pr0
    case py0 =>
      intro w hSw
      (try dsimp only at hSw)
      go_simp
      all_goals with_reducible rfl
    try simp only [List.getElem_toArray, List.getElem_cons_zero, List.getElem_cons_succ, Act.put, List.setIfInBounds_toArray, List.set_cons_zero, List.set_cons_succ]
    refine wpAnyH_take (i := 1) (v := ?_) rfl (by kernel_rfl) (by kernel_rfl) (by kernel_rfl) (fun _ _ _ h => h) (Or.inl ⟨by rfl, ?py1⟩) (by assumption) ?pr1
    case py1 =>
      intro w hSw
      (try dsimp only at hSw)
      go_simp
      all_goals with_reducible rfl
    try simp only [List.getElem_toArray, List.getElem_cons_zero, List.getElem_cons_succ, Act.put, List.setIfInBounds_toArray, List.set_cons_zero, List.set_cons_succ]
    refine wpAnyH_take (i := 2) (v := ?_) rfl (by kernel_rfl) (by kernel_rfl) (by kernel_rfl) (fun _ _ _ h => h) (Or.inl ⟨by rfl, ?py2⟩) (by assumption) ?pr2
    case py2 =>
      intro w hSw
      (try dsimp only at hSw)
      go_simp
      all_goals with_reducible rfl
    try simp only [List.getElem_toArray, List.getElem_cons_zero, List.getElem_cons_succ, Act.put, List.setIfInBounds_toArray, List.set_cons_zero, List.set_cons_succ]
    refine wpAnyH_take (i := 3) (v := ?_) rfl (by kernel_rfl) (by kernel_rfl) (by kernel_rfl) (fun _ _ _ h => h) (Or.inl ⟨by rfl, ?py3⟩) (by assumption) ?pr3
    case py3 =>
      intro w hSw
      (try dsimp only at hSw)
      go_simp
      all_goals with_reducible rfl
    try simp only [List.getElem_toArray, List.getElem_cons_zero, List.getElem_cons_succ, Act.put, List.setIfInBounds_toArray, List.set_cons_zero, List.set_cons_succ]
    refine wpAnyH_take (i := 4) (v := ?_) rfl (by kernel_rfl) (by kernel_rfl) (by kernel_rfl) (fun _ _ _ h => h) (Or.inl ⟨by rfl, ?py4⟩) (by assumption) ?pr4
    case py4 =>
      intro w hSw
      (try dsimp only at hSw)
      go_simp
      all_goals with_reducible rfl
    try simp only [List.getElem_toArray, List.getElem_cons_zero, List.getElem_cons_succ, Act.put, List.setIfInBounds_toArray, List.set_cons_zero, List.set_cons_succ]
    refine wpAnyH_take (i := 5) (v := ?_) rfl (by kernel_rfl) (by kernel_rfl) (by kernel_rfl) (fun _ _ _ h => h) (Or.inl ⟨by rfl, ?py5⟩) (by assumption) ?pr5
    case py5 =>
      intro w hSw
      (try dsimp only at hSw)
      go_simp
      all_goals with_reducible rfl
    try simp only [List.getElem_toArray, List.getElem_cons_zero, List.getElem_cons_succ, Act.put, List.setIfInBounds_toArray, List.set_cons_zero, List.set_cons_succ]
    refine wpAnyH_take (i := 6) (v := ?_) rfl (by kernel_rfl) (by kernel_rfl) (by kernel_rfl) (fun _ _ _ h => h) (Or.inl ⟨by rfl, ?py6⟩) (by assumption) ?pr6
    case py6 =>
      intro w hSw
      (try dsimp only at hSw)
      go_simp
      all_goals with_reducible rfl
    try simp only [List.getElem_toArray, List.getElem_cons_zero, List.getElem_cons_succ, Act.put, List.setIfInBounds_toArray, List.set_cons_zero, List.set_cons_succ]
    refine wpAnyH_take (i := 7) (v := ?_) rfl (by kernel_rfl) (by kernel_rfl) (by kernel_rfl) (fun _ _ _ h => h) (Or.inl ⟨by rfl, ?py7⟩) (by assumption) ?pr7
    case py7 =>
      intro w hSw
      (try dsimp only at hSw)
      go_simp
      all_goals with_reducible rfl
    try simp only [List.getElem_toArray, List.getElem_cons_zero, List.getElem_cons_succ, Act.put, List.setIfInBounds_toArray, List.set_cons_zero, List.set_cons_succ]
    refine wpAnyH_take (i := 8) (v := ?_) rfl (by kernel_rfl) (by kernel_rfl) (by kernel_rfl) (fun _ _ _ h => h) (Or.inl ⟨by rfl, ?py8⟩) (by assumption) ?pr8
    case py8 =>
      intro w hSw
      (try dsimp only at hSw)
      go_simp
      all_goals with_reducible rfl
    try simp only [List.getElem_toArray, List.getElem_cons_zero, List.getElem_cons_succ, Act.put, List.setIfInBounds_toArray, List.set_cons_zero, List.set_cons_succ]
    refine wpAnyH_take (i := 9) (v := ?_) rfl (by kernel_rfl) (by kernel_rfl) (by kernel_rfl) (fun _ _ _ h => h) (Or.inl ⟨by rfl, ?py9⟩) (by assumption) ?pr9
    case py9 =>
      intro w hSw
      (try dsimp only at hSw)
      go_simp
      all_goals with_reducible rfl
    try simp only [List.getElem_toArray, List.getElem_cons_zero, List.getElem_cons_succ, Act.put, List.setIfInBounds_toArray, List.set_cons_zero, List.set_cons_succ]
    refine wpAnyH_take (i := 10) (v := ?_) rfl (by kernel_rfl) (by kernel_rfl) (by kernel_rfl) (fun _ _ _ h => h) (Or.inl ⟨by rfl, ?py10⟩) (by assumption) ?pr10
    case py10 =>
      intro w hSw
      (try dsimp only at hSw)
      go_simp
      all_goals with_reducible rfl
    try simp only [List.getElem_toArray, List.getElem_cons_zero, List.getElem_cons_succ, Act.put, List.setIfInBounds_toArray, List.set_cons_zero, List.set_cons_succ]
    refine wpAnyH_take (i := 11) (v := ?_) rfl (by kernel_rfl) (by kernel_rfl) (by kernel_rfl) (fun _ _ _ h => h) (Or.inl ⟨by rfl, ?py11⟩) (by assumption) ?pr11
    case py11 =>
      intro w hSw
      (try dsimp only at hSw)
      go_simp
      all_goals with_reducible rfl
    try simp only [List.getElem_toArray, List.getElem_cons_zero, List.getElem_cons_succ, Act.put, List.setIfInBounds_toArray, List.set_cons_zero, List.set_cons_succ]
    refine wpAnyH_take (i := 12) (v := ?_) rfl (by kernel_rfl) (by kernel_rfl) (by kernel_rfl) (fun _ _ _ h => h) (Or.inl ⟨by rfl, ?py12⟩) (by assumption) ?pr12
    case py12 =>
      intro w hSw
      (try dsimp only at hSw)
      go_simp
      all_goals with_reducible rfl
    try simp only [List.getElem_toArray, List.getElem_cons_zero, List.getElem_cons_succ, Act.put, List.setIfInBounds_toArray, List.set_cons_zero, List.set_cons_succ]
    refine wpAnyH_ready (rs := [13]) (by kernel_rfl) (by simp) ?_
    refine AllReadyH.cons rfl (fun KK hK => ?_) AllReadyH.nil
    go_simp
    with_reducible refine C2.mono ?_
    rintro e V3 ⟨g', rfl, hM⟩
    exact ⟨rfl, Or.inr ⟨_, hdb, g', rfl, hM⟩⟩
  | none =>
    have C2 : Calls Tryz.prog 83 #[.pointer (some ⟨g, 0, none⟩), .agg #[.string x1, .int .i64 x2], .pointer (some ⟨gt, N * 33, none⟩)] V2.drew fun e V' => e = .returned (.tuple #[]) ∧ ∃ L', TAt gt (zs.map zc).flatten post 45 R.1 L' ∧ LnS w V' g lp lt R.2 W (L' ++ ((gw, .cells #[.string x1, .int .i64 x2] 149 (0, 0)) :: (gc, .cells (cc c (.slice (some ⟨gt, 0, none⟩) M cap)).toArray 29 (0, 0)) :: (C0 ++ K))) := CP.mono (by
      rintro e V3 (⟨h1, hP⟩ | ⟨a', h1, hP⟩)
      · exact hP
      · rw [hbz] at h1; cases h1)
    clear CP hbz
    refine wp_region_held_drew (S := fun X => X.cell? ⟨gw, 0, none⟩ = some (.string x1) ∧ X.cell? ⟨gw, 1, none⟩ = some (.int .i64 x2) ∧ X.cell? ⟨gc, 28, none⟩ = some (.slice (some ⟨gt, 0, none⟩) M cap)) (by kernel_rfl) ⟨c0, c1, c2⟩ (fun hHeld => ?_)
    refine wpAnyH_take (i := 0) (v := ?_) rfl (by kernel_rfl) (by kernel_rfl) (by kernel_rfl) (fun _ _ _ h => h) (Or.inl ⟨by rfl, ?qy0⟩) (by assumption) ?qr0
    case qy0 =>
      intro w hSw
      (try dsimp only at hSw)
      go_simp
      all_goals with_reducible rfl
    try simp only [List.getElem_toArray, List.getElem_cons_zero, List.getElem_cons_succ, Act.put, List.setIfInBounds_toArray, List.set_cons_zero, List.set_cons_succ]
    refine wpAnyH_take (i := 1) (v := ?_) rfl (by kernel_rfl) (by kernel_rfl) (by kernel_rfl) (fun _ _ _ h => h) (Or.inl ⟨by rfl, ?qy1⟩) (by assumption) ?qr1
    case qy1 =>
      intro w hSw
      (try dsimp only at hSw)
      go_simp
      all_goals with_reducible rfl
    try simp only [List.getElem_toArray, List.getElem_cons_zero, List.getElem_cons_succ, Act.put, List.setIfInBounds_toArray, List.set_cons_zero, List.set_cons_succ]
    refine wpAnyH_take (i := 2) (v := ?_) rfl (by kernel_rfl) (by kernel_rfl) (by kernel_rfl) (fun _ _ _ h => h) (Or.inl ⟨by rfl, ?qy2⟩) (by assumption) ?qr2
    case qy2 =>
      intro w hSw
      (try dsimp only at hSw)
      go_simp
      all_goals with_reducible rfl
    try simp only [List.getElem_toArray, List.getElem_cons_zero, List.getElem_cons_succ, Act.put, List.setIfInBounds_toArray, List.set_cons_zero, List.set_cons_succ]
    refine wpAnyH_take (i := 3) (v := ?_) rfl (by kernel_rfl) (by kernel_rfl) (by kernel_rfl) (fun _ _ _ h => h) (Or.inl ⟨by rfl, ?qy3⟩) (by assumption) ?qr3
    case qy3 =>
      intro w hSw
      (try dsimp only at hSw)
      go_simp
      all_goals with_reducible rfl
    try simp only [List.getElem_toArray, List.getElem_cons_zero, List.getElem_cons_succ, Act.put, List.setIfInBounds_toArray, List.set_cons_zero, List.set_cons_succ]
    refine wpAnyH_take (i := 4) (v := ?_) rfl (by kernel_rfl) (by kernel_rfl) (by kernel_rfl) (fun _ _ _ h => h) (Or.inl ⟨by rfl, ?qy4⟩) (by assumption) ?qr4
    case qy4 =>
      intro w hSw
      (try dsimp only at hSw)
      go_simp
      all_goals with_reducible rfl
    try simp only [List.getElem_toArray, List.getElem_cons_zero, List.getElem_cons_succ, Act.put, List.setIfInBounds_toArray, List.set_cons_zero, List.set_cons_succ]
    refine wpAnyH_take (i := 5) (v := ?_) rfl (by kernel_rfl) (by kernel_rfl) (by kernel_rfl) (fun _ _ _ h => h) (Or.inl ⟨by rfl, ?qy5⟩) (by assumption) ?qr5
    case qy5 =>
      intro w hSw
      (try dsimp only at hSw)
      go_simp
      all_goals with_reducible rfl
    try simp only [List.getElem_toArray, List.getElem_cons_zero, List.getElem_cons_succ, Act.put, List.setIfInBounds_toArray, List.set_cons_zero, List.set_cons_succ]
    refine wpAnyH_take (i := 6) (v := ?_) rfl (by kernel_rfl) (by kernel_rfl) (by kernel_rfl) (fun _ _ _ h => h) (Or.inl ⟨by rfl, ?qy6⟩) (by assumption) ?qr6
    case qy6 =>
      intro w hSw
      (try dsimp only at hSw)
      go_simp
      all_goals with_reducible rfl
    try simp only [List.getElem_toArray, List.getElem_cons_zero, List.getElem_cons_succ, Act.put, List.setIfInBounds_toArray, List.set_cons_zero, List.set_cons_succ]
    refine wpAnyH_take (i := 7) (v := ?_) rfl (by kernel_rfl) (by kernel_rfl) (by kernel_rfl) (fun _ _ _ h => h) (Or.inl ⟨by rfl, ?qy7⟩) (by assumption) ?qr7
    case qy7 =>
      intro w hSw
      (try dsimp only at hSw)
      go_simp
      all_goals with_reducible rfl
    try simp only [List.getElem_toArray, List.getElem_cons_zero, List.getElem_cons_succ, Act.put, List.setIfInBounds_toArray, List.set_cons_zero, List.set_cons_succ]
    refine wpAnyH_take (i := 8) (v := ?_) rfl (by kernel_rfl) (by kernel_rfl) (by kernel_rfl) (fun _ _ _ h => h) (Or.inl ⟨by rfl, ?qy8⟩) (by assumption) ?qr8
    case qy8 =>
      intro w hSw
      (try dsimp only at hSw)
      go_simp
      all_goals with_reducible rfl
    try simp only [List.getElem_toArray, List.getElem_cons_zero, List.getElem_cons_succ, Act.put, List.setIfInBounds_toArray, List.set_cons_zero, List.set_cons_succ]
    refine wpAnyH_take (i := 9) (v := ?_) rfl (by kernel_rfl) (by kernel_rfl) (by kernel_rfl) (fun _ _ _ h => h) (Or.inl ⟨by rfl, ?qy9⟩) (by assumption) ?qr9
    case qy9 =>
      intro w hSw
      (try dsimp only at hSw)
      go_simp
      all_goals with_reducible rfl
    try simp only [List.getElem_toArray, List.getElem_cons_zero, List.getElem_cons_succ, Act.put, List.setIfInBounds_toArray, List.set_cons_zero, List.set_cons_succ]
    refine wpAnyH_take (i := 10) (v := ?_) rfl (by kernel_rfl) (by kernel_rfl) (by kernel_rfl) (fun _ _ _ h => h) (Or.inl ⟨by rfl, ?qy10⟩) (by assumption) ?qr10
    case qy10 =>
      intro w hSw
      (try dsimp only at hSw)
      go_simp
      all_goals with_reducible rfl
    try simp only [List.getElem_toArray, List.getElem_cons_zero, List.getElem_cons_succ, Act.put, List.setIfInBounds_toArray, List.set_cons_zero, List.set_cons_succ]
    refine wpAnyH_take (i := 11) (v := ?_) rfl (by kernel_rfl) (by kernel_rfl) (by kernel_rfl) (fun _ _ _ h => h) (Or.inl ⟨by rfl, ?qy11⟩) (by assumption) ?qr11
    case qy11 =>
      intro w hSw
      (try dsimp only at hSw)
      go_simp
      all_goals with_reducible rfl
    try simp only [List.getElem_toArray, List.getElem_cons_zero, List.getElem_cons_succ, Act.put, List.setIfInBounds_toArray, List.set_cons_zero, List.set_cons_succ]
    refine wpAnyH_take (i := 12) (v := ?_) rfl (by kernel_rfl) (by kernel_rfl) (by kernel_rfl) (fun _ _ _ h => h) (Or.inl ⟨by rfl, ?qy12⟩) (by assumption) ?qr12
    case qy12 =>
      intro w hSw
      (try dsimp only at hSw)
      go_simp
      all_goals with_reducible rfl
    try simp only [List.getElem_toArray, List.getElem_cons_zero, List.getElem_cons_succ, Act.put, List.setIfInBounds_toArray, List.set_cons_zero, List.set_cons_succ]
    refine wpAnyH_ready (rs := [13]) (by kernel_rfl) (by simp) ?_
    refine AllReadyH.cons rfl (fun KK hK => ?_) AllReadyH.nil
    go_simp
    with_reducible refine C2.mono ?_
    rintro e V3 ⟨rfl, L', hTP, hLP⟩
    try go_wp2_with fail
    refine hK.out _ _ (HG.out _ _ _ hLP) (fun hHeld => ?_)
    clear hK KK C2
    refine wpAnyH_done (by kernel_rfl) ?_ _
    have h5 := hLP.perm (K' := (gw, .cells #[.string x1, .int .i64 x2] 149 (0, 0)) :: (((gc, .cells (cc c (.slice (some ⟨gt, 0, none⟩) M cap)).toArray 29 (0, 0)) :: (L' ++ C0)) ++ K)) (by
      classical
      rw [List.perm_iff_count]
      intro z
      simp only [List.count_append, List.count_cons]
      omega)
    have CE := mustEnd_any h5.drop1
    have HCF : Hid (CfI gc { c with ten := zs.map Prod.fst ++ [R.1] } ((gc, .cells (cc c (.slice (some ⟨gt, 0, none⟩) M cap)).toArray 29 (0, 0)) :: (L' ++ C0))) := by
      obtain ⟨z1, z2, z3, z4, z5, z6, z7⟩ := HZ.out
      refine ⟨⟨z3.mac, z3.omac, z3.nmac, z3.key⟩, Or.inr ⟨zs, R.1, gt, cap, post, C0, L', rfl, z4, hTP, by rw [z1]; exact z5, z6, by rw [z1]; exact z7, by rw [z1, HM1.out]; rfl⟩⟩
    clear hLP hTP h5
    go_wp2_with fail
    refine CE.mono ?_
    rintro e V5 (⟨hb5, rfl, hR5⟩ | ⟨a, hb, g', rfl, hM⟩)
    rotate_left
    · exact ⟨rfl, Or.inr ⟨a, hb, g', rfl, hM⟩⟩
    go_wp2_with fail
    go_end0
    exact Or.inl ⟨hb5, rfl, _, HCF.out, hR5⟩
end Go.Proofs.YtneciccdiledfaaGreatDoor

namespace Go.Proofs.YtneciccdiledfaaGreatDoor
open Go.RowKit
open La
open Ad
set_option linter.unusedVariables false
set_option linter.unusedSimpArgs false
set_option maxRecDepth 20000

theorem Lg.frame {w V : World} {g : Nat} {σ : Sg} {W K : List (Nat × Obj)} (h : Lg w V g σ W K) : ∃ o, Mem w V ((g, o) :: (K ++ W)) ∧ ∀ V' K', Mem w V' ((g, o) :: (K' ++ W)) → Lg w V' g σ W K' := by
  obtain ⟨h1, v, all, i, at_, h2, h3, h4, h5, h6, hM⟩ := h
  exact ⟨_, hM, fun V' K' h => ⟨h1, v, all, i, at_, h2, h3, h4, h5, h6, h⟩⟩
theorem fail_same {σ : Sg} {a b : Nat} (h : σ.bad = some a) : σ.fail b = σ := by
  obtain ⟨x, y, z⟩ := σ; simp only at h; subst h; rfl
/-- What line answers. -/
def RL (w : World) (g : Nat) (W K : List (Nat × Obj)) (gc : Nat) (r : Cgf × Sg) (e : Ending) (V' : World) : Prop := e = .returned (.tuple #[]) ∧ ∃ L', CfI gc r.1 L' ∧ Lg w V' g r.2 W (L' ++ K)
theorem rl_of {w V : World} {g : Nat} {σ : Sg} {W K C0 L2 : List (Nat × Obj)} {gc gt gw N M cap : Nat} {c : Cgf} {zs : List Tv} {post : List Value} {t : Ten} {o : Obj} (hz : zs.length = N ∧ (zs.map zc).flatten.length = N * 33 ∧ CLen c ∧ (∀ z ∈ zs, ZB z C0) ∧ N + 1 ≤ cap ∧ cap ≤ maxLen ∧ (N + 1) * 33 + post.length = cap * 33) (hM : N + 1 = M)
    (hT : TAt gt (zs.map zc).flatten post 45 t L2) (h : Lg w V g σ W (L2 ++ ((gw, o) :: (gc, .cells (cc c (.slice (some ⟨gt, 0, none⟩) M cap)).toArray 29 (0, 0)) :: (C0 ++ K)))) : ∃ L', CfI gc { c with ten := zs.map Prod.fst ++ [t] } L' ∧ Lg w V g σ W (L' ++ K) := by
  have h5 := h.perm (K' := (gw, o) :: (((gc, .cells (cc c (.slice (some ⟨gt, 0, none⟩) M cap)).toArray 29 (0, 0)) :: (L2 ++ C0)) ++ K)) (by
    classical
    rw [List.perm_iff_count]
    intro z
    simp only [List.count_append, List.count_cons]
    omega)
  obtain ⟨z1, z2, z3, z4, z5, z6, z7⟩ := hz
  exact ⟨_, ⟨⟨z3.mac, z3.omac, z3.nmac, z3.key⟩, Or.inr ⟨zs, t, gt, cap, post, C0, L2, rfl, z4, hT, by rw [z1]; exact z5, z6, by rw [z1]; exact z7, by rw [z1, hM]; rfl⟩⟩, h5.drop1⟩
theorem rl_cells {w V : World} {g : Nat} {σ : Sg} {W K C0 L2 : List (Nat × Obj)} {gc gt gw M cap : Nat} {c : Cgf} {x1 : ByteArray} {x2 : Nat} (hc : CLen c) (h : Lg w V g σ W (L2 ++ ((gw, .cells #[.string x1, .int .i64 x2] 79 (0, 0)) :: (gc, .cells (cc c (.slice (some ⟨gt, 0, none⟩) M cap)).toArray 29 (0, 0)) :: (C0 ++ K)))) : V.cell? ⟨gw, 0, none⟩ = some (.string x1) ∧ V.cell? ⟨gw, 1, none⟩ = some (.int .i64 x2) ∧ V.cell? ⟨gc, 28, none⟩ = some (.slice (some ⟨gt, 0, none⟩) M cap) := by
  have h2 := h.perm (K' := (gw, .cells #[.string x1, .int .i64 x2] 79 (0, 0)) :: (gc, .cells (cc c (.slice (some ⟨gt, 0, none⟩) M cap)).toArray 29 (0, 0)) :: (L2 ++ (C0 ++ K))) (by
    classical
    rw [List.perm_iff_count]
    intro z
    simp only [List.count_append, List.count_cons]
    omega)
  exact ⟨h2.cellK (i := 0) rfl 0, h2.cellK (i := 0) rfl 1, (h2.cellK (i := 1) rfl 28).trans (cc_at28 hc _)⟩
set_option maxHeartbeats 16000000 in
theorem dl_none {w V : World} {g : Nat} {σ : Sg} {W K L : List (Nat × Obj)} {gc : Nat} {c : Cgf} (h : Lg w V g σ W (L ++ K)) (hC : CfI gc c L) (ht : c.ten = []) (hx : wt σ ≠ wTenant) :
    Calls Tryz.prog 28 #[.pointer (some ⟨g, 0, none⟩), .pointer (some ⟨gc, 0, none⟩)] V (RL w g W K gc (ln c σ)) := by
  have C := rword_any h
  have hln := ln_none hx ht
  rw [hln]
  have n0 : ((La.wd σ).1.toList == [116, 101, 110, 97, 110, 116]) = false := str_ne hx
  obtain ⟨hcl, hh⟩ := hC
  have hLe : L = [(gc, .cells (cc c nilV).toArray 29 (0, 0))] := by
    rcases hh with ⟨-, e⟩ | ⟨zs, t, gt, cap, post, C0, L1, e, -⟩
    · exact e
    · rw [ht] at e; simp at e
  subst hLe
  have HCL : Hid (CLen c ∧ CfI gc c [(gc, .cells (cc c nilV).toArray 29 (0, 0))]) := ⟨hcl, hcl, hh⟩
  clear h hx hln hh hcl ht
  generalize (La.wd σ).2 = x2 at C ⊢
  generalize (La.wd σ).1 = x1 at C n0
  generalize nxt σ = τ at C ⊢
  go_enter Tryz.func28, Tryz.ntmps28
  go_wp2_with fail
  refine C.mono ?_
  rintro e V1 ⟨rfl, hL⟩
  obtain ⟨gw, hgw⟩ : ∃ gw, V1.heap.size = gw := ⟨_, rfl⟩
  have HL : Hid (Lg w (V1.alloc (.cells #[.string x1, .int .i64 x2] 79 (0, 0))) g τ W ((gw, .cells #[.string x1, .int .i64 x2] 79 (0, 0)) :: ([(gc, .cells (cc c nilV).toArray 29 (0, 0))] ++ K))) := hL.push _ hgw.symm
  clear C hL
  go_upto_region 17 with fail
  refine wp_letter (fun X => Lg w X g τ W ((gw, .cells #[.string x1, .int .i64 x2] 79 (0, 0)) :: ([(gc, .cells (cc c nilV).toArray 29 (0, 0))] ++ K))) (by exact HL.out) ?_
  intro V2 hR
  try simp only [hgw]
  have d28 : V2.cell? ⟨gc, 28, none⟩ = some nilV := (hR.cellK (i := 1) rfl 28).trans (cc_at28 HCL.out.1 _)
  have dw : V2.cell? ⟨gw, 1, none⟩ = some (.int .i64 x2) := hR.cellK (i := 0) rfl 1
  have CF := rfail_any hR x2
  clear hR HL hgw
  go_wp2_with fail
  refine CF.mono ?_
  rintro e V3 ⟨rfl, hM⟩
  have HM : Hid (Lg w V3 g (τ.fail x2) W ([(gc, .cells (cc c nilV).toArray 29 (0, 0))] ++ K)) := hM.drop1
  clear hM CF
  go_wp2_with fail
  go_end0
  exact ⟨rfl, _, HCL.out.2, HM.out⟩
set_option maxHeartbeats 16000000 in
theorem dl_other {w V : World} {g : Nat} {σ : Sg} {W K L : List (Nat × Obj)} {gc : Nat} {c : Cgf} (h : Lg w V g σ W (L ++ K)) (hC : CfI gc c L) (hne : c.ten ≠ []) (hx : wt σ ≠ wTenant) (h0 : wt σ ≠ wPool) (h1 : wt σ ≠ wPorts) (h2 : wt σ ≠ wFilter) (h3 : wt σ ≠ wStatic) (h4 : wt σ ≠ wTwice) (h5 : wt σ ≠ wQuota) (h6 : wt σ ≠ wRate) :
    Calls Tryz.prog 28 #[.pointer (some ⟨g, 0, none⟩), .pointer (some ⟨gc, 0, none⟩)] V (RL w g W K gc (ln c σ)) := by
  have hwt : wt σ ≠ wTenant := hx
  have C := rword_any h
  obtain ⟨hcl, hh⟩ := hC
  rcases hh with ⟨e, -⟩ | ⟨zs, t, gt, cap, post, C0, L1, e, hz, hT, hc1, hc2, hc3, rfl⟩
  · exact absurd e hne
  have hp : La.part (La.wd σ) t (nxt σ) = (t, (nxt σ).fail (La.wd σ).2) := by
    unfold La.part; rw [if_neg h0, if_neg h1, if_neg h2, if_neg h3, if_neg h4, if_neg h5, if_neg h6]
  have hln : ln c σ = ({ c with ten := zs.map Prod.fst ++ [(La.part (La.wd σ) t (nxt σ)).1] }, (La.part (La.wd σ) t (nxt σ)).2) := ln_some hwt e
  rw [hp] at hln
  rw [hln]
  have n0 : ((La.wd σ).1.toList == [116, 101, 110, 97, 110, 116]) = false := str_ne hx
  have m0 : ((La.wd σ).1.toList == [112, 111, 111, 108]) = false := str_ne h0
  have m1 : ((La.wd σ).1.toList == [112, 111, 114, 116, 115]) = false := str_ne h1
  have m2 : ((La.wd σ).1.toList == [102, 105, 108, 116, 101, 114]) = false := str_ne h2
  have m3 : ((La.wd σ).1.toList == [115, 116, 97, 116, 105, 99]) = false := str_ne h3
  have m4 : ((La.wd σ).1.toList == [116, 119, 105, 99, 101]) = false := str_ne h4
  have m5 : ((La.wd σ).1.toList == [113, 117, 111, 116, 97]) = false := str_ne h5
  have m6 : ((La.wd σ).1.toList == [114, 97, 116, 101]) = false := str_ne h6
  have hpl : (zs.map zc).flatten.length = zs.length * 33 := zcs_len hz
  obtain ⟨N, hN⟩ : ∃ N, zs.length = N := ⟨_, rfl⟩
  rw [hN] at hpl hc1 hc3
  have HT : Hid (TAt gt (zs.map zc).flatten post 45 t L1) := hT
  have HZ : Hid (zs.length = N ∧ (zs.map zc).flatten.length = N * 33 ∧ CLen c ∧ (∀ z ∈ zs, ZB z C0) ∧ N + 1 ≤ cap ∧ cap ≤ maxLen ∧ (N + 1) * 33 + post.length = cap * 33) := ⟨hN, hpl, hcl, hz, hc1, hc2, hc3⟩
  rw [hN] at h C
  have wz : IntKind.i64.wrap (((N + 1 : Nat) : Int) - 1) = (N : Int) := by rw [wrap64 (by unfold maxLen at hc2; omega) (by unfold maxLen at hc2; omega)]; omega
  have lz0 : (0 : Int) ≤ (N : Int) := by omega
  have lz2 : (N : Int) < ((N + 1 : Nat) : Int) := by omega
  have lz3 : (((N + 1 : Nat) : Int) == 0) = false := by rw [beq_eq_false_iff_ne]; omega
  clear h hx hwt hln hcl hz hT hc1 hc2 hc3 hne e hpl hp h0 h1 h2 h3 h4 h5 h6
  obtain ⟨M, hM1⟩ : ∃ M, N + 1 = M := ⟨_, rfl⟩
  rw [hM1] at C wz lz2 lz3
  have HM1 : Hid (N + 1 = M) := hM1
  clear hM1
  generalize (La.wd σ).2 = x2 at C ⊢
  generalize (La.wd σ).1 = x1 at *
  generalize nxt σ = τ at *
  obtain ⟨n, hn⟩ : ∃ n, N * 33 = n := ⟨_, rfl⟩
  have HN : Hid ((zs.map zc).flatten.length = n) := by rw [← hn]; exact HZ.out.2.1
  go_enter Tryz.func28, Tryz.ntmps28
  go_wp2_with fail
  refine C.mono ?_
  rintro e V1 ⟨rfl, hL⟩
  obtain ⟨gw, hgw⟩ : ∃ gw, V1.heap.size = gw := ⟨_, rfl⟩
  have HL : Hid (Lg w (V1.alloc (.cells #[.string x1, .int .i64 x2] 79 (0, 0))) g τ W (L1 ++ ((gw, .cells #[.string x1, .int .i64 x2] 79 (0, 0)) :: (gc, .cells (cc c (.slice (some ⟨gt, 0, none⟩) M cap)).toArray 29 (0, 0)) :: (C0 ++ K)))) := (hL.push _ hgw.symm).perm (by
    classical
    rw [List.perm_iff_count]
    intro z
    simp only [List.count_append, List.count_cons]
    omega)
  clear C hL
  go_upto_region 17 with fail
  refine wp_letter (fun X => Lg w X g τ W (L1 ++ ((gw, .cells #[.string x1, .int .i64 x2] 79 (0, 0)) :: (gc, .cells (cc c (.slice (some ⟨gt, 0, none⟩) M cap)).toArray 29 (0, 0)) :: (C0 ++ K)))) (by exact HL.out) ?_
  intro V2 hR
  try simp only [hgw]
  clear hgw HL
  have c2 := (rl_cells HZ.out.2.2.1 hR).2.2
  have HL : Hid (Lg w V2 g τ W (L1 ++ ((gw, .cells #[.string x1, .int .i64 x2] 79 (0, 0)) :: (gc, .cells (cc c (.slice (some ⟨gt, 0, none⟩) M cap)).toArray 29 (0, 0)) :: (C0 ++ K)))) := hR
  clear hR
  go_upto_region 19 with fail
  go_quiet (fail)
  go_upto_region 20 with fail
  refine wp_letter (fun X => Lg w X g τ W (L1 ++ ((gw, .cells #[.string x1, .int .i64 x2] 79 (0, 0)) :: (gc, .cells (cc c (.slice (some ⟨gt, 0, none⟩) M cap)).toArray 29 (0, 0)) :: (C0 ++ K)))) (by first | exact HL.out.drewN _ | exact HL.out) ?_
  intro V0 hR
  try simp only [hn]
  obtain ⟨c0, c1, -⟩ := rl_cells HZ.out.2.2.1 hR
  have HR : Hid (Lg w V0 g τ W (L1 ++ ((gw, .cells #[.string x1, .int .i64 x2] 79 (0, 0)) :: (gc, .cells (cc c (.slice (some ⟨gt, 0, none⟩) M cap)).toArray 29 (0, 0)) :: (C0 ++ K)))) := hR
  clear hR HL c2 hn
  have CF := rfail_any HR.out x2
  clear HR
  go_wp2_with fail
  refine CF.mono ?_
  rintro e V3 ⟨rfl, hM⟩
  have HM : Hid (Lg w V3 g (τ.fail x2) W (L1 ++ ((gw, .cells #[.string x1, .int .i64 x2] 79 (0, 0)) :: (gc, .cells (cc c (.slice (some ⟨gt, 0, none⟩) M cap)).toArray 29 (0, 0)) :: (C0 ++ K)))) := hM
  clear hM CF
  go_wp2_with fail
  go_end0
  exact ⟨rfl, rl_of HZ.out HM1.out HT.out HM.out⟩
end Go.Proofs.YtneciccdiledfaaGreatDoor

