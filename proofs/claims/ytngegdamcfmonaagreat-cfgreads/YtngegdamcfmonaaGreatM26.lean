/-
  Settings as bytes: the document's own Tenant, at every tenant.
-/
import Derived.Test.YtngegdamcfmonaaGreatM23
import Derived.Test.YtngegdamcfmonaaGreatM25
import Derived.Deep.DeepCutAuto
namespace Go.Proofs.YtngegdamcfmonaaGreat
open Go.RowKit
open Sm
open Cf
set_option linter.unusedVariables false
set_option maxRecDepth 20000
set_option linter.unusedSimpArgs false

theorem Ob.add {w W : World} {v : Value} {l : List Int} {L : List (Nat × Obj)} {n : Nat} {o : Obj} {g : Nat} (h : Ob w W v l L n) (hg : g = W.heap.size) : Ob w (W.alloc o) v l ((g, o) :: L) n := ⟨h.1.add hg, h.2⟩
theorem Ob.drop {w W : World} {v : Value} {l : List Int} {L : List (Nat × Obj)} {n : Nat} {p : Nat × Obj} (h : Ob w W v l (p :: L) n) : Ob w W v l L n := ⟨h.1.drop, h.2⟩
theorem row_box {w V : World} {L : List (Nat × Obj)} {g : Nat} {k : List Int} {t : TypeId} (hM : Mem w V ((g, .cells (k.map (Value.int .u8)).toArray t (0, 0)) :: L)) (hk : IsBytes k) (hl : k.length ≤ 140737488351232) : Row V (some ⟨g, 0, none⟩) k :=
  ⟨hk, hl, Or.inr ⟨g, 0, rfl, fun i hi => by rw [Nat.zero_add, hM.cell 0 rfl]; simp [hi]⟩⟩
/-- The bytes of a tenant up to its lists. -/
def thead (t : Ten) : List Int := cat (fun i => (tsp.getD i sp0).enc t) 13
theorem thead_eq (t : Ten) : thead t = (((((((((((([] ++ nm t.name) ++ be 4 t.vni) ++ t.key) ++ be 4 t.vtep) ++ t.vmac) ++ t.host) ++ be 2 t.lo) ++ be 2 t.hi) ++ be 1 t.filter) ++ be 2 t.sess) ++ be 2 t.queue) ++ be 4 t.rate) ++ be 4 t.burst := rfl
theorem tenc_eq (t : Ten) : tenc t = (((thead t ++ [((min t.pool.length 255 : Nat) : Int), ((min t.stat.length 255 : Nat) : Int), ((min t.twi.length 255 : Nat) : Int)]) ++ cat (fun i => be 4 (t.pool.getD i 0)) (min t.pool.length 255)) ++ cat (fun i => spP.enc (t.stat.getD i (0, 0))) (min t.stat.length 255)) ++ cat (fun i => spP.enc (t.twi.getD i (0, 0))) (min t.twi.length 255) := by
  have : thead t ++ [((min t.pool.length 255 : Nat) : Int), ((min t.stat.length 255 : Nat) : Int), ((min t.twi.length 255 : Nat) : Int)] = ((thead t ++ [((min t.pool.length 255 : Nat) : Int)]) ++ [((min t.stat.length 255 : Nat) : Int)]) ++ [((min t.twi.length 255 : Nat) : Int)] := by simp
  rw [this]
  rfl
set_option maxHeartbeats 8000000 in
theorem rtenant_any {w : World} {v : Value} {t : Ten} (h : TV w v t) (hi : TIn t) :
    Calls Tryz.prog 18 #[v] w fun e w' => ∃ u, e = .returned u ∧ Ob w w' u (tenc t) [] 5500 := by
  obtain ⟨hlen, p, s, q, rfl, h1, h2, h3⟩ := h
  obtain ⟨g, hg⟩ : ∃ g, w.heap.size = g := ⟨_, rfl⟩
  have hM0 : Mem w (w.alloc (.cells (tc t p s q).toArray 33)) [(g, .cells (tc t p s q).toArray 33 (0, 0))] := (Mem.nil w).push1 hg.symm
  have HI := fun K (hm : (g, Obj.cells ([] ++ (tc t p s q ++ [])).toArray 33 (0, 0)) ∈ K) => IT_box (w := w) hi h1 h2 h3 hm
  simp only [List.nil_append, List.append_nil, List.length_nil] at HI
  have HII : Hid (∀ K, (g, Obj.cells (tc t p s q).toArray 33 (0, 0)) ∈ K → ∀ V, Mem w V K → IT t (p, s, q) V g 0) := HI
  have cel : ∀ o v, (tc t p s q)[o]? = some v → ∀ K, (g, Obj.cells (tc t p s q).toArray 33 (0, 0)) ∈ K → ∀ V, Mem w V K → V.cell? ⟨g, o, none⟩ = some v := by
    intro o v hv K hm V hV
    have := (HI K hm V hV).cell o hv
    rwa [Nat.zero_add] at this
  have gt : ∀ o v, (∀ n vn a b c d f g x y vt a1 b1 c1 d1 f1 g1 a2 b2 c2 d2 f2 g2 po lo hi fi st tw se qu ra bu, t = ⟨n, vn, [a, b, c, d, f, g, x, y], vt, [a1, b1, c1, d1, f1, g1], [a2, b2, c2, d2, f2, g2], po, lo, hi, fi, st, tw, se, qu, ra, bu⟩ → (tc t p s q)[o]? = some v) → ∀ K, (g, Obj.cells (tc t p s q).toArray 33 (0, 0)) ∈ K → ∀ V, Mem w V K → V.cell? ⟨g, o, none⟩ = some v := fun o v hv => cel o v (tget hlen hv)
  have D0 : Hid _ := gt 0 (.string t.name) (by rintro n vn a b c d f g x y vt a1 b1 c1 d1 f1 g1 a2 b2 c2 d2 f2 g2 po lo hi fi st tw se qu ra bu rfl; rfl)
  have D1 : Hid _ := gt 1 (.int .u32 t.vni) (by rintro n vn a b c d f g x y vt a1 b1 c1 d1 f1 g1 a2 b2 c2 d2 f2 g2 po lo hi fi st tw se qu ra bu rfl; rfl)
  have D10 : Hid _ := gt 10 (.int .u32 t.vtep) (by rintro n vn a b c d f g x y vt a1 b1 c1 d1 f1 g1 a2 b2 c2 d2 f2 g2 po lo hi fi st tw se qu ra bu rfl; rfl)
  have D23 : Hid _ := gt 23 p (by rintro n vn a b c d f g x y vt a1 b1 c1 d1 f1 g1 a2 b2 c2 d2 f2 g2 po lo hi fi st tw se qu ra bu rfl; rfl)
  have D24 : Hid _ := gt 24 (.int .u16 t.lo) (by rintro n vn a b c d f g x y vt a1 b1 c1 d1 f1 g1 a2 b2 c2 d2 f2 g2 po lo hi fi st tw se qu ra bu rfl; rfl)
  have D25 : Hid _ := gt 25 (.int .u16 t.hi) (by rintro n vn a b c d f g x y vt a1 b1 c1 d1 f1 g1 a2 b2 c2 d2 f2 g2 po lo hi fi st tw se qu ra bu rfl; rfl)
  have D26 : Hid _ := gt 26 (.int .i64 t.filter) (by rintro n vn a b c d f g x y vt a1 b1 c1 d1 f1 g1 a2 b2 c2 d2 f2 g2 po lo hi fi st tw se qu ra bu rfl; rfl)
  have D27 : Hid _ := gt 27 s (by rintro n vn a b c d f g x y vt a1 b1 c1 d1 f1 g1 a2 b2 c2 d2 f2 g2 po lo hi fi st tw se qu ra bu rfl; rfl)
  have D28 : Hid _ := gt 28 q (by rintro n vn a b c d f g x y vt a1 b1 c1 d1 f1 g1 a2 b2 c2 d2 f2 g2 po lo hi fi st tw se qu ra bu rfl; rfl)
  have D29 : Hid _ := gt 29 (.int .i64 t.sess) (by rintro n vn a b c d f g x y vt a1 b1 c1 d1 f1 g1 a2 b2 c2 d2 f2 g2 po lo hi fi st tw se qu ra bu rfl; rfl)
  have D30 : Hid _ := gt 30 (.int .i64 t.queue) (by rintro n vn a b c d f g x y vt a1 b1 c1 d1 f1 g1 a2 b2 c2 d2 f2 g2 po lo hi fi st tw se qu ra bu rfl; rfl)
  have D31 : Hid _ := gt 31 (.int .u32 t.rate) (by rintro n vn a b c d f g x y vt a1 b1 c1 d1 f1 g1 a2 b2 c2 d2 f2 g2 po lo hi fi st tw se qu ra bu rfl; rfl)
  have D32 : Hid _ := gt 32 (.int .u32 t.burst) (by rintro n vn a b c d f g x y vt a1 b1 c1 d1 f1 g1 a2 b2 c2 d2 f2 g2 po lo hi fi st tw se qu ra bu rfl; rfl)
  have RK : Hid (∀ K, (g, Obj.cells (tc t p s q).toArray 33 (0, 0)) ∈ K → ∀ V, Mem w V K → Row V (some ⟨g, 2, none⟩) t.key ∧ Row V (some ⟨g, 11, none⟩) t.vmac ∧ Row V (some ⟨g, 17, none⟩) t.host) := by
    intro K hm V hV
    have h := HI K hm V hV
    have a1 := h.row 2 t.key hi.key (by rw [hlen.key]; omega) [.string t.name, .int .u32 t.vni] _ rfl rfl
    have a2 := h.row 11 t.vmac hi.vmac (by rw [hlen.vmac]; omega) (.string t.name :: .int .u32 t.vni :: (t.key.map (Value.int .u8) ++ [.int .u32 t.vtep])) (t.host.map (Value.int .u8) ++ ttl t p s q) (by simp [hlen.key]) (by simp [tc, ttl])
    have a3 := h.row 17 t.host hi.host (by rw [hlen.host]; omega) (.string t.name :: .int .u32 t.vni :: (t.key.map (Value.int .u8) ++ .int .u32 t.vtep :: t.vmac.map (Value.int .u8))) (ttl t p s q) (by simp [hlen.key, hlen.vmac]) (by simp [tc, ttl])
    rw [Nat.zero_add] at a1 a2 a3
    exact ⟨a1, a2, a3⟩
  have HL : Hid (t.key.length = 8 ∧ t.vmac.length = 6 ∧ t.host.length = 6) := ⟨hlen.key, hlen.vmac, hlen.host⟩
  have HT : Hid (tenc t = _) := tenc_eq t
  have HH : Hid (thead t = _) := thead_eq t
  have HR : Hid (Rw w 1 p (ux t.pool) ∧ Rw w 2 s (px t.stat) ∧ Rw w 2 q (px t.twi)) := ⟨h1, h2, h3⟩
  have HN : Hid (t.pool.length ≤ 1000000 ∧ t.stat.length ≤ 1000000 ∧ t.twi.length ≤ 1000000) := ⟨hi.pool, hi.stat, hi.twi⟩
  clear HI cel gt HII h1 h2 h3 hlen hi
  generalize (tc t p s q).toArray = tl at *
  obtain ⟨L0, hL0⟩ : ∃ L0 : List (Nat × Obj), L0 = [(g, .cells tl 33 (0, 0))] := ⟨_, rfl⟩
  rw [← hL0] at hM0
  have hm : (g, Obj.cells tl 33 (0, 0)) ∈ L0 := by rw [hL0]; simp
  have hm1 : ∀ x, (g, Obj.cells tl 33 (0, 0)) ∈ x :: L0 := fun x => List.mem_cons_of_mem _ hm
  have HM : Hid ((g, Obj.cells tl 33 (0, 0)) ∈ L0) := hm
  have HM1 : Hid (∀ x, (g, Obj.cells tl 33 (0, 0)) ∈ x :: L0) := hm1
  have KS1 : Hid (∀ V, Mem w V L0 → V.cell? ⟨g, 0, none⟩ = some (.string t.name) ∧ V.cell? ⟨g, 1, none⟩ = some (.int .u32 t.vni)) := fun V hV => ⟨D0.out _ hm V hV, D1.out _ hm V hV⟩
  have KS2 : Hid (∀ V, Mem w V L0 → V.cell? ⟨g, 10, none⟩ = some (.int .u32 t.vtep)) := fun V hV => D10.out _ hm V hV
  have KS4 : Hid (∀ K, (g, Obj.cells tl 33 (0, 0)) ∈ K → ∀ V, Mem w V K → V.cell? ⟨g, 24, none⟩ = some (.int .u16 t.lo) ∧ V.cell? ⟨g, 25, none⟩ = some (.int .u16 t.hi) ∧ V.cell? ⟨g, 26, none⟩ = some (.int .i64 t.filter)) := fun K hm V hV => ⟨D24.out _ hm V hV, D25.out _ hm V hV, D26.out _ hm V hV⟩
  have KS5 : Hid (∀ V, Mem w V L0 → V.cell? ⟨g, 29, none⟩ = some (.int .i64 t.sess) ∧ V.cell? ⟨g, 30, none⟩ = some (.int .i64 t.queue)) := fun V hV => ⟨D29.out _ hm V hV, D30.out _ hm V hV⟩
  have KS6 : Hid (∀ V, Mem w V L0 → V.cell? ⟨g, 31, none⟩ = some (.int .u32 t.rate) ∧ V.cell? ⟨g, 32, none⟩ = some (.int .u32 t.burst)) := fun V hV => ⟨D31.out _ hm V hV, D32.out _ hm V hV⟩
  have KS7 : Hid (∀ V, Mem w V L0 → V.cell? ⟨g, 23, none⟩ = some p ∧ V.cell? ⟨g, 27, none⟩ = some s ∧ V.cell? ⟨g, 28, none⟩ = some q) := fun V hV => ⟨D23.out _ hm V hV, D27.out _ hm V hV, D28.out _ hm V hV⟩
  clear D0 D1 D10 D23 D24 D25 D26 D27 D28 D29 D30 D31 D32 hm hm1 hL0
  go_enter Tryz.func18, Tryz.ntmps18
  go_upto_region 1 with fail
  refine wp_letter (fun V => Mem w V L0) hM0 ?_
  intro V0 hM
  clear hM0
  have HO0 : Hid (Ob w V0.drew (.slice none 0 0) [] L0 0) := ⟨Out.nil hM.drew, Nat.le_refl _⟩
  obtain ⟨c0, c1⟩ := KS1.out _ hM
  go_region_held3 (fun V => V.cell? ⟨g, 0, none⟩ = some (.string t.name) ∧ V.cell? ⟨g, 1, none⟩ = some (.int .u32 t.vni)) (first | go_keep | exact KS1.out _ hO1.mem | exact KS1.out _ hO2.mem)
    (first
      | (go_at_call 35; with_reducible refine (rname_any HO0.out t.name (by omega)).mono ?_; rintro e W1 ⟨v1, rfl, hO1⟩)
      | (go_at_call 32; with_reducible refine (rput32_any hO1 t.vni (by omega)).mono ?_; rintro e W2 ⟨v2, rfl, hO2⟩)
      | fail)
  have HO2 : Hid (Ob w W2 v2 (([] ++ nm t.name) ++ be 4 t.vni) L0 260) := hO2
  clear hO1 hO2 HO0 c0 c1 hM KS1
  have c10 := KS2.out _ HO2.out.mem
  go_upto_region 2 with fail
  go_region_held3 (fun V => V.cell? ⟨g, 10, none⟩ = some (.int .u32 t.vtep)) (first | go_keep | exact KS2.out _ hO3.mem | exact KS2.out _ hO4.mem)
    (first
      | (refine step_out rfl (.tmp 11) (.tmp 13) rfl (by simp [Act.eval]) ⟨g, 2, none⟩ 8 8 (by simp [Act.eval]) HO2.out.drew t.key HL.out.1 (RK.out _ HM.out _ HO2.out.drew.mem).1 (by omega) ?_; intro v3 W3 hO3)
      | (go_at_call 32; with_reducible refine (rput32_any hO3 t.vtep (by omega)).mono ?_; rintro e W4 ⟨v4, rfl, hO4⟩)
      | fail)
  have HO4 : Hid (Ob w W4 v4 (((([] ++ nm t.name) ++ be 4 t.vni) ++ t.key) ++ be 4 t.vtep) L0 272) := hO4
  clear hO3 hO4 HO2 c10 KS2
  go_upto_region 3 with fail
  go_region_held3 (fun V => True) (trivial)
    (first
      | (refine step_out rfl (.tmp 18) (.tmp 20) rfl (by simp [Act.eval]) ⟨g, 11, none⟩ 6 6 (by simp [Act.eval]) HO4.out.drew t.vmac HL.out.2.1 (RK.out _ HM.out _ HO4.out.drew.mem).2.1 (by omega) ?_; intro v5 W5 hO5)
      | (refine step_out rfl (.tmp 21) (.tmp 23) rfl (by simp [Act.eval]) ⟨g, 17, none⟩ 6 6 (by simp [Act.eval]) hO5 t.host HL.out.2.2 (RK.out _ HM.out _ hO5.mem).2.2 (by omega) ?_; intro v6 W6 hO6)
      | fail)
  have HO6 : Hid (Ob w W6 v6 (((((([] ++ nm t.name) ++ be 4 t.vni) ++ t.key) ++ be 4 t.vtep) ++ t.vmac) ++ t.host) L0 284) := hO6
  clear hO5 hO6 HO4 RK
  obtain ⟨l6, hl6⟩ : ∃ l6, (((((([] ++ nm t.name) ++ be 4 t.vni) ++ t.key) ++ be 4 t.vtep) ++ t.vmac) ++ t.host) = l6 := ⟨_, rfl⟩
  have HH2 : Hid (thead t = ((((((l6 ++ be 2 t.lo) ++ be 2 t.hi) ++ be 1 t.filter) ++ be 2 t.sess) ++ be 2 t.queue) ++ be 4 t.rate) ++ be 4 t.burst) := by rw [← hl6]; exact HH.out
  rw [hl6] at HO6
  clear hl6 HH
  obtain ⟨c24, c25, c26⟩ := KS4.out _ HM.out _ HO6.out.mem
  have f1 : IntKind.u8.wrap t.filter = t.filter % 256 := wrapu8 _
  have HF : Hid (IsBytes [t.filter % 256]) := bytes_cons (mod_byte _) bytes_nil
  go_upto_region 4 with fail
  go_cut [3] from 25 (fun u3 w' => Hid (Ob w w' u3 (((l6 ++ be 2 t.lo) ++ be 2 t.hi) ++ be 1 t.filter) L0 289))
  case first =>
    refine wp_region_held_drew (S := fun V => V.cell? ⟨g, 24, none⟩ = some (.int .u16 t.lo) ∧ V.cell? ⟨g, 25, none⟩ = some (.int .u16 t.hi) ∧ V.cell? ⟨g, 26, none⟩ = some (.int .i64 t.filter)) (by kernel_rfl) (KS4.out _ HM.out _ HO6.out.drew.mem) (fun hHeld => ?_)
    refine wpAnyH_take (i := 0) (v := ?_) rfl (by kernel_rfl) (by kernel_rfl) (by kernel_rfl) (fun _ _ _ h => h) (Or.inl ⟨by rfl, ?ay0⟩) (by assumption) ?ar0
    case ay0 =>
      intro w hSw
      (try dsimp only at hSw)
      go_simp
      all_goals with_reducible rfl
    try simp only [List.getElem_toArray, List.getElem_cons_zero, List.getElem_cons_succ, Act.put, List.setIfInBounds_toArray, List.set_cons_zero, List.set_cons_succ]
    refine wpAnyH_take (i := 1) (v := ?_) rfl (by kernel_rfl) (by kernel_rfl) (by kernel_rfl) (fun _ _ _ h => h) (Or.inl ⟨by rfl, ?ay1⟩) (by assumption) ?ar1
    case ay1 =>
      intro w hSw
      (try dsimp only at hSw)
      go_simp
      all_goals with_reducible rfl
    try simp only [List.getElem_toArray, List.getElem_cons_zero, List.getElem_cons_succ, Act.put, List.setIfInBounds_toArray, List.set_cons_zero, List.set_cons_succ]
    refine wpAnyH_take (i := 2) (v := ?_) rfl (by kernel_rfl) (by kernel_rfl) (by kernel_rfl) (fun _ _ _ h => h) (Or.inl ⟨by rfl, ?ay2⟩) (by assumption) ?ar2
    case ay2 =>
      intro w hSw
      (try dsimp only at hSw)
      go_simp
      all_goals with_reducible rfl
    try simp only [List.getElem_toArray, List.getElem_cons_zero, List.getElem_cons_succ, Act.put, List.setIfInBounds_toArray, List.set_cons_zero, List.set_cons_succ]
    refine wpAnyH_take (i := 4) (v := ?_) rfl (by kernel_rfl) (by kernel_rfl) (by kernel_rfl) (fun _ _ _ h => h) (Or.inl ⟨by rfl, ?ay4⟩) (by assumption) ?ar4
    case ay4 =>
      intro w hSw
      (try dsimp only at hSw)
      go_simp
      all_goals with_reducible rfl
    try simp only [List.getElem_toArray, List.getElem_cons_zero, List.getElem_cons_succ, Act.put, List.setIfInBounds_toArray, List.set_cons_zero, List.set_cons_succ]
    refine wpAnyH_take (i := 5) (v := ?_) rfl (by kernel_rfl) (by kernel_rfl) (by kernel_rfl) (fun _ _ _ h => h) (Or.inl ⟨by rfl, ?ay5⟩) (by assumption) ?ar5
    case ay5 =>
      intro w hSw
      (try dsimp only at hSw)
      go_simp
      all_goals with_reducible rfl
    try simp only [List.getElem_toArray, List.getElem_cons_zero, List.getElem_cons_succ, Act.put, List.setIfInBounds_toArray, List.set_cons_zero, List.set_cons_succ]
    refine wpAnyH_take (i := 7) (v := ?_) rfl (by kernel_rfl) (by kernel_rfl) (by kernel_rfl) (fun _ _ _ h => h) (Or.inl ⟨by rfl, ?ay7⟩) (by assumption) ?ar7
    case ay7 =>
      intro w hSw
      (try dsimp only at hSw)
      go_simp
      all_goals with_reducible rfl
    try simp only [List.getElem_toArray, List.getElem_cons_zero, List.getElem_cons_succ, Act.put, List.setIfInBounds_toArray, List.set_cons_zero, List.set_cons_succ]
    refine wpAnyH_take (i := 8) (v := ?_) rfl (by kernel_rfl) (by kernel_rfl) (by kernel_rfl) (fun _ _ _ h => h) (Or.inl ⟨by rfl, ?ay8⟩) (by assumption) ?ar8
    case ay8 =>
      intro w hSw
      (try dsimp only at hSw)
      go_simp
      all_goals with_reducible rfl
    try simp only [List.getElem_toArray, List.getElem_cons_zero, List.getElem_cons_succ, Act.put, List.setIfInBounds_toArray, List.set_cons_zero, List.set_cons_succ]
    refine wpAnyH_take (i := 9) (v := ?_) rfl (by kernel_rfl) (by kernel_rfl) (by kernel_rfl) (fun _ _ _ h => h) (Or.inl ⟨by rfl, ?ay9⟩) (by assumption) ?ar9
    case ay9 =>
      intro w hSw
      (try dsimp only at hSw)
      go_simp
      all_goals with_reducible rfl
    try simp only [List.getElem_toArray, List.getElem_cons_zero, List.getElem_cons_succ, Act.put, List.setIfInBounds_toArray, List.set_cons_zero, List.set_cons_succ]
    refine wpAnyH_ready (rs := [3, 10]) (by kernel_rfl) (by simp) ?_
    refine AllReadyH.cons rfl (fun K hK => ?_) (AllReadyH.cons rfl (fun K hK => ?_) AllReadyH.nil)
    · go_simp
      with_reducible refine (rput16_any HO6.out.drew t.lo (by omega)).mono ?_
      rintro e W7 ⟨v7, rfl, hO7⟩
      try go_wp2_with fail
      refine hK.out _ _ (KS4.out _ HM.out _ hO7.mem) (fun hHeld => ?_)
      clear hK K
      try simp only [List.getElem_toArray, List.getElem_cons_zero, List.getElem_cons_succ, Act.put, List.setIfInBounds_toArray, List.set_cons_zero, List.set_cons_succ]
      refine wpAnyH_ready (rs := [6, 10]) (by kernel_rfl) (by simp) ?_
      refine AllReadyH.cons rfl (fun K hK => ?_) (AllReadyH.cons rfl (fun K hK => ?_) AllReadyH.nil)
      · go_simp
        with_reducible refine (rput16_any hO7 t.hi (by omega)).mono ?_
        rintro e W8 ⟨v8, rfl, hO8⟩
        try go_wp2_with fail
        refine hK.out _ _ (KS4.out _ HM.out _ hO8.mem) (fun hHeld => ?_)
        clear hK K
        try simp only [List.getElem_toArray, List.getElem_cons_zero, List.getElem_cons_succ, Act.put, List.setIfInBounds_toArray, List.set_cons_zero, List.set_cons_succ]
        refine wpAnyH_ready (rs := [10]) (by kernel_rfl) (by simp) ?_
        refine AllReadyH.cons rfl (fun K hK => ?_) AllReadyH.nil
        go_simp
        refine hK.out _ _ (KS4.out _ (HM1.out _) _ (hO8.add rfl).mem) (fun hHeld => ?_)
        clear hK K
        try simp only [List.getElem_toArray, List.getElem_cons_zero, List.getElem_cons_succ, Act.put, List.setIfInBounds_toArray, List.set_cons_zero, List.set_cons_succ]
        refine wpAnyH_ready (rs := [11]) (by kernel_rfl) (by simp) ?_
        refine AllReadyH.cons rfl (fun K hK => ?_) AllReadyH.nil
        refine step_out rfl (.tmp 31) (.tmp 35) rfl (by simp [Act.eval]) ⟨W8.heap.size, 0, none⟩ 1 1 (by simp [Act.eval]) (hO8.add rfl) [t.filter % 256] rfl (row_box (k := [t.filter % 256]) (hO8.add rfl).mem HF.out (by simp)) (by omega) ?_
        intro v9 W9 hO9
        refine hK.out _ _ (KS4.out _ (HM1.out _) _ hO9.mem) (fun hHeld => ?_)
        clear hK K
        try simp only [List.getElem_toArray, List.getElem_cons_zero, List.getElem_cons_succ, Act.put, List.setIfInBounds_toArray, List.set_cons_zero, List.set_cons_succ]
        refine wpAnyH_take (i := 12) (v := ?_) rfl (by kernel_rfl) (by kernel_rfl) (by kernel_rfl) (fun _ _ _ h => h) (Or.inl ⟨by rfl, ?cy12⟩) (by assumption) ?cr12
        case cy12 =>
          intro w hSw
          (try dsimp only at hSw)
          go_simp
          all_goals with_reducible rfl
        try simp only [List.getElem_toArray, List.getElem_cons_zero, List.getElem_cons_succ, Act.put, List.setIfInBounds_toArray, List.set_cons_zero, List.set_cons_succ]
        refine wpAnyH_done (by kernel_rfl) ?_ _
        go_wp2_with fail
        go_meet
        case rel => exact (by rw [be1]; exact hO9.drop : Ob w W9 v9 (((l6 ++ be 2 t.lo) ++ be 2 t.hi) ++ be 1 t.filter) L0 289)
      · go_simp
        refine hK.out _ _ (KS4.out _ (HM1.out _) _ (hO7.add rfl).mem) (fun hHeld => ?_)
        clear hK K
        try simp only [List.getElem_toArray, List.getElem_cons_zero, List.getElem_cons_succ, Act.put, List.setIfInBounds_toArray, List.set_cons_zero, List.set_cons_succ]
        refine wpAnyH_ready (rs := [6]) (by kernel_rfl) (by simp) ?_
        refine AllReadyH.cons rfl (fun K hK => ?_) AllReadyH.nil
        go_simp
        with_reducible refine (rput16_any (hO7.add rfl) t.hi (by omega)).mono ?_
        rintro e W8 ⟨v8, rfl, hO8⟩
        try go_wp2_with fail
        refine hK.out _ _ (KS4.out _ (HM1.out _) _ hO8.mem) (fun hHeld => ?_)
        clear hK K
        try simp only [List.getElem_toArray, List.getElem_cons_zero, List.getElem_cons_succ, Act.put, List.setIfInBounds_toArray, List.set_cons_zero, List.set_cons_succ]
        refine wpAnyH_ready (rs := [11]) (by kernel_rfl) (by simp) ?_
        refine AllReadyH.cons rfl (fun K hK => ?_) AllReadyH.nil
        refine step_out rfl (.tmp 31) (.tmp 35) rfl (by simp [Act.eval]) ⟨W7.heap.size, 0, none⟩ 1 1 (by simp [Act.eval]) (hO8) [t.filter % 256] rfl (row_box (k := [t.filter % 256]) (hO8).mem HF.out (by simp)) (by omega) ?_
        intro v9 W9 hO9
        refine hK.out _ _ (KS4.out _ (HM1.out _) _ hO9.mem) (fun hHeld => ?_)
        clear hK K
        try simp only [List.getElem_toArray, List.getElem_cons_zero, List.getElem_cons_succ, Act.put, List.setIfInBounds_toArray, List.set_cons_zero, List.set_cons_succ]
        refine wpAnyH_take (i := 12) (v := ?_) rfl (by kernel_rfl) (by kernel_rfl) (by kernel_rfl) (fun _ _ _ h => h) (Or.inl ⟨by rfl, ?dy12⟩) (by assumption) ?dr12
        case dy12 =>
          intro w hSw
          (try dsimp only at hSw)
          go_simp
          all_goals with_reducible rfl
        try simp only [List.getElem_toArray, List.getElem_cons_zero, List.getElem_cons_succ, Act.put, List.setIfInBounds_toArray, List.set_cons_zero, List.set_cons_succ]
        refine wpAnyH_done (by kernel_rfl) ?_ _
        go_wp2_with fail
        go_meet
        case rel => exact (by rw [be1]; exact hO9.drop : Ob w W9 v9 (((l6 ++ be 2 t.lo) ++ be 2 t.hi) ++ be 1 t.filter) L0 289)
    · go_simp
      refine hK.out _ _ (KS4.out _ (HM1.out _) _ ((HO6.out.add rfl).drew).mem) (fun hHeld => ?_)
      clear hK K
      try simp only [List.getElem_toArray, List.getElem_cons_zero, List.getElem_cons_succ, Act.put, List.setIfInBounds_toArray, List.set_cons_zero, List.set_cons_succ]
      refine wpAnyH_ready (rs := [3]) (by kernel_rfl) (by simp) ?_
      refine AllReadyH.cons rfl (fun K hK => ?_) AllReadyH.nil
      go_simp
      with_reducible refine (rput16_any (HO6.out.add rfl).drew t.lo (by omega)).mono ?_
      rintro e W7 ⟨v7, rfl, hO7⟩
      try go_wp2_with fail
      refine hK.out _ _ (KS4.out _ (HM1.out _) _ hO7.mem) (fun hHeld => ?_)
      clear hK K
      try simp only [List.getElem_toArray, List.getElem_cons_zero, List.getElem_cons_succ, Act.put, List.setIfInBounds_toArray, List.set_cons_zero, List.set_cons_succ]
      refine wpAnyH_ready (rs := [6]) (by kernel_rfl) (by simp) ?_
      refine AllReadyH.cons rfl (fun K hK => ?_) AllReadyH.nil
      go_simp
      with_reducible refine (rput16_any hO7 t.hi (by omega)).mono ?_
      rintro e W8 ⟨v8, rfl, hO8⟩
      try go_wp2_with fail
      refine hK.out _ _ (KS4.out _ (HM1.out _) _ hO8.mem) (fun hHeld => ?_)
      clear hK K
      try simp only [List.getElem_toArray, List.getElem_cons_zero, List.getElem_cons_succ, Act.put, List.setIfInBounds_toArray, List.set_cons_zero, List.set_cons_succ]
      refine wpAnyH_ready (rs := [11]) (by kernel_rfl) (by simp) ?_
      refine AllReadyH.cons rfl (fun K hK => ?_) AllReadyH.nil
      refine step_out rfl (.tmp 31) (.tmp 35) rfl (by simp [Act.eval]) ⟨W6.heap.size, 0, none⟩ 1 1 (by simp [Act.eval]) (hO8) [t.filter % 256] rfl (row_box (k := [t.filter % 256]) (hO8).mem HF.out (by simp)) (by omega) ?_
      intro v9 W9 hO9
      refine hK.out _ _ (KS4.out _ (HM1.out _) _ hO9.mem) (fun hHeld => ?_)
      clear hK K
      try simp only [List.getElem_toArray, List.getElem_cons_zero, List.getElem_cons_succ, Act.put, List.setIfInBounds_toArray, List.set_cons_zero, List.set_cons_succ]
      refine wpAnyH_take (i := 12) (v := ?_) rfl (by kernel_rfl) (by kernel_rfl) (by kernel_rfl) (fun _ _ _ h => h) (Or.inl ⟨by rfl, ?ey12⟩) (by assumption) ?er12
      case ey12 =>
        intro w hSw
        (try dsimp only at hSw)
        go_simp
        all_goals with_reducible rfl
      try simp only [List.getElem_toArray, List.getElem_cons_zero, List.getElem_cons_succ, Act.put, List.setIfInBounds_toArray, List.set_cons_zero, List.set_cons_succ]
      refine wpAnyH_done (by kernel_rfl) ?_ _
      go_wp2_with fail
      go_meet
      case rel => exact (by rw [be1]; exact hO9.drop : Ob w W9 v9 (((l6 ++ be 2 t.lo) ++ be 2 t.hi) ++ be 1 t.filter) L0 289)
  case rest =>
    have HO9 : Hid (Ob w wc u3 (((l6 ++ be 2 t.lo) ++ be 2 t.hi) ++ be 1 t.filter) L0 289) := hcut
    obtain ⟨l9, hl9⟩ : ∃ l9, (((l6 ++ be 2 t.lo) ++ be 2 t.hi) ++ be 1 t.filter) = l9 := ⟨_, rfl⟩
    have HH3 : Hid (thead t = (((l9 ++ be 2 t.sess) ++ be 2 t.queue) ++ be 4 t.rate) ++ be 4 t.burst) := by rw [← hl9]; exact HH2.out
    rw [hl9] at HO9
    obtain ⟨S, hS⟩ : ∃ S, IntKind.u16.wrap t.sess = S := ⟨_, rfl⟩
    obtain ⟨U, hU⟩ : ∃ U, IntKind.u16.wrap t.queue = U := ⟨_, rfl⟩
    have HS : Hid (be 2 S = be 2 t.sess ∧ be 2 U = be 2 t.queue) := by rw [← hS, ← hU]; exact ⟨be2_wrap _, be2_wrap _⟩
    clear hl9 HH2 hcut HO6 c24 c25 c26 KS4 HF f1
    obtain ⟨c29, c30⟩ := KS5.out _ HO9.out.mem
    go_upto_region 5 with fail
    go_region_held3 (fun V => V.cell? ⟨g, 29, none⟩ = some (.int .i64 t.sess) ∧ V.cell? ⟨g, 30, none⟩ = some (.int .i64 t.queue)) (first | go_keep | exact KS5.out _ hO10.mem | exact KS5.out _ hO11.mem)
      (first
        | (go_at_call 36; with_reducible refine (rput16_any HO9.out.drew S (by omega)).mono ?_; rintro e W10 ⟨v10, rfl, hO10⟩)
        | (go_at_call 36; with_reducible refine (rput16_any hO10 U (by omega)).mono ?_; rintro e W11 ⟨v11, rfl, hO11⟩)
        | fail)
    rw [HS.out.1, HS.out.2] at hO11
    have HO11 : Hid (Ob w W11 v11 ((l9 ++ be 2 t.sess) ++ be 2 t.queue) L0 293) := hO11
    clear hO10 hO11 HO9 c29 c30 KS5 HS hS hU
    obtain ⟨c31, c32⟩ := KS6.out _ HO11.out.mem
    go_upto_region 6 with fail
    go_region_held3 (fun V => V.cell? ⟨g, 31, none⟩ = some (.int .u32 t.rate) ∧ V.cell? ⟨g, 32, none⟩ = some (.int .u32 t.burst)) (first | go_keep | exact KS6.out _ hO12.mem | exact KS6.out _ hO13.mem)
      (first
        | (go_at_call 32; with_reducible refine (rput32_any HO11.out.drew t.rate (by omega)).mono ?_; rintro e W12 ⟨v12, rfl, hO12⟩)
        | (go_at_call 32; with_reducible refine (rput32_any hO12 t.burst (by omega)).mono ?_; rintro e W13 ⟨v13, rfl, hO13⟩)
        | fail)
    rw [← HH3.out] at hO13
    have HO13 : Hid (Ob w W13 v13 (thead t) L0 301) := hO13
    clear hO12 hO13 HO11 c31 c32 KS6 HH3
    obtain ⟨pa, pc, rfl, hpr⟩ := HR.out.1
    obtain ⟨sa, sc, rfl, hsr⟩ := HR.out.2.1
    obtain ⟨qa, qc, rfl, hqr⟩ := HR.out.2.2
    have x1 : (ux t.pool).length = t.pool.length := by simp [ux]
    have x2 : (px t.stat).length = t.stat.length := by simp [px]
    have x3 : (px t.twi).length = t.twi.length := by simp [px]
    rw [x1, x2, x3] at HR KS7
    obtain ⟨N1, hN1⟩ : ∃ N, t.pool.length = N := ⟨_, rfl⟩
    obtain ⟨N2, hN2⟩ : ∃ N, t.stat.length = N := ⟨_, rfl⟩
    obtain ⟨N3, hN3⟩ : ∃ N, t.twi.length = N := ⟨_, rfl⟩
    rw [hN1, hN2, hN3] at HR KS7 HT HN
    have HLN : Hid (t.pool.length = N1 ∧ t.stat.length = N2 ∧ t.twi.length = N3) := ⟨hN1, hN2, hN3⟩
    clear hpr hsr hqr x1 x2 x3 hN1 hN2 hN3
    obtain ⟨k1, hk1⟩ : ∃ k, min N1 255 = k := ⟨_, rfl⟩
    obtain ⟨k2, hk2⟩ : ∃ k, min N2 255 = k := ⟨_, rfl⟩
    obtain ⟨k3, hk3⟩ : ∃ k, min N3 255 = k := ⟨_, rfl⟩
    rw [hk1, hk2, hk3] at HT
    go_upto_region 7 with fail
    go_cut [3] from 53 (fun u3 w' => Hid (Ob w w' u3 (thead t ++ [(k1 : Int), (k2 : Int), (k3 : Int)]) L0 304))
    case first =>
      have d1 : (((N1 : Int) ≤ 255 ∧ ¬ ((255 : Int) < N1)) ∧ k1 = N1) ∨ ((¬ ((N1 : Int) ≤ 255) ∧ (255 : Int) < N1) ∧ k1 = 255) := by omega
      have d2 : (((N2 : Int) ≤ 255 ∧ ¬ ((255 : Int) < N2)) ∧ k2 = N2) ∨ ((¬ ((N2 : Int) ≤ 255) ∧ (255 : Int) < N2) ∧ k2 = 255) := by omega
      have d3 : (((N3 : Int) ≤ 255 ∧ ¬ ((255 : Int) < N3)) ∧ k3 = N3) ∨ ((¬ ((N3 : Int) ≤ 255) ∧ (255 : Int) < N3) ∧ k3 = 255) := by omega
      have e1 : IntKind.u8.wrap (k1 : Int) = k1 := by rw [wrapu8]; omega
      have e2 : IntKind.u8.wrap (k2 : Int) = k2 := by rw [wrapu8]; omega
      have e3 : IntKind.u8.wrap (k3 : Int) = k3 := by rw [wrapu8]; omega
      have f1 : (k1 : Int) % 256 = k1 := by omega
      have f2 : (k2 : Int) % 256 = k2 := by omega
      have f3 : (k3 : Int) % 256 = k3 := by omega
      obtain ⟨v14, W14, hr, hO⟩ := out_lits HO13.out.1 [(k1 : Int), (k2 : Int), (k3 : Int)] (bytes_cons (by omega) (bytes_cons (by omega) (bytes_cons (by omega) bytes_nil))) 3 rfl (by have := HO13.out.2; omega) 40
      have HO14 : Hid (Ob w W14 v14 (thead t ++ [(k1 : Int), (k2 : Int), (k3 : Int)]) L0 304) := ⟨hO, by have := HO13.out.2; simp; omega⟩
      simp only [List.map_cons, List.map_nil] at hr
      obtain ⟨c23, c27, c28⟩ := KS7.out _ HO13.out.mem
      clear hO HT HN HR hk1 hk2 hk3 KS7 HLN HO13 HL HM HM1
      rcases d1 with ⟨⟨m1, n1⟩, rfl⟩ | ⟨⟨m1, n1⟩, rfl⟩
      all_goals rcases d2 with ⟨⟨m2, n2⟩, rfl⟩ | ⟨⟨m2, n2⟩, rfl⟩
      all_goals rcases d3 with ⟨⟨m3, n3⟩, rfl⟩ | ⟨⟨m3, n3⟩, rfl⟩
      all_goals (try simp only [Int.cast_ofNat_Int] at hr e1 e2 e3 f1 f2 f3)
      all_goals
        go_wp2_with (at_builtin; refine wpList_append_run (.tmp 53) (.tmp 69) 40 40 (by with_reducible rfl) hr rfl rfl (by simp [Act.eval]) (by simp [Act.eval]) ?_)
        go_meet
        case rel => exact HO14
    case rest =>
      have HO14 : Hid (Ob w wc u3 (thead t ++ [(k1 : Int), (k2 : Int), (k3 : Int)]) L0 304) := hcut
      have HC : Hid (∀ i, i < N1 → ∀ V, Mem w V L0 → ∃ b off x, pa = some ⟨b, off, none⟩ ∧ t.pool.getD i 0 = x ∧ V.cell? ⟨b, off + i, none⟩ = some (.int .u32 x)) := by
        intro i hi V hV
        have hr2 : Rw V 1 (.slice pa N1 pc) (ux t.pool) := hV.rw' HR.out.1 ux_ne
        have hul : (ux t.pool).length = N1 := by rw [← HLN.out.1]; simp [ux]
        obtain ⟨b, off, rfl, hc⟩ := rw_at hr2 i (by omega)
        obtain ⟨x, hx⟩ : ∃ x, t.pool[i]? = some x := ⟨_, List.getElem?_eq_getElem (by rw [HLN.out.1]; exact hi)⟩
        have ex : (ux t.pool).getD i [] = [.int .u32 x] := by simp [ux, List.getD, hx]
        rw [ex] at hc
        refine ⟨b, off, x, rfl, by simp [List.getD, hx], ?_⟩
        have := hc 0 _ rfl
        simpa using this
      have HK : Hid (k1 = min N1 255) := hk1.symm
      have hkb : k1 ≤ 255 := by omega
      have HK2 : Hid (k2 = min N2 255 ∧ k3 = min N3 255) := ⟨hk2.symm, hk3.symm⟩
      obtain ⟨l14, hl14⟩ : ∃ l, thead t ++ [(k1 : Int), (k2 : Int), (k3 : Int)] = l := ⟨_, rfl⟩
      rw [hl14] at HO14 HT
      have HE : Hid (∀ i, cat (fun i => be 4 (t.pool.getD i 0)) (i + 1) = cat (fun i => be 4 (t.pool.getD i 0)) i ++ be 4 (t.pool.getD i 0)) := fun i => rfl
      generalize (fun i => be 4 (t.pool.getD i 0)) = enc at *
      have KS8 : Hid (∀ V, Mem w V L0 → V.cell? ⟨g, 23, none⟩ = some (.slice pa N1 pc)) := fun V hV => (KS7.out V hV).1
      have KS9 : Hid (∀ V, Mem w V L0 → V.cell? ⟨g, 27, none⟩ = some (.slice sa N2 sc) ∧ V.cell? ⟨g, 28, none⟩ = some (.slice qa N3 qc)) := fun V hV => (KS7.out V hV).2
      have HN1 : Hid (N1 ≤ 1000000) := HN.out.1
      clear hcut hk1 hk2 hk3 hl14 KS7 HO13 HM1
      go_wp2_with fail
      go_loopw [3, 4] (fun u3 u4 w' => ∃ i : Nat, i ≤ k1 ∧ u4 = .int .i64 i ∧ Hid (Ob w w' u3 (l14 ++ cat enc i) L0 (304 + i * 4))) (fun u3 u4 w' => k1 - (intOf u4).toNat)
      case atStart => exact ⟨0, Nat.zero_le _, rfl, by rw [cat, List.append_nil]; exact HO14⟩
      case round =>
        obtain ⟨i, hi, rfl, HRR⟩ := hrel
        clear HO14
        have c23 := KS8.out _ HRR.out.mem
        by_cases hlt : i < k1
        · have hkk := HK.out
          have hN := HN1.out
          have h1 : (i : Int) < N1 := by omega
          have h2 : (i : Int) < 255 := by omega
          have h3 : i < N1 := by omega
          clear hkk hN
          obtain ⟨b, off, x, rfl, exy, cx⟩ := HC.out i h3 _ HRR.out.mem
          have EE := HE.out i
          rw [exy] at EE
          have HEE : Hid (cat enc (i + 1) = cat enc i ++ be 4 x) := EE
          have CP := rput32_any HRR.out x (by omega)
          clear EE exy
          go_wp2_with fail
          refine CP.mono ?_
          rintro e W1 ⟨v1, rfl, hO1⟩
          have HH : Hid (Ob w W1 v1 (l14 ++ cat enc (i + 1)) L0 (304 + (i + 1) * 4)) := by
            rw [HEE.out, ← List.append_assoc]
            exact ⟨hO1.1, Nat.le_trans hO1.2 (by omega)⟩
          clear hO1 HRR HEE cx CP c23
          go_wp2_with fail
          go_roundw
          case rel => exact ⟨i + 1, by omega, by go_num, HH⟩
          case measure => simp [intOf]; omega
        · obtain rfl : i = k1 := by omega
          have hkk := HK.out
          have HO15 : Hid (Ob w wr u3 (l14 ++ cat enc i) L0 1324) := ⟨HRR.out.1, Nat.le_trans HRR.out.2 (by omega)⟩
          obtain ⟨c27, c28⟩ := KS9.out _ HO15.out.mem
          have key : ∀ W u, Ob w W u (((l14 ++ cat enc i) ++ cat (fun i => spP.enc (t.stat.getD i (0, 0))) (min t.stat.length 255)) ++ cat (fun i => spP.enc (t.twi.getD i (0, 0))) (min t.twi.length 255)) L0 5404 → Ob w W u (tenc t) [] 5500 := by
            intro W u h
            rw [HT.out]
            rw [HLN.out.2.1, HLN.out.2.2, ← HK2.out.1, ← HK2.out.2] at h
            exact ⟨h.1.none, Nat.le_trans h.2 (by omega)⟩
          have KEY : Hid (∀ W u, Ob w W u (((l14 ++ cat enc i) ++ cat (fun i => spP.enc (t.stat.getD i (0, 0))) (min t.stat.length 255)) ++ cat (fun i => spP.enc (t.twi.getD i (0, 0))) (min t.twi.length 255)) L0 5404 → Ob w W u (tenc t) [] 5500) := key
          clear key HRR HC HE HT HK2
          by_cases hN : i < N1
          · have h1 : (i : Int) < N1 := by omega
            have h2 : ¬ ((i : Int) < 255) := by omega
            clear hkk
            go_upto_region 12 with fail
            go_region_held3 (fun V => V.cell? ⟨g, 27, none⟩ = some (.slice sa N2 sc) ∧ V.cell? ⟨g, 28, none⟩ = some (.slice qa N3 qc)) (first | go_keep | exact KS9.out _ hO16.mem | exact KS9.out _ hO17.mem)
              (first
                | (go_at_call 37; with_reducible refine (rpairs_any HO15.out.drew (by omega) _ t.stat HR.out.2.1 (by rw [HLN.out.2.1]; exact HN.out.2.1)).mono ?_; rintro e W16 ⟨v16, rfl, hO16⟩)
                | (go_at_call 37; with_reducible refine (rpairs_any hO16 (by omega) _ t.twi HR.out.2.2 (by rw [HLN.out.2.2]; exact HN.out.2.2)).mono ?_; rintro e W17 ⟨v17, rfl, hO17⟩)
                | fail)
            have HF := KEY.out _ _ hO17
            have HFF : Hid (Ob w W17 v17 (tenc t) [] 5500) := HF
            clear hO16 hO17 HF KEY HO15
            go_wp2_with fail
            go_ret
            exact ⟨_, rfl, HFF.out⟩
          · have h1 : ¬ ((i : Int) < N1) := by omega
            clear hkk
            go_upto_region 12 with fail
            go_region_held3 (fun V => V.cell? ⟨g, 27, none⟩ = some (.slice sa N2 sc) ∧ V.cell? ⟨g, 28, none⟩ = some (.slice qa N3 qc)) (first | go_keep | exact KS9.out _ hO16.mem | exact KS9.out _ hO17.mem)
              (first
                | (go_at_call 37; with_reducible refine (rpairs_any HO15.out.drew (by omega) _ t.stat HR.out.2.1 (by rw [HLN.out.2.1]; exact HN.out.2.1)).mono ?_; rintro e W16 ⟨v16, rfl, hO16⟩)
                | (go_at_call 37; with_reducible refine (rpairs_any hO16 (by omega) _ t.twi HR.out.2.2 (by rw [HLN.out.2.2]; exact HN.out.2.2)).mono ?_; rintro e W17 ⟨v17, rfl, hO17⟩)
                | fail)
            have HF := KEY.out _ _ hO17
            have HFF : Hid (Ob w W17 v17 (tenc t) [] 5500) := HF
            clear hO16 hO17 HF KEY HO15
            go_wp2_with fail
            go_ret
            exact ⟨_, rfl, HFF.out⟩
end Go.Proofs.YtngegdamcfmonaaGreat

