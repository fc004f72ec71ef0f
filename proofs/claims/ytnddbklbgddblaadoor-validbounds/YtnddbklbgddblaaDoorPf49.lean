/-
  Each number's bound: the settings that are changed (ValidBounds); what set does.
-/
import Derived.Test.YtnddbklbgddblaaDoorPf48
import Derived.Test.YtnddbklbgddblaaDoorPf40
import Derived.Test.YtnddbklbgddblaaDoorPf03
namespace Go.Proofs.YtnddbklbgddblaaDoor
open Go.RowKit
open La (adr)
open Va
set_option linter.unusedVariables false
set_option linter.unusedSimpArgs false
set_option maxRecDepth 20000

/-- Two boxes ahead: what is wanted, and how far past the bound. -/
abbrev bq (gw gv : Nat) (o n : Int) (Q : List (Nat × Obj)) : List (Nat × Obj) := (gw, .cells #[.int .i64 n] 3 (0, 0)) :: (gv, .cells #[.int .i64 o] 3 (0, 0)) :: Q
set_option maxHeartbeats 4000000 in
theorem bset_any {w0 X : World} {gw gv : Nat} {o n : Int} {Q : List (Nat × Obj)} (h : Mem w0 X (bq gw gv o n Q)) (e : Int) :
    Calls Tryd.prog 21 #[.int .i64 e, .pointer (some ⟨gv, 0, none⟩), .pointer (some ⟨gw, 0, none⟩)] X fun en X' => en = .returned (.tuple #[]) ∧ Mem w0 X' (bq gw gv o (if o = 1 then e else n) Q) := by
  have cv : X.cell? ⟨gv, 0, none⟩ = some (.int .i64 o) := h.cell 1 rfl 0
  have cw : X.cell? ⟨gw, 0, none⟩ = some (.int .i64 n) := h.cell 0 rfl 0
  have fw : X.frozen? ⟨gw, 0, none⟩ = false := h.free 0 rfl 0
  have HM : Hid (Mem w0 (X.setCell ⟨gw, 0, none⟩ (.int .i64 e)) (bq gw gv o e Q)) := h.set 0 rfl 0 (.int .i64 e)
  have HM0 : Hid (Mem w0 X (bq gw gv o n Q)) := h
  clear h
  by_cases q : o = 1
  · have q1 : (o == 1) = true := by simp [q]
    rw [if_pos q]
    clear q HM0
    go_enter Tryd.func21, Tryd.ntmps21
    go_wp2_with fail
    go_end0
    exact ⟨rfl, HM.out⟩
  · have q1 : (o == 1) = false := by simpa using q
    rw [if_neg q]
    clear q HM
    go_enter Tryd.func21, Tryd.ntmps21
    go_wp2_with fail
    go_end0
    exact ⟨rfl, HM0.out⟩
/-- The settings' box, and a tenant in block gb. -/
def BdS (w0 V : World) (gw gv g5 gb : Nat) (Y : List Value) (A : Array Value) (o n : Int) (t : Ten) : Prop := ∃ L, TAt gb [] Y 39 t L ∧ Mem w0 V (bq gw gv o n ((g5, .cells A 28 (0, 0)) :: L))
theorem BdS.put {w0 V : World} {gw gv g5 gb k : Nat} {Y : List Value} {A : Array Value} {o n : Int} {t t' : Ten} {v : Value} (h : BdS w0 V gw gv g5 gb Y A o n t)
    (hp : ∀ L, TAt gb [] Y 39 t L → ∃ A R, L = (gb, .cells A 39 (0, 0)) :: R ∧ ([] : List Value).length + k < A.size ∧ TAt gb [] Y 39 t' ((gb, .cells (A.setIfInBounds (([] : List Value).length + k) v) 39 (0, 0)) :: R)) :
    (∃ v0, V.cell? ⟨gb, k, none⟩ = some v0) ∧ V.frozen? ⟨gb, k, none⟩ = false ∧ BdS w0 (V.setCell ⟨gb, k, none⟩ v) gw gv g5 gb Y A o n t' := by
  obtain ⟨L, hL, hM⟩ := h
  obtain ⟨A', R, rfl, hk, hT⟩ := hp L hL
  rw [List.length_nil, Nat.zero_add] at hk hT
  refine ⟨⟨A'[k], (hM.cell 3 rfl k).trans ?_⟩, hM.free 3 rfl k, _, hT, hM.set 3 rfl k v⟩
  simp [hk]
theorem BdS.over {w0 V : World} {gw gv g5 gb : Nat} {Y : List Value} {A : Array Value} {o n : Int} {t : Ten} (h : BdS w0 V gw gv g5 gb Y A o n t) : V.cell? ⟨gv, 0, none⟩ = some (.int .i64 o) := by
  obtain ⟨L, hL, hM⟩ := h; exact hM.cell 1 rfl 0
theorem BdS.set_any {w0 V : World} {gw gv g5 gb : Nat} {Y : List Value} {A : Array Value} {o : Int} {t : Ten} (h : BdS w0 V gw gv g5 gb Y A o 0 t) (e : Int) :
    Calls Tryd.prog 21 #[.int .i64 e, .pointer (some ⟨gv, 0, none⟩), .pointer (some ⟨gw, 0, none⟩)] V fun en X' => en = .returned (.tuple #[]) ∧ BdS w0 X' gw gv g5 gb Y A o (bdv o e) t := by
  obtain ⟨L, hL, hM⟩ := h
  refine (bset_any hM e).mono ?_
  rintro en X ⟨rfl, hX⟩
  exact ⟨rfl, L, hL, hX⟩
/-- The settings stand, and what is wanted is what Check answers. -/
def BdE (w0 V : World) (gw g5 : Nat) : Prop := ∃ (al : List Value) (c : Cgf), al.length = 29 ∧ c.ten.length ≤ 1000000 ∧ (∀ t ∈ c.ten, TSm t) ∧ ∀ X, Below V.heap.size V X → X.rangeAt g5 0 al ∧ X.cell? ⟨gw, 0, none⟩ = some (.int .i64 (chk c)) ∧ CV X (.agg al.toArray) c ∧ Below w0.heap.size w0 X
/-- Settings in box g5, their tenants the value u; each tenant's lists in blocks of its own. -/
def BdC (w0 V : World) (gw gv g5 : Nat) (o n : Int) (c : Cgf) (u : Value) : Prop := ∃ (ys : List Ty) (B : List (Nat × Obj)), ys.map (fun y => y.1.1) = c.ten ∧ OwB 39 33 u ys.length (ys.map (fun y => zc y.1)).flatten B ∧ (∀ y ∈ ys, ZX y.1 y.2) ∧ CLen c ∧ Mem w0 V (bq gw gv o n ((g5, .cells (cc c u).toArray 28 (0, 0)) :: (B ++ ys.flatMap (·.2))))
theorem BdC.ends {w0 V : World} {gw gv g5 : Nat} {o n : Int} {c : Cgf} {u : Value} (h : BdC w0 V gw gv g5 o n c u) (hl : c.ten.length ≤ 1000000) (hm : ∀ t ∈ c.ten, TSm t) (hn : chk c = n) : BdE w0 V gw g5 := by
  obtain ⟨ys, B, ez, hB, hz, hcl, hM⟩ := h
  refine ⟨cc c u, c, cc_len hcl _, hl, hm, fun X hX => ?_⟩
  have hM2 := hM.after hX
  refine ⟨fun j x hj => ?_, by rw [hn]; exact hM2.cell 0 rfl 0, cv_ys hcl ez hB (zx_zb hz (fun x hx => hx)) hM2.sub.sub.sub, hM2.below⟩
  rw [Nat.zero_add]
  exact cell_tl (hM2.get 2 rfl) hj
theorem BdS.bdc {w0 V : World} {gw gv g5 gb cap : Nat} {Y : List Value} {A : Array Value} {o n f : Int} {t : Ten} (h : BdS w0 V gw gv g5 gb Y A o n t) (hA : A = (cc (sc f []) (.slice (some ⟨gb, 0, none⟩) 1 cap)).toArray) (h1 : 1 ≤ cap) (h2 : cap ≤ maxLen) (h3 : 33 + Y.length = cap * 33) : BdC w0 V gw gv g5 o n (sc f [t]) (.slice (some ⟨gb, 0, none⟩) 1 cap) := by
  obtain ⟨L, ⟨hlen, p, s, q, B1, B2, B3, k1, k2, k3, rfl⟩, hM⟩ := h
  subst hA
  have htc : (tc t p s q).length = 33 := tc_len hlen _ _ _
  refine ⟨[((t, p, s, q), B1 ++ (B2 ++ B3))], [(gb, .cells (tc t p s q ++ Y).toArray 39 (0, 0))], rfl, ?_, ?_, sc_len _ _, ?_⟩
  · simpa [zc] using owb_mk (T := 39) (sz := 33) (n := 1) (cap := cap) (g := gb) (X := tc t p s q) (Y := Y) (by omega) h1 h2 (by omega)
  · intro y hy
    rw [List.mem_singleton] at hy
    subst hy
    exact ⟨hlen, B1, B2, B3, rfl, k1, k2, k3⟩
  · have e : [((t, p, s, q), B1 ++ (B2 ++ B3))].flatMap (fun y : Ty => y.2) = B1 ++ (B2 ++ B3) := by simp
    rw [e]; exact hM
theorem BdS.ends {w0 V : World} {gw gv g5 gb cap : Nat} {Y : List Value} {A : Array Value} {o n f : Int} {t : Ten} (h : BdS w0 V gw gv g5 gb Y A o n t) (hA : A = (cc (sc f []) (.slice (some ⟨gb, 0, none⟩) 1 cap)).toArray) (h1 : 1 ≤ cap) (h2 : cap ≤ maxLen) (h3 : 33 + Y.length = cap * 33) (hm : TSm t) (hn : chk (sc f [t]) = n) : BdE w0 V gw g5 :=
  (h.bdc hA h1 h2 h3).ends (by show 1 ≤ 1000000; omega) (fun x hx => by
    have hx' : x ∈ [t] := hx
    rw [List.mem_singleton] at hx'
    rw [hx']; exact hm) hn
theorem BdC.over {w0 V : World} {gw gv g5 : Nat} {o n : Int} {c : Cgf} {u : Value} (h : BdC w0 V gw gv g5 o n c u) : V.cell? ⟨gv, 0, none⟩ = some (.int .i64 o) := by
  obtain ⟨ys, B, ez, hB, hz, hcl, hM⟩ := h; exact hM.cell 1 rfl 0
theorem BdC.cell {w0 V : World} {gw gv g5 : Nat} {o n : Int} {c : Cgf} {u : Value} (h : BdC w0 V gw gv g5 o n c u) : V.cell? ⟨g5, 28, none⟩ = some u := by
  obtain ⟨ys, B, ez, hB, hz, hcl, hM⟩ := h; exact (hM.cell 2 rfl 28).trans (cc_at28 hcl u)
theorem BdC.sl {w0 V : World} {gw gv g5 : Nat} {o n : Int} {c : Cgf} {u : Value} (h : BdC w0 V gw gv g5 o n c u) : ∃ a m c', u = .slice a m c' := by
  obtain ⟨ys, B, ez, hB, hz, hcl, hM⟩ := h; exact owb_slice hB
theorem BdC.after {w0 V V' : World} {gw gv g5 : Nat} {o n : Int} {c : Cgf} {u : Value} (h : BdC w0 V gw gv g5 o n c u) (hb : Below V.heap.size V V') : BdC w0 V' gw gv g5 o n c u := by
  obtain ⟨ys, B, ez, hB, hz, hcl, hM⟩ := h; exact ⟨ys, B, ez, hB, hz, hcl, hM.after hb⟩
theorem BdC.set_any {w0 V : World} {gw gv g5 : Nat} {o : Int} {c : Cgf} {u : Value} (h : BdC w0 V gw gv g5 o 0 c u) (e : Int) :
    Calls Tryd.prog 21 #[.int .i64 e, .pointer (some ⟨gv, 0, none⟩), .pointer (some ⟨gw, 0, none⟩)] V fun en X' => en = .returned (.tuple #[]) ∧ BdC w0 X' gw gv g5 o (bdv o e) c u := by
  obtain ⟨ys, B, ez, hB, hz, hcl, hM⟩ := h
  refine (bset_any hM e).mono ?_
  rintro en X ⟨rfl, hX⟩
  exact ⟨rfl, ys, B, ez, hB, hz, hcl, hX⟩
theorem BdC.nil {w0 V : World} {gw gv g5 : Nat} {o n : Int} {c : Cgf} {u : Value} (h : BdC w0 V gw gv g5 o n c u) : V.frozen? ⟨g5, 28, none⟩ = false ∧ BdC w0 (V.setCell ⟨g5, 28, none⟩ nilV) gw gv g5 o n { c with ten := [] } nilV := by
  obtain ⟨ys, B, ez, hB, hz, hcl, hM⟩ := h
  have h6 := hM.set 2 rfl 28 nilV
  simp only [bq, List.set_cons_succ, List.set_cons_zero] at h6
  rw [cc_ten c _ nilV hcl] at h6
  refine ⟨hM.free 2 rfl 28, [], [], rfl, OwB.nil _ _, by simp, ⟨hcl.mac, hcl.omac, hcl.nmac, hcl.key⟩, h6.subl ?_⟩
  exact List.Sublist.cons_cons _ (List.Sublist.cons_cons _ (List.Sublist.cons_cons _ (List.nil_sublist _)))
theorem BdC.more {w0 X X' : World} {gw gv g5 : Nat} {o n : Int} {c : Cgf} {u : Value} {t : Ten} {p s q : Value} {C' : List (Nat × Obj)} (h : BdC w0 X gw gv g5 o n c u) (hn : c.ten.length ≤ 900000) (hz : ZX (t, p, s, q) C') (hM' : Mem X X' C') {A : Array Value} (hA : (tc t p s q).toArray = A) (hon : A.all (·.oneCell') = true) :
    ∃ v4 V4, (Builtin.append_ #[26, 26] 26 #[u, .slice (some ⟨X'.heap.size, 0, none⟩) 1 1]).run Tryd.prog (X'.alloc (.cells A 39)) = .ok v4 V4 ∧ (∃ a m c, v4 = .slice a m c) ∧ (∃ v0, V4.cell? ⟨g5, 28, none⟩ = some v0) ∧ V4.frozen? ⟨g5, 28, none⟩ = false ∧
      BdC w0 (V4.setCell ⟨g5, 28, none⟩ v4) gw gv g5 o n { c with ten := c.ten ++ [t] } v4 := by
  obtain ⟨ys, B, ez, hB, hzs, hcl, hM⟩ := h
  have hl := hz.1
  have hzl : ys.length = c.ten.length := by rw [← ez, List.length_map]
  have hM2 := (hM.join hM').after ((Below.refl X'.heap.size X').alloc (Nat.le_refl _) (.cells A 39 (0, 0)))
  have hon2 : ∀ v ∈ tc t p s q, v.oneCell' = true := by
    rw [← hA, Array.all_eq_true_iff_forall_mem] at hon
    intro v hv
    exact hon v (by simpa using hv)
  obtain ⟨v4, V4, B4, hrun, hM4, hB4⟩ := mem_append (t := 26) (ty := 26) Tryd.underlying26 infoT (by kernel_rfl) (by omega) (K := bq gw gv o n ((g5, .cells (cc c u).toArray 28 (0, 0)) :: (ys.flatMap (·.2) ++ C'))) (hM2.perm (by
    classical
    rw [List.perm_iff_count]
    intro z
    simp only [bq, List.count_append, List.count_cons, List.count_nil]
    omega)) hB ⟨X'.heap.size, 0, none⟩ (tc t p s q) (tc_len hl _ _ _) (fun j u hj => by
      rw [addr_mid, Nat.zero_add, World.cell?_alloc_new, ← hA]
      simpa using hj) hon2 (by omega) (by omega)
  have hM5 : Mem w0 V4 (bq gw gv o n ((g5, .cells (cc c u).toArray 28 (0, 0)) :: (B4 ++ (ys.flatMap (·.2) ++ C')))) := hM4.perm (by
    classical
    rw [List.perm_iff_count]
    intro z
    simp only [bq, List.count_append, List.count_cons, List.count_nil]
    omega)
  have h6 := hM5.set 2 rfl 28 v4
  simp only [bq, List.set_cons_succ, List.set_cons_zero] at h6
  rw [cc_ten c _ v4 hcl] at h6
  refine ⟨v4, V4, hrun, owb_slice hB4, ⟨_, (hM5.cell 2 rfl 28).trans (cc_at28 hcl _)⟩, hM5.free 2 rfl 28, ys ++ [((t, p, s, q), C')], B4, ?_, ?_, ?_, ⟨hcl.mac, hcl.omac, hcl.nmac, hcl.key⟩, ?_⟩
  · rw [List.map_append, ez]; rfl
  · rw [List.length_append, List.map_append, List.flatten_append]
    simpa [zc] using hB4
  · intro y hy
    rcases List.mem_append.1 hy with hy | hy
    · exact hzs y hy
    · rw [List.mem_singleton] at hy; subst hy; exact hz
  · have e : [((t, p, s, q), C')].flatMap (fun y : Ty => y.2) = C' := by simp
    rw [List.flatMap_append, e]; exact h6
theorem tat_vni {g : Nat} {pre post : List Value} {T : TypeId} {t : Ten} {L : List (Nat × Obj)} (h : TAt g pre post T t L) (x : Int) : ∃ A R, L = (g, .cells A T (0, 0)) :: R ∧ pre.length + 1 < A.size ∧ TAt g pre post T { t with vni := x } ((g, .cells (A.setIfInBounds (pre.length + 1) (.int .u32 x)) T (0, 0)) :: R) :=
  tat_put h 1 (by omega) _ (by rintro p s q n vn a b c d f g x y vt a1 b1 c1 d1 f1 g1 a2 b2 c2 d2 f2 g2 po lo hi fi st tw se qu ra bu rfl; rfl) rfl rfl rfl rfl rfl rfl
theorem BdS.pool0 {w0 V : World} {gw gv g5 gb : Nat} {Y : List Value} {A : Array Value} {o n : Int} {t : Ten} (h : BdS w0 V gw gv g5 gb Y A o n t) : (∃ v0, V.cell? ⟨gb, 23, none⟩ = some v0) ∧ V.frozen? ⟨gb, 23, none⟩ = false ∧ BdS w0 (V.setCell ⟨gb, 23, none⟩ nilV) gw gv g5 gb Y A o n { t with pool := [] } := by
  obtain ⟨L, ⟨hlen, p, s, q, B1, B2, B3, k1, k2, k3, rfl⟩, hM⟩ := h
  have h6 := hM.set 3 rfl 23 nilV
  simp only [bq, List.set_cons_succ, List.set_cons_zero] at h6
  refine ⟨⟨p, (hM.cell 3 rfl 23).trans (get_mid [] _ _ 23 _ (tget hlen (by rintro n vn a b c d f g x y vt a1 b1 c1 d1 f1 g1 a2 b2 c2 d2 f2 g2 po lo hi fi st tw se qu ra bu rfl; rfl)))⟩, hM.free 3 rfl 23, _, ⟨⟨hlen.key, hlen.vmac, hlen.host⟩, nilV, s, q, [], B2, B3, OwB.nil _ _, k2, k3, rfl⟩, ?_⟩
  have e := set_mid [] (tc t p s q) Y 23 nilV (by rw [tc_len hlen]; omega)
  rw [List.length_nil, Nat.zero_add] at e
  rw [e, tset (t' := { t with pool := [] }) (p' := nilV) (s' := s) (q' := q) hlen (by rintro n vn a b c d f g x y vt a1 b1 c1 d1 f1 g1 a2 b2 c2 d2 f2 g2 po lo hi fi st tw se qu ra bu rfl; rfl)] at h6
  refine h6.subl (List.Sublist.cons_cons _ (List.Sublist.cons_cons _ (List.Sublist.cons_cons _ (List.Sublist.cons_cons _ ?_))))
  exact List.sublist_append_right _ _
theorem BdS.stat0 {w0 V : World} {gw gv g5 gb : Nat} {Y : List Value} {A : Array Value} {o n : Int} {t : Ten} (h : BdS w0 V gw gv g5 gb Y A o n t) : (∃ v0, V.cell? ⟨gb, 27, none⟩ = some v0) ∧ V.frozen? ⟨gb, 27, none⟩ = false ∧ BdS w0 (V.setCell ⟨gb, 27, none⟩ nilV) gw gv g5 gb Y A o n { t with stat := [] } := by
  obtain ⟨L, ⟨hlen, p, s, q, B1, B2, B3, k1, k2, k3, rfl⟩, hM⟩ := h
  have h6 := hM.set 3 rfl 27 nilV
  simp only [bq, List.set_cons_succ, List.set_cons_zero] at h6
  refine ⟨⟨s, (hM.cell 3 rfl 27).trans (get_mid [] _ _ 27 _ (tget hlen (by rintro n vn a b c d f g x y vt a1 b1 c1 d1 f1 g1 a2 b2 c2 d2 f2 g2 po lo hi fi st tw se qu ra bu rfl; rfl)))⟩, hM.free 3 rfl 27, _, ⟨⟨hlen.key, hlen.vmac, hlen.host⟩, p, nilV, q, B1, [], B3, k1, OwB.nil _ _, k3, rfl⟩, ?_⟩
  have e := set_mid [] (tc t p s q) Y 27 nilV (by rw [tc_len hlen]; omega)
  rw [List.length_nil, Nat.zero_add] at e
  rw [e, tset (t' := { t with stat := [] }) (p' := p) (s' := nilV) (q' := q) hlen (by rintro n vn a b c d f g x y vt a1 b1 c1 d1 f1 g1 a2 b2 c2 d2 f2 g2 po lo hi fi st tw se qu ra bu rfl; rfl)] at h6
  refine h6.subl (List.Sublist.cons_cons _ (List.Sublist.cons_cons _ (List.Sublist.cons_cons _ (List.Sublist.cons_cons _ ?_))))
  exact List.Sublist.append (List.Sublist.refl _) (List.sublist_append_right _ _)
theorem BdS.pool1 {w0 V : World} {gw gv g5 gb : Nat} {Y : List Value} {A0 : Array Value} {o n : Int} {t : Ten} (h : BdS w0 V gw gv g5 gb Y A0 o n t) (hl : t.pool.length ≤ 900000) (y : Int) : ∃ pa pm pc, V.cell? ⟨gb, 23, none⟩ = some (.slice pa pm pc) ∧ ∃ v4 V4, (Builtin.append_ #[35, 35] 35 #[.slice pa pm pc, .slice (some ⟨V.heap.size, 0, none⟩) 1 1]).run Tryd.prog (V.alloc (.cells #[.int .u32 y] 22)) = .ok v4 V4 ∧ (∃ v0, V4.cell? ⟨gb, 23, none⟩ = some v0) ∧ V4.frozen? ⟨gb, 23, none⟩ = false ∧ (∃ a m c, v4 = .slice a m c) ∧
      BdS w0 (V4.setCell ⟨gb, 23, none⟩ v4) gw gv g5 gb Y A0 o n { t with pool := t.pool ++ [y] } := by
  obtain ⟨L, hT, hM⟩ := h
  obtain ⟨A, p, B, R, hperm, hpA, hB, hlt, hnew⟩ := (tat_list hT w0 []).1
  rw [List.length_nil, Nat.zero_add] at hpA hlt hnew
  have hM2 : Mem w0 V ((gb, .cells A 39 (0, 0)) :: (B ++ (R ++ bq gw gv o n [(g5, .cells A0 28 (0, 0))]))) := by
    have h1 : Mem w0 V (bq gw gv o n [(g5, .cells A0 28 (0, 0))] ++ L) := hM
    refine (h1.perm (hperm.append_left _)).perm (by
      classical
      rw [List.perm_iff_count]
      intro z
      simp only [bq, List.count_append, List.count_cons, List.count_nil]
      omega)
  obtain ⟨pa, pm, pc, rfl⟩ := owb_slice hB
  have hM3 := hM2.after ((Below.refl V.heap.size V).alloc (Nat.le_refl _) (.cells #[.int .u32 y] 22 (0, 0)))
  refine ⟨pa, pm, pc, (hM2.cell 0 rfl 23).trans hpA, ?_⟩
  obtain ⟨v4, V4, B4, hrun, hM4, hB4⟩ := mem_append (t := 35) (ty := 35) Tryd.underlying35 infoU rfl (by decide) (K := (gb, .cells A 39 (0, 0)) :: (R ++ bq gw gv o n [(g5, .cells A0 28 (0, 0))])) (hM3.perm (by
    classical
    rw [List.perm_iff_count]
    intro z
    simp only [bq, List.count_append, List.count_cons, List.count_nil]
    omega)) hB ⟨V.heap.size, 0, none⟩ [.int .u32 y] rfl (fun j u hj => by
      rw [addr_mid, Nat.zero_add, World.cell?_alloc_new]
      simpa using hj) (by simp; rfl) (by omega) (by omega)
  have hM5 : Mem w0 V4 ((gb, .cells A 39 (0, 0)) :: (B4 ++ (R ++ bq gw gv o n [(g5, .cells A0 28 (0, 0))]))) := hM4.perm (by
    classical
    rw [List.perm_iff_count]
    intro z
    simp only [bq, List.count_append, List.count_cons, List.count_nil]
    omega)
  obtain ⟨a, m, c, rfl⟩ := owb_slice hB4
  refine ⟨_, V4, hrun, ⟨_, (hM5.cell 0 rfl 23).trans hpA⟩, hM5.free 0 rfl 23, ⟨_, _, _, rfl⟩, ?_⟩
  have h7 := hM5.set 0 rfl 23 (.slice a m c)
  rw [List.set_cons_zero] at h7
  refine ⟨_, hnew y a m c B4 hB4, h7.perm (by
    classical
    rw [List.perm_iff_count]
    intro z
    simp only [bq, List.count_append, List.count_cons, List.count_nil]
    omega)⟩
theorem BdS.stat1 {w0 V : World} {gw gv g5 gb : Nat} {Y : List Value} {A0 : Array Value} {o n : Int} {t : Ten} (h : BdS w0 V gw gv g5 gb Y A0 o n t) (hl : t.stat.length ≤ 900000) (x y : Int) : ∃ pa pm pc, V.cell? ⟨gb, 27, none⟩ = some (.slice pa pm pc) ∧ ∃ v4 V4, (Builtin.append_ #[37, 37] 37 #[.slice pa pm pc, .slice (some ⟨V.heap.size, 0, none⟩) 1 1]).run Tryd.prog (V.alloc (.cells #[.int .u32 x, .int .u32 y] 52)) = .ok v4 V4 ∧ (∃ v0, V4.cell? ⟨gb, 27, none⟩ = some v0) ∧ V4.frozen? ⟨gb, 27, none⟩ = false ∧ (∃ a m c, v4 = .slice a m c) ∧
      BdS w0 (V4.setCell ⟨gb, 27, none⟩ v4) gw gv g5 gb Y A0 o n { t with stat := t.stat ++ [(x, y)] } := by
  obtain ⟨L, hT, hM⟩ := h
  obtain ⟨A, p, B, R, hperm, hpA, hB, hlt, hnew⟩ := (tat_list hT w0 []).2.1
  rw [List.length_nil, Nat.zero_add] at hpA hlt hnew
  have hM2 : Mem w0 V ((gb, .cells A 39 (0, 0)) :: (B ++ (R ++ bq gw gv o n [(g5, .cells A0 28 (0, 0))]))) := by
    have h1 : Mem w0 V (bq gw gv o n [(g5, .cells A0 28 (0, 0))] ++ L) := hM
    refine (h1.perm (hperm.append_left _)).perm (by
      classical
      rw [List.perm_iff_count]
      intro z
      simp only [bq, List.count_append, List.count_cons, List.count_nil]
      omega)
  obtain ⟨pa, pm, pc, rfl⟩ := owb_slice hB
  have hM3 := hM2.after ((Below.refl V.heap.size V).alloc (Nat.le_refl _) (.cells #[.int .u32 x, .int .u32 y] 52 (0, 0)))
  refine ⟨pa, pm, pc, (hM2.cell 0 rfl 27).trans hpA, ?_⟩
  obtain ⟨v4, V4, B4, hrun, hM4, hB4⟩ := mem_append (t := 37) (ty := 37) Tryd.underlying37 infoP rfl (by decide) (K := (gb, .cells A 39 (0, 0)) :: (R ++ bq gw gv o n [(g5, .cells A0 28 (0, 0))])) (hM3.perm (by
    classical
    rw [List.perm_iff_count]
    intro z
    simp only [bq, List.count_append, List.count_cons, List.count_nil]
    omega)) hB ⟨V.heap.size, 0, none⟩ [.int .u32 x, .int .u32 y] rfl (fun j u hj => by
      rw [addr_mid, Nat.zero_add, World.cell?_alloc_new]
      simpa using hj) (by simp; exact ⟨rfl, rfl⟩) (by omega) (by omega)
  have hM5 : Mem w0 V4 ((gb, .cells A 39 (0, 0)) :: (B4 ++ (R ++ bq gw gv o n [(g5, .cells A0 28 (0, 0))]))) := hM4.perm (by
    classical
    rw [List.perm_iff_count]
    intro z
    simp only [bq, List.count_append, List.count_cons, List.count_nil]
    omega)
  obtain ⟨a, m, c, rfl⟩ := owb_slice hB4
  refine ⟨_, V4, hrun, ⟨_, (hM5.cell 0 rfl 27).trans hpA⟩, hM5.free 0 rfl 27, ⟨_, _, _, rfl⟩, ?_⟩
  have h7 := hM5.set 0 rfl 27 (.slice a m c)
  rw [List.set_cons_zero] at h7
  obtain ⟨L', hp', hT'⟩ := hnew x y a m c B4 hB4
  refine ⟨L', hT', ?_⟩
  have h8 : Mem w0 _ (bq gw gv o n [(g5, .cells A0 28 (0, 0))] ++ L') := (h7.perm (by
    classical
    rw [List.perm_iff_count]
    intro z
    simp only [bq, List.count_append, List.count_cons, List.count_nil]
    omega)).perm (hp'.symm.append_left (bq gw gv o n [(g5, .cells A0 28 (0, 0))]))
  exact h8
end Go.Proofs.YtnddbklbgddblaaDoor

