/-
  Rows of bytes in a row of slices of the call's own; what package log's newest and kept answer.
-/
import Derived.Test.YtbmpjlgfbiakoaaDoorLgFind2
namespace Go.Proofs.YtbmpjlgfbiakoaaDoor
open Go.RowKit
open Sm
set_option linter.unusedVariables false

def Bk.hdB (k : Bk) : Value := .slice (some ⟨k.g, 0, none⟩) k.b.length k.cap
/-- A value that is the rows bl, and the blocks that it takes. -/
def RS (v : Value) (bl : List (List Int)) (Y : List (Nat × Obj)) : Prop :=
  (v = .slice none 0 0 ∧ bl = [] ∧ Y = []) ∨ ∃ h cap hc, ∃ ks : List Bk, v = .slice (some ⟨h, 0, none⟩) bl.length cap ∧ 0 < bl.length ∧ bl.length ≤ cap ∧ cap ≤ hc.size ∧ hc.toList.take bl.length = ks.map Bk.hdB ∧ (∀ k ∈ ks, k.Ok k.b.length) ∧ ks.map Bk.b = bl ∧ Y = (h, .cells hc 22 (0, 0)) :: ks.map Bk.ob
theorem RS.shape {v : Value} {bl : List (List Int)} {Y : List (Nat × Obj)} (h : RS v bl Y) : ∃ a c, v = .slice a bl.length c := by
  rcases h with ⟨rfl, rfl, rfl⟩ | ⟨h, cap, hc, ks, rfl, _⟩
  · exact ⟨none, 0, rfl⟩
  · exact ⟨_, _, rfl⟩
/-- One row more. -/
theorem rs_append {w W : World} {v : Value} {bl : List (List Int)} {Y K : List (Nat × Obj)} {k : Bk} (hE : RS v bl Y) (hM : Mem w W (Y ++ (k.ob :: K))) (hk : k.Ok k.b.length) (hl : bl.length ≤ 1000) {ad : Addr} (hone : W.cell? ad = some k.hdB) (ty : TypeId) :
    ∃ a' c' Y' W', (Builtin.append_ #[33, 33] ty #[v, .slice (some ad) 1 1]).run Tryd.prog W = .ok (.slice a' (bl.length + 1) c') W' ∧ RS (.slice a' (bl.length + 1) c') (bl ++ [k.b]) Y' ∧ Mem w W' (Y' ++ K) := by
  rcases hE with ⟨rfl, rfl, rfl⟩ | ⟨h, cap, hc, ks, rfl, h0, h1, h2, h3, h4, h5, rfl⟩
  · obtain ⟨h', c', W', hr, hc', e1, e2, e3, hM'⟩ := append_first hM ty ad k.hdB hone
    refine ⟨_, _, (h', .cells hc' 22 (0, 0)) :: [k.ob], W', hr, Or.inr ⟨h', c', hc', [k], rfl, by simp, by simpa using e1, e2, by simpa using e3, by simpa using hk, by simp, rfl⟩, ?_⟩
    simpa using hM'
  · have hlen : ks.length = bl.length := by rw [← h5, List.length_map]
    obtain ⟨h', c', W', hr, hc', e1, e2, e3, hM'⟩ := append_head (R := ks.map Bk.ob ++ (k.ob :: K)) hM h1 h2 hl ty ad k.hdB rfl hone
    refine ⟨_, _, (h', .cells hc' 22 (0, 0)) :: (ks ++ [k]).map Bk.ob, W', hr, Or.inr ⟨h', c', hc', ks ++ [k], by simp, by simp, by simpa using e1, e2, ?_, ?_, ?_, rfl⟩, ?_⟩
    · rw [List.length_append, List.length_singleton, e3, h3]; simp
    · intro q hq
      rcases List.mem_append.mp hq with c | c
      · exact h4 q c
      · simp at c; subst c; exact hk
    · rw [List.map_append, h5]; simp
    · simpa [List.append_assoc] using hM'

/-! ### The newest entry. -/
def lastE (l : List (En × Value)) : En × Value := l.getLastD (En.zero, .slice none 0 0)
theorem lastE_nw (l : List (En × Value)) : (lastE l).1 = nw (l.map Prod.fst) := by
  unfold lastE nw
  rw [List.getLastD_eq_getLast?, List.getLastD_eq_getLast?, List.getLast?_map]
  cases l.getLast? <;> rfl
theorem es_one {v : Value} {x : En × Value} {Y : List (Nat × Obj)} (h : ES v [x] Y) {w W : World} {K : List (Nat × Obj)} (hM : Mem w W (Y ++ K)) :
    ∃ g cap, v = .slice (some ⟨g, 0, none⟩) 1 cap ∧ 1 ≤ cap ∧ ∀ j, j < 4 → W.cell? ⟨g, j, none⟩ = (enC x)[j]? := by
  rcases h with ⟨_, e, _⟩ | ⟨g, cap, cur, Xs, rfl, _, h1, h2, h3, h4, rfl⟩
  · cases e
  · have e4 : cur.toList.take 4 = enC x := by
      have := h3
      simpa [enCs] using this
    refine ⟨g, cap, rfl, h1, fun j hj => ?_⟩
    rw [hM.cell 0 rfl j, ← e4, List.getElem?_take, if_pos hj]; simp
theorem es_own {v : Value} {l : List (En × Value)} {Y : List (Nat × Obj)} (h : ES v l Y) {x : En × Value} (hx : x ∈ l) : ∃ X R, OwnV x.2 x.1.r X ∧ Y.Perm (X ++ R) := by
  rcases h with ⟨_, rfl, _⟩ | ⟨g, cap, cur, Xs, rfl, h0, h1, h2, h3, h4, rfl⟩
  · simp at hx
  · have : ∃ X R, OwnV x.2 x.1.r X ∧ Xs.Perm (X ++ R) := by
      clear h0 h1 h2 h3
      induction h4 with
      | nil => simp at hx
      | cons a t ih =>
        rcases List.mem_cons.mp hx with e | e
        · subst e; exact ⟨_, _, a, List.Perm.refl _⟩
        · obtain ⟨X', R', o, pm⟩ := ih e
          exact ⟨X', _, o, (List.Perm.append_left _ pm).trans (perm_front _ X' R')⟩
    obtain ⟨X, R, o, pm⟩ := this
    exact ⟨X, (g, .cells cur enT (0, 0)) :: R, o, (pm.cons _).trans (List.perm_middle).symm⟩
theorem es_vals {v : Value} {l : List (En × Value)} {Y : List (Nat × Obj)} (h : ES v l Y) {x : En × Value} (hx : x ∈ l) : ∃ a c, x.2 = .slice a x.1.r.length c := by
  obtain ⟨X, R, o, -⟩ := es_own h hx
  obtain ⟨a, c, e, -⟩ := o.shape
  exact ⟨a, c, e⟩

set_option maxRecDepth 20000 in
set_option maxHeartbeats 1000000 in
theorem newest_any {w W : World} {v : Value} {l : List (En × Value)} {Y K : List (Nat × Obj)} (hE : ES v l Y) (hM : Mem w W (Y ++ K)) (h2 : l.length ≤ 2) :
    Calls Tryd.prog 30 #[v] W fun e W' => e = .returned (.agg (enA (lastE l).1.s (lastE l).1.t (lastE l).1.c (lastE l).2)) ∧ ∃ K', Mem W W' K' := by
  have hA : Mem W (W.alloc (.cells en0 enT)) [(W.heap.size, .cells en0 enT (0, 0))] := (Mem.nil W).push1 rfl
  have kr := hA.cell 0 rfl
  have kf := hA.free 0 rfl
  have HA : Hid (Mem W (W.alloc (.cells en0 enT)) [(W.heap.size, .cells en0 enT (0, 0))]) := hA
  have hold : ∀ g j, W.heap.size > g → (W.alloc (.cells en0 enT)).cell? ⟨g, j, none⟩ = W.cell? ⟨g, j, none⟩ := fun g j hg => hA.old hg
  match l, h2 with
  | [], _ =>
    rcases hE with ⟨rfl, _, _⟩ | ⟨g, cap, cur, Xs, rfl, h0, _⟩
    · generalize hw1 : W.alloc (.cells en0 enT) = w1 at *
      clear hM hA hold
      go_enter Tryd.func30, Tryd.ntmps30
      go_wp2
      exact bodyPost_ret (v := .agg en0) (by simp [results, Tryd.results30, go_sem, kr]) rfl ⟨rfl, _, (((HA.out.set 0 rfl 0 _).set 0 rfl 1 _).set 0 rfl 2 _).set 0 rfl 3 _⟩
    · simp at h0
  | [x], _ =>
    obtain ⟨g, cap, rfl, hc1, hcell⟩ := es_one hE hM
    obtain ⟨av, cv, ev⟩ := es_vals hE (List.mem_singleton.mpr rfl)
    obtain ⟨⟨xs, xt, xc, xr⟩, xv⟩ := x
    simp only at ev
    subst ev
    have hgl : W.heap.size > g := by have := cell_lt (hcell 0 (by omega)); exact this
    have k0 := (hold g 0 hgl).trans (hcell 0 (by omega))
    have k1 := (hold g 1 hgl).trans (hcell 1 (by omega))
    have k2 := (hold g 2 hgl).trans (hcell 2 (by omega))
    have k3 := (hold g 3 hgl).trans (hcell 3 (by omega))
    simp [enC] at k0 k1 k2 k3
    generalize hw1 : W.alloc (.cells en0 enT) = w1 at *
    clear hM hA hold hcell hE
    show Calls _ _ _ _ fun e W' => e = .returned (.agg (enA xs xt xc (.slice av xr.length cv))) ∧ ∃ K', Mem W W' K'
    go_enter Tryd.func30, Tryd.ntmps30
    go_wp2
    exact bodyPost_ret (v := .agg (enA xs xt xc (.slice av xr.length cv))) (by simp [results, Tryd.results30, go_sem, kr]) rfl ⟨rfl, _, (((HA.out.set 0 rfl 0 _).set 0 rfl 1 _).set 0 rfl 2 _).set 0 rfl 3 _⟩
  | [y, x], _ =>
    obtain ⟨g, cap, cur, X1, X2, rfl, hcp, hsz, hcur, o1, o2, hY, hcell, hfree⟩ := es_two hE hM
    obtain ⟨av, cv, ev, -⟩ := o2.shape
    obtain ⟨⟨xs, xt, xc, xr⟩, xv⟩ := x
    simp only at ev
    subst ev
    have hgl : W.heap.size > g := by have := cell_lt (hcell 0 (by omega)); exact this
    have k0 := (hold g 4 hgl).trans (hcell 4 (by omega))
    have k1 := (hold g 5 hgl).trans (hcell 5 (by omega))
    have k2 := (hold g 6 hgl).trans (hcell 6 (by omega))
    have k3 := (hold g 7 hgl).trans (hcell 7 (by omega))
    simp [enC] at k0 k1 k2 k3
    generalize hw1 : W.alloc (.cells en0 enT) = w1 at *
    clear hM hA hold hcell hE hcur hY o1 o2 hfree
    show Calls _ _ _ _ fun e W' => e = .returned (.agg (enA xs xt xc (.slice av xr.length cv))) ∧ ∃ K', Mem W W' K'
    go_enter Tryd.func30, Tryd.ntmps30
    go_wp2
    exact bodyPost_ret (v := .agg (enA xs xt xc (.slice av xr.length cv))) (by simp [results, Tryd.results30, go_sem, kr]) rfl ⟨rfl, _, (((HA.out.set 0 rfl 0 _).set 0 rfl 1 _).set 0 rfl 2 _).set 0 rfl 3 _⟩

/-- One record that is kept: its copy, put behind the others. -/
theorem keep_one {w W : World} {v : Value} {bl : List (List Int)} {Y K : List (Nat × Obj)} (hE : RS v bl Y) (hM : Mem w W (Y ++ K)) (hl : bl.length ≤ 1000) {r : List Int} (hr : IsBytes r) {w2 : World} {g : Nat} (h2 : Mem W w2 [(g, .cells (bs r) 5 (0, 0))]) (ty : TypeId) :
    ∃ a' c' Y' W', (Builtin.append_ #[33, 33] ty #[v, .slice (some ⟨w2.heap.size, 0, none⟩) 1 1]).run Tryd.prog (w2.alloc (.cells #[.slice (some ⟨g, 0, none⟩) r.length r.length] 22)) = .ok (.slice a' (bl.length + 1) c') W' ∧ RS (.slice a' (bl.length + 1) c') (bl ++ [r]) Y' ∧ ∃ K', Mem w W' (Y' ++ K') := by
  have hk : (Bk.mk g r.length (bs r) r).Ok (Bk.mk g r.length (bs r) r).b.length := ⟨Nat.le_refl _, by simp, by show List.take _ (List.map _ _) = _; exact List.take_of_length_le (by simp), rfl, hr⟩
  have h3 := (hM.join h2).alloc (.cells #[.slice (some ⟨g, 0, none⟩) r.length r.length] 22 (0, 0))
  have h4 : Mem w (w2.alloc (.cells #[.slice (some ⟨g, 0, none⟩) r.length r.length] 22)) (Y ++ ((Bk.mk g r.length (bs r) r).ob :: (K ++ [(w2.heap.size, .cells #[.slice (some ⟨g, 0, none⟩) r.length r.length] 22 (0, 0))]))) := by
    refine h3.perm ?_
    simp only [List.append_assoc, List.singleton_append]
    exact List.Perm.append_left Y List.perm_middle
  obtain ⟨a', c', Y', W', e1, e2, e3⟩ := rs_append hE h4 hk hl (ad := ⟨w2.heap.size, 0, none⟩) (by
    have := ((Mem.nil w2).push1 (o := .cells #[.slice (some ⟨g, 0, none⟩) r.length r.length] 22) rfl).cell 0 rfl 0
    exact this) ty
  exact ⟨a', c', Y', W', e1, e2, _, e3⟩

set_option maxRecDepth 20000 in
set_option maxHeartbeats 1000000 in
/-- kept, of one entry or none. -/
theorem kept_few {w W : World} {v : Value} {l : List (En × Value)} {Y K : List (Nat × Obj)} (hE : ES v l Y) (hM : Mem w W (Y ++ K)) (h2 : l.length ≤ 1) (hb : ∀ x ∈ l, x.1.r.length ≤ 1000000000) :
    Calls Tryd.prog 31 #[v] W fun e W' => ∃ v', e = .returned v' ∧ ∃ Y', RS v' (kp (l.map Prod.fst)) Y' ∧ ∃ K', Mem W W' (Y' ++ K') := by
  match l, h2 with
  | [], _ =>
    rcases hE with ⟨rfl, _, _⟩ | ⟨g, cap, cur, Xs, rfl, h0, _⟩
    · clear hM hb
      go_enter Tryd.func31, Tryd.ntmps31
      go_wp2_with fail
      refine wp_loop_rounds 1 ?_
      rw [rounds_succ]
      go_wp2
      go_ret
      exact ⟨_, rfl, [], Or.inl ⟨rfl, rfl, rfl⟩, [], Mem.nil W⟩
    · simp at h0
  | [x], _ =>
    obtain ⟨g, cap, rfl, hc1, hcell⟩ := es_one hE hM
    obtain ⟨X, R, o, pm⟩ := es_own hE (List.mem_singleton.mpr rfl)
    have hbx := hb x (List.mem_singleton.mpr rfl)
    obtain ⟨av, cv, ev, hav, hrow⟩ := o.row ((hM.perm (pm.append_right K)).perm (List.Perm.of_eq (List.append_assoc X R K))) (by omega)
    obtain ⟨⟨xs, xt, xc, xr⟩, xv⟩ := x
    simp only at ev hrow hbx
    subst ev
    have hisb : IsBytes xr := hrow.bytes
    have k0 := hcell 0 (by omega)
    have k1 := hcell 1 (by omega)
    have k2 := hcell 2 (by omega)
    have k3 := hcell 3 (by omega)
    simp [enC] at k0 k1 k2 k3
    have hA : Mem W (W.alloc (.cells (enA xs xt xc (.slice av xr.length cv)) enT)) [(W.heap.size, .cells (enA xs xt xc (.slice av xr.length cv)) enT (0, 0))] := (Mem.nil W).push1 rfl
    have HROW : Hid (∀ V K', Mem W V K' → Row V av xr) := fun V K' hV => hV.row hrow
    clear hM hcell hE hb o pm hrow
    go_enter Tryd.func31, Tryd.ntmps31
    go_wp2_with fail
    refine wp_loop_rounds 2 ?_
    rw [rounds_succ]
    go_upto_region 5 with fail
    refine wp_letter (fun V => Mem W V [(W.heap.size, .cells (enA xs xt xc (.slice av xr.length cv)) enT (0, 0))]) hA ?_
    intro w1 h1
    have j3 := h1.cell 0 rfl 3
    simp at j3
    have HM1 : Hid (Mem W w1 [(W.heap.size, .cells (enA xs xt xc (.slice av xr.length cv)) enT (0, 0))]) := h1
    clear h1 hA
    go_quiet (fail)
    have hs := lsame_any rfl (row_drewN (n := nq) (HROW.out _ _ HM1.out)) cv
    go_wp2_with fail
    refine hs.mono ?_
    rintro e w2 ⟨g2, rfl, h2⟩
    obtain ⟨a', c', Y', W', hrun, hR, K', hM'⟩ := keep_one (v := .slice none 0 0) (bl := []) (Y := []) (Or.inl ⟨rfl, rfl, rfl⟩) (HM1.out.drewN nq) (by simp) hisb h2 33
    rw [List.length_nil, Nat.zero_add] at hrun hR
    have HR : Hid (RS (.slice a' 1 c') [xr] Y') := hR
    have HM' : Hid (Mem W W' (Y' ++ K')) := hM'
    clear hR hM' h2 hs HM1
    go_wp2_with (refine wpList_append_run (.tmp 27) (.tmp 31) 33 33 (by with_reducible rfl) hrun rfl rfl (by simp [Act.eval]) (by simp [Act.eval]) ?_)
    rw [rounds_succ]
    go_wp2
    go_ret
    exact ⟨_, rfl, Y', HR.out, K', HM'.out⟩
end Go.Proofs.YtbmpjlgfbiakoaaDoor
