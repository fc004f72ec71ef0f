/-
  What package log's find answers where there is power.
-/
import Derived.Test.YtbmpjlgfbiakoaaDoorLgFind
namespace Go.Proofs.YtbmpjlgfbiakoaaDoor
open Go.RowKit
open Sm
set_option linter.unusedVariables false

/-- What lies in the first slots. -/
def fnd (bl : List (List Int)) : Nat → List En
  | 0 => []
  | i + 1 => fnd bl i ++ (rd bl i).toList
theorem fnd_len (bl : List (List Int)) (i : Nat) : (fnd bl i).length ≤ i := by
  induction i with
  | zero => simp [fnd]
  | succ i ih => cases h : rd bl i <;> simp [fnd, h] <;> omega
theorem fd_two {bl : List (List Int)} {x y : En} (h : fnd bl 2 = [x, y]) : fd bl = if ltr x.t y.t then [y, x] else [x, y] := by
  unfold fd
  simp only [fnd] at h
  cases h0 : rd bl 0 <;> cases h1 : rd bl 1 <;> rw [h0, h1] at h <;> simp at h
  obtain ⟨rfl, rfl⟩ := h
  rfl
theorem fd_less {bl : List (List Int)} (h : (fnd bl 2).length ≠ 2) : fd bl = fnd bl 2 := by
  unfold fd
  simp only [fnd] at h ⊢
  cases h0 : rd bl 0 <;> cases h1 : rd bl 1 <;> rw [h0, h1] at h <;> simp at h ⊢
theorem es_two {v : Value} {x y : En × Value} {Y : List (Nat × Obj)} (h : ES v [x, y] Y) {w W : World} {K : List (Nat × Obj)} (hM : Mem w W (Y ++ K)) :
    ∃ g cap cur X1 X2, v = .slice (some ⟨g, 0, none⟩) 2 cap ∧ 2 ≤ cap ∧ cap * 4 ≤ cur.size ∧ cur.toList.take 8 = enC x ++ enC y ∧ OwnV x.2 x.1.r X1 ∧ OwnV y.2 y.1.r X2 ∧ Y = (g, .cells cur enT (0, 0)) :: (X1 ++ X2) ∧ (∀ j, j < 8 → W.cell? ⟨g, j, none⟩ = (enC x ++ enC y)[j]?) ∧ ∀ j, W.frozen? ⟨g, j, none⟩ = false := by
  rcases h with ⟨_, e, _⟩ | ⟨g, cap, cur, Xs, rfl, _, h1, h2, h3, h4, rfl⟩
  · cases e
  · cases h4 with
    | cons a t =>
      cases t with
      | cons b t2 =>
        cases t2
        have e8 : cur.toList.take 8 = enC x ++ enC y := by
          have := h3
          simpa [enCs] using this
        refine ⟨g, cap, cur, _, _, rfl, h1, h2, e8, a, b, by simp, fun j hj => ?_, fun j => ?_⟩
        · rw [hM.cell 0 rfl j, ← e8, List.getElem?_take, if_pos hj]; simp
        · exact hM.free 0 rfl j

theorem set8 (cur : Array Value) (h : 8 ≤ cur.size) (a b c d e f g i : Value) : ((((((((cur.setIfInBounds 0 a).setIfInBounds 1 b).setIfInBounds 2 c).setIfInBounds 3 d).setIfInBounds 4 e).setIfInBounds 5 f).setIfInBounds 6 g).setIfInBounds 7 i).toList.take 8 = [a, b, c, d, e, f, g, i] := by
  obtain ⟨l⟩ := cur
  match l, h with
  | c0 :: c1 :: c2 :: c3 :: c4 :: c5 :: c6 :: c7 :: r, _ => simp

section
variable {w W : World} {p h m : Nat} {D : Dk} {hc : Array Value} {ks : List Bk} {L : List (Nat × Obj)}
set_option maxRecDepth 20000 in
set_option maxHeartbeats 2000000 in
theorem find_live (H : DkAt w W p h m D hc ks L) {a : Addr} (hG : Gl W a) (hd : D.dead = false) (hn : 4 ≤ ks.length) (hm : 256 ≤ m) :
    Calls Tryd.prog 29 #[.pointer (some ⟨p, 0, none⟩)] W fun e W' => ∃ v, e = .returned (.tuple #[v, .int .i64 0]) ∧ ∃ l, l.map Prod.fst = fd (ks.map Bk.b) ∧ ∃ Y, ES v l Y ∧ ∃ K, Mem W W' (Y ++ K) := by
  have HR : Hid (∀ V K, Mem W V K → ∀ i : Nat, i ≤ 1 → Calls Tryd.prog 36 #[.pointer (some ⟨p, 0, none⟩), .int .i64 i] V fun e W' => ∃ vr, e = .returned (rdV (.iface 125 (.pointer (some a))) vr (rd (ks.map Bk.b) i)) ∧ ∃ X K, Mem V W' (X ++ K) ∧ ∀ x, rd (ks.map Bk.b) i = some x → OwnV vr x.r X) :=
    fun V K hV i hi => rd_live (H.join hV) hd hn hm (hG.on hV).sent i hi
  have HG : Hid (Gl W a) := hG
  generalize ks.map Bk.b = bl at *
  clear hG H
  generalize hF : fd bl = FD
  have HF : Hid (fd bl = FD) := hF
  clear hF
  go_enter Tryd.func29, Tryd.ntmps29
  go_wp2_with fail
  go_loopw [4, 9] (fun o u wr => ∃ i : Nat, u = .int .i64 i ∧ i ≤ 2 ∧ ∃ l Y K, l.map Prod.fst = fnd bl i ∧ ES o l Y ∧ Mem W wr (Y ++ K)) (fun _ u _ => 2 - (intOf u).toNat)
  case atStart => exact ⟨0, rfl, by omega, [], [], [], rfl, Or.inl ⟨rfl, rfl, rfl⟩, Mem.nil W⟩
  case round =>
    obtain ⟨i, rfl, hi, l, Y, K, hl, hE, hM⟩ := hrel
    have hll : l.length ≤ i := by have := fnd_len bl i; rw [← hl] at this; simpa using this
    by_cases hlt : i < 2
    · have hr := HR.out _ _ hM i (by omega)
      cases hrd : rd bl i with
      | none =>
        rw [hrd] at hr
        simp only [rdV] at hr
        have HL : Hid (l.map Prod.fst = fnd bl (i + 1)) := by show _ = _; rw [hl, fnd, hrd]; simp
        have HE : Hid (ES u4 l Y) := hE
        have HM : Hid (Mem W wr (Y ++ K)) := hM
        clear hl hE hrd hM
        go_wp2_with fail
        refine hr.mono ?_
        rintro e w2 ⟨vr, rfl, X, K2, h2, -⟩
        go_upto_region 8 with fail
        refine wp_letter (fun V => Mem wr V (X ++ K2 ++ [(w2.heap.size, .cells en0 enT (0, 0))] ++ [(w2.heap.size + 1, .cells #[.int .i64 0] 34 (0, 0))])) ((h2.alloc _).push (w2.heap.size + 1) _ (by simp)) ?_
        intro wx hx
        have hMx := HM.out.join hx
        have gx := HG.out.on hMx
        have s1 := gx.sent
        have hI := is_same a wx
        have HMx : Hid (Mem W wx (Y ++ (K ++ (X ++ K2 ++ [(w2.heap.size, .cells en0 enT (0, 0))] ++ [(w2.heap.size + 1, .cells #[.int .i64 0] 34 (0, 0))])))) := by rw [← List.append_assoc]; exact hMx
        clear hx hMx gx h2 hr
        go_wp2_with fail
        refine hI.mono ?_
        rintro e w' ⟨rfl, rfl⟩
        go_wp2_with fail
        go_roundw
        case rel => exact ⟨i + 1, by go_num, by omega, l, Y, _, HL.out, HE.out, HMx.out⟩
        case measure => simp [intOf]; omega
      | some x =>
        rw [hrd] at hr
        simp only [rdV] at hr
        have HL : Hid (∀ vr : Value, (l ++ [(x, vr)]).map Prod.fst = fnd bl (i + 1)) := by intro vr; rw [fnd, hrd, List.map_append, hl]; simp
        have HE : Hid (ES u4 l Y) := hE
        have HM : Hid (Mem W wr (Y ++ K)) := hM
        clear hl hE hrd hM
        obtain ⟨xs, xt, xc, xr⟩ := x
        simp only at hr
        go_wp2_with fail
        refine hr.mono ?_
        rintro e w2 ⟨vr, rfl, X, K2, h2, hO⟩
        have hO2 : OwnV vr xr X := hO _ rfl
        obtain ⟨av, cv, ev, -⟩ := hO2.shape
        subst ev
        clear hO
        go_upto_region 8 with fail
        refine wp_letter (fun V => Mem wr V (X ++ K2 ++ [(w2.heap.size, .cells (enA xs xt xc (.slice av xr.length cv)) enT (0, 0))] ++ [(w2.heap.size + 1, .cells #[.int .i64 0] 34 (0, 0))])) ((h2.alloc _).push (w2.heap.size + 1) _ (by simp)) ?_
        intro wx hx
        have hMx := HM.out.join hx
        have gx := HG.out.on hMx
        have s1 := gx.sent
        have hI := is_nil a wx
        have hA := as_nil (.iface 77 (.pointer (some ⟨w2.heap.size + 1, 0, none⟩))) wx
        have kb : ∀ j, wx.cell? ⟨w2.heap.size, j, none⟩ = (enA xs xt xc (.slice av xr.length cv))[j]? := fun j => cell_of (hx.at_ (w2.heap.size, .cells (enA xs xt xc (.slice av xr.length cv)) enT (0, 0)) (by simp)) j
        have k0 := kb 0
        have k1 := kb 1
        have k2 := kb 2
        have k3 := kb 3
        simp at k0 k1 k2 k3
        have HMx : Hid (Mem W wx (Y ++ (X ++ (K ++ (K2 ++ [(w2.heap.size, .cells (enA xs xt xc (.slice av xr.length cv)) enT (0, 0))] ++ [(w2.heap.size + 1, .cells #[.int .i64 0] 34 (0, 0))]))))) := by
          refine hMx.perm ?_
          rw [List.append_assoc]
          refine List.Perm.append_left Y ?_
          rw [List.append_assoc, List.append_assoc, List.append_assoc]
          exact perm_front K X _
        obtain ⟨ao, co, eo⟩ := HE.out.shape
        subst eo
        have hA4 : ∀ j, j < 4 → (wx.alloc (.cells (enA xs xt xc (.slice av xr.length cv)) enT)).cell? ⟨wx.heap.size, j, none⟩ = (enA xs xt xc (.slice av xr.length cv))[j]? := fun j _ => by
          have := ((Mem.nil wx).push1 (o := .cells (enA xs xt xc (.slice av xr.length cv)) enT) rfl).cell 0 rfl j
          exact this
        have hMA : Mem W (wx.alloc (.cells (enA xs xt xc (.slice av xr.length cv)) enT)) (Y ++ (X ++ ((K ++ (K2 ++ [(w2.heap.size, .cells (enA xs xt xc (.slice av xr.length cv)) enT (0, 0))] ++ [(w2.heap.size + 1, .cells #[.int .i64 0] 34 (0, 0))])) ++ [(wx.heap.size, .cells (enA xs xt xc (.slice av xr.length cv)) enT (0, 0))]))) := by
          have := HMx.out.alloc (.cells (enA xs xt xc (.slice av xr.length cv)) enT (0, 0))
          simpa [List.append_assoc] using this
        obtain ⟨a', c', Y', W', hrun, hE', hM'⟩ := es_append HE.out hMA (by omega) (x := ⟨xs, xt, xc, xr⟩) hO2 hA4 58
        have HE' : Hid (ES (.slice a' (l.length + 1) c') (l ++ [(⟨xs, xt, xc, xr⟩, .slice av xr.length cv)]) Y') := hE'
        have HM' : Hid _ := hM'
        clear hx hMx gx h2 hr kb hMA hA4 hE' hM' hO2 HMx
        go_wp2_with fail
        refine hI.mono ?_
        rintro e w' ⟨rfl, rfl⟩
        go_wp2_with fail
        refine hA.mono ?_
        rintro e w' ⟨rfl, rfl⟩
        go_wp2_with (refine wpList_append_run (.tmp 18) (.tmp 20) 58 58 (by with_reducible rfl) hrun rfl rfl (by simp [Act.eval]) (by simp [Act.eval]) ?_)
        go_roundw
        case rel => exact ⟨i + 1, by go_num, by omega, _, Y', _, HL.out _, HE'.out, HM'.out⟩
        case measure => simp [intOf]; omega
    · have e2 : i = 2 := by omega
      subst e2
      by_cases h2 : l.length = 2
      · obtain ⟨x, y, rfl⟩ : ∃ x y, l = [x, y] := by
          match l, h2 with
          | [x, y], _ => exact ⟨x, y, rfl⟩
        have hfd : FD = if ltr x.1.t y.1.t then [y.1, x.1] else [x.1, y.1] := by rw [← HF.out]; exact fd_two hl.symm
        obtain ⟨g, cap, cur, X1, X2, ev, hcp, hsz, hcur, o1, o2, hY, hcell, hfree⟩ := es_two hE hM
        subst ev
        obtain ⟨⟨xs, xt, xc, xr⟩, xv⟩ := x
        obtain ⟨⟨ys, yt, yc, yr⟩, yv⟩ := y
        obtain ⟨ax, cx, ex, -⟩ := o1.shape
        obtain ⟨ay, cy, ey, -⟩ := o2.shape
        simp only at ex ey hfd
        subst ex; subst ey
        have k0 := hcell 0 (by omega)
        have k1 := hcell 1 (by omega)
        have k2 := hcell 2 (by omega)
        have k3 := hcell 3 (by omega)
        have k4 := hcell 4 (by omega)
        have k5 := hcell 5 (by omega)
        have k6 := hcell 6 (by omega)
        have k7 := hcell 7 (by omega)
        simp [enC] at k0 k1 k2 k3 k4 k5 k6 k7
        have HLT : Hid (∀ k, Calls Tryd.prog 39 #[.int .u64 xt, .int .u64 yt] (wr.drewN k) fun e W' => e = .returned (.bool (ltr xt yt)) ∧ wr.drewN k = W') := fun k => llater_any _ _ _
        have HE : Hid (ES _ _ Y) := hE
        have HM : Hid (Mem W wr (Y ++ K)) := hM
        have q1 : (1 : Int) < (2 : Int) := by decide
        clear hl hE hM HR HF hcell h2 hll
        cases hlt2 : ltr xt yt with
        | false =>
          rw [hlt2] at hfd HLT
          have HF2 : Hid (FD = [⟨xs, xt, xc, xr⟩, ⟨ys, yt, yc, yr⟩]) := hfd
          clear hfd hlt2 hcur
          go_upto_region 12 with fail
          go_quiet (first | (go_at_call 39; exact quiet_eq (HLT.out _)))
          go_wp2
          exact bodyPost_ret (v := .tuple #[.slice (some ⟨g, 0, none⟩) 2 cap, .int .i64 0]) (by simp [results, Tryd.results29, go_sem]) rfl ⟨_, rfl, _, by rw [HF2.out]; rfl, Y, HE.out, K, HM.out.drewN _⟩
        | true =>
          rw [hlt2] at hfd HLT
          have HF2 : Hid (FD = [⟨ys, yt, yc, yr⟩, ⟨xs, xt, xc, xr⟩]) := hfd
          have HY : Hid (Y = (g, .cells cur enT (0, 0)) :: (X1 ++ X2) ∧ 2 ≤ cap ∧ cap * 4 ≤ cur.size ∧ OwnV (.slice ax xr.length cx) xr X1 ∧ OwnV (.slice ay yr.length cy) yr X2) := ⟨hY, hcp, hsz, o1, o2⟩
          clear hfd hlt2 hcur hY
          go_upto_region 12 with fail
          go_quiet (first | (go_at_call 39; exact quiet_eq (HLT.out _)))
          go_upto_region 13 with fail
          refine wp_letter (fun V => Mem W V (Y ++ K) ∧ V.cell? ⟨g, 0, none⟩ = some (.int .i64 xs) ∧ V.cell? ⟨g, 1, none⟩ = some (.int .u64 xt) ∧ V.cell? ⟨g, 2, none⟩ = some (.int .i64 xc) ∧ V.cell? ⟨g, 3, none⟩ = some (.slice ax xr.length cx) ∧ V.cell? ⟨g, 4, none⟩ = some (.int .i64 ys) ∧ V.cell? ⟨g, 5, none⟩ = some (.int .u64 yt) ∧ V.cell? ⟨g, 6, none⟩ = some (.int .i64 yc) ∧ V.cell? ⟨g, 7, none⟩ = some (.slice ay yr.length cy) ∧ ∀ j, V.frozen? ⟨g, j, none⟩ = false) ⟨HM.out.drewN _, k0, k1, k2, k3, k4, k5, k6, k7, hfree⟩ ?_
          clear k0 k1 k2 k3 k4 k5 k6 k7 hfree HLT
          rintro wx ⟨hx, k0, k1, k2, k3, k4, k5, k6, k7, hfree⟩
          have HX : Hid (Mem W wx (Y ++ K)) := hx
          clear hx HM
          go_region
          all_goals go_wp2
          refine bodyPost_ret (v := .tuple #[.slice (some ⟨g, 0, none⟩) 2 cap, .int .i64 0]) (by simp [results, Tryd.results29, go_sem]) rfl ⟨_, rfl, [(⟨ys, yt, yc, yr⟩, .slice ay yr.length cy), (⟨xs, xt, xc, xr⟩, .slice ax xr.length cx)], by rw [HF2.out]; rfl, (g, .cells ((((((((cur.setIfInBounds 0 (.int .i64 ys)).setIfInBounds 1 (.int .u64 yt)).setIfInBounds 2 (.int .i64 yc)).setIfInBounds 3 (.slice ay yr.length cy)).setIfInBounds 4 (.int .i64 xs)).setIfInBounds 5 (.int .u64 xt)).setIfInBounds 6 (.int .i64 xc)).setIfInBounds 7 (.slice ax xr.length cx)) enT (0, 0)) :: (X2 ++ X1), ?_, K, ?_⟩
          · obtain ⟨hY, hcp, hsz, o1, o2⟩ := HY.out
            refine Or.inr ⟨g, cap, _, X2 ++ X1, rfl, by simp, by simpa using hcp, by simpa using hsz, ?_, ?_, rfl⟩
            · exact set8 cur (by omega) _ _ _ _ _ _ _ _
            · have := OwnL.cons (x := (⟨ys, yt, yc, yr⟩, .slice ay yr.length cy)) o2 (OwnL.cons (x := (⟨xs, xt, xc, xr⟩, .slice ax xr.length cx)) o1 .nil)
              simpa using this
          · obtain ⟨hY, hcp, hsz, o1, o2⟩ := HY.out
            have hx := HX.out
            rw [hY] at hx
            have hx2 := hx.perm (show ((g, Obj.cells cur enT (0, 0)) :: (X1 ++ X2) ++ K).Perm ((g, .cells cur enT (0, 0)) :: (X2 ++ X1) ++ K) from ((List.perm_append_comm).append_right K).cons _)
            exact ((((((((hx2.set 0 rfl 0 _).set 0 rfl 1 _).set 0 rfl 2 _).set 0 rfl 3 _).set 0 rfl 4 _).set 0 rfl 5 _).set 0 rfl 6 _).set 0 rfl 7 _).drew
      · have HF2 : Hid (l.map Prod.fst = FD) := by
          show _ = _
          rw [← HF.out, fd_less (by rw [← hl]; simpa using h2), hl]
        have HE : Hid (ES u4 l Y) := hE
        have HM : Hid (Mem W wr (Y ++ K)) := hM
        obtain ⟨ao, co, eo⟩ := hE.shape
        subst eo
        have hdd : ((l.length : Int) == 2) = false := by simp; omega
        clear hl hE hM HR HF
        go_upto_region 12 with fail
        go_quiet (fail)
        go_wp2
        exact bodyPost_ret (v := .tuple #[.slice ao l.length co, .int .i64 0]) (by simp [results, Tryd.results29, go_sem]) rfl ⟨_, rfl, l, HF2.out, Y, HE.out, K, HM.out.drewN _⟩
end
end Go.Proofs.YtbmpjlgfbiakoaaDoor
