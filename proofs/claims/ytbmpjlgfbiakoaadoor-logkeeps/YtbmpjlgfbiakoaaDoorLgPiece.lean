/-
  What package log's readPiece answers.
-/
import Derived.Test.YtbmpjlgfbiakoaaDoorLgOne
namespace Go.Proofs.YtbmpjlgfbiakoaaDoor
open Go.RowKit
open Sm
set_option linter.unusedVariables false

section
variable {w W : World} {p h m : Nat} {D : Dk} {hc : Array Value} {ks : List Bk} {L : List (Nat × Obj)}
theorem Mem.joins {w w1 w2 : World} {L K : List (Nat × Obj)} (h : Mem w w1 L) (k : Mem w1 w2 K) : Mem w w2 (L ++ K) := h.join k
theorem place_of {s n i : Nat} (hs : s ≤ 1) (hn : n ≤ 64) (hi : i ≤ 300) : (0 : Int) ≤ (s : Int) * (sbk n : Int) + i ∧ (s : Int) * (sbk n : Int) + i = ((s * sbk n + i : Nat) : Int) ∧ s * sbk n + i ≤ 331 := by
  have : sbk n ≤ 31 := by unfold sbk; omega
  have e : (s : Int) * (sbk n : Int) + i = ((s * sbk n + i : Nat) : Int) := by rw [Int.natCast_add, Int.natCast_mul]
  have : s * sbk n ≤ 1 * 31 := Nat.mul_le_mul hs this
  exact ⟨by rw [e]; omega, e, by omega⟩

set_option maxRecDepth 20000 in
set_option maxHeartbeats 1000000 in
/-- No power. -/
theorem rp_dead (H : DkAt w W p h m D hc ks L) (hd : D.dead = true) (slot i : Nat) (hs : slot ≤ 1) (hi : i ≤ 300) :
    Calls Tryd.prog 44 #[.pointer (some ⟨p, 0, none⟩), .int .i64 slot, .int .i64 i] W fun e W' => e = .returned (.tuple #[.agg pc0, .iface 34 (.int .i64 42)]) ∧ ∃ K, Mem W W' K := by
  have hM : Mem W (W.alloc (.cells pc0 pcT)) [(W.heap.size, .cells pc0 pcT (0, 0))] := (Mem.nil W).push1 rfl
  have H1 := H.join hM
  have HM : Hid (Mem W (W.alloc (.cells pc0 pcT)) [(W.heap.size, .cells pc0 pcT (0, 0))]) := hM
  have kr := hM.cell 0 rfl
  have kf := hM.free 0 rfl
  generalize hw1 : W.alloc (.cells pc0 pcT) = w1 at *
  obtain ⟨q0, q1, q2⟩ := place_of hs H.top hi
  have hb := lsb_any H1
  have hr := dread_no H1 (((slot * sbk ks.length + i : Nat) : Int)) (Or.inl hd)
  rw [rdErr, if_pos hd] at hr
  have hq : sbk ks.length ≤ 31 := by have := H.top; unfold sbk; omega
  have hm1 : (slot : Int) * (sbk ks.length : Int) = ((slot * sbk ks.length : Nat) : Int) := by rw [Int.natCast_mul]
  have hm2 : slot * sbk ks.length ≤ 331 := by omega
  generalize slot * sbk ks.length = y at *
  generalize sbk ks.length = x at *
  have hsum : (y : Int) + i = ((y + i : Nat) : Int) := by omega
  generalize y + i = z at *
  clear hM H1 H q0 q1
  go_enter Tryd.func44, Tryd.ntmps44
  go_wp2_with fail
  refine hb.mono ?_
  rintro e w' ⟨rfl, rfl⟩
  go_wp2_with fail
  refine hr.mono ?_
  rintro e w' ⟨rfl, rfl⟩
  go_wp2
  exact bodyPost_ret (v := .tuple #[.agg pc0, .iface 34 (.int .i64 42)]) (by simp [results, Tryd.results44, go_sem, kr]) rfl ⟨rfl, _, ((((HM.out.set 0 rfl 0 _).set 0 rfl 1 _).set 0 rfl 2 _).set 0 rfl 3 _).set 0 rfl 4 _⟩

set_option maxRecDepth 20000 in
set_option maxHeartbeats 1000000 in
theorem rp_live (H : DkAt w W p h m D hc ks L) (hd : D.dead = false) (hn : 4 ≤ ks.length) (hm : 256 ≤ m) {t : TypeId} {v : Value} (hgl : W.cell? ⟨0, 0, none⟩ = some (.iface t v)) (slot i : Nat) (hs : slot ≤ 1) (hi : i < sbk ks.length) :
    Calls Tryd.prog 44 #[.pointer (some ⟨p, 0, none⟩), .int .i64 slot, .int .i64 i] W fun e W' => ∃ g, e = .returned (unfV g m (.iface t v) (rp (ks.map Bk.b) slot i)) ∧ (∃ K, Mem W W' K) ∧ ∀ q, rp (ks.map Bk.b) slot i = some q → Row W' (some ⟨g, 63, none⟩) q.b ∧ q.b.length + 64 ≤ m := by
  have hM : Mem W (W.alloc (.cells pc0 pcT)) [(W.heap.size, .cells pc0 pcT (0, 0))] := (Mem.nil W).push1 rfl
  have H1 := H.join hM
  have hgl1 : (W.alloc (.cells pc0 pcT)).cell? ⟨0, 0, none⟩ = some (.iface t v) := by rw [← hgl]; exact hM.old (cell_lt hgl)
  generalize hw1 : W.alloc (.cells pc0 pcT) = w1 at *
  have hq : sbk ks.length ≤ 31 := by have := H.top; unfold sbk; omega
  have hz : slot * sbk ks.length + i < ks.length := slot_in hs hn hi
  have hk : ks[slot * sbk ks.length + i]? = some (ks[slot * sbk ks.length + i]'hz) := List.getElem?_eq_getElem hz
  generalize ks[slot * sbk ks.length + i]'hz = k at hk
  have hb := lsb_any H1
  have hr := dread_yes H1 (slot * sbk ks.length + i) hk hd
  have o := H1.st.okAt hk
  have hmh := H.mhi
  have hrp : rp (ks.map Bk.b) slot i = match unf k.b with | none => none | some q => if q.i ≠ i ∨ (sbk ks.length : Int) < q.n then none else some q := by
    unfold rp
    rw [List.length_map]
    have : (ks.map Bk.b).getD (slot * sbk ks.length + i) [] = k.b := by simp [List.getD, hk]
    rw [this]
    rfl
  have HM : Hid (Mem W w1 [(W.heap.size, .cells pc0 pcT (0, 0))]) := hM
  have HU : Hid (∀ w2 g, Mem w1 w2 [(g, .cells (bs k.b) 5 (0, 0))] → Calls Tryd.prog 55 #[.slice (some ⟨g, 0, none⟩) m m] w2 fun e w3 => e = .returned (unfV g m (.iface t v) (unf k.b)) ∧ ∃ K, Mem w2 w3 K) := by
    intro w2 g h2
    exact unf_any o.len hm hmh (h2.own 0 rfl o.bytes (by rw [o.len]; omega)) (Nat.le_refl _) (by rw [← hgl1]; exact h2.old (cell_lt hgl1))
  have HG : Hid (∀ w2 w3 g K, Mem w1 w2 [(g, .cells (bs k.b) 5 (0, 0))] → Mem w2 w3 K → Mem W w3 ([(W.heap.size, .cells pc0 pcT (0, 0))] ++ [(g, .cells (bs k.b) 5 (0, 0))] ++ K) ∧ w3.cell? ⟨0, 0, none⟩ = some (.iface t v)) := by
    intro w2 w3 g K h2 h3
    refine ⟨(hM.join h2).join h3, ?_⟩
    have e2 : w2.cell? ⟨0, 0, none⟩ = some (.iface t v) := by rw [← hgl1]; exact h2.old (cell_lt hgl1)
    rw [← e2]; exact h3.old (cell_lt e2)
  have HF : Hid (∀ q, unf k.b = some q → q.b = sl k.b 63 (63 + q.b.length) ∧ q.b.length + 64 ≤ m ∧ (0 ≤ q.i ∧ q.i ≤ 255) ∧ (0 ≤ q.n ∧ q.n ≤ 255)) := fun q e => by
    have := unf_facts e o.len hm o.bytes
    exact ⟨this.1, this.2.1, this.2.2.2.1, this.2.2.2.2.1⟩
  have HO : Hid (k.b.length = m ∧ IsBytes k.b ∧ m ≤ 65536) := ⟨o.len, o.bytes, hmh⟩
  have HB : Hid (∀ w3 K, Mem w1 w3 K → Calls Tryd.prog 32 #[.pointer (some ⟨p, 0, none⟩)] w3 fun e W' => e = .returned (.int .i64 (sbk ks.length)) ∧ w3 = W') := fun w3 K h3 => lsb_any (H1.join h3)
  have hm1 : (slot : Int) * (sbk ks.length : Int) = ((slot * sbk ks.length : Nat) : Int) := by rw [Int.natCast_mul]
  have hm2 : slot * sbk ks.length ≤ 1 * 31 := Nat.mul_le_mul hs hq
  rw [hrp]
  have hpos := cell_lt hgl
  clear hrp H1 hM o hmh hk hz H hgl hgl1
  generalize slot * sbk ks.length = y at *
  generalize sbk ks.length = x at *
  have hsum : (y : Int) + i = ((y + i : Nat) : Int) := by omega
  generalize y + i = z at *
  generalize k.b = kb at *
  cases hu : unf kb with
  | none =>
    rw [hu] at HU
    simp only [unfV] at HU
    show Calls _ _ _ _ fun e W' => ∃ g, e = .returned (unfV g m (.iface t v) none) ∧ (∃ K, Mem W W' K) ∧ ∀ q : Pc, none = some q → Row W' (some ⟨g, 63, none⟩) q.b ∧ q.b.length + 64 ≤ m
    simp only [unfV]
    generalize hR : (none : Option Pc) = R
    have HRR : Hid (R = none) := hR.symm
    clear hR
    go_enter Tryd.func44, Tryd.ntmps44
    go_wp2_with fail
    refine hb.mono ?_
    rintro e w' ⟨rfl, rfl⟩
    go_wp2_with fail
    refine hr.mono ?_
    rintro e w2 ⟨g, rfl, h2⟩
    go_wp2_with fail
    refine (HU.out w2 g h2).mono ?_
    rintro e w3 ⟨rfl, K, h3⟩
    obtain ⟨hM3, hg3⟩ := HG.out w2 w3 g K h2 h3
    go_upto_region 5 with fail
    refine wp_letter (fun V => Mem W V ([(W.heap.size, .cells pc0 pcT (0, 0))] ++ [(g, .cells (bs kb) 5 (0, 0))] ++ K ++ [(w3.heap.size, .cells pc0 pcT (0, 0))])) (hM3.alloc _) ?_
    intro wx hMx
    have kr := hMx.cell 0 rfl
    have kf := hMx.free 0 rfl
    have HMx : Hid (Mem W wx ([(W.heap.size, .cells pc0 pcT (0, 0))] ++ [(g, .cells (bs kb) 5 (0, 0))] ++ K ++ [(w3.heap.size, .cells pc0 pcT (0, 0))])) := hMx
    clear hMx HM HU HG HF hM3 hg3 h2 h3 hr hb
    go_wp2
    exact bodyPost_ret (v := .tuple #[.agg pc0, .iface t v]) (by simp [results, Tryd.results44, go_sem, kr]) rfl ⟨0, rfl, ⟨_, ((((HMx.out.set 0 rfl 0 _).set 0 rfl 1 _).set 0 rfl 2 _).set 0 rfl 3 _).set 0 rfl 4 _⟩, fun q e => by rw [HRR.out] at e; cases e⟩
  | some q =>
    obtain ⟨f1, f2, f3, f4⟩ := HF.out q hu
    rw [hu] at HU
    obtain ⟨qt, qc, qi, qn, qb⟩ := q
    simp only [unfV] at HU
    have e1 : sl kb 63 (63 + qb.length) = qb := f1.symm
    have e2 : qb.length + 64 ≤ m := f2
    have e3 : 0 ≤ qi ∧ qi ≤ 255 := f3
    have e4 : 0 ≤ qn ∧ qn ≤ 255 := f4
    have HF1 : Hid (sl kb 63 (63 + qb.length) = qb) := e1
    clear f1 f2 f3 f4 e1
    show Calls _ _ _ _ fun e W' => ∃ g, e = .returned (unfV g m (.iface t v) (if qi ≠ i ∨ (x : Int) < qn then none else some ⟨qt, qc, qi, qn, qb⟩)) ∧ (∃ K, Mem W W' K) ∧ ∀ q : Pc, (if qi ≠ i ∨ (x : Int) < qn then none else some (Pc.mk qt qc qi qn qb)) = some q → Row W' (some ⟨g, 63, none⟩) q.b ∧ q.b.length + 64 ≤ m
    generalize hR : (if qi ≠ i ∨ (x : Int) < qn then none else some (Pc.mk qt qc qi qn qb)) = R
    have HRR : Hid (R = if qi ≠ i ∨ (x : Int) < qn then none else some (Pc.mk qt qc qi qn qb)) := hR.symm
    clear hR
    go_enter Tryd.func44, Tryd.ntmps44
    go_wp2_with fail
    refine hb.mono ?_
    rintro e w' ⟨rfl, rfl⟩
    go_wp2_with fail
    refine hr.mono ?_
    rintro e w2 ⟨g, rfl, h2⟩
    go_wp2_with fail
    refine (HU.out w2 g h2).mono ?_
    rintro e w3 ⟨rfl, K, h3⟩
    obtain ⟨hM3, hg3⟩ := HG.out w2 w3 g K h2 h3
    have HRow : Hid (∀ V K, Mem w3 V K → Row V (some ⟨g, 63, none⟩) qb) := by
      intro V K' hV
      have r0 : Row w3 (some ⟨g, 0, none⟩) kb := h3.row (h2.own 0 rfl HO.out.2.1 (by have := HO.out; omega))
      have := (hV.row r0).sl 63 (63 + qb.length) (by omega) (by have := HO.out; omega)
      rwa [Nat.zero_add, HF1.out] at this
    go_upto_region 5 with fail
    have hA : Mem w3 (w3.alloc (.cells (pcA qt qc qi qn (.slice (some ⟨g, 63, none⟩) qb.length (m - 63))) pcT)) [(w3.heap.size, .cells (pcA qt qc qi qn (.slice (some ⟨g, 63, none⟩) qb.length (m - 63))) pcT (0, 0))] := (Mem.nil w3).push1 rfl
    refine wp_letter (fun V => Mem w3 V [(w3.heap.size, .cells (pcA qt qc qi qn (.slice (some ⟨g, 63, none⟩) qb.length (m - 63))) pcT (0, 0))]) hA ?_
    intro wx hAx
    have hMx := hM3.join hAx
    have kr := hMx.cell 0 rfl
    have kf := hMx.free 0 rfl
    have kb1 := hAx.cell 0 rfl
    have kb2 := kb1 2
    have kb3 := kb1 3
    simp at kb2 kb3
    have hgx : wx.cell? ⟨0, 0, none⟩ = some (.iface t v) := by rw [← hg3]; exact hAx.old (cell_lt hg3)
    have HRx : Hid (Row wx (some ⟨g, 63, none⟩) qb) := HRow.out _ _ hAx
    have HMx : Hid (Mem W wx ([(W.heap.size, .cells pc0 pcT (0, 0))] ++ [(g, .cells (bs kb) 5 (0, 0))] ++ K ++ [(w3.heap.size, .cells (pcA qt qc qi qn (.slice (some ⟨g, 63, none⟩) qb.length (m - 63))) pcT (0, 0))])) := hMx
    have HBx : Hid (∀ k, Calls Tryd.prog 32 #[.pointer (some ⟨p, 0, none⟩)] (wx.drewN k) fun e W' => e = .returned (.int .i64 x) ∧ wx.drewN k = W') := fun k => HB.out _ _ (((h2.join h3).join hAx).drewN k)
    have hne : W.heap.size ≠ w3.heap.size := by
      have := hM3.lt (List.mem_append_left _ (List.mem_append_left _ (List.mem_singleton.mpr rfl)))
      simp only at this; omega
    have hng : W.heap.size ≠ g := hMx.ne 0 1 rfl rfl (by decide)
    generalize w3.heap.size = b1 at *
    clear hMx HM HU HG HF hM3 hg3 h2 h3 hr hb hAx hA HRow HB kb1
    by_cases hc1 : qi = i
    · subst hc1
      have b1n : ((i : Int) != (i : Int)) = false := by simp
      by_cases hc2 : (x : Int) < qn
      · replace HRR : Hid (R = none) := by rw [HRR.out]; exact if_pos (Or.inr hc2)
        go_upto_region 7 with fail
        go_quiet (first | (go_at_call 32; exact quiet_eq (HBx.out _)))
        go_upto_region 8 with fail
        refine wp_letter (fun V => Mem W V ([(W.heap.size, .cells pc0 pcT (0, 0))] ++ [(g, .cells (bs kb) 5 (0, 0))] ++ K ++ [(b1, .cells (pcA qt qc i qn (.slice (some ⟨g, 63, none⟩) qb.length (m - 63))) pcT (0, 0))]) ∧ V.cell? ⟨0, 0, none⟩ = some (.iface t v)) ⟨HMx.out.drewN _, hgx⟩ ?_
        rintro wy ⟨hMy, hgy⟩
        have kr := hMy.cell 0 rfl
        have kf := hMy.free 0 rfl
        have HMy : Hid _ := hMy
        clear hMy HMx HBx hgx kb2 kb3
        go_region
        all_goals go_wp2
        exact bodyPost_ret (v := .tuple #[.agg pc0, .iface t v]) (by simp [results, Tryd.results44, go_sem, kr]) rfl ⟨0, by rw [HRR.out]; rfl, ⟨_, (((((HMy.out.set 0 rfl 0 _).set 0 rfl 1 _).set 0 rfl 2 _).set 0 rfl 3 _).set 0 rfl 4 _).drew⟩, fun q e => by rw [HRR.out] at e; cases e⟩
      · replace HRR : Hid (R = some (Pc.mk qt qc i qn qb)) := by rw [HRR.out]; exact if_neg (by rintro (e | e); exact e rfl; exact hc2 e)
        go_upto_region 7 with fail
        go_quiet (first | (go_at_call 32; exact quiet_eq (HBx.out _)))
        go_upto_region 9 with fail
        refine wp_letter (fun V => Mem W V ([(W.heap.size, .cells pc0 pcT (0, 0))] ++ [(g, .cells (bs kb) 5 (0, 0))] ++ K ++ [(b1, .cells (pcA qt qc i qn (.slice (some ⟨g, 63, none⟩) qb.length (m - 63))) pcT (0, 0))]) ∧ Row V (some ⟨g, 63, none⟩) qb) ⟨HMx.out.drewN _, row_drewN HRx.out⟩ ?_
        rintro wy ⟨hMy, hry⟩
        have kr := hMy.cell 0 rfl
        have kf := hMy.free 0 rfl
        have kb1 : ∀ j, wy.cell? ⟨b1, j, none⟩ = (pcA qt qc i qn (.slice (some ⟨g, 63, none⟩) qb.length (m - 63)))[j]? := fun j => cell_of (hMy.at_ (b1, _) (List.mem_append_right _ (List.mem_singleton.mpr rfl))) j
        have k0 := kb1 0
        have k1 := kb1 1
        have k2 := kb1 2
        have k3 := kb1 3
        have k4 := kb1 4
        simp at k0 k1 k2 k3 k4
        have HMy : Hid _ := hMy
        have HRy : Hid (Row wy (some ⟨g, 63, none⟩) qb) := hry
        clear hMy HMx HBx hgx kb2 kb3 HRx hry kb1
        go_wp2
        refine bodyPost_ret (v := .tuple #[.agg (pcA qt qc i qn (.slice (some ⟨g, 63, none⟩) qb.length (m - 63))), .nilIface]) (by simp [results, Tryd.results44, go_sem, kr]) rfl ⟨g, by rw [HRR.out]; rfl, ⟨_, ((((HMy.out.set 0 rfl 0 _).set 0 rfl 1 _).set 0 rfl 2 _).set 0 rfl 3 _).set 0 rfl 4 _⟩, fun q e => ?_⟩
        rw [HRR.out] at e
        cases e
        refine ⟨?_, e2⟩
        repeat (refine Row.setCell ?_ hng _)
        exact HRy.out
    · have b1n : (qi != (i : Int)) = true := by simpa using hc1
      replace HRR : Hid (R = none) := by rw [HRR.out]; exact if_pos (Or.inl hc1)
      go_upto_region 7 with fail
      go_quiet (fail)
      go_upto_region 8 with fail
      refine wp_letter (fun V => Mem W V ([(W.heap.size, .cells pc0 pcT (0, 0))] ++ [(g, .cells (bs kb) 5 (0, 0))] ++ K ++ [(b1, .cells (pcA qt qc qi qn (.slice (some ⟨g, 63, none⟩) qb.length (m - 63))) pcT (0, 0))]) ∧ V.cell? ⟨0, 0, none⟩ = some (.iface t v)) ⟨HMx.out.drewN _, hgx⟩ ?_
      rintro wy ⟨hMy, hgy⟩
      have kr := hMy.cell 0 rfl
      have kf := hMy.free 0 rfl
      have HMy : Hid _ := hMy
      clear hMy HMx HBx hgx kb2 kb3
      go_region
      all_goals go_wp2
      exact bodyPost_ret (v := .tuple #[.agg pc0, .iface t v]) (by simp [results, Tryd.results44, go_sem, kr]) rfl ⟨0, by rw [HRR.out]; rfl, ⟨_, (((((HMy.out.set 0 rfl 0 _).set 0 rfl 1 _).set 0 rfl 2 _).set 0 rfl 3 _).set 0 rfl 4 _).drew⟩, fun q e => by rw [HRR.out] at e; cases e⟩
end
end Go.Proofs.YtbmpjlgfbiakoaaDoor
