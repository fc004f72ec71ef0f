/-
  What package log's read answers.
-/
import Derived.Test.YtbmpjlgfbiakoaaDoorLgPiece
import Derived.Test.YtbmpjlgfbiakoaaDoorLgRow
namespace Go.Proofs.YtbmpjlgfbiakoaaDoor
open Go.RowKit
open Sm
set_option linter.unusedVariables false

abbrev enT : TypeId := 63
abbrev enA (s : Int) (t c : Int) (v : Value) : Array Value := #[.int .i64 s, .int .u64 t, .int .i64 c, v]
abbrev en0 : Array Value := enA 0 0 0 (.slice none 0 0)
theorem perm_front {α : Type} (A X R : List α) : (A ++ (X ++ R)).Perm (X ++ (A ++ R)) := by
  rw [← List.append_assoc, ← List.append_assoc]; exact List.perm_append_comm.append_right R
def rdV (E vr : Value) : Option En → Value
  | none => .tuple #[.agg en0, E]
  | some x => .tuple #[.agg (enA x.s x.t x.c vr), .nilIface]

theorem wpList_append_run {ops : Array Oper} {rest : List Oper} {o : Oper} {a : Act} {W : World} {Q : Exit → Act → World → Prop} 
    (s x : Operand) (t tn : TypeId) (ho : o.op = .call { callee := .builtin .append, args := #[s, x], argTypes := #[t, tn] }) {vs vx : Value}
    {v' : Value} {w' : World} {ty : TypeId} (hr : (Builtin.append_ #[t, tn] ty #[vs, vx]).run Tryd.prog W = .ok v' w') (hty : o.type = ty) (hgd : Region.wanted o (yielded ops a.tmps) = true) (hs : a.eval s = vs) (hx : a.eval x = vx) (h : wpList Tryd.prog ops Q rest (a.put o.dst v') w') :
    wpList Tryd.prog ops Q (o :: rest) a W := by
  subst hty; exact wpList_wanted hgd fun K hK => wp_append_out s x t tn ho hs hx hr (hK _ _ h)

/-- What read has made so far. -/
structure RdAt (w1 wr : World) (b6 b8 : Nat) (F : Array Value) (s : Int) (ft fc : Int) (vr : Value) (acc : List Int) (X R : List (Nat × Obj)) : Prop where
  mem : Mem w1 wr ((b6, .cells F pcT (0, 0)) :: (b8, .cells (enA s ft fc vr) enT (0, 0)) :: (X ++ R))
  own : OwnV vr acc X
section
variable {w1 wr : World} {b6 b8 : Nat} {F : Array Value} {s : Int} {ft fc : Int} {vr : Value} {acc : List Int} {X R : List (Nat × Obj)}
theorem RdAt.join (h : RdAt w1 wr b6 b8 F s ft fc vr acc X R) {V : World} {K : List (Nat × Obj)} (k : Mem wr V K) : RdAt w1 V b6 b8 F s ft fc vr acc X (R ++ K) :=
  ⟨by have := h.mem.join k; rw [← List.append_assoc]; exact this, h.own⟩
theorem RdAt.put (h : RdAt w1 wr b6 b8 F s ft fc vr acc X R) {g off j c : Nat} {l : List Int} (hl : l.length = j) (hr : Row wr (some ⟨g, off, none⟩) l) (hb : acc.length + j ≤ 1000000000) (ty : TypeId) :
    ∃ a' c' X' W', (Builtin.append_ #[22, 22] ty #[vr, .slice (some ⟨g, off, none⟩) j c]).run Tryd.prog wr = .ok (.slice a' (acc.length + j) c') W' ∧
      RdAt w1 (W'.setCell ⟨b8, 3, none⟩ (.slice a' (acc.length + j) c')) b6 b8 F s ft fc (.slice a' (acc.length + j) c') (acc ++ l) X' R ∧ W'.cell? ⟨b8, 3, none⟩ = some vr ∧ W'.frozen? ⟨b8, 3, none⟩ = false := by
  obtain ⟨v', X', W', h1, h2, h3⟩ := append_row (c := c) (h.mem.perm (perm_front [_, _] X R)) h.own hl hr hb ty
  obtain ⟨a', c', e, -⟩ := h2.shape
  rw [List.length_append, hl] at e
  subst e
  have h4 : Mem w1 W' ((b6, .cells F pcT (0, 0)) :: (b8, .cells (enA s ft fc vr) enT (0, 0)) :: (X' ++ R)) := h3.perm (perm_front [_, _] X' R).symm
  exact ⟨a', c', X', W', h1, ⟨by have := h4.set 1 rfl 3 (.slice a' (acc.length + j) c'); simpa using this, h2⟩, h4.cell 1 rfl 3, h4.free 1 rfl 3⟩
theorem RdAt.c6 (h : RdAt w1 wr b6 b8 F s ft fc vr acc X R) (i : Nat) : wr.cell? ⟨b6, i, none⟩ = F[i]? := h.mem.cell 0 rfl i
theorem RdAt.c8 (h : RdAt w1 wr b6 b8 F s ft fc vr acc X R) (i : Nat) : wr.cell? ⟨b8, i, none⟩ = (enA s ft fc vr)[i]? := h.mem.cell 1 rfl i
end

section
variable {w W : World} {p h m : Nat} {D : Dk} {hc : Array Value} {ks : List Bk} {L : List (Nat × Obj)}
set_option maxRecDepth 20000 in
set_option maxHeartbeats 1000000 in
/-- No power. -/
theorem rd_dead (H : DkAt w W p h m D hc ks L) (hd : D.dead = true) (slot : Nat) (hs : slot ≤ 1) :
    Calls Tryd.prog 36 #[.pointer (some ⟨p, 0, none⟩), .int .i64 slot] W fun e W' => e = .returned (.tuple #[.agg en0, .iface 34 (.int .i64 42)]) ∧ ∃ K, Mem W W' K := by
  have hM : Mem W (W.alloc (.cells en0 enT)) [(W.heap.size, .cells en0 enT (0, 0))] := (Mem.nil W).push1 rfl
  have H1 := H.join hM
  have HM : Hid (Mem W (W.alloc (.cells en0 enT)) [(W.heap.size, .cells en0 enT (0, 0))]) := hM
  generalize hw1 : W.alloc (.cells en0 enT) = w1 at *
  have hr : Calls Tryd.prog 44 #[.pointer (some ⟨p, 0, none⟩), .int .i64 slot, .int .i64 0] w1 fun e W' => e = .returned (.tuple #[.agg pc0, .iface 34 (.int .i64 42)]) ∧ ∃ K, Mem w1 W' K := rp_dead H1 hd slot 0 hs (by omega)
  clear hM H1 H
  go_enter Tryd.func36, Tryd.ntmps36
  go_wp2_with fail
  refine hr.mono ?_
  rintro e w2 ⟨rfl, K, h2⟩
  go_upto_region 2 with fail
  refine wp_letter (fun V => Mem W V ([(W.heap.size, .cells en0 enT (0, 0))] ++ (K ++ [(w2.heap.size, .cells pc0 pcT (0, 0))]))) (HM.out.join (h2.alloc _)) ?_
  intro wx hMx
  have kr := hMx.cell 0 rfl
  have kf := hMx.free 0 rfl
  have HMx : Hid _ := hMx
  clear hMx HM h2 hr
  go_wp2
  exact bodyPost_ret (v := .tuple #[.agg en0, .iface 34 (.int .i64 42)]) (by simp [results, Tryd.results36, go_sem, kr]) rfl ⟨rfl, _, (((HMx.out.set 0 rfl 0 _).set 0 rfl 1 _).set 0 rfl 2 _).set 0 rfl 3 _⟩

set_option maxRecDepth 20000 in
set_option maxHeartbeats 1000000 in
/-- No first piece. -/
theorem rd_first (H : DkAt w W p h m D hc ks L) (hd : D.dead = false) (hn : 4 ≤ ks.length) (hm : 256 ≤ m) {t : TypeId} {v : Value} (hgl : W.cell? ⟨0, 0, none⟩ = some (.iface t v)) (slot : Nat) (hs : slot ≤ 1) (hno : rp (ks.map Bk.b) slot 0 = none) :
    Calls Tryd.prog 36 #[.pointer (some ⟨p, 0, none⟩), .int .i64 slot] W fun e W' => e = .returned (.tuple #[.agg en0, .iface t v]) ∧ ∃ K, Mem W W' K := by
  have hM : Mem W (W.alloc (.cells en0 enT)) [(W.heap.size, .cells en0 enT (0, 0))] := (Mem.nil W).push1 rfl
  have H1 := H.join hM
  have hgl1 : (W.alloc (.cells en0 enT)).cell? ⟨0, 0, none⟩ = some (.iface t v) := by rw [← hgl]; exact hM.old (cell_lt hgl)
  have HM : Hid (Mem W (W.alloc (.cells en0 enT)) [(W.heap.size, .cells en0 enT (0, 0))]) := hM
  generalize hw1 : W.alloc (.cells en0 enT) = w1 at *
  have hr : Calls Tryd.prog 44 #[.pointer (some ⟨p, 0, none⟩), .int .i64 slot, .int .i64 0] w1 fun e W' => ∃ g, e = .returned (unfV g m (.iface t v) (rp (ks.map Bk.b) slot 0)) ∧ (∃ K, Mem w1 W' K) ∧ _ := rp_live H1 hd hn hm hgl1 slot 0 hs (by unfold sbk; omega)
  rw [hno] at hr
  simp only [unfV] at hr
  clear hM H1 H hgl hgl1
  go_enter Tryd.func36, Tryd.ntmps36
  go_wp2_with fail
  refine hr.mono ?_
  rintro e w2 ⟨g, rfl, ⟨K, h2⟩, -⟩
  go_upto_region 2 with fail
  refine wp_letter (fun V => Mem W V ([(W.heap.size, .cells en0 enT (0, 0))] ++ (K ++ [(w2.heap.size, .cells pc0 pcT (0, 0))]))) (HM.out.join (h2.alloc _)) ?_
  intro wx hMx
  have kr := hMx.cell 0 rfl
  have kf := hMx.free 0 rfl
  have HMx : Hid _ := hMx
  clear hMx HM h2 hr
  go_wp2
  exact bodyPost_ret (v := .tuple #[.agg en0, .iface t v]) (by simp [results, Tryd.results36, go_sem, kr]) rfl ⟨rfl, _, (((HMx.out.set 0 rfl 0 _).set 0 rfl 1 _).set 0 rfl 2 _).set 0 rfl 3 _⟩

set_option maxRecDepth 20000 in
set_option maxHeartbeats 2000000 in
/-- A first piece. -/
theorem rd_more (H : DkAt w W p h m D hc ks L) (hd : D.dead = false) (hn : 4 ≤ ks.length) (hm : 256 ≤ m) {t : TypeId} {v : Value} (hgl : W.cell? ⟨0, 0, none⟩ = some (.iface t v)) (slot : Nat) (hs : slot ≤ 1) {ft fc : Int} {fn : Nat} {fb : List Int} (hyes : rp (ks.map Bk.b) slot 0 = some ⟨ft, fc, 0, fn, fb⟩) :
    Calls Tryd.prog 36 #[.pointer (some ⟨p, 0, none⟩), .int .i64 slot] W fun e W' => ∃ vr, e = .returned (rdV (.iface t v) vr ((rdL (ks.map Bk.b) slot ft (fn - 1) 1 fb).map fun r => ⟨slot, ft, fc, r⟩)) ∧ ∃ X K, Mem W W' (X ++ K) ∧ ∀ r, rdL (ks.map Bk.b) slot ft (fn - 1) 1 fb = some r → OwnV vr r X := by
  have hM : Mem W (W.alloc (.cells en0 enT)) [(W.heap.size, .cells en0 enT (0, 0))] := (Mem.nil W).push1 rfl
  have H1 := H.join hM
  have hgl1 : (W.alloc (.cells en0 enT)).cell? ⟨0, 0, none⟩ = some (.iface t v) := by rw [← hgl]; exact hM.old (cell_lt hgl)
  have HM : Hid (Mem W (W.alloc (.cells en0 enT)) [(W.heap.size, .cells en0 enT (0, 0))]) := hM
  generalize hw1 : W.alloc (.cells en0 enT) = w1 at *
  have hr : Calls Tryd.prog 44 #[.pointer (some ⟨p, 0, none⟩), .int .i64 slot, .int .i64 0] w1 fun e W' => ∃ g, e = .returned (unfV g m (.iface t v) (rp (ks.map Bk.b) slot 0)) ∧ (∃ K, Mem w1 W' K) ∧ ∀ q, rp (ks.map Bk.b) slot 0 = some q → Row W' (some ⟨g, 63, none⟩) q.b ∧ q.b.length + 64 ≤ m := rp_live H1 hd hn hm hgl1 slot 0 hs (by unfold sbk; omega)
  have hfn := (rp_n hyes).2
  rw [hyes] at hr
  simp only [unfV] at hr
  rw [List.length_map] at hfn
  have hfn1 : fn ≤ sbk ks.length := by simp only at hfn; omega
  have hfn2 : fn ≤ 31 := by have := H.top; unfold sbk at hfn1; omega
  have HP : Hid (∀ V K, Mem w1 V K → ∀ i : Nat, i < fn → Calls Tryd.prog 44 #[.pointer (some ⟨p, 0, none⟩), .int .i64 slot, .int .i64 i] V fun e W' => ∃ g, e = .returned (unfV g m (.iface t v) (rp (ks.map Bk.b) slot i)) ∧ (∃ K, Mem V W' K) ∧ ∀ q, rp (ks.map Bk.b) slot i = some q → Row W' (some ⟨g, 63, none⟩) q.b ∧ q.b.length + 64 ≤ m) := by
    intro V K hV i hi
    exact rp_live (H1.join hV) hd hn hm (by rw [← hgl1]; exact hV.old (cell_lt hgl1)) slot i hs (by omega)
  have HGL : Hid (∀ V K, Mem w1 V K → V.cell? ⟨0, 0, none⟩ = some (.iface t v)) := fun V K hV => by rw [← hgl1]; exact hV.old (cell_lt hgl1)
  have hmh := H.mhi
  have hpos : 0 < W.heap.size := cell_lt hgl
  generalize ks.map Bk.b = bl at *
  generalize hT : rdL bl slot ft (fn - 1) 1 fb = T
  have HT : Hid (rdL bl slot ft (fn - 1) 1 fb = T) := hT
  clear hM H1 H hgl hgl1 hyes hfn hfn1 hT
  go_enter Tryd.func36, Tryd.ntmps36
  go_wp2_with fail
  refine hr.mono ?_
  rintro e w2 ⟨g, rfl, ⟨K, h2⟩, hq⟩
  obtain ⟨hrow, hfl⟩ := hq _ rfl
  simp only at hrow hfl
  go_upto_region 5 with fail
  refine wp_letter (fun V => RdAt w1 V w2.heap.size (w2.heap.size + 1) (pcA ft fc 0 fn (.slice (some ⟨g, 63, none⟩) fb.length (m - 63))) slot ft fc (.slice none 0 0) [] [] K ∧ Row V (some ⟨g, 63, none⟩) fb)
    ⟨⟨by
      have h3 := (h2.alloc (.cells (pcA ft fc 0 fn (.slice (some ⟨g, 63, none⟩) fb.length (m - 63))) pcT (0, 0))).push (w2.heap.size + 1) (.cells (enA slot ft fc (.slice none 0 0)) enT (0, 0)) (by simp)
      refine h3.perm ?_
      rw [List.append_assoc]
      exact List.perm_append_comm, Or.inl ⟨rfl, rfl, rfl⟩⟩, row_alloc (row_alloc hrow)⟩ ?_
  rintro wx ⟨hx, hrx⟩
  generalize w2.heap.size + 1 = b8 at *
  generalize w2.heap.size = b6 at *
  obtain ⟨a', c', X1, wy, hrun, hy, hy3, hyf⟩ := hx.put (c := m - 63) rfl hrx (by simp; omega) 22
  rw [List.nil_append, List.length_nil, Nat.zero_add] at *
  have x83 := hx.c8 3
  have x64 := hx.c6 4
  simp at x83 x64
  have HY : Hid (RdAt w1 (wy.setCell ⟨b8, 3, none⟩ (.slice a' fb.length c')) b6 b8 (pcA ft fc 0 fn (.slice (some ⟨g, 63, none⟩) fb.length (m - 63))) slot ft fc (.slice a' fb.length c') fb X1 K) := hy
  clear hx hrx hrow hq h2 hr hy
  generalize hF : pcA ft fc 0 fn (.slice (some ⟨g, 63, none⟩) fb.length (m - 63)) = F at *
  have HF : Hid (F[0]? = some (.int .u64 ft) ∧ F[3]? = some (.int .i64 fn)) := by subst hF; exact ⟨rfl, rfl⟩
  clear hF
  go_wp2_with (refine wpList_append_run (.tmp 29) (.tmp 31) 22 22 (by with_reducible rfl) hrun rfl rfl (by simp [Act.eval]) (by simp [Act.eval]) ?_)
  go_loopw [9] (fun u wr => ∃ i : Nat, u = .int .i64 i ∧ 1 ≤ i ∧ i ≤ 31 + 1 ∧ ∃ acc vr X R, RdAt w1 wr b6 b8 F slot ft fc vr acc X R ∧ rdL bl slot ft (fn - i) i acc = T ∧ acc.length ≤ i * 70000) (fun u _ => fn - (intOf u).toNat)
  case atStart => exact ⟨1, rfl, by omega, by omega, fb, _, _, _, HY.out, HT.out, by omega⟩
  case round =>
    obtain ⟨i, rfl, hi1, hi2, acc, vr, X, R, hA, hT, hal⟩ := hrel
    have x63 := hA.c6 3
    have x60 := hA.c6 0
    rw [HF.out.2] at x63
    rw [HF.out.1] at x60
    by_cases hlt : i < fn
    · obtain ⟨k, hk⟩ : ∃ k, fn - i = k + 1 := ⟨fn - i - 1, by omega⟩
      rw [hk, rdL] at hT
      have hP := HP.out _ _ hA.mem i hlt
      cases hrp : rp bl slot i with
      | none =>
        rw [hrp] at hT hP
        simp only [unfV] at hP
        have HTN : Hid (T = none) := hT.symm
        have HA : Hid (RdAt w1 wr b6 b8 F slot ft fc vr acc X R) := hA
        clear hT hrp hA HY HT x60
        go_wp2_with fail
        refine hP.mono ?_
        rintro e w2 ⟨g2, rfl, ⟨K2, h2⟩, -⟩
        go_upto_region 10 with fail
        refine wp_letter (fun V => RdAt w1 V b6 b8 F slot ft fc vr acc X (R ++ (K2 ++ [(w2.heap.size, .cells pc0 pcT (0, 0))]))) (HA.out.join (h2.alloc _)) ?_
        intro wx hx
        have HM2 : Hid _ := HM.out.join hx.mem
        have kr := HM2.out.cell 0 rfl
        have kf := HM2.out.free 0 rfl
        clear hx HA h2 hP
        go_wp2
        exact bodyPost_ret (v := .tuple #[.agg en0, .iface t v]) (by simp [results, Tryd.results36, go_sem, kr]) rfl ⟨.nilIface, by rw [HTN.out]; rfl, [], _, (((HM2.out.set 0 rfl 0 _).set 0 rfl 1 _).set 0 rfl 2 _).set 0 rfl 3 _, fun r e => by rw [HTN.out] at e; cases e⟩
      | some q =>
        rw [hrp] at hT hP
        obtain ⟨qt, qc, qi, qn, qb⟩ := q
        simp only [unfV] at hP
        have hT2 : (if qt = ft then rdL bl slot ft k (i + 1) (acc ++ qb) else none) = T := hT
        have HA : Hid (RdAt w1 wr b6 b8 F slot ft fc vr acc X R) := hA
        clear hT hrp hA HY HT x60
        by_cases hqt : qt = ft
        · rw [if_pos hqt] at hT2
          have HT2 : Hid (rdL bl slot ft k (i + 1) (acc ++ qb) = T) := hT2
          subst hqt
          have bn : (qt != qt) = false := by simp
          clear hT2
          go_wp2_with fail
          refine hP.mono ?_
          rintro e w2 ⟨g2, rfl, ⟨K2, h2⟩, hq⟩
          obtain ⟨hrow, hfl⟩ := hq _ rfl
          have hrow2 : Row w2 (some ⟨g2, 63, none⟩) qb := hrow
          have hfl2 : qb.length + 64 ≤ m := hfl
          clear hq hrow hfl
          go_upto_region 10 with fail
          refine wp_letter (fun V => Mem wr V (K2 ++ [(w2.heap.size, .cells (pcA qt qc qi qn (.slice (some ⟨g2, 63, none⟩) qb.length (m - 63))) pcT (0, 0))]) ∧ Row V (some ⟨g2, 63, none⟩) qb) ⟨h2.alloc _, row_alloc hrow2⟩ ?_
          rintro wx ⟨hmx, hrx⟩
          have hx := HA.out.join hmx
          have kb1 : ∀ j, wx.cell? ⟨w2.heap.size, j, none⟩ = (pcA qt qc qi qn (.slice (some ⟨g2, 63, none⟩) qb.length (m - 63)))[j]? := fun j => cell_of (hmx.at_ (w2.heap.size, _) (List.mem_append_right _ (List.mem_singleton.mpr rfl))) j
          have k0 := kb1 0
          have k4 := kb1 4
          have y60 := hx.c6 0
          have y83 := hx.c8 3
          rw [HF.out.1] at y60
          simp at k0 k4 y83
          generalize w2.heap.size = b10 at *
          obtain ⟨a2, c2, X2, wy, hrun, hy, hy3, hyf⟩ := hx.put (c := m - 63) rfl hrx (by omega) 22
          have HY : Hid (RdAt w1 (wy.setCell ⟨b8, 3, none⟩ (.slice a2 (acc.length + qb.length) c2)) b6 b8 F slot qt fc (.slice a2 (acc.length + qb.length) c2) (acc ++ qb) X2 _) := hy
          obtain ⟨a1, c1, e1, -⟩ := hx.own.shape
          subst e1
          clear hx hmx hrx HA h2 hP hy kb1 hrow2
          go_wp2_with (refine wpList_append_run (.tmp 59) (.tmp 61) 22 22 (by with_reducible rfl) hrun rfl rfl (by simp [Act.eval]) (by simp [Act.eval]) ?_)
          go_roundw
          case rel => exact ⟨i + 1, by go_num, by omega, by omega, acc ++ qb, _, X2, _, HY.out, by rw [show fn - (i + 1) = k by omega]; exact HT2.out, by rw [List.length_append]; omega⟩
          case measure => simp [intOf]; omega
        · rw [if_neg hqt] at hT2
          have HTN : Hid (T = none) := hT2.symm
          have bn : (qt != ft) = true := by simpa using hqt
          clear hT2 hqt
          go_wp2_with fail
          refine hP.mono ?_
          rintro e w2 ⟨g2, rfl, ⟨K2, h2⟩, -⟩
          go_upto_region 10 with fail
          refine wp_letter (fun V => Mem wr V (K2 ++ [(w2.heap.size, .cells (pcA qt qc qi qn (.slice (some ⟨g2, 63, none⟩) qb.length (m - 63))) pcT (0, 0))])) (h2.alloc _) ?_
          intro wx hmx
          have hx := HA.out.join hmx
          have kb1 : ∀ j, wx.cell? ⟨w2.heap.size, j, none⟩ = (pcA qt qc qi qn (.slice (some ⟨g2, 63, none⟩) qb.length (m - 63)))[j]? := fun j => cell_of (hmx.at_ (w2.heap.size, _) (List.mem_append_right _ (List.mem_singleton.mpr rfl))) j
          have k0 := kb1 0
          have y60 := hx.c6 0
          rw [HF.out.1] at y60
          simp at k0
          generalize w2.heap.size = b10 at *
          have hgx := HGL.out _ _ hx.mem
          have HM2 : Hid _ := HM.out.join hx.mem
          have kr := HM2.out.cell 0 rfl
          have kf := HM2.out.free 0 rfl
          clear hx hmx HA h2 hP kb1
          go_wp2_with fail
          go_region
          all_goals go_wp2
          exact bodyPost_ret (v := .tuple #[.agg en0, .iface t v]) (by simp [results, Tryd.results36, go_sem, kr]) rfl ⟨.nilIface, by rw [HTN.out]; rfl, [], _, ((((HM2.out.set 0 rfl 0 _).set 0 rfl 1 _).set 0 rfl 2 _).set 0 rfl 3 _).drew, fun r e => by rw [HTN.out] at e; cases e⟩
    · have e : fn - i = 0 := by omega
      rw [e, rdL] at hT
      have HTe : Hid (T = some acc) := hT.symm
      have HM2 : Hid (Mem W wr ([(W.heap.size, .cells en0 enT (0, 0))] ++ ((b6, .cells F pcT (0, 0)) :: (b8, .cells (enA slot ft fc vr) enT (0, 0)) :: (X ++ R)))) := HM.out.join hA.mem
      have kr := HM2.out.cell 0 rfl
      have kf := HM2.out.free 0 rfl
      obtain ⟨a2, c2, e1, -⟩ := hA.own.shape
      subst e1
      have k80 := hA.c8 0
      have k81 := hA.c8 1
      have k82 := hA.c8 2
      have k83 := hA.c8 3
      simp at k80 k81 k82 k83
      have HO : Hid (OwnV (.slice a2 acc.length c2) acc X) := hA.own
      clear hA HY HT hT
      go_wp2
      refine bodyPost_ret (v := .tuple #[.agg (enA slot ft fc (.slice a2 acc.length c2)), .nilIface]) (by simp [results, Tryd.results36, go_sem, kr]) rfl ⟨.slice a2 acc.length c2, by rw [HTe.out]; rfl, X, _, ((((HM2.out.set 0 rfl 0 _).set 0 rfl 1 _).set 0 rfl 2 _).set 0 rfl 3 _).perm (perm_front [_, _, _] X R), fun r e => ?_⟩
      rw [HTe.out] at e
      cases e
      exact HO.out
end
end Go.Proofs.YtbmpjlgfbiakoaaDoor
