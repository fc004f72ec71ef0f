/-
  Flows as values, and what rewrite.messageFlow answers.
-/
import Derived.Test.YtjalpbkfpjfigaaGreatRwPoints
namespace Go.Proofs.YtjalpbkfpjfigaaGreat
open Go.RowKit
open Sm
set_option linter.unusedVariables false
set_option maxRecDepth 20000

abbrev flT : TypeId := 45
abbrev flA (proto si sp di dp flags : Int) (iv : Value) : Array Value := #[.int .u8 proto, .int .u32 si, .int .u16 sp, .int .u32 di, .int .u16 dp, .int .u8 flags, iv]
abbrev flB (f : Fl) (iv : Value) : Array Value := flA f.proto f.src.ip f.src.port f.dst.ip f.dst.port f.flags iv
abbrev flZ : Array Value := flA 0 0 0 0 0 0 (.slice none 0 0)
/-- Points, none or two of them, behind base B. -/
def PtsV (w : World) (B : Nat) (v : Value) (ps : List Pt) : Prop :=
  (ps = [] ∧ v = .slice none 0 0) ∨ ∃ g s d, ps = [s, d] ∧ v = .slice (some ⟨g, 0, none⟩) 2 2 ∧ w.heap[g]? = some (.cells (pt2 s d) ptT (0, 0)) ∧ B ≤ g
theorem PtsV.below {w w' : World} {C : Nat} {v : Value} {ps : List Pt} (h : PtsV w C v ps) {B : Nat} (hb : Below B w w') (hB : w.heap.size ≤ B) : PtsV w' C v ps := by
  rcases h with h | ⟨g, s, d, e, ev, hg, hC⟩
  · exact Or.inl h
  · have hlt : g < w.heap.size := by
      rcases Nat.lt_or_ge g w.heap.size with h | h
      · exact h
      · rw [Array.getElem?_eq_none h] at hg; cases hg
    exact Or.inr ⟨g, s, d, e, ev, by rw [hb.block g (by omega)]; exact hg, hC⟩
theorem PtsV.mono {w : World} {C D : Nat} {v : Value} {ps : List Pt} (h : PtsV w C v ps) (hD : D ≤ C) : PtsV w D v ps := by
  rcases h with h | ⟨g, s, d, e, ev, hg, hC⟩
  · exact Or.inl h
  · exact Or.inr ⟨g, s, d, e, ev, hg, Nat.le_trans hD hC⟩
theorem pts_nil (w : World) (B : Nat) : PtsV w B (.slice none 0 0) [] := Or.inl ⟨rfl, rfl⟩
/-- A store elsewhere. -/
theorem PtsV.far {w : World} {C : Nat} {v : Value} {ps : List Pt} (h : PtsV w C v ps) {g j : Nat} (hg : g < C) {x : Value} : PtsV (w.setCell ⟨g, j, none⟩ x) C v ps := by
  rcases h with h | ⟨k, s, d, e, ev, hk, hC⟩
  · exact Or.inl h
  · refine Or.inr ⟨k, s, d, e, ev, ?_, hC⟩
    rw [← hk]
    exact Below.heap_setCell _ _ _ _ (by simp only; omega)
theorem PtsV.len {w : World} {C : Nat} {v : Value} {ps : List Pt} (h : PtsV w C v ps) : ∃ a n c, v = .slice a n c ∧ ps.length = n := by
  rcases h with ⟨rfl, rfl⟩ | ⟨g, s, d, rfl, rfl, -⟩
  · exact ⟨_, _, _, rfl, rfl⟩
  · exact ⟨_, _, _, rfl, rfl⟩
/-- A value that is the flow f, its points behind base B. -/
def FlV (w : World) (B : Nat) (v : Value) (f : Fl) : Prop := ∃ iv, v = .agg (flB f iv) ∧ PtsV w B iv f.inner
theorem FlV.below {w w' : World} {C : Nat} {v : Value} {f : Fl} (h : FlV w C v f) {B : Nat} (hb : Below B w w') (hB : w.heap.size ≤ B) : FlV w' C v f := by
  obtain ⟨iv, e, hp⟩ := h
  exact ⟨iv, e, hp.below hb hB⟩
theorem FlV.mono {w : World} {C D : Nat} {v : Value} {f : Fl} (h : FlV w C v f) (hD : D ≤ C) : FlV w D v f := by
  obtain ⟨iv, e, hp⟩ := h
  exact ⟨iv, e, hp.mono hD⟩
theorem flv_zero (w : World) (B : Nat) : FlV w B (.agg flZ) Fl.zero := ⟨_, rfl, pts_nil w B⟩

theorem FlV.open {w : World} {C : Nat} {v : Value} {f : Fl} (h : FlV w C v f) : ∃ ia ic, v = .agg (flB f (.slice ia f.inner.length ic)) ∧ PtsV w C (.slice ia f.inner.length ic) f.inner := by
  obtain ⟨iv, rfl, hp⟩ := h
  obtain ⟨a, n, c, rfl, rfl⟩ := hp.len
  exact ⟨a, c, rfl, hp⟩

/-- What messageFlow has made of itself: its flow, its message, its result. -/
theorem flow_boxes (w : World) (a m : Array Value) : Mem w (((w.alloc (.cells a flT)).alloc (.cells m mgT)).alloc (.cells flZ flT)) [(w.heap.size, .cells a flT), (w.heap.size + 1, .cells m mgT), (w.heap.size + 2, .cells flZ flT)] :=
  (((Mem.nil w).push1 rfl).push2 (by simp)).push3 (by simp)

set_option maxHeartbeats 4000000 in
/-- What rewrite.messageFlow answers, whatever message it is handed. -/
theorem mflow_any {w : World} {B : Nat} {v : Value} {m : Mg} (hm : m.Ok) (hv : MgO w B v m) (f : Fl) (hf : f.inner = []) :
    Calls Tryz.prog 82 #[.agg (flB f (.slice none 0 0)), v] w fun e w' => ∃ u, e = .returned (.tuple #[u, .int .i64 (mfErr m)]) ∧ FlV w' w.heap.size u (mfFl f m) ∧ Below w.heap.size w w' := by
  have hv' := hv.v
  obtain ⟨bo, cb, rfl, ho, hbb, hbl⟩ := hv
  obtain ⟨bo', cb', e, hbr, -, -⟩ := hv'
  simp only [mgA, Value.agg.injEq, Array.mk.injEq, List.cons.injEq, true_and, and_true, Value.slice.injEq] at e
  obtain ⟨rfl, rfl⟩ := e
  have hcap := (own_nil ho).2.2
  have hM0 := flow_boxes w (flB f (.slice none 0 0)) (mgB m bo m.body.length cb)
  have hr0 := hm.rest
  have hwr := wrap16_small (m.rest / 65536) (by omega) (by omega)
  have HM0 : Hid _ := hM0
  have HV0 : Hid (∀ W, Below w.heap.size w W → MgV W 0 (.agg (mgB m bo m.body.length cb)) m) := fun W hb => MgV.below (MgV.mono (show MgV w B _ m from (show MgO w B _ m from ⟨bo, cb, rfl, ho, hbb, hbl⟩).v) (Nat.zero_le _)) hb (Nat.le_refl _)
  have HS : Hid (∀ W, Below w.heap.size w W → Calls Tryz.prog 112 #[.slice bo m.body.length cb] W _) := fun W hb => stands_any (hbr.below hb (Nat.le_refl _)) rfl hcap
  have HP : Hid (inOk m.body = true → ∀ W, Below w.heap.size w W → ∃ x : Nat × Nat, bo = some ⟨x.1, x.2, none⟩ ∧ Calls Tryz.prog 113 #[.slice (some ⟨x.1, x.2, none⟩) m.body.length cb] W fun e w' => ∃ g, e = .returned (.slice (some ⟨g, 0, none⟩) 2 2) ∧ Mem W w' [(g, .cells (pt2 (inSrc m.body) (inDst m.body)) ptT (0, 0))]) := fun hi W hb => by
    have hh := inHead_facts (inOk_head hi)
    rcases hbr.cells with e | ⟨b, off, rfl, -⟩
    · rw [e] at hh; simp at hh
    · exact ⟨(b, off), rfl, points_any (hbr.below hb (Nat.le_refl _)) rfl hcap (inOk_head hi)⟩
  have HE : Hid (mfErr m = if mecho m = true then 0 else if merror m = true ∧ inOk m.body = true then 0 else 21) := rfl
  have HF : Hid (mfFl f m = if mecho m = true then ⟨f.proto, ⟨f.src.ip, m.rest / 65536⟩, ⟨f.dst.ip, m.rest / 65536⟩, f.flags, f.inner⟩
    else if merror m = true ∧ inOk m.body = true then ⟨f.proto, f.src, f.dst, f.flags, [inSrc m.body, inDst m.body]⟩ else Fl.zero) := rfl
  have HI : Hid (f.inner = []) := hf
  clear hM0 ho hbb hbl hbr hcap hf hm
  generalize inSrc m.body = IS at *
  generalize inDst m.body = ID at *
  generalize hio : inOk m.body = ok at *
  clear hio
  generalize m.body.length = n at *
  generalize hme : mecho m = ec at *
  generalize hmr : merror m = er at *
  have HC : Hid (∀ W, Below w.heap.size w W → Calls Tryz.prog 110 #[.agg (mgB m bo n cb)] W fun e w' => e = .returned (.bool ec) ∧ Below W.heap.size W w') := fun W hb => by rw [← hme]; exact mecho_any (HV0.out W hb)
  have HR : Hid (∀ W, Below w.heap.size w W → Calls Tryz.prog 111 #[.agg (mgB m bo n cb)] W fun e w' => e = .returned (.bool er) ∧ Below W.heap.size W w') := fun W hb => by rw [← hmr]; exact merror_any (HV0.out W hb)
  clear hme hmr HV0
  generalize mfErr m = E at *
  generalize mfFl f m = R at *
  go_enter Tryz.func82, Tryz.ntmps82
  go_upto_region 1 with fail
  refine wp_letter (fun W => Mem w W [(w.heap.size, .cells (flB f (.slice none 0 0)) flT), (w.heap.size + 1, .cells (mgB m bo n cb) mgT), (w.heap.size + 2, .cells flZ flT)]) HM0.out ?_
  intro w1 hM1
  have HM1 : Hid _ := hM1
  have kc : ∀ i, w1.cell? ⟨w.heap.size + 1, i, none⟩ = (mgB m bo n cb)[i]? := hM1.cell 1 rfl
  have hC := HC.out w1 hM1.below
  clear hM1 HM0 HC
  go_wp2_with fail
  refine hC.mono ?_
  rintro e w2 ⟨rfl, hb2⟩
  have hM2 := HM1.out.after hb2
  clear hb2 hC kc HM1
  cases ec with
  | true =>
    simp only [if_true] at HE HF
    have HM2 : Hid _ := hM2
    have k3 : w2.cell? ⟨w.heap.size + 1, 3, none⟩ = some (.int .u32 m.rest) := hM2.cell 1 rfl 3
    have kc : ∀ i, w2.cell? ⟨w.heap.size, i, none⟩ = (flB f (.slice none 0 0))[i]? := hM2.cell 0 rfl
    have kf : ∀ i, w2.frozen? ⟨w.heap.size, i, none⟩ = false := hM2.free 0 rfl
    clear hM2
    go_upto_region 4 with fail
    refine wp_letter (fun W => Mem w W [(w.heap.size, .cells (flA f.proto f.src.ip (m.rest / 65536) f.dst.ip (m.rest / 65536) f.flags (.slice none 0 0)) flT (0, 0)), (w.heap.size + 1, .cells (mgB m bo n cb) mgT), (w.heap.size + 2, .cells flZ flT)]) ((HM2.out.set 0 rfl 2 _).set 0 rfl 4 _) ?_
    intro w3 hM3
    have HM3 : Hid _ := hM3
    clear kc kf k3 HM2
    have kc : ∀ i, w3.cell? ⟨w.heap.size, i, none⟩ = (flA f.proto f.src.ip (m.rest / 65536) f.dst.ip (m.rest / 65536) f.flags (.slice none 0 0))[i]? := hM3.cell 0 rfl
    have kr : ∀ i, w3.cell? ⟨w.heap.size + 2, i, none⟩ = flZ[i]? := hM3.cell 2 rfl
    have kf : ∀ i, w3.frozen? ⟨w.heap.size + 2, i, none⟩ = false := hM3.free 2 rfl
    clear hM3
    go_wp2_with fail
    refine bodyPost_ret (v := .tuple #[.agg (flA f.proto f.src.ip (m.rest / 65536) f.dst.ip (m.rest / 65536) f.flags (.slice none 0 0)), .int .i64 0]) (by simp [results, Tryz.results82, go_sem, kr]) rfl ⟨_, by rw [HE.out], ?_, ?_⟩
    · rw [HF.out]
      exact ⟨_, rfl, by rw [HI.out]; exact pts_nil _ _⟩
    · repeat (refine below_set ?_ (by omega))
      exact HM3.out.below
  | false =>
    simp only [Bool.false_eq_true, if_false] at HE HF
    have HM2 : Hid _ := hM2
    have kc : ∀ i, w2.cell? ⟨w.heap.size + 1, i, none⟩ = (mgB m bo n cb)[i]? := hM2.cell 1 rfl
    have hR := HR.out w2 hM2.below
    clear hM2 HR
    go_wp2_with fail
    refine hR.mono ?_
    rintro e w3 ⟨rfl, hb3⟩
    have hM3 := HM2.out.after hb3
    clear hb3 hR kc HM2
    have HM3 : Hid _ := hM3
    have kb : w3.cell? ⟨w.heap.size + 1, 4, none⟩ = some (.slice bo n cb) := hM3.cell 1 rfl 4
    have hS := HS.out w3 hM3.below
    clear HS
    cases er with
    | false =>
      simp only [Bool.false_eq_true, false_and, if_false] at HE HF
      have kr : ∀ i, w3.cell? ⟨w.heap.size + 2, i, none⟩ = flZ[i]? := hM3.cell 2 rfl
      have kf : ∀ i, w3.frozen? ⟨w.heap.size + 2, i, none⟩ = false := hM3.free 2 rfl
      clear hM3 hS kb
      go_wp2_with fail
      refine bodyPost_ret (v := .tuple #[.agg flZ, .int .i64 21]) (by simp [results, Tryz.results82, go_sem, kr]) rfl ⟨_, by rw [HE.out], ?_, ?_⟩
      · rw [HF.out]
        exact flv_zero _ _
      · repeat (refine below_set ?_ (by omega))
        exact HM3.out.below
    | true =>
      simp only [true_and] at HE HF
      clear hM3
      go_wp2_with fail
      refine hS.mono ?_
      rintro e w4 ⟨rfl, hb4⟩
      have hM4 := HM3.out.after hb4
      clear hb4 hS kb HM3
      have HM4 : Hid _ := hM4
      cases ok with
      | false =>
        simp only [Bool.false_eq_true, if_false] at HE HF
        have kr : ∀ i, w4.cell? ⟨w.heap.size + 2, i, none⟩ = flZ[i]? := hM4.cell 2 rfl
        have kf : ∀ i, w4.frozen? ⟨w.heap.size + 2, i, none⟩ = false := hM4.free 2 rfl
        clear hM4
        go_wp2_with fail
        refine bodyPost_ret (v := .tuple #[.agg flZ, .int .i64 21]) (by simp [results, Tryz.results82, go_sem, kr]) rfl ⟨_, by rw [HE.out], ?_, ?_⟩
        · rw [HF.out]
          exact flv_zero _ _
        · repeat (refine below_set ?_ (by omega))
          exact HM4.out.below
      | true =>
        simp only [if_true] at HE HF
        obtain ⟨⟨b, off⟩, rfl, hp⟩ := HP.out rfl w4 hM4.below
        have kb : w4.cell? ⟨w.heap.size + 1, 4, none⟩ = some (.slice (some ⟨b, off, none⟩) n cb) := hM4.cell 1 rfl 4
        clear hM4 HP
        simp only at hp
        go_wp2_with fail
        refine hp.mono ?_
        rintro e w5 ⟨g, rfl, hMp⟩
        have hM5 := HM4.out.join hMp
        have HM5 : Hid (Mem w w5 [(w.heap.size, .cells (flB f (.slice none 0 0)) flT), (w.heap.size + 1, .cells (mgB m (some ⟨b, off, none⟩) n cb) mgT), (w.heap.size + 2, .cells flZ flT), (g, .cells (pt2 IS ID) ptT (0, 0))]) := hM5
        have k6 : ∀ i, w5.cell? ⟨w.heap.size, i, none⟩ = (flB f (.slice none 0 0))[i]? := hM5.cell 0 rfl
        have kf : ∀ i, w5.frozen? ⟨w.heap.size, i, none⟩ = false := hM5.free 0 rfl
        clear hMp hM5 hp kb HM4
        go_upto_region 8 with fail
        refine wp_letter (fun W => Mem w W [(w.heap.size, .cells (flB f (.slice (some ⟨g, 0, none⟩) 2 2)) flT (0, 0)), (w.heap.size + 1, .cells (mgB m (some ⟨b, off, none⟩) n cb) mgT), (w.heap.size + 2, .cells flZ flT), (g, .cells (pt2 IS ID) ptT (0, 0))]) (HM5.out.set 0 rfl 6 _) ?_
        intro w6 hM6
        have HM6 : Hid _ := hM6
        clear k6 kf HM5
        have kc : ∀ i, w6.cell? ⟨w.heap.size, i, none⟩ = (flB f (.slice (some ⟨g, 0, none⟩) 2 2))[i]? := hM6.cell 0 rfl
        have kr : ∀ i, w6.cell? ⟨w.heap.size + 2, i, none⟩ = flZ[i]? := hM6.cell 2 rfl
        have kf : ∀ i, w6.frozen? ⟨w.heap.size + 2, i, none⟩ = false := hM6.free 2 rfl
        clear hM6
        go_wp2_with fail
        refine bodyPost_ret (v := .tuple #[.agg (flB f (.slice (some ⟨g, 0, none⟩) 2 2)), .int .i64 0]) (by simp [results, Tryz.results82, go_sem, kr]) rfl ⟨_, by rw [HE.out], ?_, ?_⟩
        · rw [HF.out]
          have hne := HM6.out.ne 2 3 rfl rfl (by decide)
          refine ⟨_, rfl, Or.inr ⟨g, IS, ID, rfl, rfl, ?_, HM6.out.ge 3 rfl⟩⟩
          repeat rw [Below.heap_setCell _ _ _ _ (fun e => hne e.symm)]
          exact HM6.out.get 3 rfl
        · repeat (refine below_set ?_ (by omega))
          exact HM6.out.below
end Go.Proofs.YtjalpbkfpjfigaaGreat
