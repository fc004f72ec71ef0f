/-
  Flows as values, and what rewrite.messageFlow answers.
  The statements' seat: what lychseat.body answers: a datagram, a segment, an echo.
-/
import Derived.Test.YtjalpbkfpjfigaaGreatM22
import Derived.Test.YtjalpbkfpjfigaaGreatM12
import Derived.Test.YtjalpbkfpjfigaaGreatM15
import Derived.Test.YtjalpbkfpjfigaaGreatM11
import Derived.Test.YtjalpbkfpjfigaaGreatM13
import Derived.Test.YtjalpbkfpjfigaaGreatM17
import Derived.Lib.SlBytesConst
namespace Go.Proofs.YtjalpbkfpjfigaaGreat
open Go.RowKit
open Sm
set_option linter.unusedVariables false
set_option maxRecDepth 20000

abbrev flT : TypeId := 45
abbrev flA (proto si sp di dp flags : Int) (iv : Value) : Array Value := #[.int .u8 proto, .int .u32 si, .int .u16 sp, .int .u32 di, .int .u16 dp, .int .u8 flags, iv]
abbrev flB (f : Fl) (iv : Value) : Array Value := flA f.proto f.src.ip f.src.port f.dst.ip f.dst.port f.flags iv
abbrev flZ : Array Value := flA 0 0 0 0 0 0 (.slice none 0 0)
/-- Points, none or two of them, behind base B. -/
def PtsV (w : World) (B : Nat) (v : Value) (ps : List Pt) : Prop :=
  (ps = [] ∧ v = .slice none 0 0) ∨ ∃ g s d, ps = [s, d] ∧ v = .slice (some ⟨g, 0, none⟩) 2 2 ∧ w.heap[g]? = some (.cells (pt2 s d) ptT (0, 0)) ∧ B ≤ g
theorem PtsV.below {w w' : World} {C : Nat} {v : Value} {ps : List Pt} (h : PtsV w C v ps) {B : Nat} (hb : Below B w w') (hB : w.heap.size ≤ B) : PtsV w' C v ps := by
  rcases h with h | ⟨g, s, d, e, ev, hg, hC⟩
  · exact Or.inl h
  · have hlt : g < w.heap.size := by
      rcases Nat.lt_or_ge g w.heap.size with h | h
      · exact h
      · rw [Array.getElem?_eq_none h] at hg; cases hg
    exact Or.inr ⟨g, s, d, e, ev, by rw [hb.block g (by omega)]; exact hg, hC⟩
theorem PtsV.mono {w : World} {C D : Nat} {v : Value} {ps : List Pt} (h : PtsV w C v ps) (hD : D ≤ C) : PtsV w D v ps := by
  rcases h with h | ⟨g, s, d, e, ev, hg, hC⟩
  · exact Or.inl h
  · exact Or.inr ⟨g, s, d, e, ev, hg, Nat.le_trans hD hC⟩
theorem pts_nil (w : World) (B : Nat) : PtsV w B (.slice none 0 0) [] := Or.inl ⟨rfl, rfl⟩
/-- A store elsewhere. -/
theorem PtsV.far {w : World} {C : Nat} {v : Value} {ps : List Pt} (h : PtsV w C v ps) {g j : Nat} (hg : g < C) {x : Value} : PtsV (w.setCell ⟨g, j, none⟩ x) C v ps := by
  rcases h with h | ⟨k, s, d, e, ev, hk, hC⟩
  · exact Or.inl h
  · refine Or.inr ⟨k, s, d, e, ev, ?_, hC⟩
    rw [← hk]
    exact Below.heap_setCell _ _ _ _ (by simp only; omega)
theorem PtsV.len {w : World} {C : Nat} {v : Value} {ps : List Pt} (h : PtsV w C v ps) : ∃ a n c, v = .slice a n c ∧ ps.length = n := by
  rcases h with ⟨rfl, rfl⟩ | ⟨g, s, d, rfl, rfl, -⟩
  · exact ⟨_, _, _, rfl, rfl⟩
  · exact ⟨_, _, _, rfl, rfl⟩
/-- A value that is the flow f, its points behind base B. -/
def FlV (w : World) (B : Nat) (v : Value) (f : Fl) : Prop := ∃ iv, v = .agg (flB f iv) ∧ PtsV w B iv f.inner
theorem FlV.below {w w' : World} {C : Nat} {v : Value} {f : Fl} (h : FlV w C v f) {B : Nat} (hb : Below B w w') (hB : w.heap.size ≤ B) : FlV w' C v f := by
  obtain ⟨iv, e, hp⟩ := h
  exact ⟨iv, e, hp.below hb hB⟩
theorem FlV.mono {w : World} {C D : Nat} {v : Value} {f : Fl} (h : FlV w C v f) (hD : D ≤ C) : FlV w D v f := by
  obtain ⟨iv, e, hp⟩ := h
  exact ⟨iv, e, hp.mono hD⟩
theorem flv_zero (w : World) (B : Nat) : FlV w B (.agg flZ) Fl.zero := ⟨_, rfl, pts_nil w B⟩

theorem FlV.open {w : World} {C : Nat} {v : Value} {f : Fl} (h : FlV w C v f) : ∃ ia ic, v = .agg (flB f (.slice ia f.inner.length ic)) ∧ PtsV w C (.slice ia f.inner.length ic) f.inner := by
  obtain ⟨iv, rfl, hp⟩ := h
  obtain ⟨a, n, c, rfl, rfl⟩ := hp.len
  exact ⟨a, c, rfl, hp⟩

/-- What messageFlow has made of itself: its flow, its message, its result. -/
theorem flow_boxes (w : World) (a m : Array Value) : Mem w (((w.alloc (.cells a flT)).alloc (.cells m mgT)).alloc (.cells flZ flT)) [(w.heap.size, .cells a flT), (w.heap.size + 1, .cells m mgT), (w.heap.size + 2, .cells flZ flT)] :=
  (((Mem.nil w).push1 rfl).push2 (by simp)).push3 (by simp)

set_option maxHeartbeats 4000000 in
/-- What rewrite.messageFlow answers, whatever message it is handed. -/
theorem mflow_any {w : World} {B : Nat} {v : Value} {m : Mg} (hm : m.Ok) (hv : MgO w B v m) (f : Fl) (hf : f.inner = []) :
    Calls Tryz.prog 82 #[.agg (flB f (.slice none 0 0)), v] w fun e w' => ∃ u, e = .returned (.tuple #[u, .int .i64 (mfErr m)]) ∧ FlV w' w.heap.size u (mfFl f m) ∧ Below w.heap.size w w' := by
  have hv' := hv.v
  obtain ⟨bo, cb, rfl, ho, hbb, hbl⟩ := hv
  obtain ⟨bo', cb', e, hbr, -, -⟩ := hv'
  simp only [mgA, Value.agg.injEq, Array.mk.injEq, List.cons.injEq, true_and, and_true, Value.slice.injEq] at e
  obtain ⟨rfl, rfl⟩ := e
  have hcap := (own_nil ho).2.2
  have hM0 := flow_boxes w (flB f (.slice none 0 0)) (mgB m bo m.body.length cb)
  have hr0 := hm.rest
  have hwr := wrap16_small (m.rest / 65536) (by omega) (by omega)
  have HM0 : Hid _ := hM0
  have HV0 : Hid (∀ W, Below w.heap.size w W → MgV W 0 (.agg (mgB m bo m.body.length cb)) m) := fun W hb => MgV.below (MgV.mono (show MgV w B _ m from (show MgO w B _ m from ⟨bo, cb, rfl, ho, hbb, hbl⟩).v) (Nat.zero_le _)) hb (Nat.le_refl _)
  have HS : Hid (∀ W, Below w.heap.size w W → Calls Tryz.prog 112 #[.slice bo m.body.length cb] W _) := fun W hb => stands_any (hbr.below hb (Nat.le_refl _)) rfl hcap
  have HP : Hid (inOk m.body = true → ∀ W, Below w.heap.size w W → ∃ x : Nat × Nat, bo = some ⟨x.1, x.2, none⟩ ∧ Calls Tryz.prog 113 #[.slice (some ⟨x.1, x.2, none⟩) m.body.length cb] W fun e w' => ∃ g, e = .returned (.slice (some ⟨g, 0, none⟩) 2 2) ∧ Mem W w' [(g, .cells (pt2 (inSrc m.body) (inDst m.body)) ptT (0, 0))]) := fun hi W hb => by
    have hh := inHead_facts (inOk_head hi)
    rcases hbr.cells with e | ⟨b, off, rfl, -⟩
    · rw [e] at hh; simp at hh
    · exact ⟨(b, off), rfl, points_any (hbr.below hb (Nat.le_refl _)) rfl hcap (inOk_head hi)⟩
  have HE : Hid (mfErr m = if mecho m = true then 0 else if merror m = true ∧ inOk m.body = true then 0 else 21) := rfl
  have HF : Hid (mfFl f m = if mecho m = true then ⟨f.proto, ⟨f.src.ip, m.rest / 65536⟩, ⟨f.dst.ip, m.rest / 65536⟩, f.flags, f.inner⟩
    else if merror m = true ∧ inOk m.body = true then ⟨f.proto, f.src, f.dst, f.flags, [inSrc m.body, inDst m.body]⟩ else Fl.zero) := rfl
  have HI : Hid (f.inner = []) := hf
  clear hM0 ho hbb hbl hbr hcap hf hm
  generalize inSrc m.body = IS at *
  generalize inDst m.body = ID at *
  generalize hio : inOk m.body = ok at *
  clear hio
  generalize m.body.length = n at *
  generalize hme : mecho m = ec at *
  generalize hmr : merror m = er at *
  have HC : Hid (∀ W, Below w.heap.size w W → Calls Tryz.prog 110 #[.agg (mgB m bo n cb)] W fun e w' => e = .returned (.bool ec) ∧ Below W.heap.size W w') := fun W hb => by rw [← hme]; exact mecho_any (HV0.out W hb)
  have HR : Hid (∀ W, Below w.heap.size w W → Calls Tryz.prog 111 #[.agg (mgB m bo n cb)] W fun e w' => e = .returned (.bool er) ∧ Below W.heap.size W w') := fun W hb => by rw [← hmr]; exact merror_any (HV0.out W hb)
  clear hme hmr HV0
  generalize mfErr m = E at *
  generalize mfFl f m = R at *
  go_enter Tryz.func82, Tryz.ntmps82
  go_upto_region 1 with fail
  refine wp_letter (fun W => Mem w W [(w.heap.size, .cells (flB f (.slice none 0 0)) flT), (w.heap.size + 1, .cells (mgB m bo n cb) mgT), (w.heap.size + 2, .cells flZ flT)]) HM0.out ?_
  intro w1 hM1
  have HM1 : Hid _ := hM1
  have kc : ∀ i, w1.cell? ⟨w.heap.size + 1, i, none⟩ = (mgB m bo n cb)[i]? := hM1.cell 1 rfl
  have hC := HC.out w1 hM1.below
  clear hM1 HM0 HC
  go_wp2_with fail
  refine hC.mono ?_
  rintro e w2 ⟨rfl, hb2⟩
  have hM2 := HM1.out.after hb2
  clear hb2 hC kc HM1
  cases ec with
  | true =>
    simp only [if_true] at HE HF
    have HM2 : Hid _ := hM2
    have k3 : w2.cell? ⟨w.heap.size + 1, 3, none⟩ = some (.int .u32 m.rest) := hM2.cell 1 rfl 3
    have kc : ∀ i, w2.cell? ⟨w.heap.size, i, none⟩ = (flB f (.slice none 0 0))[i]? := hM2.cell 0 rfl
    have kf : ∀ i, w2.frozen? ⟨w.heap.size, i, none⟩ = false := hM2.free 0 rfl
    clear hM2
    go_upto_region 4 with fail
    refine wp_letter (fun W => Mem w W [(w.heap.size, .cells (flA f.proto f.src.ip (m.rest / 65536) f.dst.ip (m.rest / 65536) f.flags (.slice none 0 0)) flT (0, 0)), (w.heap.size + 1, .cells (mgB m bo n cb) mgT), (w.heap.size + 2, .cells flZ flT)]) ((HM2.out.set 0 rfl 2 _).set 0 rfl 4 _) ?_
    intro w3 hM3
    have HM3 : Hid _ := hM3
    clear kc kf k3 HM2
    have kc : ∀ i, w3.cell? ⟨w.heap.size, i, none⟩ = (flA f.proto f.src.ip (m.rest / 65536) f.dst.ip (m.rest / 65536) f.flags (.slice none 0 0))[i]? := hM3.cell 0 rfl
    have kr : ∀ i, w3.cell? ⟨w.heap.size + 2, i, none⟩ = flZ[i]? := hM3.cell 2 rfl
    have kf : ∀ i, w3.frozen? ⟨w.heap.size + 2, i, none⟩ = false := hM3.free 2 rfl
    clear hM3
    go_wp2_with fail
    refine bodyPost_ret (v := .tuple #[.agg (flA f.proto f.src.ip (m.rest / 65536) f.dst.ip (m.rest / 65536) f.flags (.slice none 0 0)), .int .i64 0]) (by simp [results, Tryz.results82, go_sem, kr]) rfl ⟨_, by rw [HE.out], ?_, ?_⟩
    · rw [HF.out]
      exact ⟨_, rfl, by rw [HI.out]; exact pts_nil _ _⟩
    · repeat (refine below_set ?_ (by omega))
      exact HM3.out.below
  | false =>
    simp only [Bool.false_eq_true, if_false] at HE HF
    have HM2 : Hid _ := hM2
    have kc : ∀ i, w2.cell? ⟨w.heap.size + 1, i, none⟩ = (mgB m bo n cb)[i]? := hM2.cell 1 rfl
    have hR := HR.out w2 hM2.below
    clear hM2 HR
    go_wp2_with fail
    refine hR.mono ?_
    rintro e w3 ⟨rfl, hb3⟩
    have hM3 := HM2.out.after hb3
    clear hb3 hR kc HM2
    have HM3 : Hid _ := hM3
    have kb : w3.cell? ⟨w.heap.size + 1, 4, none⟩ = some (.slice bo n cb) := hM3.cell 1 rfl 4
    have hS := HS.out w3 hM3.below
    clear HS
    cases er with
    | false =>
      simp only [Bool.false_eq_true, false_and, if_false] at HE HF
      have kr : ∀ i, w3.cell? ⟨w.heap.size + 2, i, none⟩ = flZ[i]? := hM3.cell 2 rfl
      have kf : ∀ i, w3.frozen? ⟨w.heap.size + 2, i, none⟩ = false := hM3.free 2 rfl
      clear hM3 hS kb
      go_wp2_with fail
      refine bodyPost_ret (v := .tuple #[.agg flZ, .int .i64 21]) (by simp [results, Tryz.results82, go_sem, kr]) rfl ⟨_, by rw [HE.out], ?_, ?_⟩
      · rw [HF.out]
        exact flv_zero _ _
      · repeat (refine below_set ?_ (by omega))
        exact HM3.out.below
    | true =>
      simp only [true_and] at HE HF
      clear hM3
      go_wp2_with fail
      refine hS.mono ?_
      rintro e w4 ⟨rfl, hb4⟩
      have hM4 := HM3.out.after hb4
      clear hb4 hS kb HM3
      have HM4 : Hid _ := hM4
      cases ok with
      | false =>
        simp only [Bool.false_eq_true, if_false] at HE HF
        have kr : ∀ i, w4.cell? ⟨w.heap.size + 2, i, none⟩ = flZ[i]? := hM4.cell 2 rfl
        have kf : ∀ i, w4.frozen? ⟨w.heap.size + 2, i, none⟩ = false := hM4.free 2 rfl
        clear hM4
        go_wp2_with fail
        refine bodyPost_ret (v := .tuple #[.agg flZ, .int .i64 21]) (by simp [results, Tryz.results82, go_sem, kr]) rfl ⟨_, by rw [HE.out], ?_, ?_⟩
        · rw [HF.out]
          exact flv_zero _ _
        · repeat (refine below_set ?_ (by omega))
          exact HM4.out.below
      | true =>
        simp only [if_true] at HE HF
        obtain ⟨⟨b, off⟩, rfl, hp⟩ := HP.out rfl w4 hM4.below
        have kb : w4.cell? ⟨w.heap.size + 1, 4, none⟩ = some (.slice (some ⟨b, off, none⟩) n cb) := hM4.cell 1 rfl 4
        clear hM4 HP
        simp only at hp
        go_wp2_with fail
        refine hp.mono ?_
        rintro e w5 ⟨g, rfl, hMp⟩
        have hM5 := HM4.out.join hMp
        have HM5 : Hid (Mem w w5 [(w.heap.size, .cells (flB f (.slice none 0 0)) flT), (w.heap.size + 1, .cells (mgB m (some ⟨b, off, none⟩) n cb) mgT), (w.heap.size + 2, .cells flZ flT), (g, .cells (pt2 IS ID) ptT (0, 0))]) := hM5
        have k6 : ∀ i, w5.cell? ⟨w.heap.size, i, none⟩ = (flB f (.slice none 0 0))[i]? := hM5.cell 0 rfl
        have kf : ∀ i, w5.frozen? ⟨w.heap.size, i, none⟩ = false := hM5.free 0 rfl
        clear hMp hM5 hp kb HM4
        go_upto_region 8 with fail
        refine wp_letter (fun W => Mem w W [(w.heap.size, .cells (flB f (.slice (some ⟨g, 0, none⟩) 2 2)) flT (0, 0)), (w.heap.size + 1, .cells (mgB m (some ⟨b, off, none⟩) n cb) mgT), (w.heap.size + 2, .cells flZ flT), (g, .cells (pt2 IS ID) ptT (0, 0))]) (HM5.out.set 0 rfl 6 _) ?_
        intro w6 hM6
        have HM6 : Hid _ := hM6
        clear k6 kf HM5
        have kc : ∀ i, w6.cell? ⟨w.heap.size, i, none⟩ = (flB f (.slice (some ⟨g, 0, none⟩) 2 2))[i]? := hM6.cell 0 rfl
        have kr : ∀ i, w6.cell? ⟨w.heap.size + 2, i, none⟩ = flZ[i]? := hM6.cell 2 rfl
        have kf : ∀ i, w6.frozen? ⟨w.heap.size + 2, i, none⟩ = false := hM6.free 2 rfl
        clear hM6
        go_wp2_with fail
        refine bodyPost_ret (v := .tuple #[.agg (flB f (.slice (some ⟨g, 0, none⟩) 2 2)), .int .i64 0]) (by simp [results, Tryz.results82, go_sem, kr]) rfl ⟨_, by rw [HE.out], ?_, ?_⟩
        · rw [HF.out]
          have hne := HM6.out.ne 2 3 rfl rfl (by decide)
          refine ⟨_, rfl, Or.inr ⟨g, IS, ID, rfl, rfl, ?_, HM6.out.ge 3 rfl⟩⟩
          repeat rw [Below.heap_setCell _ _ _ _ (fun e => hne e.symm)]
          exact HM6.out.get 3 rfl
        · repeat (refine below_set ?_ (by omega))
          exact HM6.out.below
end Go.Proofs.YtjalpbkfpjfigaaGreat

namespace Go.Proofs.YtjalpbkfpjfigaaGreat
open Go.RowKit
open Sm
set_option linter.unusedVariables false
set_option maxRecDepth 20000

namespace Sm
def abc : List Int := [97, 98, 99, 100, 101, 102, 103, 104, 105, 106, 107, 108, 109, 110, 111, 112]
def dat (n : Int) : List Int := abc.take (n % 16).toNat
def and8 (x k : Int) : Int := bits .and .u8 x k
theorem and_all : ∀ n : Fin 256, 0 ≤ bits .and .u8 (n.val : Int) 23 ∧ bits .and .u8 (n.val : Int) 23 ≤ 255 := by decide +kernel
theorem and23_range {n : Int} (h0 : 0 ≤ n) (h1 : n ≤ 255) : 0 ≤ and8 n 23 ∧ and8 n 23 ≤ 255 := by
  have := and_all ⟨n.toNat, by omega⟩
  simp only at this
  rw [show ((n.toNat : Nat) : Int) = n by omega] at this
  exact this
theorem abc_bytes : IsBytes abc := by
  unfold abc
  repeat (first | exact bytes_nil | refine bytes_cons ⟨by decide, by decide⟩ ?_)
theorem dat_bytes (n : Int) : IsBytes (dat n) := by
  have := bytes_part abc_bytes 0 (n % 16).toNat
  simpa [dat] using this
theorem dat_len (n : Int) (h : 0 ≤ n) : (dat n).length = (n % 16).toNat := by
  unfold dat
  rw [List.length_take]
  have : abc.length = 16 := rfl
  omega
/-- The datagram, the segment, the echo. -/
def bdDg (src dst fr tp flags n : Int) : Dg := if and8 flags 64 = 0 then (Dg.mk fr tp 0 (dat n)).at (usum src dst ⟨fr, tp, 0, dat n⟩) else ⟨fr, tp, 0, dat n⟩
def bdSg0 (fr tp flags n : Int) : Sg := ⟨fr, tp, n, 0, and8 flags 23, 9, 0, 0, if and8 n 32 ≠ 0 then [1, 1, 1, 0] else [], dat n⟩
def bdSg (src dst fr tp flags n : Int) : Sg := (bdSg0 fr tp flags n).at (tsum src dst (bdSg0 fr tp flags n))
def bdMg (fr flags n : Int) : Mg := msl ⟨if and8 flags 1 ≠ 0 then 0 else 8, 0, 0, fr * 65536 + n, dat n⟩
def bodyb (pr src dst fr tp flags n : Int) : List Int := if pr = 17 then udOut (bdDg src dst fr tp flags n) else if pr = 6 then tcOut (bdSg src dst fr tp flags n) else mgOut (bdMg fr flags n)
end Sm

theorem Mem.first' {w W : World} {p : Nat × Obj} {L : List (Nat × Obj)} (h : Mem w W (p :: L)) : Mem w W [p] :=
  ⟨h.below, fun q hq => h.low q (by simp at hq; simp [hq]), fun q hq => h.at_ q (by simp at hq; simp [hq]), by simp⟩
/-- The constant text's bytes: marked behind their end. -/
abbrev abcO : Obj := .cells (bs abc) 5 (16, 17)
theorem dat_row {w W : World} {g i : Nat} {L : List (Nat × Obj)} (hM : Mem w W L) (hi : L[i]? = some (g, abcO)) (n : Int) (h0 : 0 ≤ n) : Row W (some ⟨g, 0, none⟩) (dat n) := by
  have hr : Row W (some ⟨g, 0, none⟩) abc := ⟨abc_bytes, by decide, Or.inr ⟨g, 0, rfl, fun j hj => by rw [cell_of_row W g (0 + j) (bs abc) 5 (16, 17) (hM.get i hi), Nat.zero_add]; exact bs_get hj⟩⟩
  have hr := hr.part 0 (n % 16).toNat (by have : abc.length = 16 := rfl; omega)
  simpa [dat] using hr
theorem abc_conv (w : World) : (Go.convert 22 22 (.slice (some ⟨w.heap.size, 0, none⟩) 16 16) : Sem Value).run Tryz.prog (w.alloc (.cells (bs abc) 5)) = .ok (.slice (some ⟨w.heap.size, 0, none⟩) 16 16) (w.alloc abcO) :=
  Go.Lib.run_convert_bytes_const w 22 5 (bs abc) 16 16 Tryz.underlying22 Tryz.underlying5

set_option maxHeartbeats 2000000 in
theorem body_icmp (w : World) (src dst fr tp flags n : Int) (hf : 0 ≤ fr ∧ fr ≤ 65535) (hn : 0 ≤ n ∧ n ≤ 255) :
    Calls Tryz.prog 23 #[.int .u8 1, .int .u32 src, .int .u32 dst, .int .u16 fr, .int .u16 tp, .int .u8 flags, .int .u8 n] w fun e w' => ∃ u, e = .returned u ∧ w'.ownsRow w.heap.size 5 1 u (mgOut (bdMg fr flags n)).length ((mgOut (bdMg fr flags n)).map (Value.int .u8)) ∧ Below w.heap.size w w' := by
  have hor := sm_long fr n hf.1 hf.2 hn.1 (by omega)
  have v0 := wrap32_small fr hf.1 (by omega)
  have v1 := wrap32_small (fr * 65536) (by omega) (by omega)
  have v2 := wrap32_small n hn.1 (by omega)
  have k0 : (0 : Int) ≤ n % 16 := by omega
  have k1 : n % 16 ≤ (16 : Int) := by omega
  have HD : Hid (∀ t, (Mg.mk t 0 0 (fr * 65536 + n) (dat n)).body.length = (n % 16).toNat) := fun t => dat_len n hn.1
  have HK : Hid (∀ t, t = 8 ∨ t = 0 → (Mg.mk t 0 0 (fr * 65536 + n) (dat n)).Ok) := fun t ht => ⟨by simp only; omega, by simp only; omega, by simp only; omega, by simp only; omega, dat_bytes n⟩
  have HM0 : Hid (Mem w (w.alloc abcO) [(w.heap.size, abcO)]) := (Mem.nil w).push1 rfl
  have HR : Hid (∀ (W : World) (L : List (Nat × Obj)) (i : Nat), Mem w W L → L[i]? = some (w.heap.size, abcO) → Row W (some ⟨w.heap.size, 0, none⟩) (dat n)) := fun W L i hM hi => dat_row hM hi n hn.1
  have hbf : bits .and .u8 flags 1 = and8 flags 1 := rfl
  have HB : Hid (bdMg fr flags n = msl ⟨if and8 flags 1 ≠ 0 then 0 else 8, 0, 0, fr * 65536 + n, dat n⟩) := rfl
  generalize bdMg fr flags n = R at *
  generalize and8 flags 1 = B1 at *
  generalize hr : fr * 65536 + n = rest at *
  generalize hk : (n % 16).toNat = k at *
  have n0 := hn.1
  clear hr hf hn
  have fin : ∀ (t : Int), (t = 8 ∨ t = 0) → ∀ W, Mem w W [(w.heap.size, abcO)] → MgV W 0 (.agg (mgA t 0 0 rest (.slice (some ⟨w.heap.size, 0, none⟩) k 16))) ⟨t, 0, 0, rest, dat n⟩ := fun t _ W hM =>
    ⟨some ⟨w.heap.size, 0, none⟩, 16, by rw [HD.out t], HR.out W _ 0 hM rfl, fun e => (by cases e), fun x hx => Nat.zero_le _⟩
  have HFin : Hid _ := fin
  clear fin HR
  have hcv := abc_conv w
  simp only [bs, abc, List.map_cons, List.map_nil] at hcv
  go_enter Tryz.func23, Tryz.ntmps23
  go_upto_region 2 with fail
  refine wp_letter (fun W => Mem w W [(w.heap.size, abcO)]) HM0.out ?_
  intro w1 hM1
  have HM1 : Hid _ := hM1
  clear hM1 HM0
  by_cases hb : B1 = 0
  · have HB2 : Hid (R = msl ⟨8, 0, 0, rest, dat n⟩) := by show _ = _; rw [HB.out, if_neg (by simp [hb])]
    clear HB
    go_upto_region 17 with fail
    refine wp_letter (fun W => Mem w W [(w.heap.size, abcO), (w1.heap.size, .cells (mgA 8 0 0 rest (.slice (some ⟨w.heap.size, 0, none⟩) k 16)) mgT (0, 0))]) (HM1.out.push2 rfl) ?_
    intro w2 hM2
    have HM2 : Hid _ := hM2
    have kc : ∀ i, w2.cell? ⟨w1.heap.size, i, none⟩ = (mgA 8 0 0 rest (.slice (some ⟨w.heap.size, 0, none⟩) k 16))[i]? := hM2.cell 1 rfl
    have hv2 := HFin.out 8 (Or.inl rfl) w2 hM2.first'
    have hS := rmsum_any (HK.out 8 (Or.inl rfl)) hv2
    have hSr := msum_range ⟨8, 0, 0, rest, dat n⟩
    obtain ⟨S, hSe⟩ : ∃ S, msum ⟨8, 0, 0, rest, dat n⟩ = S := ⟨_, rfl⟩
    have HRS : Hid (R = ⟨8, 0, S, rest, dat n⟩ ∧ 0 ≤ S ∧ S ≤ 65535) := ⟨by rw [HB2.out, ← hSe]; rfl, by rw [← hSe]; exact hSr.1, by rw [← hSe]; exact hSr.2⟩
    rw [hSe] at hS
    clear hM2 hv2 HM1 hSr hSe HB2
    generalize w1.heap.size = G at *
    go_wp2_with fail
    refine hS.mono ?_
    rintro e w3 ⟨rfl, hb3⟩
    have hM3 := HM2.out.after hb3
    have HM3 : Hid _ := hM3
    clear kc hS hb3 HM2
    have kc : ∀ i, w3.cell? ⟨G, i, none⟩ = (mgA 8 0 0 rest (.slice (some ⟨w.heap.size, 0, none⟩) k 16))[i]? := hM3.cell 1 rfl
    have kf : ∀ i, w3.frozen? ⟨G, i, none⟩ = false := hM3.free 1 rfl
    clear hM3
    go_upto_region 20 with fail
    refine wp_letter (fun W => Mem w W [(w.heap.size, abcO), (G, .cells (mgA 8 0 S rest (.slice (some ⟨w.heap.size, 0, none⟩) k 16)) mgT (0, 0))]) (HM3.out.set 1 rfl 2 _) ?_
    intro w4 hM4
    have HM4 : Hid _ := hM4
    clear kc kf HM3
    have kc : ∀ i, w4.cell? ⟨G, i, none⟩ = (mgA 8 0 S rest (.slice (some ⟨w.heap.size, 0, none⟩) k 16))[i]? := hM4.cell 1 rfl
    have hv4 : MgV w4 0 (.agg (mgA 8 0 S rest (.slice (some ⟨w.heap.size, 0, none⟩) k 16))) ⟨8, 0, S, rest, dat n⟩ := by
      obtain ⟨bo, cb, e, h⟩ := HFin.out 8 (Or.inl rfl) w4 hM4.first'
      simp only [mgA, Value.agg.injEq, Array.mk.injEq, List.cons.injEq, true_and, and_true, Value.slice.injEq] at e
      obtain ⟨rfl, rfl, rfl⟩ := e
      exact ⟨_, _, rfl, h⟩
    have hB := rmbytes_any ((HK.out 8 (Or.inl rfl)).at HRS.out.2.1 HRS.out.2.2) hv4
    rw [show (Mg.mk 8 0 0 rest (dat n)).at S = R from HRS.out.1.symm] at hB
    clear hM4 hv4
    go_wp2_with fail
    refine hB.mono ?_
    rintro e w5 ⟨x, rfl, hown, hb5⟩
    have HB5 : Hid _ := HM4.out.below.trans (hb5.mono HM4.out.below.size)
    have HU : Hid _ := own_base hown HM4.out.below.size
    clear hown hb5 hB kc
    go_wp2_with fail
    go_ret
    exact ⟨_, rfl, HU.out, HB5.out⟩
  · have HB2 : Hid (R = msl ⟨0, 0, 0, rest, dat n⟩) := by show _ = _; rw [HB.out, if_pos hb]
    clear HB
    go_upto_region 17 with fail
    refine wp_letter (fun W => Mem w W [(w.heap.size, abcO), (w1.heap.size, .cells (mgA 8 0 0 rest (.slice (some ⟨w.heap.size, 0, none⟩) k 16)) mgT (0, 0))]) (HM1.out.push2 rfl) ?_
    intro w2 hM2
    have HM9 : Hid _ := hM2
    have kc : ∀ i, w2.cell? ⟨w1.heap.size, i, none⟩ = (mgA 8 0 0 rest (.slice (some ⟨w.heap.size, 0, none⟩) k 16))[i]? := hM2.cell 1 rfl
    have kf : ∀ i, w2.frozen? ⟨w1.heap.size, i, none⟩ = false := hM2.free 1 rfl
    clear hM2 HM1
    generalize w1.heap.size = G at *
    go_upto_region 19 with fail
    refine wp_letter (fun W => Mem w W [(w.heap.size, abcO), (G, .cells (mgA 0 0 0 rest (.slice (some ⟨w.heap.size, 0, none⟩) k 16)) mgT (0, 0))]) (HM9.out.set 1 rfl 0 _) ?_
    clear kc kf HM9
    intro w2 hM2
    have HM2 : Hid _ := hM2
    have kc : ∀ i, w2.cell? ⟨G, i, none⟩ = (mgA 0 0 0 rest (.slice (some ⟨w.heap.size, 0, none⟩) k 16))[i]? := hM2.cell 1 rfl
    have hv2 := HFin.out 0 (Or.inr rfl) w2 hM2.first'
    have hS := rmsum_any (HK.out 0 (Or.inr rfl)) hv2
    have hSr := msum_range ⟨0, 0, 0, rest, dat n⟩
    obtain ⟨S, hSe⟩ : ∃ S, msum ⟨0, 0, 0, rest, dat n⟩ = S := ⟨_, rfl⟩
    have HRS : Hid (R = ⟨0, 0, S, rest, dat n⟩ ∧ 0 ≤ S ∧ S ≤ 65535) := ⟨by rw [HB2.out, ← hSe]; rfl, by rw [← hSe]; exact hSr.1, by rw [← hSe]; exact hSr.2⟩
    rw [hSe] at hS
    clear hM2 hv2 hSr hSe HB2
    go_wp2_with fail
    refine hS.mono ?_
    rintro e w3 ⟨rfl, hb3⟩
    have hM3 := HM2.out.after hb3
    have HM3 : Hid _ := hM3
    clear kc hS hb3 HM2
    have kc : ∀ i, w3.cell? ⟨G, i, none⟩ = (mgA 0 0 0 rest (.slice (some ⟨w.heap.size, 0, none⟩) k 16))[i]? := hM3.cell 1 rfl
    have kf : ∀ i, w3.frozen? ⟨G, i, none⟩ = false := hM3.free 1 rfl
    clear hM3
    go_upto_region 20 with fail
    refine wp_letter (fun W => Mem w W [(w.heap.size, abcO), (G, .cells (mgA 0 0 S rest (.slice (some ⟨w.heap.size, 0, none⟩) k 16)) mgT (0, 0))]) (HM3.out.set 1 rfl 2 _) ?_
    intro w4 hM4
    have HM4 : Hid _ := hM4
    clear kc kf HM3
    have kc : ∀ i, w4.cell? ⟨G, i, none⟩ = (mgA 0 0 S rest (.slice (some ⟨w.heap.size, 0, none⟩) k 16))[i]? := hM4.cell 1 rfl
    have hv4 : MgV w4 0 (.agg (mgA 0 0 S rest (.slice (some ⟨w.heap.size, 0, none⟩) k 16))) ⟨0, 0, S, rest, dat n⟩ := by
      obtain ⟨bo, cb, e, h⟩ := HFin.out 0 (Or.inr rfl) w4 hM4.first'
      simp only [mgA, Value.agg.injEq, Array.mk.injEq, List.cons.injEq, true_and, and_true, Value.slice.injEq] at e
      obtain ⟨rfl, rfl, rfl⟩ := e
      exact ⟨_, _, rfl, h⟩
    have hB := rmbytes_any ((HK.out 0 (Or.inr rfl)).at HRS.out.2.1 HRS.out.2.2) hv4
    rw [show (Mg.mk 0 0 0 rest (dat n)).at S = R from HRS.out.1.symm] at hB
    clear hM4 hv4
    go_wp2_with fail
    refine hB.mono ?_
    rintro e w5 ⟨x, rfl, hown, hb5⟩
    have HB5 : Hid _ := HM4.out.below.trans (hb5.mono HM4.out.below.size)
    have HU : Hid _ := own_base hown HM4.out.below.size
    clear hown hb5 hB kc
    go_wp2_with fail
    go_ret
    exact ⟨_, rfl, HU.out, HB5.out⟩
end Go.Proofs.YtjalpbkfpjfigaaGreat

