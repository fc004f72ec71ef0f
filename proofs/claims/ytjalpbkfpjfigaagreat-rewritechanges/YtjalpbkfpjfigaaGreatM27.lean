/-
  What rewrite.flowOf, rewrite.look and rewrite.Look answer.
-/
import Derived.Test.YtjalpbkfpjfigaaGreatM26
namespace Go.Proofs.YtjalpbkfpjfigaaGreat
open Go.RowKit
open Sm
set_option linter.unusedVariables false
set_option maxRecDepth 20000

set_option maxHeartbeats 4000000 in
/-- What rewrite.flowOf answers. -/
theorem flow_any {w : World} {B : Nat} {p : Pk} {o b v : Value} (hp : p.Ok) (hv : BdV w B v p) :
    Calls Tryz.prog 57 #[.agg (ipB p o b), v] w fun e w' => ∃ u, e = .returned (.tuple #[u, .int .i64 (flErr p)]) ∧ FlV w' w.heap.size u (flFl p) ∧ Below w.heap.size w w' := by
  have hM : Mem w (((w.alloc (.cells (ipB p o b) ipT)).alloc (.cells flZ flT)).alloc (.cells (flA p.proto p.src 0 p.dst 0 0 (.slice none 0 0)) flT)) [(w.heap.size, .cells (ipB p o b) ipT), (w.heap.size + 1, .cells flZ flT), (w.heap.size + 2, .cells (flA p.proto p.src 0 p.dst 0 0 (.slice none 0 0)) flT)] :=
    (((Mem.nil w).push1 rfl).push2 (by simp)).push3 (by simp)
  have HM0 : Hid _ := hM
  clear hM
  rcases hv with ⟨e, u, rfl, hu⟩ | ⟨e, u, rfl, hu⟩ | ⟨e, u, rfl, hu⟩
  · have HE : Hid (flErr p = 0) := by show _ = _; unfold flErr; rw [if_pos e]
    have HF : Hid (flFl p = ⟨p.proto, ⟨p.src, (udRes p.body).src⟩, ⟨p.dst, (udRes p.body).dst⟩, 0, []⟩) := by show _ = _; unfold flFl; rw [if_pos e]
    obtain ⟨bo, cb, rfl, -⟩ := hu
    have hta := assert_udp (.agg (udA (udRes p.body).src (udRes p.body).dst (udRes p.body).sum (.slice bo (udRes p.body).body.length cb)))
    clear hp
    generalize flErr p = E at *
    generalize flFl p = F at *
    obtain ⟨tos, ttl, proto, id, flags, off, src, dst, opts, body⟩ := p
    simp only at e HF HM0 hta ⊢
    subst e
    generalize (udRes body).src = us at *
    generalize (udRes body).dst = ud at *
    generalize (udRes body).sum = uc at *
    generalize (udRes body).body.length = un at *
    go_enter Tryz.func57, Tryz.ntmps57
    go_upto_region 2 with fail
    refine wp_letter (fun W => Mem w W [(w.heap.size, .cells (ipA tos ttl 17 id flags off src dst o b) ipT), (w.heap.size + 1, .cells flZ flT), (w.heap.size + 2, .cells (flA 17 src 0 dst 0 0 (.slice none 0 0)) flT)]) HM0.out ?_
    intro w1 hM1
    have HM1 : Hid _ := hM1
    have k2 : w1.cell? ⟨w.heap.size, 2, none⟩ = some (.int .u8 17) := hM1.cell 0 rfl 2
    clear hM1 HM0
    go_upto_region 5 with fail
    refine wp_letter (fun W => Mem w W [(w.heap.size, .cells (ipA tos ttl 17 id flags off src dst o b) ipT), (w.heap.size + 1, .cells flZ flT), (w.heap.size + 2, .cells (flA 17 src 0 dst 0 0 (.slice none 0 0)) flT), (w1.heap.size, .cells (udA us ud uc (.slice bo un cb)) udT)]) (HM1.out.push4 rfl) ?_
    intro w2 hM2
    have HM2 : Hid _ := hM2
    have a0 : w2.cell? ⟨w1.heap.size, 0, none⟩ = some (.int .u16 us) := hM2.cell 3 rfl 0
    have a1 : w2.cell? ⟨w1.heap.size, 1, none⟩ = some (.int .u16 ud) := hM2.cell 3 rfl 1
    have kc : ∀ i, w2.cell? ⟨w.heap.size + 2, i, none⟩ = (flA 17 src 0 dst 0 0 (.slice none 0 0))[i]? := hM2.cell 2 rfl
    have kf : ∀ i, w2.frozen? ⟨w.heap.size + 2, i, none⟩ = false := hM2.free 2 rfl
    have hne : w.heap.size + 2 ≠ w1.heap.size := hM2.ne 2 3 rfl rfl (by decide)
    have hne' : w1.heap.size ≠ w.heap.size + 2 := fun e => hne e.symm
    clear hM2 HM1 k2
    generalize w1.heap.size = G at *
    go_region_held3 (fun w' => w'.cell? ⟨G, 0, none⟩ = some (.int .u16 us) ∧ w'.cell? ⟨G, 1, none⟩ = some (.int .u16 ud)) (go_keep) (fail)
    all_goals
      go_upto_region 6 with fail
      refine wp_letter (fun W => Mem w W [(w.heap.size, .cells (ipA tos ttl 17 id flags off src dst o b) ipT), (w.heap.size + 1, .cells flZ flT), (w.heap.size + 2, .cells (flA 17 src us dst ud 0 (.slice none 0 0)) flT (0, 0)), (G, .cells (udA us ud uc (.slice bo un cb)) udT)]) (by first | exact ((HM2.out.drew.set 2 rfl 2 _).set 2 rfl 4 _) | exact ((HM2.out.drew.set 2 rfl 4 _).set 2 rfl 2 _)) ?_
      intro w3 hM3
      have HM3 : Hid _ := hM3
      clear kc kf
      have kc : ∀ i, w3.cell? ⟨w.heap.size + 2, i, none⟩ = (flA 17 src us dst ud 0 (.slice none 0 0))[i]? := hM3.cell 2 rfl
      have kr : ∀ i, w3.cell? ⟨w.heap.size + 1, i, none⟩ = flZ[i]? := hM3.cell 1 rfl
      have kf : ∀ i, w3.frozen? ⟨w.heap.size + 1, i, none⟩ = false := hM3.free 1 rfl
      clear hM3
      go_wp2_with fail
      refine bodyPost_ret (v := .tuple #[.agg (flA 17 src us dst ud 0 (.slice none 0 0)), .int .i64 0]) (by simp [results, Tryz.results57, go_sem, kr]) rfl ⟨_, by rw [HE.out], ?_, ?_⟩
      · rw [HF.out]
        exact ⟨_, rfl, pts_nil _ _⟩
      · repeat (refine below_set ?_ (by omega))
        exact HM3.out.below
  · have HE : Hid (flErr p = 0) := by show _ = _; unfold flErr; rw [if_neg (by omega), if_pos e]
    have HF : Hid (flFl p = ⟨p.proto, ⟨p.src, (tcRes p.body).src⟩, ⟨p.dst, (tcRes p.body).dst⟩, (tcRes p.body).flags, []⟩) := by show _ = _; unfold flFl; rw [if_neg (by omega), if_pos e]
    obtain ⟨ao, co, bo, cb, rfl, -⟩ := hu
    obtain ⟨q, hq⟩ : ∃ q, tcRes p.body = q := ⟨_, rfl⟩
    rw [hq] at HF ⊢
    have hta := assert_tcp (.agg (tcB q ao q.opts.length co bo q.body.length cb))
    clear hp hq
    generalize flErr p = E at *
    generalize flFl p = F at *
    obtain ⟨tos, ttl, proto, id, flags, off, src, dst, opts, body⟩ := p
    simp only at e HF HM0 hta ⊢
    subst e
    obtain ⟨us, ud, sq, ak, fl, wi, uc, ur, op, bd⟩ := q
    simp only at HF hta ⊢
    generalize op.length = on at *
    generalize bd.length = un at *
    go_enter Tryz.func57, Tryz.ntmps57
    go_upto_region 2 with fail
    refine wp_letter (fun W => Mem w W [(w.heap.size, .cells (ipA tos ttl 6 id flags off src dst o b) ipT), (w.heap.size + 1, .cells flZ flT), (w.heap.size + 2, .cells (flA 6 src 0 dst 0 0 (.slice none 0 0)) flT)]) HM0.out ?_
    intro w1 hM1
    have HM1 : Hid _ := hM1
    have k2 : w1.cell? ⟨w.heap.size, 2, none⟩ = some (.int .u8 6) := hM1.cell 0 rfl 2
    clear hM1 HM0
    go_upto_region 9 with fail
    refine wp_letter (fun W => Mem w W [(w.heap.size, .cells (ipA tos ttl 6 id flags off src dst o b) ipT), (w.heap.size + 1, .cells flZ flT), (w.heap.size + 2, .cells (flA 6 src 0 dst 0 0 (.slice none 0 0)) flT), (w1.heap.size, .cells (tcA us ud sq ak fl wi uc ur (.slice ao on co) (.slice bo un cb)) tcT)]) (HM1.out.push4 rfl) ?_
    intro w2 hM2
    have HM2 : Hid _ := hM2
    have a0 : w2.cell? ⟨w1.heap.size, 0, none⟩ = some (.int .u16 us) := hM2.cell 3 rfl 0
    have a1 : w2.cell? ⟨w1.heap.size, 1, none⟩ = some (.int .u16 ud) := hM2.cell 3 rfl 1
    have a4 : w2.cell? ⟨w1.heap.size, 4, none⟩ = some (.int .u8 fl) := hM2.cell 3 rfl 4
    have kc : ∀ i, w2.cell? ⟨w.heap.size + 2, i, none⟩ = (flA 6 src 0 dst 0 0 (.slice none 0 0))[i]? := hM2.cell 2 rfl
    have kf : ∀ i, w2.frozen? ⟨w.heap.size + 2, i, none⟩ = false := hM2.free 2 rfl
    have hne : w.heap.size + 2 ≠ w1.heap.size := hM2.ne 2 3 rfl rfl (by decide)
    have hne' : w1.heap.size ≠ w.heap.size + 2 := fun e => hne e.symm
    clear hM2 HM1 k2
    generalize w1.heap.size = G at *
    go_region_held3 (fun w' => w'.cell? ⟨G, 0, none⟩ = some (.int .u16 us) ∧ w'.cell? ⟨G, 1, none⟩ = some (.int .u16 ud) ∧ w'.cell? ⟨G, 4, none⟩ = some (.int .u8 fl)) (go_keep) (fail)
    all_goals
      go_upto_region 10 with fail
      refine wp_letter (fun W => Mem w W [(w.heap.size, .cells (ipA tos ttl 6 id flags off src dst o b) ipT), (w.heap.size + 1, .cells flZ flT), (w.heap.size + 2, .cells (flA 6 src us dst ud fl (.slice none 0 0)) flT (0, 0)), (G, .cells (tcA us ud sq ak fl wi uc ur (.slice ao on co) (.slice bo un cb)) tcT)]) (by first | exact (((HM2.out.drew.set 2 rfl 2 _).set 2 rfl 4 _).set 2 rfl 5 _)) ?_
      intro w3 hM3
      have HM3 : Hid _ := hM3
      clear kc kf
      have kc : ∀ i, w3.cell? ⟨w.heap.size + 2, i, none⟩ = (flA 6 src us dst ud fl (.slice none 0 0))[i]? := hM3.cell 2 rfl
      have kr : ∀ i, w3.cell? ⟨w.heap.size + 1, i, none⟩ = flZ[i]? := hM3.cell 1 rfl
      have kf : ∀ i, w3.frozen? ⟨w.heap.size + 1, i, none⟩ = false := hM3.free 1 rfl
      clear hM3
      go_wp2_with fail
      refine bodyPost_ret (v := .tuple #[.agg (flA 6 src us dst ud fl (.slice none 0 0)), .int .i64 0]) (by simp [results, Tryz.results57, go_sem, kr]) rfl ⟨_, by rw [HE.out], ?_, ?_⟩
      · rw [HF.out]
        exact ⟨_, rfl, pts_nil _ _⟩
      · repeat (refine below_set ?_ (by omega))
        exact HM3.out.below
  · have HE : Hid (flErr p = mfErr (mgRes p.body)) := by show _ = _; unfold flErr; rw [if_neg (by omega), if_neg (by omega)]
    have HF : Hid (flFl p = mfFl (fl0 p) (mgRes p.body)) := by show _ = _; unfold flFl; rw [if_neg (by omega), if_neg (by omega)]
    have hta := assert_icmp u
    have HC : Hid (∀ W, Below w.heap.size w W → Calls Tryz.prog 82 #[.agg (flA p.proto p.src 0 p.dst 0 0 (.slice none 0 0)), u] W fun e w' => ∃ ia il ic, e = .returned (.tuple #[.agg (flB (flFl p) (.slice ia il ic)), .int .i64 (flErr p)]) ∧ PtsV w' W.heap.size (.slice ia il ic) (flFl p).inner ∧ Below W.heap.size W w') := fun W hb => by
      rw [HE.out, HF.out]
      refine (mflow_any (mgRes_ok hp.body) (hu.below hb (Nat.le_refl _)) (fl0 p) rfl).mono ?_
      rintro e w' ⟨u', rfl, hf, hb'⟩
      obtain ⟨ia, ic, rfl, hpt⟩ := hf.open
      exact ⟨ia, _, ic, rfl, hpt, hb'⟩
    clear hp HE HF hu
    generalize flErr p = E at *
    generalize flFl p = F at *
    obtain ⟨tos, ttl, proto, id, flags, off, src, dst, opts, body⟩ := p
    simp only at e HC HM0 hta ⊢
    subst e
    go_enter Tryz.func57, Tryz.ntmps57
    go_upto_region 2 with fail
    refine wp_letter (fun W => Mem w W [(w.heap.size, .cells (ipA tos ttl 1 id flags off src dst o b) ipT), (w.heap.size + 1, .cells flZ flT), (w.heap.size + 2, .cells (flA 1 src 0 dst 0 0 (.slice none 0 0)) flT)]) HM0.out ?_
    intro w1 hM1
    have HM1 : Hid (Mem w w1.drew _) := hM1.drew
    have k2 : w1.cell? ⟨w.heap.size, 2, none⟩ = some (.int .u8 1) := hM1.cell 0 rfl 2
    have f0 : w1.cell? ⟨w.heap.size + 2, 0, none⟩ = some (.int .u8 1) := hM1.cell 2 rfl 0
    have f1 : w1.cell? ⟨w.heap.size + 2, 1, none⟩ = some (.int .u32 src) := hM1.cell 2 rfl 1
    have f2 : w1.cell? ⟨w.heap.size + 2, 2, none⟩ = some (.int .u16 0) := hM1.cell 2 rfl 2
    have f3 : w1.cell? ⟨w.heap.size + 2, 3, none⟩ = some (.int .u32 dst) := hM1.cell 2 rfl 3
    have f4 : w1.cell? ⟨w.heap.size + 2, 4, none⟩ = some (.int .u16 0) := hM1.cell 2 rfl 4
    have f5 : w1.cell? ⟨w.heap.size + 2, 5, none⟩ = some (.int .u8 0) := hM1.cell 2 rfl 5
    have f6 : w1.cell? ⟨w.heap.size + 2, 6, none⟩ = some (.slice none 0 0) := hM1.cell 2 rfl 6
    clear hM1 HM0
    go_upto_region 11 with fail
    go_region_held3 (fun w' => w'.cell? ⟨w.heap.size + 2, 0, none⟩ = some (.int .u8 1) ∧ w'.cell? ⟨w.heap.size + 2, 1, none⟩ = some (.int .u32 src) ∧ w'.cell? ⟨w.heap.size + 2, 2, none⟩ = some (.int .u16 0) ∧ w'.cell? ⟨w.heap.size + 2, 3, none⟩ = some (.int .u32 dst) ∧ w'.cell? ⟨w.heap.size + 2, 4, none⟩ = some (.int .u16 0) ∧ w'.cell? ⟨w.heap.size + 2, 5, none⟩ = some (.int .u8 0) ∧ w'.cell? ⟨w.heap.size + 2, 6, none⟩ = some (.slice none 0 0))
      (first | go_keep | exact ⟨hM2.cell 2 rfl 0, hM2.cell 2 rfl 1, hM2.cell 2 rfl 2, hM2.cell 2 rfl 3, hM2.cell 2 rfl 4, hM2.cell 2 rfl 5, hM2.cell 2 rfl 6⟩)
      (first
        | (go_at_call 82; with_reducible refine (HC.out _ HM1.out.below).mono ?_; rintro e w2 ⟨ia, il, ic, rfl, hpt, hb2⟩; have hM2 := HM1.out.after hb2; have kr : ∀ i, w2.cell? ⟨w.heap.size + 1, i, none⟩ = flZ[i]? := hM2.cell 1 rfl; have kf : ∀ i, w2.frozen? ⟨w.heap.size + 1, i, none⟩ = false := hM2.free 1 rfl))
    all_goals
      have hlt : w.heap.size + 1 < w1.drew.heap.size := HM1.out.lt (p := (w.heap.size + 1, .cells flZ flT)) (List.mem_cons_of_mem _ (List.mem_cons_self ..))
      have HM2 : Hid (Mem w w2 _) := hM2
      have HPT : Hid (PtsV w2 (w.heap.size + 2) (.slice ia il ic) F.inner) := hpt.mono hlt
      clear hM2 hb2 HM1 hpt hlt f0 f1 f2 f3 f4 f5 f6 k2
      go_wp2_with fail
      refine bodyPost_ret (v := .tuple #[.agg (flB F (.slice ia il ic)), .int .i64 E]) (by simp [results, Tryz.results57, go_sem, kr]) rfl ⟨_, rfl, ?_, ?_⟩
      · refine ⟨.slice ia il ic, rfl, PtsV.mono (C := w.heap.size + 2) ?_ (by omega)⟩
        repeat (refine PtsV.far ?_ (Nat.lt_succ_self _))
        exact HPT.out
      · repeat (refine below_set ?_ (by omega))
        exact HM2.out.below
end Go.Proofs.YtjalpbkfpjfigaaGreat

