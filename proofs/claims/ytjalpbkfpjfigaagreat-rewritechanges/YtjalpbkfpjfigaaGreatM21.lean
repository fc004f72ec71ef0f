/-
  The walk of ip.Bytes.
  What the document's own lychref1.Ip answers.
-/
import Derived.Test.YtjalpbkfpjfigaaGreatM20
import Derived.Test.YtjalpbkfpjfigaaGreatM03
import Derived.Test.YtjalpbkfpjfigaaGreatM08
import Derived.Test.YtjalpbkfpjfigaaGreatM19
import Derived.Test.YtjalpbkfpjfigaaGreatM06
namespace Go.Proofs.YtjalpbkfpjfigaaGreat
open Go.RowKit
open Sm
set_option linter.unusedVariables false
set_option maxRecDepth 20000

/-- A header without its options, with x, y for its checksum. -/
def h20 (hd N : Nat) (tos ttl proto id fo src dst x y : Int) : List Int :=
  [64 + (hd : Int) / 4, tos, (N : Int) / 256, (N : Int) % 256, id / 256, id % 256, fo / 256, fo % 256, ttl, proto, x, y,
   src / 16777216, src / 65536 % 256, src / 256 % 256, src % 256, dst / 16777216, dst / 65536 % 256, dst / 256 % 256, dst % 256]
theorem h20_len (hd N : Nat) (tos ttl proto id fo src dst x y : Int) : (h20 hd N tos ttl proto id fo src dst x y).length = 20 := rfl
set_option maxRecDepth 20000 in
set_option maxHeartbeats 1000000 in
theorem blz_head (hd N r : Nat) (hr : N = 20 + r) (tos ttl proto id fo src dst : Int) :
    blz N [(0, 64 + (hd : Int) / 4), (1, tos), (2, (N : Int) / 256), (3, (N : Int) % 256), (4, id / 256), (5, id % 256), (6, fo / 256), (7, fo % 256), (8, ttl), (9, proto),
      (12, src / 16777216), (13, src / 65536 % 256), (14, src / 256 % 256), (15, src % 256), (16, dst / 16777216), (17, dst / 65536 % 256), (18, dst / 256 % 256), (19, dst % 256)] = h20 hd N tos ttl proto id fo src dst 0 0 ++ List.replicate r 0 := by
  have e : List.replicate N (0 : Int) = List.replicate 20 0 ++ List.replicate r 0 := by rw [hr, List.replicate_append_replicate]
  unfold blz
  rw [e]
  generalize List.replicate r (0 : Int) = R
  simp only [List.foldl_cons, List.foldl_nil, List.replicate, List.cons_append, List.nil_append, List.set_cons_zero, List.set_cons_succ, h20]

theorem putWord_l {w W : World} {L : List (Nat × Obj)} (hM : Mem w W L) (i : Nat) {g : Nat} {l : List Int} (hi : L[i]? = some (g, .cells (bs l) 5 (0, 0))) (j : Nat) (hj : j + 1 < l.length) (n c : Nat) (hn : 2 ≤ n) (x : Int) (r0 : 0 ≤ x) (r1 : x ≤ 65535) :
    Calls Tryz.prog 63 #[.slice (some ⟨g, j, none⟩) n c, .int .u16 x] W fun e w' => e = .returned (.tuple #[]) ∧ Mem w w' (L.set i (g, .cells (bs ((l.set j (x / 256)).set (j + 1) (x % 256))) 5 (0, 0))) := by
  refine (putWord_ok _ _ ((hM.cell i hi j).trans (bs_get (by omega))) ((hM.cell i hi (j + 1)).trans (bs_get hj)) (hM.free i hi) n c hn x r0 r1).mono ?_
  rintro e w' ⟨rfl, rfl⟩
  refine ⟨rfl, ?_⟩
  have h1 := hM.set i hi j (.int .u8 (x / 256))
  have hil := (List.getElem?_eq_some_iff.mp hi).1
  rw [bs_set] at h1
  have h2 := h1.set i (by rw [List.getElem?_set_self hil]) (j + 1) (.int .u8 (x % 256))
  rw [List.set_set, bs_set] at h2
  exact h2

theorem sm_64or (x : Int) (h0 : 0 ≤ x) (h1 : x ≤ 15) : bits .or .u8 64 x = 64 + x := bits_join .u8 8 (by decide) wraps_u8 5 64 x (by omega) (by omega) (by omega) h0 (by omega) (by omega)
theorem sm_fo (f o : Int) (h0 : 0 ≤ f) (h1 : f ≤ 7) (h2 : 0 ≤ o) (h3 : o ≤ 8191) : bits .or .u16 (f * 8192) o = f * 8192 + o :=
  bits_join .u16 16 (by decide) wraps_u16 13 (f * 8192) o (by omega) (by omega) (by omega) h2 (by omega) (by omega)

theorem h20_set (hd N : Nat) (tos ttl proto id fo src dst x y : Int) (r q : List Int) : ((h20 hd N tos ttl proto id fo src dst 0 0 ++ r ++ q).set 10 x).set (10 + 1) y = h20 hd N tos ttl proto id fo src dst x y ++ r ++ q := by
  simp only [h20, List.cons_append, List.nil_append, List.set_cons_zero, List.set_cons_succ, Nat.reduceAdd]

set_option maxRecDepth 20000 in
set_option maxHeartbeats 4000000 in
theorem bytes_ok {w : World} {ao bo : Option Addr} {opts body : List Int} (ho : Row w ao opts) (hb : Row w bo body) (o bl hd N Q : Nat) (eo : opts.length = o) (eb : body.length = bl) (ehd : hd = 20 + o) (eN : N = hd + bl) (eQ : 4 * Q = hd) (h40 : o ≤ 40) (hN : N ≤ 65535)
    (co cb : Nat) (tos ttl proto id flags off src dst : Int) (r1 : 0 ≤ id ∧ id ≤ 65535) (r2 : 0 ≤ flags ∧ flags ≤ 7) (r3 : 0 ≤ off ∧ off ≤ 8191) (r4 : 0 ≤ src ∧ src ≤ 4294967295) (r5 : 0 ≤ dst ∧ dst ≤ 4294967295) (hby : IsBytes (h20 hd N tos ttl proto id (flags * 8192 + off) src dst 0 0 ++ opts ++ body)) (C : Int) (hC : ofv (h20 hd N tos ttl proto id (flags * 8192 + off) src dst 0 0 ++ opts) = C) :
    Calls Tryz.prog 30 #[.agg (ipA tos ttl proto id flags off src dst (.slice ao o co) (.slice bo bl cb))] w fun r w' => ∃ u, r = .returned (.tuple #[u, .int .i64 0]) ∧
      w'.ownsRow w.heap.size 5 1 u N ((h20 hd N tos ttl proto id (flags * 8192 + off) src dst (C / 256) (C % 256) ++ opts ++ body).map (Value.int .u8)) ∧ Below w.heap.size w w' := by
  have o4 : (o : Int) % 4 = 0 := by omega
  have o4t : (o : Int).tmod 4 = 0 := by rw [Int.tmod_eq_emod_of_nonneg (by omega)]; exact o4
  have oi : (o : Int) ≤ 40 := by omega
  obtain ⟨r10, r11⟩ := r1
  obtain ⟨r20, r21⟩ := r2
  obtain ⟨r30, r31⟩ := r3
  have bi : (bl : Int) ≤ 65535 - hd := by omega
  have hdi : (hd : Int) ≤ 60 := by omega
  have hd20 : (20 : Int) ≤ hd := by omega
  have ehi : (20 : Int) + o = hd := by omega
  have HEH : Hid ((20 : Int) + o = hd) := ehi
  have eNi : (hd : Int) + bl = N := by omega
  have HEN : Hid ((hd : Int) + bl = N) := eNi
  have hmk : ∀ W : World, (Instr.makeSlice 22 (.int .i64 ((hd : Int) + bl)) (.int .i64 ((hd : Int) + bl))).run Tryz.prog W = .ok (.slice (some ⟨W.heap.size, 0, none⟩) N N) (W.alloc (.cells (madeCells #[.int .u8 0] N) 5)) := by
    rw [eNi]; exact make_bytes N (by omega)
  have HS : Hid (Row w ao opts ∧ Row w bo body ∧ opts.length = o ∧ body.length = bl ∧ hd = 20 + o ∧ N = hd + bl ∧ 4 * Q = hd) := ⟨ho, hb, eo, eb, ehd, eN, eQ⟩
  have HI : Hid ((0 ≤ src ∧ src ≤ 4294967295) ∧ 0 ≤ dst ∧ dst ≤ 4294967295) := ⟨r4, r5⟩
  have hor := sm_64or ((hd : Int) / 4) (by omega) (by omega)
  have hq8 := wrap8_small ((hd : Int) / 4) (by omega) (by omega)
  have hNw := wrap16_small (N : Int) (by omega) (by omega)
  have hfw := wrap16_small flags r20 (by omega)
  have hfw2 := wrap16_small (flags * 8192) (by omega) (by omega)
  have hfo := sm_fo flags off r20 r21 r30 r31
  have N20 : 20 ≤ N := by omega
  have HNN : Hid (20 ≤ N ∧ N ≤ 65535 ∧ 20 ≤ hd ∧ hd ≤ 60 ∧ hd ≤ N) := ⟨N20, hN, by omega, by omega, by omega⟩
  have m2 : (2 : Int) ≤ N := by omega
  have l2 : (2 : Int) < N := by omega
  have e2 : ¬ N = 2 := by omega
  have m4 : (4 : Int) ≤ N := by omega
  have l4 : (4 : Int) < N := by omega
  have e4 : ¬ N = 4 := by omega
  have m6 : (6 : Int) ≤ N := by omega
  have l6 : (6 : Int) < N := by omega
  have e6 : ¬ N = 6 := by omega
  have m10 : (10 : Int) ≤ N := by omega
  have l10 : (10 : Int) < N := by omega
  have e10 : ¬ N = 10 := by omega
  have m12 : (12 : Int) ≤ N := by omega
  have l12 : (12 : Int) < N := by omega
  have e12 : ¬ N = 12 := by omega
  have m16 : (16 : Int) ≤ N := by omega
  have l16 : (16 : Int) < N := by omega
  have e16 : ¬ N = 16 := by omega
  have l1 : (1 : Int) < N := by omega
  have l8 : (8 : Int) < N := by omega
  have l9 : (9 : Int) < N := by omega
  have N0 : 0 < N := by omega
  clear N20
  have cr := ofv_range (h20 hd N tos ttl proto id (flags * 8192 + off) src dst 0 0 ++ opts)
  rw [hC] at cr
  obtain ⟨cr0, cr1⟩ := cr
  have HBy : Hid (IsBytes (h20 hd N tos ttl proto id (flags * 8192 + off) src dst 0 0 ++ opts ++ body) ∧ ofv (h20 hd N tos ttl proto id (flags * 8192 + off) src dst 0 0 ++ opts) = C) := ⟨hby, hC⟩
  have mh : (hd : Int) ≤ N := by omega
  have m20 : (20 : Int) ≤ N := by omega
  clear ho hb eo eb ehd eN eQ r4 r5 ehi eNi hby hC
  go_enter Tryz.func30, Tryz.ntmps30
  go_upto_region 4 with fail
  rw [HEH.out]
  go_upto_region 7 with fail
  refine wp_letter (fun W => Mem w W [(w.heap.size, .cells (ipA tos ttl proto id flags off src dst (.slice ao o co) (.slice bo bl cb)) ipT (0, 0)), (w.heap.size + 1, .cells (bs (blz N [])) 5 (0, 0))]) (by rw [show blz N [] = List.replicate N 0 from rfl, ← bs_made]; exact ((Mem.nil w).push w.heap.size _ rfl).push (w.heap.size + 1) _ (by simp)) ?_
  intro w1 hM1
  have HM1 : Hid _ := hM1
  obtain ⟨z0, k0⟩ := hM1.spot 1 rfl 0 (by have := HNN.out; omega)
  obtain ⟨z1, k1⟩ := hM1.spot 1 rfl 1 (by have := HNN.out; omega)
  have kf : ∀ i, w1.frozen? ⟨w.heap.size + 1, i, none⟩ = false := hM1.free 1 rfl
  have ka : w1.cell? ⟨w.heap.size, 0, none⟩ = some (.int .u8 tos) := hM1.cell 0 rfl 0
  clear hM1
  go_upto_region 9 with fail
  refine wp_letter (fun W => Mem w W [(w.heap.size, .cells (ipA tos ttl proto id flags off src dst (.slice ao o co) (.slice bo bl cb)) ipT (0, 0)), (w.heap.size + 1, .cells (bs (blz N [(0, 64 + (hd : Int) / 4), (1, tos)])) 5 (0, 0))]) ((HM1.out.put 1 rfl 0 _).put 1 rfl 1 _) ?_
  intro w2 hM2
  have HM2 : Hid _ := hM2
  clear hM2 HM1 k0 k1 kf ka
  go_wp2_with fail
  refine (putWord_at HM2.out 1 rfl 2 (by have := HNN.out; omega) (N - 2) (N - 2) (by have := HNN.out; omega) (N : Int) (by omega) (by omega)).mono ?_
  rintro e w3 ⟨rfl, hM3⟩
  have HM3 : Hid (Mem w w3 [(w.heap.size, .cells (ipA tos ttl proto id flags off src dst (.slice ao o co) (.slice bo bl cb)) ipT (0, 0)), (w.heap.size + 1, .cells (bs (blz N [(0, 64 + (hd : Int) / 4), (1, tos), (2, (N : Int) / 256), (3, (N : Int) % 256)])) 5 (0, 0))]) := hM3
  clear hM3 HM2
  go_upto_region 10 with fail
  go_cut [] from 6 (fun wx => Mem w wx [(w.heap.size, .cells (ipA tos ttl proto id flags off src dst (.slice ao o co) (.slice bo bl cb)) ipT (0, 0)), (w.heap.size + 1, .cells (bs (blz N [(0, 64 + (hd : Int) / 4), (1, tos), (2, (N : Int) / 256), (3, (N : Int) % 256), (4, id / 256), (5, id % 256)])) 5 (0, 0))])
  case first =>
    have a3 : w3.cell? ⟨w.heap.size, 3, none⟩ = some (.int .u16 id) := HM3.out.cell 0 rfl 3
    go_region_held3 (fun w' => w'.cell? ⟨w.heap.size, 3, none⟩ = some (.int .u16 id))
      (first | go_keep | exact hMn.cell 0 rfl 3)
      (first | (go_at_call 63; refine (putWord_at HM3.out.drew 1 rfl 4 (by have := HNN.out; omega) (N - 4) (N - 4) (by have := HNN.out; omega) id r10 r11).mono ?_; rintro e wn ⟨rfl, hMn⟩))
    all_goals
      go_wp2_with fail
      go_meet
      case rel => exact hMn
  case rest =>
  have HM4 : Hid _ := hcut
  clear hcut HM3
  go_upto_region 11 with fail
  go_cut [] from 6 (fun wx => Mem w wx [(w.heap.size, .cells (ipA tos ttl proto id flags off src dst (.slice ao o co) (.slice bo bl cb)) ipT (0, 0)), (w.heap.size + 1, .cells (bs (blz N [(0, 64 + (hd : Int) / 4), (1, tos), (2, (N : Int) / 256), (3, (N : Int) % 256), (4, id / 256), (5, id % 256), (6, (flags * 8192 + off) / 256), (7, (flags * 8192 + off) % 256)])) 5 (0, 0))])
  case first =>
    have a4 : wc.cell? ⟨w.heap.size, 4, none⟩ = some (.int .u8 flags) := HM4.out.cell 0 rfl 4
    have a5 : wc.cell? ⟨w.heap.size, 5, none⟩ = some (.int .u16 off) := HM4.out.cell 0 rfl 5
    go_region_held3 (fun w' => w'.cell? ⟨w.heap.size, 4, none⟩ = some (.int .u8 flags) ∧ w'.cell? ⟨w.heap.size, 5, none⟩ = some (.int .u16 off))
      (first | go_keep | exact ⟨hMn.cell 0 rfl 4, hMn.cell 0 rfl 5⟩)
      (first | (go_at_call 63; refine (putWord_at HM4.out.drew 1 rfl 6 (by have := HNN.out; omega) (N - 6) (N - 6) (by have := HNN.out; omega) (flags * 8192 + off) (by omega) (by omega)).mono ?_; rintro e wn ⟨rfl, hMn⟩))
    all_goals
      go_wp2_with fail
      go_meet
      case rel => exact hMn
  case rest =>
  have HM5 : Hid _ := hcut
  clear hcut HM4
  go_upto_region 12 with fail
  go_cut [] from 6 (fun wx => Mem w wx [(w.heap.size, .cells (ipA tos ttl proto id flags off src dst (.slice ao o co) (.slice bo bl cb)) ipT (0, 0)), (w.heap.size + 1, .cells (bs (blz N [(0, 64 + (hd : Int) / 4), (1, tos), (2, (N : Int) / 256), (3, (N : Int) % 256), (4, id / 256), (5, id % 256), (6, (flags * 8192 + off) / 256), (7, (flags * 8192 + off) % 256), (8, ttl), (9, proto)])) 5 (0, 0))])
  case first =>
    have a1 : wc.cell? ⟨w.heap.size, 1, none⟩ = some (.int .u8 ttl) := HM5.out.cell 0 rfl 1
    have a2 : wc.cell? ⟨w.heap.size, 2, none⟩ = some (.int .u8 proto) := HM5.out.cell 0 rfl 2
    obtain ⟨z8, k8⟩ := HM5.out.spot 1 rfl 8 (by have := HNN.out; omega)
    obtain ⟨z9, k9⟩ := HM5.out.spot 1 rfl 9 (by have := HNN.out; omega)
    have kf : ∀ i, wc.frozen? ⟨w.heap.size + 1, i, none⟩ = false := HM5.out.free 1 rfl
    go_region_held3 (fun w' => w'.cell? ⟨w.heap.size, 1, none⟩ = some (.int .u8 ttl) ∧ w'.cell? ⟨w.heap.size, 2, none⟩ = some (.int .u8 proto)) (go_keep) (fail)
    all_goals
      go_wp2_with fail
      go_meet
      case rel => exact (HM5.out.drew.put 1 rfl 8 ttl).put 1 rfl 9 proto
  case rest =>
  have HM6 : Hid _ := hcut
  clear hcut HM5
  go_upto_region 13 with fail
  go_cut [] from 6 (fun wx => Mem w wx [(w.heap.size, .cells (ipA tos ttl proto id flags off src dst (.slice ao o co) (.slice bo bl cb)) ipT (0, 0)), (w.heap.size + 1, .cells (bs (blz N [(0, 64 + (hd : Int) / 4), (1, tos), (2, (N : Int) / 256), (3, (N : Int) % 256), (4, id / 256), (5, id % 256), (6, (flags * 8192 + off) / 256), (7, (flags * 8192 + off) % 256), (8, ttl), (9, proto), (12, src / 16777216), (13, src / 65536 % 256), (14, src / 256 % 256), (15, src % 256)])) 5 (0, 0))])
  case first =>
    have a6 : wc.cell? ⟨w.heap.size, 6, none⟩ = some (.int .u32 src) := HM6.out.cell 0 rfl 6
    go_region_held3 (fun w' => w'.cell? ⟨w.heap.size, 6, none⟩ = some (.int .u32 src))
      (first | go_keep | exact hMn.cell 0 rfl 6)
      (first | (go_at_call 64; refine (putLong_at HM6.out.drew 1 rfl 12 (by have := HNN.out; omega) (N - 12) (N - 12) (by have := HNN.out; omega) (Nat.le_refl _) src HI.out.1.1 HI.out.1.2).mono ?_; rintro e wn ⟨rfl, hMn⟩))
    all_goals
      go_wp2_with fail
      go_meet
      case rel => exact hMn
  case rest =>
  have HM7 : Hid _ := hcut
  clear hcut HM6
  go_upto_region 14 with fail
  go_cut [] from 6 (fun wx => Mem w wx [(w.heap.size, .cells (ipA tos ttl proto id flags off src dst (.slice ao o co) (.slice bo bl cb)) ipT (0, 0)), (w.heap.size + 1, .cells (bs (blz N [(0, 64 + (hd : Int) / 4), (1, tos), (2, (N : Int) / 256), (3, (N : Int) % 256), (4, id / 256), (5, id % 256), (6, (flags * 8192 + off) / 256), (7, (flags * 8192 + off) % 256), (8, ttl), (9, proto), (12, src / 16777216), (13, src / 65536 % 256), (14, src / 256 % 256), (15, src % 256), (16, dst / 16777216), (17, dst / 65536 % 256), (18, dst / 256 % 256), (19, dst % 256)])) 5 (0, 0))])
  case first =>
    have a7 : wc.cell? ⟨w.heap.size, 7, none⟩ = some (.int .u32 dst) := HM7.out.cell 0 rfl 7
    go_region_held3 (fun w' => w'.cell? ⟨w.heap.size, 7, none⟩ = some (.int .u32 dst))
      (first | go_keep | exact hMn.cell 0 rfl 7)
      (first | (go_at_call 64; refine (putLong_at HM7.out.drew 1 rfl 16 (by have := HNN.out; omega) (N - 16) (N - 16) (by have := HNN.out; omega) (Nat.le_refl _) dst HI.out.2.1 HI.out.2.2).mono ?_; rintro e wn ⟨rfl, hMn⟩))
    all_goals
      go_wp2_with fail
      go_meet
      case rel => exact hMn
  case rest =>
  have HM8 : Hid _ := hcut
  clear hcut HM7
  have HM9 : Hid (Mem w wc [(w.heap.size, .cells (ipA tos ttl proto id flags off src dst (.slice ao o co) (.slice bo bl cb)) ipT (0, 0)), (w.heap.size + 1, .cells (bs (h20 hd N tos ttl proto id (flags * 8192 + off) src dst 0 0 ++ List.replicate o 0 ++ List.replicate bl 0)) 5 (0, 0))]) := by
    have h := HM8.out
    have q := HS.out
    rw [blz_head hd N (o + bl) (by omega), ← List.replicate_append_replicate, ← List.append_assoc] at h
    exact h
  clear HM8
  have HP1 : Hid (∀ dp, (0 < o → dp = some (⟨w.heap.size + 1, 20, none⟩ : Addr)) → (0 < opts.length → dp = some ⟨w.heap.size + 1, 20, none⟩ ∧ ∃ ad, ao = some ad ∧ ∀ j v, (opts.map (Value.int .u8))[j]? = some v → wc.drew.cell? (ad.add j) = some v)) := by
    intro dp hdp hp
    have q := HS.out
    have hr := HM9.out.drew.row q.1
    refine ⟨hdp (by omega), ?_⟩
    rcases hr.cells with e | ⟨b', off', e', hc⟩
    · rw [e] at hp; simp at hp
    · subst e'; exact ⟨_, rfl, hr.news⟩
  have HL1 : Hid (opts.length = o) := HS.out.2.2.1
  have HF1 : Hid (20 + opts.length ≤ (bs (h20 hd N tos ttl proto id (flags * 8192 + off) src dst 0 0 ++ List.replicate o 0 ++ List.replicate bl 0)).size) := by
    show 20 + opts.length ≤ _
    rw [bs_size, HL1.out]; simp [h20_len]
  have HW1 : Hid ((bs (h20 hd N tos ttl proto id (flags * 8192 + off) src dst 0 0 ++ opts ++ List.replicate bl 0)).toList = (bs (h20 hd N tos ttl proto id (flags * 8192 + off) src dst 0 0 ++ List.replicate o 0 ++ List.replicate bl 0)).toList.take 20 ++ (opts.map (Value.int .u8) ++ (bs (h20 hd N tos ttl proto id (flags * 8192 + off) src dst 0 0 ++ List.replicate o 0 ++ List.replicate bl 0)).toList.drop (20 + opts.length))) := bs_fill (h20 hd N tos ttl proto id (flags * 8192 + off) src dst 0 0) opts (List.replicate bl 0) (List.replicate o 0) (by rw [HL1.out]; simp)
  have a8 : wc.cell? ⟨w.heap.size, 8, none⟩ = some (.slice ao o co) := HM9.out.cell 0 rfl 8
  go_upto_region 15 with fail
  go_cut [4, 5] from 6 (fun s4 s5 wx => s4 = .int .i64 (hd : Int) ∧ s5 = .slice (some ⟨w.heap.size + 1, 0, none⟩) N N ∧ Mem w wx [(w.heap.size, .cells (ipA tos ttl proto id flags off src dst (.slice ao o co) (.slice bo bl cb)) ipT (0, 0)), (w.heap.size + 1, .cells (bs (h20 hd N tos ttl proto id (flags * 8192 + off) src dst 0 0 ++ opts ++ List.replicate bl 0)) 5 (0, 0))])
  case first =>
    have hcs : N = 20 ∨ 20 < N := by have := HNN.out; omega
    rcases hcs with e20 | e20
    · have HO0 : Hid (o = 0) := by have q := HS.out; show o = 0; omega
      go_region_held3 (fun w' => w'.cell? ⟨w.heap.size, 8, none⟩ = some (.slice ao o co))
        (first | go_keep | exact (HM9.out.drew.wrote 1 rfl hwn).cell 0 rfl 8)
        (first | (refine step_copy_bytes rfl (.tmp 93) (.tmp 95) 22 22 rfl Tryz.underlying22 (some ⟨w.heap.size + 1, 0, none⟩) ao 0 0 o co (by simp [Act.eval]) (by simp [Act.eval]) (w.heap.size + 1) 20 _ (bs (h20 hd N tos ttl proto id (flags * 8192 + off) src dst 0 0 ++ opts ++ List.replicate bl 0)) 5 (HM9.out.drew.get 1 rfl) opts (by rw [HL1.out, HO0.out]; rfl) (HP1.out _ (fun h => by rw [HO0.out] at h; cases h)) HF1.out HW1.out ?_; intro wn hwn))
      all_goals
        go_wp2_with fail
        go_meet
        case rel => exact ⟨rfl, by rw [e20], HM9.out.drew.wrote 1 rfl hwn⟩
    · have l20 : (20 : Int) < N := by omega
      have n20 : ¬ N = 20 := by omega
      go_region_held3 (fun w' => w'.cell? ⟨w.heap.size, 8, none⟩ = some (.slice ao o co))
        (first | go_keep | exact (HM9.out.drew.wrote 1 rfl hwn).cell 0 rfl 8)
        (first | (refine step_copy_bytes rfl (.tmp 93) (.tmp 95) 22 22 rfl Tryz.underlying22 (some ⟨w.heap.size + 1, 20, none⟩) ao (N - 20) (N - 20) o co (by simp [Act.eval]) (by simp [Act.eval]) (w.heap.size + 1) 20 _ (bs (h20 hd N tos ttl proto id (flags * 8192 + off) src dst 0 0 ++ opts ++ List.replicate bl 0)) 5 (HM9.out.drew.get 1 rfl) opts (by rw [HL1.out]; have q := HS.out; exact (Nat.min_eq_left (by omega)).symm) (HP1.out _ (fun h => rfl)) HF1.out HW1.out ?_; intro wn hwn))
      all_goals
        go_wp2_with fail
        go_meet
        case rel => exact ⟨rfl, rfl, HM9.out.drew.wrote 1 rfl hwn⟩
  case rest =>
  obtain ⟨rfl, rfl, hM10⟩ := hcut
  have HM10 : Hid (Mem w wc [(w.heap.size, .cells (ipA tos ttl proto id flags off src dst (.slice ao o co) (.slice bo bl cb)) ipT (0, 0)), (w.heap.size + 1, .cells (bs (h20 hd N tos ttl proto id (flags * 8192 + off) src dst 0 0 ++ opts ++ List.replicate bl 0)) 5 (0, 0))]) := hM10
  clear hM10 HP1 HL1 HF1 HW1 a8 HM9
  have HP1 : Hid (∀ dp, (0 < bl → dp = some (⟨w.heap.size + 1, hd, none⟩ : Addr)) → (0 < body.length → dp = some ⟨w.heap.size + 1, hd, none⟩ ∧ ∃ ad, bo = some ad ∧ ∀ j v, (body.map (Value.int .u8))[j]? = some v → wc.drew.cell? (ad.add j) = some v)) := by
    intro dp hdp hp
    have q := HS.out
    have hr := HM10.out.drew.row q.2.1
    refine ⟨hdp (by omega), ?_⟩
    rcases hr.cells with e | ⟨b', off', e', hc⟩
    · rw [e] at hp; simp at hp
    · subst e'; exact ⟨_, rfl, hr.news⟩
  have HL1 : Hid (body.length = bl) := HS.out.2.2.2.1
  have HF1 : Hid (hd + body.length ≤ (bs (h20 hd N tos ttl proto id (flags * 8192 + off) src dst 0 0 ++ opts ++ List.replicate bl 0)).size) := by
    have q := HS.out
    show hd + body.length ≤ _
    rw [bs_size, HL1.out]; simp [h20_len]; omega
  have HW1 : Hid ((bs (h20 hd N tos ttl proto id (flags * 8192 + off) src dst 0 0 ++ opts ++ body)).toList = (bs (h20 hd N tos ttl proto id (flags * 8192 + off) src dst 0 0 ++ opts ++ List.replicate bl 0)).toList.take hd ++ (body.map (Value.int .u8) ++ (bs (h20 hd N tos ttl proto id (flags * 8192 + off) src dst 0 0 ++ opts ++ List.replicate bl 0)).toList.drop (hd + body.length))) := by
    have q := HS.out
    have hl : (h20 hd N tos ttl proto id (flags * 8192 + off) src dst 0 0 ++ opts).length = hd := by rw [List.length_append, h20_len]; omega
    have h := bs_fill (h20 hd N tos ttl proto id (flags * 8192 + off) src dst 0 0 ++ opts) body [] (List.replicate bl 0) (by rw [HL1.out]; simp)
    rw [List.append_nil, List.append_nil, hl] at h
    exact h
  have a9 : wc.cell? ⟨w.heap.size, 9, none⟩ = some (.slice bo bl cb) := HM10.out.cell 0 rfl 9
  go_upto_region 16 with fail
  go_cut [5] from 6 (fun s5 wx => s5 = .slice (some ⟨w.heap.size + 1, 0, none⟩) N N ∧ Mem w wx [(w.heap.size, .cells (ipA tos ttl proto id flags off src dst (.slice ao o co) (.slice bo bl cb)) ipT (0, 0)), (w.heap.size + 1, .cells (bs (h20 hd N tos ttl proto id (flags * 8192 + off) src dst 0 0 ++ opts ++ body)) 5 (0, 0))])
  case first =>
    have hcs : N = hd ∨ hd < N := by have := HNN.out; omega
    rcases hcs with e20 | e20
    · have HO0 : Hid (bl = 0) := by have q := HS.out; show bl = 0; omega
      go_region_held3 (fun w' => w'.cell? ⟨w.heap.size, 9, none⟩ = some (.slice bo bl cb))
        (first | go_keep | exact (HM10.out.drew.wrote 1 rfl hwn).cell 0 rfl 9)
        (first | (refine step_copy_bytes rfl (.tmp 99) (.tmp 101) 22 22 rfl Tryz.underlying22 (some ⟨w.heap.size + 1, 0, none⟩) bo 0 0 bl cb (by simp [Act.eval]) (by simp [Act.eval]) (w.heap.size + 1) hd _ (bs (h20 hd N tos ttl proto id (flags * 8192 + off) src dst 0 0 ++ opts ++ body)) 5 (HM10.out.drew.get 1 rfl) body (by rw [HL1.out, HO0.out]; rfl) (HP1.out _ (fun h => by rw [HO0.out] at h; cases h)) HF1.out HW1.out ?_; intro wn hwn))
      all_goals
        go_wp2_with fail
        go_meet
        case rel => exact ⟨by rw [e20], HM10.out.drew.wrote 1 rfl hwn⟩
    · have l20 : (hd : Int) < N := by omega
      have n20 : ¬ hd = N := by omega
      have n21 : ¬ N = hd := by omega
      go_region_held3 (fun w' => w'.cell? ⟨w.heap.size, 9, none⟩ = some (.slice bo bl cb))
        (first | go_keep | exact (HM10.out.drew.wrote 1 rfl hwn).cell 0 rfl 9)
        (first | (refine step_copy_bytes rfl (.tmp 99) (.tmp 101) 22 22 rfl Tryz.underlying22 (some ⟨w.heap.size + 1, hd, none⟩) bo (N - hd) (N - hd) bl cb (by simp [Act.eval]) (by simp [Act.eval]) (w.heap.size + 1) hd _ (bs (h20 hd N tos ttl proto id (flags * 8192 + off) src dst 0 0 ++ opts ++ body)) 5 (HM10.out.drew.get 1 rfl) body (by rw [HL1.out]; have q := HS.out; exact (Nat.min_eq_left (by omega)).symm) (HP1.out _ (fun h => rfl)) HF1.out HW1.out ?_; intro wn hwn))
      all_goals
        go_wp2_with fail
        go_meet
        case rel => exact ⟨rfl, HM10.out.drew.wrote 1 rfl hwn⟩
  case rest =>
  obtain ⟨rfl, hM11⟩ := hcut
  have HM11 : Hid (Mem w wc [(w.heap.size, .cells (ipA tos ttl proto id flags off src dst (.slice ao o co) (.slice bo bl cb)) ipT (0, 0)), (w.heap.size + 1, .cells (bs (h20 hd N tos ttl proto id (flags * 8192 + off) src dst 0 0 ++ opts ++ body)) 5 (0, 0))]) := hM11
  clear hM11 HP1 HL1 HF1 HW1 a9 HM10
  have HLz : Hid ((h20 hd N tos ttl proto id (flags * 8192 + off) src dst 0 0 ++ opts ++ body).length = N) := by
    have q := HS.out
    show (h20 hd N tos ttl proto id (flags * 8192 + off) src dst 0 0 ++ opts ++ body).length = N
    rw [List.length_append, List.length_append, h20_len]; omega
  have hof : Calls Tryz.prog 65 #[.slice (some ⟨w.heap.size + 1, 0, none⟩) hd N] wc.drew fun e w' => e = .returned (.int .u16 C) ∧ wc.drew = w' := by
    have q := HS.out
    have hl : (h20 hd N tos ttl proto id (flags * 8192 + off) src dst 0 0 ++ opts).length = hd := by rw [List.length_append, h20_len]; omega
    have hr := (HM11.out.drew.own 1 rfl HBy.out.1 (by rw [HLz.out]; have := HNN.out; omega)).part 0 hd (by rw [HLz.out]; have := HNN.out; omega)
    rw [List.drop_zero, List.take_append_of_le_length (by rw [hl]; exact Nat.le_refl _), List.take_of_length_le (by rw [hl]; exact Nat.le_refl _)] at hr
    have := of_any hr N
    rw [hl, HBy.out.2] at this
    exact this
  go_upto_region 17 with fail
  go_cut [] from 6 (fun wx => Mem w wx [(w.heap.size, .cells (ipA tos ttl proto id flags off src dst (.slice ao o co) (.slice bo bl cb)) ipT (0, 0)), (w.heap.size + 1, .cells (bs (h20 hd N tos ttl proto id (flags * 8192 + off) src dst (C / 256) (C % 256) ++ opts ++ body)) 5 (0, 0))])
  case first =>
    have a9 : wc.cell? ⟨w.heap.size, 9, none⟩ = some (.slice bo bl cb) := HM11.out.cell 0 rfl 9
    go_region_held3 (fun w' => w'.cell? ⟨w.heap.size, 9, none⟩ = some (.slice bo bl cb)) (first | go_keep | exact hMn.cell 0 rfl 9)
      (first
        | (go_at_call 65; refine hof.mono ?_; rintro e w' ⟨rfl, rfl⟩)
        | (go_at_call 63; refine (putWord_l HM11.out.drew 1 rfl 10 (by rw [HLz.out]; have := HNN.out; omega) (N - 10) (N - 10) (by have := HNN.out; omega) C cr0 cr1).mono ?_; rintro e wn ⟨rfl, hMn⟩))
    all_goals
      go_wp2_with fail
      go_meet
      case rel =>
        rw [h20_set] at hMn
        exact hMn
  case rest =>
  have HM12 : Hid (Mem w wc [(w.heap.size, .cells (ipA tos ttl proto id flags off src dst (.slice ao o co) (.slice bo bl cb)) ipT (0, 0)), (w.heap.size + 1, .cells (bs (h20 hd N tos ttl proto id (flags * 8192 + off) src dst (C / 256) (C % 256) ++ opts ++ body)) 5 (0, 0))]) := hcut
  clear hcut HM11 hof
  go_wp2_with fail
  go_ret2
  refine ⟨_, rfl, mem_owns HM12.out 1 rfl N ?_ (by have := HNN.out; omega), HM12.out.below⟩
  have q := HS.out
  rw [List.length_append, List.length_append, h20_len]; omega
end Go.Proofs.YtjalpbkfpjfigaaGreat

namespace Go.Proofs.YtjalpbkfpjfigaaGreat
open Go.RowKit
open Sm
set_option linter.unusedVariables false
set_option maxRecDepth 20000

set_option maxHeartbeats 1000000 in
theorem rip_few (w : World) (a : Option Addr) (n c : Nat) (h : n < 20) :
    Calls Tryz.prog 44 #[.slice a n c] w fun e w' => e = .returned (.tuple #[.agg ip0, .int .i64 20]) ∧ Below w.heap.size w w' := by
  have h' : (n : Int) < 20 := by omega
  go_enter Tryz.func44, Tryz.ntmps44
  go_wp2
  refine bodyPost_ret (v := .tuple #[.agg ip0, .int .i64 20]) (by simp [results, Tryz.results44, go_sem]) rfl ⟨rfl, ?_⟩
  exact (Below.refl _ _).alloc (Nat.le_refl _) _

theorem ip_e21 {l : List Int} (h20 : 20 ≤ l.length) (h : ¬ (l.getD 0 0 / 16 = 4 ∧ 20 ≤ hdl l ∧ hdl l ≤ whl l)) : ipErr l = 21 ∧ ipRes l = Pk.zero := by
  have e : ipErr l = 21 := by unfold ipErr; rw [if_neg (by omega), if_pos h]
  exact ⟨e, if_neg (by omega)⟩
theorem ip_e20 {l : List Int} (h20 : 20 ≤ l.length) (h : l.getD 0 0 / 16 = 4 ∧ 20 ≤ hdl l ∧ hdl l ≤ whl l) (h2 : l.length < hdl l ∨ l.length < whl l) : ipErr l = 20 ∧ ipRes l = Pk.zero := by
  have e : ipErr l = 20 := by unfold ipErr; rw [if_neg (by omega), if_neg (fun c => c h), if_pos h2]
  exact ⟨e, if_neg (by omega)⟩
theorem ip_e22 {l : List Int} (h20 : 20 ≤ l.length) (h : l.getD 0 0 / 16 = 4 ∧ 20 ≤ hdl l ∧ hdl l ≤ whl l) (h2 : ¬ (l.length < hdl l ∨ l.length < whl l)) (h3 : foldv (tot (l.take (hdl l)) (cnt (hdl l))) ≠ 65535) : ipErr l = 22 ∧ ipRes l = Pk.zero := by
  have e : ipErr l = 22 := by unfold ipErr; rw [if_neg (by omega), if_neg (fun c => c h), if_neg h2, if_pos h3]
  exact ⟨e, if_neg (by omega)⟩
theorem ip_e0 {l : List Int} (h20 : 20 ≤ l.length) (h : l.getD 0 0 / 16 = 4 ∧ 20 ≤ hdl l ∧ hdl l ≤ whl l) (h2 : ¬ (l.length < hdl l ∨ l.length < whl l)) (h3 : foldv (tot (l.take (hdl l)) (cnt (hdl l))) = 65535) : ipErr l = 0 ∧ ipRes l = ipPk l := by
  have e : ipErr l = 0 := by unfold ipErr; rw [if_neg (by omega), if_neg (fun c => c h), if_neg h2, if_neg (fun c => c h3)]
  exact ⟨e, if_pos e⟩

set_option maxRecDepth 20000 in
set_option maxHeartbeats 4000000 in
theorem rip_bad {w : World} {b off n c : Nat} {l : List Int} (hr : Row w (some ⟨b, off, none⟩) l) (hn : l.length = n) (hc : n ≤ c) (h20 : 20 ≤ n) (hbad : ipErr l ≠ 0) :
    Calls Tryz.prog 44 #[.slice (some ⟨b, off, none⟩) n c] w fun r w' => ∃ v, r = .returned (.tuple #[v, .int .i64 (ipErr l)]) ∧ IpV w' w.heap.size v (ipRes l) ∧ Below w.heap.size w w' := by
  have hln := hr.len
  have r0 := hr.bytes 0
  have hb : b < w.heap.size := cell_lt (hr.cellAt 0 (by omega))
  have c0 : w.cell? ⟨b, off, none⟩ = some (.int .u8 (l.getD 0 0)) := hr.cellAt 0 (by omega)
  have hand := sm_low4 _ r0.1 r0.2
  obtain ⟨k, hk⟩ : ∃ k : Nat, l.getD 0 0 % 16 = k := ⟨(l.getD 0 0 % 16).toNat, by omega⟩
  rw [hk] at hand
  have hm : hdl l = 4 * k := by unfold hdl; omega
  have hw2 := w16_range hr.bytes 2
  obtain ⟨wl, hwl⟩ : ∃ wl : Nat, w16 l 2 = wl := ⟨(w16 l 2).toNat, by omega⟩
  have hwh : whl l = wl := by unfold whl; omega
  have g2 : ∀ W L, Mem w W L → Calls Tryz.prog 41 #[.slice (some ⟨b, off, none⟩) n c, .int .i64 2] W fun e w' => e = .returned (.int .u16 (wl : Int)) ∧ Mem w w' L := fun W L hM => by
    have := get16_mem hM hr 2 n c hn (by omega)
    rw [hwl] at this
    exact this
  obtain ⟨x0, hx0⟩ : ∃ x0, l.getD 0 0 = x0 := ⟨_, rfl⟩
  rw [hx0] at c0 hand r0
  obtain ⟨r00, r01⟩ := r0
  have v3 := wrap64_small (k : Int) (by omega) (by omega)
  have v4 := wrap64_small ((k : Int) * 4) (by omega) (by omega)
  have v5 := wrap64_small (wl : Int) (by omega) (by omega)
  have e4 : (k : Int) * 4 = ((4 * k : Nat) : Int) := by omega
  have HE4 : Hid ((k : Int) * 4 = ((4 * k : Nat) : Int)) := e4
  have k15 : k ≤ 15 := by omega
  have hwm : wl ≤ 65535 := by omega
  obtain ⟨m, hmm⟩ : ∃ m, m = 4 * k := ⟨_, rfl⟩
  have hm60 : m ≤ 60 := by omega
  have HK : Hid (((4 * k : Nat) : Int) = (m : Int)) := by show _ = _; rw [hmm]
  have HM4 : Hid (m = 4 * k) := hmm
  have HR : Hid (Row w (some ⟨b, off, none⟩) l ∧ l.length = n ∧ n ≤ c ∧ hdl l = m ∧ whl l = wl ∧ l.getD 0 0 = x0 ∧ n ≤ 140737488351232) := ⟨hr, hn, hc, by omega, hwh, hx0, by omega⟩
  have i0 : (0 : Int) < n := by omega
  have i0n : 0 < n := by omega
  have HN : Hid (20 ≤ n ∧ wl ≤ 65535 ∧ m ≤ 60) := ⟨h20, hwm, hm60⟩
  have h20' : (20 : Int) ≤ n := by omega
  clear hr hn hc h20 hln hk hm hw2 hwl hwh hx0 e4 k15 hwm hmm hm60
  go_enter Tryz.func44, Tryz.ntmps44
  go_upto_region 3 with fail
  go_cut [4, 5] from 7 (fun s4 s5 wx => s4 = .int .i64 (m : Int) ∧ s5 = .int .i64 (wl : Int) ∧ Mem w wx [(w.heap.size, .cells ip0 ipT)])
  case first =>
    have hM1 : Mem w (w.alloc (.cells ip0 ipT)) [(w.heap.size, .cells ip0 ipT)] := (Mem.nil w).push w.heap.size _ rfl
    have d0 := (hM1.old (i := off) hb).trans c0
    have HM1 : Hid _ := hM1.drew
    clear hM1
    go_region_held3 (fun w' => w'.cell? ⟨b, off, none⟩ = some (.int .u8 x0))
      (first | go_keep | exact (hM2.old hb).trans c0)
      (first | (go_at_call 41; refine (g2 _ _ HM1.out).mono ?_; rintro e w2 ⟨rfl, hM2⟩))
    all_goals
      go_wp2_with fail
      go_meet
      case rel => exact ⟨by rw [HE4.out, HK.out], rfl, hM2⟩
  case rest =>
    obtain ⟨rfl, rfl, hM2⟩ := hcut
    have d0 := (hM2.old (i := off) hb).trans c0
    have HM2 : Hid _ := hM2
    have kr : ∀ i, wc.cell? ⟨w.heap.size, i, none⟩ = ip0[i]? := hM2.cell 0 rfl
    have kf : ∀ i, wc.frozen? ⟨w.heap.size, i, none⟩ = false := hM2.free 0 rfl
    have hbz : Below w.heap.size w wc := hM2.below
    clear hM2 hand v3 v4 v5 g2 HE4 HK HM4
    by_cases hform : x0 / 16 = 4 ∧ 20 ≤ m ∧ m ≤ wl
    · obtain ⟨f1, f2, f3⟩ := hform
      have HF : Hid (x0 / 16 = 4 ∧ 20 ≤ m ∧ m ≤ wl) := ⟨f1, f2, f3⟩
      have f2' : (20 : Int) ≤ (m : Int) := by omega
      have f3' : (m : Int) ≤ wl := by omega
      by_cases hshort : n < m ∨ n < wl
      · have HZ : Hid (ipErr l = 20 ∧ ipRes l = Pk.zero) := by
          obtain ⟨-, q1, q2, q3, q4, q5, -⟩ := HR.out
          exact ip_e20 (by have := HN.out; omega) (by rw [q3, q4, q5]; exact HF.out) (by omega)
        have cs : (n : Int) < m ∨ ((m : Int) ≤ n ∧ (n : Int) < wl) := by omega
        clear hshort HM2
        rcases cs with c1 | ⟨c1, c2⟩
        all_goals
          go_wp2_with fail
          refine bodyPost_ret (v := .tuple #[.agg ip0, .int .i64 20]) (by simp [results, Tryz.results44, go_sem, kr]) rfl ⟨_, by rw [HZ.out.1], by rw [HZ.out.2]; exact ipv_zero _ _, ?_⟩
          iterate 10 (refine below_set ?_ (Nat.le_refl _))
          exact hbz
      · have hnm : m ≤ n := by omega
        have hnw : wl ≤ n := by omega
        have hadd : Calls Tryz.prog 68 #[.int .u32 0, .slice (some ⟨b, off, none⟩) m c] wc fun e w' => e = .returned (.int .u32 (acc (l.take m) 0 (cnt m))) ∧ Below wc.heap.size wc w' := by
          obtain ⟨q0, q1, q2, q3, q4, q5, -⟩ := HR.out
          have hlt : (l.take m).length = m := by rw [List.length_take]; omega
          have hrh : Row w (some ⟨b, off, none⟩) (l.take m) := by
            have := q0.part 0 m (by omega)
            simpa using this
          have := radd_any (HM2.out.row hrh) (by rw [hlt]; have := HN.out; omega) c 0 (by omega) (by omega)
          rw [hlt] at this
          exact this
        have hsr : 0 ≤ acc (l.take m) 0 (cnt m) ∧ acc (l.take m) 0 (cnt m) ≤ 4294967295 := by
          obtain ⟨q0, q1, q2, q3, q4, q5, -⟩ := HR.out
          exact acc_range (by have := (q0.part 0 m (by omega)).bytes; simpa using this) 0 (by omega) (by omega) _
        have HFo : Hid (foldv (acc (l.take m) 0 (cnt m)) = foldv (tot (l.take m) (cnt m))) := by
          obtain ⟨q0, q1, q2, q3, q4, q5, -⟩ := HR.out
          show _ = _
          rw [foldv_acc (by have := (q0.part 0 m (by omega)).bytes; simpa using this) 0 (by omega) (by omega), Int.zero_add]
        generalize acc (l.take m) 0 (cnt m) = S at *
        obtain ⟨s0, s1⟩ := hsr
        have hfold := fold_any S
        obtain ⟨T, hT⟩ : ∃ T, foldv S = T := ⟨_, rfl⟩
        have HT : Hid (foldv S = T) := hT
        have c1 : (m : Int) ≤ n := by omega
        have c2 : (wl : Int) ≤ n := by omega
        have c3 : (m : Int) ≤ c := by have := HR.out.2.2.1; omega
        have HNM : Hid (m ≤ n ∧ wl ≤ n) := ⟨hnm, hnw⟩
        clear hT hnm hnw hshort
        by_cases hsum : T = 65535
        · have HZ : Hid (ipErr l = 0 ∧ ipRes l = ipPk l) := by
            obtain ⟨-, q1, q2, q3, q4, q5, -⟩ := HR.out
            exact ip_e0 (by have := HN.out; omega) (by rw [q3, q4, q5]; exact HF.out) (by have := HNM.out; omega) (by rw [q3, ← HFo.out, HT.out]; exact hsum)
          exact absurd HZ.out.1 hbad
        · have HZ : Hid (ipErr l = 22 ∧ ipRes l = Pk.zero) := by
            obtain ⟨-, q1, q2, q3, q4, q5, -⟩ := HR.out
            exact ip_e22 (by have := HN.out; omega) (by rw [q3, q4, q5]; exact HF.out) (by have := HNM.out; omega) (by rw [q3, ← HFo.out, HT.out]; exact hsum)
          go_wp2_with fail
          refine hadd.mono ?_
          rintro e w3 ⟨rfl, hb3⟩
          have HM3 : Hid _ := HM2.out.after hb3
          clear hb3 hadd HM2 kr kf d0 hbz
          go_wp2_with fail
          refine (rfold_any S _ s0 s1).mono ?_
          rintro e w' ⟨rfl, rfl⟩
          rw [HT.out]
          have kr : ∀ i, w3.cell? ⟨w.heap.size, i, none⟩ = ip0[i]? := HM3.out.cell 0 rfl
          have kf : ∀ i, w3.frozen? ⟨w.heap.size, i, none⟩ = false := HM3.out.free 0 rfl
          go_wp2_with fail
          refine bodyPost_ret (v := .tuple #[.agg ip0, .int .i64 22]) (by simp [results, Tryz.results44, go_sem, kr]) rfl ⟨_, by rw [HZ.out.1], by rw [HZ.out.2]; exact ipv_zero _ _, ?_⟩
          iterate 10 (refine below_set ?_ (Nat.le_refl _))
          exact HM3.out.below
    · have HZ : Hid (ipErr l = 21 ∧ ipRes l = Pk.zero) := by
        obtain ⟨-, q1, q2, q3, q4, q5, -⟩ := HR.out
        exact ip_e21 (by have := HN.out; omega) (by rw [q3, q4, q5]; exact hform)
      have cs : x0 / 16 ≠ 4 ∨ (x0 / 16 = 4 ∧ (m : Int) < 20) ∨ (x0 / 16 = 4 ∧ (20 : Int) ≤ m ∧ (wl : Int) < m) := by omega
      clear hform HM2
      rcases cs with c1 | ⟨c1, c2⟩ | ⟨c1, c2, c3⟩
      all_goals
        go_wp2_with fail
        refine bodyPost_ret (v := .tuple #[.agg ip0, .int .i64 21]) (by simp [results, Tryz.results44, go_sem, kr]) rfl ⟨_, by rw [HZ.out.1], by rw [HZ.out.2]; exact ipv_zero _ _, ?_⟩
        iterate 10 (refine below_set ?_ (Nat.le_refl _))
        exact hbz
end Go.Proofs.YtjalpbkfpjfigaaGreat

