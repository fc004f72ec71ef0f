/-
  What the document's own lychref1.IpBytes answers.
  Points: two are one; lychhelp.Points answers true of like lists.
  The statements' known packet: what it is, and what is told of it.
-/
import Derived.Test.YtjalpbkfpjfigaaGreatM23
import Derived.Test.YtjalpbkfpjfigaaGreatM20
import Derived.Test.YtjalpbkfpjfigaaGreatM06
import Derived.Test.YtjalpbkfpjfigaaGreatM24
import Derived.LoopN
import Derived.Laws.StructEq
namespace Go.Proofs.YtjalpbkfpjfigaaGreat
open Go.RowKit
open Sm
set_option linter.unusedVariables false
set_option maxRecDepth 20000

set_option maxHeartbeats 400000 in
/-- Put16 turns no block but the row's own. -/
theorem put16_fr {w : World} {B n : Nat} {v : Value} {xs : List Value} (h : w.ownsRow B 5 1 v n xs) (hB : B ≤ w.heap.size) (hn : n ≤ 1000000) (x : Int) (r0 : 0 ≤ x) (r1 : x ≤ 65535) :
    Calls Tryz.prog 52 #[v, .int .u16 x] w fun e w' => ∃ v', e = .returned v' ∧ w'.ownsRow B 5 1 v' (n + 2) (xs ++ [.int .u8 (x / 256), .int .u8 (x % 256)]) ∧ Below B w w' ∧ ∀ k, k < w.heap.size → v.ownBlock ≠ some k → w'.heap[k]? = w.heap[k]? := by
  have u1 : IntKind.u8.wrap (x / 256) = x / 256 := wrap8_small _ (by omega) (by omega)
  have u2 : IntKind.u8.wrap x = x % 256 := by simp [IntKind.wrap, IntKind.bits, IntKind.signed]
  have HO : Hid (w.ownsRow B 5 1 v n xs) := h
  clear h
  have hb2 : IsBytes [x / 256, x % 256] := bytes_two (by omega) (by omega) (by omega) (by omega)
  have HB : Hid (IsBytes [x / 256, x % 256]) := hb2
  clear hb2
  go_enter Tryz.func52, Tryz.ntmps52
  go_wp2_with (at_builtin; refine wpList_append_bytesG _ rfl (.tmp 5) (.tmp 11) rfl B v n xs rfl (own_after HO.out ((Below.refl _ _).alloc (Nat.le_refl _) _) (Nat.le_refl _)) (some ⟨w.heap.size, 0, none⟩) 2 [x / 256, x % 256] rfl (fun e => by cases e) (row_lit w _ HB.out (by simp) 5) (by simp; omega) (by simp; omega) ?_; intro v1 w1 hown hgrow)
  go_ret
  refine ⟨_, rfl, hown, ((Below.refl _ _).alloc hB _).trans (own_grown (own_after HO.out ((Below.refl _ _).alloc (Nat.le_refl _) _) (Nat.le_refl _)) hgrow (by simp; omega)), fun k hk hne => ?_⟩
  rw [hgrow.block k (by simp; omega) (fun e => hne e.symm)]
  exact Below.heap_alloc _ _ _ hk

theorem put16_invf {w W : World} {pA : Array Value} {v : Value} {n : Nat} {L : List Int} (h : Inv ipT w W pA v n L) (hn : n ≤ 1000000) (x : Int) (r0 : 0 ≤ x) (r1 : x ≤ 65535) :
    Calls Tryz.prog 52 #[v, .int .u16 x] W fun e W' => ∃ v', e = .returned v' ∧ Inv ipT w W' pA v' (n + 2) (L ++ [x / 256, x % 256]) ∧ ∀ k, k < W.heap.size → v.ownBlock ≠ some k → W'.heap[k]? = W.heap[k]? := by
  refine (put16_fr h.own h.size hn x r0 r1).mono ?_
  rintro e W' ⟨v', rfl, ho, hb, hf⟩
  exact ⟨v', rfl, h.next (by rw [List.map_append]; exact ho) hb, hf⟩
/-- A literal laid ahead of the row's growing lies as it was. -/
theorem lit_kept {w W W' : World} {pA : Array Value} {v : Value} {n : Nat} {L : List Int} (h : Inv ipT w W pA v n L) (l : List Int) (hb : IsBytes l) (hl : l.length ≤ 140737488351232) (T : TypeId)
    (hf : ∀ k, k < (W.alloc (.cells (bs l) T)).heap.size → v.ownBlock ≠ some k → W'.heap[k]? = (W.alloc (.cells (bs l) T)).heap[k]?) : Row W' (some ⟨W.heap.size, 0, none⟩) l := by
  have hne : v.ownBlock ≠ some W.heap.size := by
    obtain ⟨-, h2⟩ := h.own
    rcases h2 with ⟨rfl, -⟩ | ⟨g, cap, cur, rfl, hg, hh, -⟩
    · simp [Value.ownBlock]
    · have : g < W.heap.size := (Array.getElem?_eq_some_iff.mp hh).1
      simp [Value.ownBlock]; omega
  have hk := hf W.heap.size (by simp) hne
  refine ⟨hb, hl, Or.inr ⟨_, 0, rfl, fun i hi => ?_⟩⟩
  rw [heap_alloc_new] at hk
  rw [cell_of hk, Nat.zero_add]; exact bs_get hi

theorem lit_kept2 {w W W' : World} {pA : Array Value} {v : Value} {n : Nat} {L : List Int} (h : Inv ipT w W pA v n L) {o : Obj} (hf : ∀ k, k < ((W.alloc o).drew).heap.size → v.ownBlock ≠ some k → W'.heap[k]? = ((W.alloc o).drew).heap[k]?) (l : List Int) (T : TypeId) (ho : o = .cells (bs l) T (0, 0)) (hb : IsBytes l) (hl : l.length ≤ 140737488351232) : Row W' (some ⟨W.heap.size, 0, none⟩) l := by
  subst ho; exact lit_kept h l hb hl T hf
theorem inv_lit {w W : World} {pA : Array Value} (hM : Mem w W [(w.heap.size, .cells pA ipT (0, 0))]) (hW : W.heap.size = w.heap.size + 1) (x y : Int) : Inv ipT w (W.alloc (.cells #[.int .u8 x, .int .u8 y] 5)) pA (.slice (some ⟨w.heap.size + 1, 0, none⟩) 2 2) 2 [x, y] := by
  have hK := hM.push (w.heap.size + 1) (.cells (bs [x, y]) 5 (0, 0)) hW.symm
  refine ⟨?_, hK.perm (List.Perm.swap _ _ _) |>.sub, by simp [hW]⟩
  refine ⟨rfl, Or.inr ⟨w.heap.size + 1, 2, bs [x, y], rfl, Nat.le_refl _, hK.get 1 rfl, Nat.le_refl _, by unfold maxLen; omega, rfl, rfl⟩⟩

set_option maxRecDepth 20000 in
set_option maxHeartbeats 4000000 in
theorem rbytes_ok {w : World} {ao bo : Option Addr} {opts body : List Int} (ho : Row w ao opts) (hb : Row w bo body) (o bl hd N Q : Nat) (eo : opts.length = o) (eb : body.length = bl) (ehd : hd = 20 + o) (eN : N = hd + bl) (eQ : 4 * Q = hd) (h40 : o ≤ 40) (hN : N ≤ 65535)
    (co cb : Nat) (hno : ao = none → co = 0) (hnb : bo = none → cb = 0) (tos ttl proto id flags off src dst : Int) (r1 : 0 ≤ id ∧ id ≤ 65535) (r2 : 0 ≤ flags ∧ flags ≤ 7) (r3 : 0 ≤ off ∧ off ≤ 8191) (r4 : 0 ≤ src ∧ src ≤ 4294967295) (r5 : 0 ≤ dst ∧ dst ≤ 4294967295) (r6 : 0 ≤ ttl ∧ ttl ≤ 255) (r7 : 0 ≤ proto ∧ proto ≤ 255)
    (hby : IsBytes (h20 hd N tos ttl proto id (flags * 8192 + off) src dst 0 0 ++ opts ++ body)) (C : Int) (hC : ofv (h20 hd N tos ttl proto id (flags * 8192 + off) src dst 0 0 ++ opts) = C) :
    Calls Tryz.prog 24 #[.agg (ipA tos ttl proto id flags off src dst (.slice ao o co) (.slice bo bl cb))] w fun r w' => ∃ u, r = .returned (.tuple #[u, .int .i64 0]) ∧
      w'.ownsRow w.heap.size 5 1 u N ((h20 hd N tos ttl proto id (flags * 8192 + off) src dst (C / 256) (C % 256) ++ opts ++ body).map (Value.int .u8)) ∧ Below w.heap.size w w' := by
  have o4 : (o : Int) % 4 = 0 := by omega
  have o4t : (o : Int).tmod 4 = 0 := by rw [Int.tmod_eq_emod_of_nonneg (by omega)]; exact o4
  have oi : (o : Int) ≤ 40 := by omega
  obtain ⟨r10, r11⟩ := r1
  obtain ⟨r20, r21⟩ := r2
  obtain ⟨r30, r31⟩ := r3
  have bi : (bl : Int) ≤ 65535 - hd := by omega
  have hdi : (hd : Int) ≤ 60 := by omega
  have hd20 : (20 : Int) ≤ hd := by omega
  have HEH : Hid ((20 : Int) + o = hd) := by show (20 : Int) + o = hd; omega
  have hor := sm_64or ((hd : Int) / 4) (by omega) (by omega)
  have hq8 := wrap8_small ((hd : Int) / 4) (by omega) (by omega)
  have eNi : (hd : Int) + bl = N := by omega
  have hNw : IntKind.u16.wrap ((hd : Int) + bl) = (hd : Int) + bl := wrap16_small _ (by omega) (by omega)
  have hNv : IntKind.i64.wrap ((hd : Int) + bl) = (hd : Int) + bl := wrap64_small _ (by omega) (by omega)
  have HEN : Hid ((hd : Int) + bl = N) := eNi
  have hfw := wrap16_small flags r20 (by omega)
  have hfw2 := wrap16_small (flags * 8192) (by omega) (by omega)
  have hfo := sm_fo flags off r20 r21 r30 r31
  have HS : Hid (Row w ao opts ∧ Row w bo body ∧ opts.length = o ∧ body.length = bl ∧ hd = 20 + o ∧ N = hd + bl ∧ 4 * Q = hd) := ⟨ho, hb, eo, eb, ehd, eN, eQ⟩
  have HI : Hid (((0 ≤ src ∧ src ≤ 4294967295) ∧ 0 ≤ dst ∧ dst ≤ 4294967295) ∧ (0 ≤ ttl ∧ ttl ≤ 255) ∧ 0 ≤ proto ∧ proto ≤ 255) := ⟨⟨r4, r5⟩, r6, r7⟩
  have HNN : Hid (20 ≤ N ∧ N ≤ 65535 ∧ 20 ≤ hd ∧ hd ≤ 60 ∧ hd ≤ N ∧ (ao = none → co = 0) ∧ (bo = none → cb = 0)) := ⟨by omega, hN, by omega, by omega, by omega, hno, hnb⟩
  have cr := ofv_range (h20 hd N tos ttl proto id (flags * 8192 + off) src dst 0 0 ++ opts)
  rw [hC] at cr
  obtain ⟨cr0, cr1⟩ := cr
  have HBy : Hid (IsBytes (h20 hd N tos ttl proto id (flags * 8192 + off) src dst 0 0 ++ opts ++ body) ∧ ofv (h20 hd N tos ttl proto id (flags * 8192 + off) src dst 0 0 ++ opts) = C) := ⟨hby, hC⟩
  have u1 : IntKind.u8.wrap (C / 256) = C / 256 := wrap8_small _ (by omega) (by omega)
  have u2 : IntKind.u8.wrap C = C % 256 := by simp [IntKind.wrap, IntKind.bits, IntKind.signed]
  clear ho hb eo eb ehd eN eQ r4 r5 r6 r7 eNi hby hC hno hnb
  go_enter Tryz.func24, Tryz.ntmps24
  go_upto_region 4 with fail
  rw [HEH.out]
  go_upto_region 7 with fail
  refine wp_letter (fun W => Inv ipT w W (ipA tos ttl proto id flags off src dst (.slice ao o co) (.slice bo bl cb)) (.slice (some ⟨w.heap.size + 1, 0, none⟩) 2 2) 2 [64 + (hd : Int) / 4, tos]) (inv_lit ((Mem.nil w).push w.heap.size _ rfl) (by simp) _ _) ?_
  intro w1 hI1
  have HI1 : Hid _ := hI1
  have D9 : w1.cell? ⟨w.heap.size, 9, none⟩ = some (.slice bo bl cb) := hI1.cell 9
  have D3 : w1.cell? ⟨w.heap.size, 3, none⟩ = some (.int .u16 id) := hI1.cell 3
  clear hI1
  go_cut [5] from 7 (fun s5 wx => Inv ipT w wx (ipA tos ttl proto id flags off src dst (.slice ao o co) (.slice bo bl cb)) s5 6 [64 + (hd : Int) / 4, tos, (N : Int) / 256, (N : Int) % 256, id / 256, id % 256])
  case first =>
    go_region_held3 (fun w' => w'.cell? ⟨w.heap.size, 9, none⟩ = some (.slice bo bl cb) ∧ w'.cell? ⟨w.heap.size, 3, none⟩ = some (.int .u16 id))
      (first | go_keep | exact ⟨hI5.cell 9, hI5.cell 3⟩ | exact ⟨hI6.cell 9, hI6.cell 3⟩)
      (first
        | (go_at_call 52; with_reducible refine (put16_inv HI1.out.drew (by omega) ((hd : Int) + bl) (by omega) (by omega)).mono ?_; rintro e w5 ⟨v5, rfl, hI5⟩)
        | (go_at_call 52; with_reducible refine (put16_inv hI5 (by omega) id r10 r11).mono ?_; rintro e w6 ⟨v6, rfl, hI6⟩))
    all_goals
      go_wp2_with fail
      go_meet
      case rel => rw [HEN.out] at hI6; exact hI6
  case rest =>
  have HI2 : Hid _ := hcut
  have D4 : wc.cell? ⟨w.heap.size, 4, none⟩ = some (.int .u8 flags) := hcut.cell 4
  have D5 : wc.cell? ⟨w.heap.size, 5, none⟩ = some (.int .u16 off) := hcut.cell 5
  have D1 : wc.cell? ⟨w.heap.size, 1, none⟩ = some (.int .u8 ttl) := hcut.cell 1
  have D2 : wc.cell? ⟨w.heap.size, 2, none⟩ = some (.int .u8 proto) := hcut.cell 2
  clear hcut D9 D3 HI1
  go_upto_region 8 with fail
  go_cut [5] from 7 (fun s5 wx => Inv ipT w wx (ipA tos ttl proto id flags off src dst (.slice ao o co) (.slice bo bl cb)) s5 12 [64 + (hd : Int) / 4, tos, (N : Int) / 256, (N : Int) % 256, id / 256, id % 256, (flags * 8192 + off) / 256, (flags * 8192 + off) % 256, ttl, proto, 0, 0])
  case first =>
    have HB4 : Hid (IsBytes [ttl, proto, 0, 0]) := bytes_four HI.out.2.1 HI.out.2.2 (by omega) (by omega)
    go_region_held3 (fun w' => w'.cell? ⟨w.heap.size, 4, none⟩ = some (.int .u8 flags) ∧ w'.cell? ⟨w.heap.size, 5, none⟩ = some (.int .u16 off) ∧ w'.cell? ⟨w.heap.size, 1, none⟩ = some (.int .u8 ttl) ∧ w'.cell? ⟨w.heap.size, 2, none⟩ = some (.int .u8 proto))
      (first | go_keep | exact ⟨hI5.cell 4, hI5.cell 5, hI5.cell 1, hI5.cell 2⟩ | exact ⟨(hI5.grows _).cell 4, (hI5.grows _).cell 5, (hI5.grows _).cell 1, (hI5.grows _).cell 2⟩ | exact ⟨(hbel6.cell (p := ⟨w.heap.size, 4, none⟩) (Nat.lt_succ_self _)).trans (hI5.cell 4), (hbel6.cell (p := ⟨w.heap.size, 5, none⟩) (Nat.lt_succ_self _)).trans (hI5.cell 5), (hbel6.cell (p := ⟨w.heap.size, 1, none⟩) (Nat.lt_succ_self _)).trans (hI5.cell 1), (hbel6.cell (p := ⟨w.heap.size, 2, none⟩) (Nat.lt_succ_self _)).trans (hI5.cell 2)⟩ | exact ⟨(hbel6.cell (p := ⟨w.heap.size, 4, none⟩) (Nat.lt_succ_self _)).trans ((hI5.grows _).cell 4), (hbel6.cell (p := ⟨w.heap.size, 5, none⟩) (Nat.lt_succ_self _)).trans ((hI5.grows _).cell 5), (hbel6.cell (p := ⟨w.heap.size, 1, none⟩) (Nat.lt_succ_self _)).trans ((hI5.grows _).cell 1), (hbel6.cell (p := ⟨w.heap.size, 2, none⟩) (Nat.lt_succ_self _)).trans ((hI5.grows _).cell 2)⟩)
      (first
        | (go_at_call 52; with_reducible refine (put16_inv HI2.out.drew (by omega) (flags * 8192 + off) (by omega) (by omega)).mono ?_; rintro e w5 ⟨v5, rfl, hI5⟩)
        | (refine step_append_bytes rfl (.tmp 64) (.tmp 69) rfl (w.heap.size + 1) v5 8 _ (by simp [Act.eval]) hI5.own (some ⟨wc.heap.size, 0, none⟩) 4 4 [ttl, proto, 0, 0] (by simp [Act.eval]) rfl (fun e => by cases e) hR5 (by omega) hI5.size ?_; intro v6 w6 hown6 hbel6)
        | (refine step_append_bytes rfl (.tmp 64) (.tmp 69) rfl (w.heap.size + 1) v5 8 _ (by simp [Act.eval]) (hI5.grows _).own (some ⟨w5.heap.size, 0, none⟩) 4 4 [ttl, proto, 0, 0] (by simp [Act.eval]) rfl (fun e => by cases e) (row_lit w5 _ HB4.out (by simp) 5) (by omega) (hI5.grows _).size ?_; intro v6 w6 hown6 hbel6)
        | (go_at_call 52; with_reducible refine (put16_invf (HI2.out.grows _).drew (by omega) (flags * 8192 + off) (by omega) (by omega)).mono ?_; rintro e w5 ⟨v5, rfl, hI5, hf5⟩; have hR5 : Row w5 (some ⟨wc.heap.size, 0, none⟩) [ttl, proto, 0, 0] := lit_kept2 HI2.out hf5 [ttl, proto, 0, 0] 5 rfl HB4.out (by simp)))
    all_goals
      go_wp2_with fail
      go_meet
      case rel => first | exact hI5.next (K := [64 + (hd : Int) / 4, tos, (N : Int) / 256, (N : Int) % 256, id / 256, id % 256, (flags * 8192 + off) / 256, (flags * 8192 + off) % 256, ttl, proto, 0, 0]) hown6 hbel6 | exact (hI5.grows _).next (K := [64 + (hd : Int) / 4, tos, (N : Int) / 256, (N : Int) % 256, id / 256, id % 256, (flags * 8192 + off) / 256, (flags * 8192 + off) % 256, ttl, proto, 0, 0]) hown6 hbel6
  case rest =>
  have HI3 : Hid _ := hcut
  have D6 : wc.cell? ⟨w.heap.size, 6, none⟩ = some (.int .u32 src) := hcut.cell 6
  have D7 : wc.cell? ⟨w.heap.size, 7, none⟩ = some (.int .u32 dst) := hcut.cell 7
  have D8 : wc.cell? ⟨w.heap.size, 8, none⟩ = some (.slice ao o co) := hcut.cell 8
  clear hcut D1 D2 D4 D5 HI2
  have HL1 : Hid (opts.length = o) := HS.out.2.2.1
  go_upto_region 9 with fail
  go_cut [5] from 7 (fun s5 wx => Inv ipT w wx (ipA tos ttl proto id flags off src dst (.slice ao o co) (.slice bo bl cb)) s5 hd (h20 hd N tos ttl proto id (flags * 8192 + off) src dst 0 0 ++ opts))
  case first =>
    have HH : Hid (12 + 4 + 4 + o = hd) := by have q := HS.out; show 12 + 4 + 4 + o = hd; omega
    go_region_held3 (fun w' => w'.cell? ⟨w.heap.size, 6, none⟩ = some (.int .u32 src) ∧ w'.cell? ⟨w.heap.size, 7, none⟩ = some (.int .u32 dst) ∧ w'.cell? ⟨w.heap.size, 8, none⟩ = some (.slice ao o co))
      (first | go_keep | exact ⟨hI6.cell 6, hI6.cell 7, hI6.cell 8⟩ | exact ⟨hI5.cell 6, hI5.cell 7, hI5.cell 8⟩ | exact ⟨(hbel7.cell (p := ⟨w.heap.size, 6, none⟩) (Nat.lt_succ_self _)).trans (hI6.cell 6), (hbel7.cell (p := ⟨w.heap.size, 7, none⟩) (Nat.lt_succ_self _)).trans (hI6.cell 7), (hbel7.cell (p := ⟨w.heap.size, 8, none⟩) (Nat.lt_succ_self _)).trans (hI6.cell 8)⟩)
      (first
        | (go_at_call 53; with_reducible refine (put32_inv HI3.out.drew (by omega) src HI.out.1.1.1 HI.out.1.1.2).mono ?_; rintro e w5 ⟨v5, rfl, hI5⟩)
        | (go_at_call 53; with_reducible refine (put32_inv hI5 (by omega) dst HI.out.1.2.1 HI.out.1.2.2).mono ?_; rintro e w6 ⟨v6, rfl, hI6⟩)
        | (refine step_append_bytes rfl (.tmp 77) (.tmp 79) rfl (w.heap.size + 1) v6 (12 + 4 + 4) _ (by simp [Act.eval]) hI6.own ao co o opts (by simp [Act.eval]) HL1.out HNN.out.2.2.2.2.2.1 (hI6.mem.row HS.out.1) (by omega) hI6.size ?_; intro v7 w7 hown7 hbel7))
    all_goals
      go_wp2_with fail
      go_meet
      case rel =>
        rw [HH.out] at hown7
        exact hI6.next (K := h20 hd N tos ttl proto id (flags * 8192 + off) src dst 0 0 ++ opts) (by rw [List.map_append]; exact hown7) hbel7
  case rest =>
  have hI4 := hcut
  clear hcut D6 D7 D8 HI3
  have HLh : Hid ((h20 hd N tos ttl proto id (flags * 8192 + off) src dst 0 0 ++ opts).length = hd) := by
    have q := HS.out
    show _ = _
    rw [List.length_append, h20_len]; omega
  have HBh : Hid (IsBytes (h20 hd N tos ttl proto id (flags * 8192 + off) src dst 0 0 ++ opts)) := by
    have h := HBy.out.1
    intro i
    have := h i
    rw [getD_append] at this
    split at this
    · exact this
    · rename_i hi
      have : (h20 hd N tos ttl proto id (flags * 8192 + off) src dst 0 0 ++ opts).getD i 0 = 0 := by simp only [List.getD]; rw [List.getElem?_eq_none (by omega)]; rfl
      rw [this]; omega
  generalize hZ : h20 hd N tos ttl proto id (flags * 8192 + off) src dst 0 0 ++ opts = Z at *
  have HZ : Hid (h20 hd N tos ttl proto id (flags * 8192 + off) src dst 0 0 ++ opts = Z) := hZ
  clear hZ
  obtain ⟨g, cap, hs5, hg, hcap, hob⟩ := own_shape2 hI4.own HLh.out (by have := HNN.out; omega)
  subst hs5
  have hof := rof_any (hob.row HBh.out (by rw [HLh.out]; have := HNN.out; omega)) (by rw [HLh.out]; have := HNN.out; omega) cap
  rw [HLh.out, HBy.out.2] at hof
  have HI4 : Hid _ := hI4
  have HOB : Hid _ := hob
  clear hI4 hob
  go_wp2_with fail
  refine hof.mono ?_
  rintro e w3 ⟨rfl, hb3⟩
  have hob3 : OwnB w3 (w.heap.size + 1) g cap Z := own_after HOB.out hb3 (Nat.le_refl _)
  have hI5 : Inv ipT w w3 (ipA tos ttl proto id flags off src dst (.slice ao o co) (.slice bo bl cb)) (.slice (some ⟨g, 0, none⟩) hd cap) hd Z := HI4.out.next (own_after HI4.out.own hb3 (Nat.le_refl _)) (hb3.mono HI4.out.size)
  have k10 := hob3.cell 10 (by rw [HLh.out]; have := HNN.out; omega)
  have k11 := hob3.cell 11 (by rw [HLh.out]; have := HNN.out; omega)
  have f10 := hob3.free 10
  have f11 := hob3.free 11
  have hob4 := (hob3.store 10 (C / 256)).store 11 (C % 256)
  have HI6 : Hid (Inv ipT w ((w3.setCell ⟨g, 10, none⟩ (.int .u8 (C / 256))).setCell ⟨g, 11, none⟩ (.int .u8 (C % 256))) (ipA tos ttl proto id flags off src dst (.slice ao o co) (.slice bo bl cb)) (.slice (some ⟨g, 0, none⟩) hd cap) hd ((Z.set 10 (C / 256)).set 11 (C % 256))) := by
    refine hI5.next ?_ (below_set (below_set (Below.refl _ _) hg) hg)
    have hl : ((Z.set 10 (C / 256)).set 11 (C % 256)).length = hd := by simp [HLh.out]
    have h := hob4
    unfold OwnB at h
    rw [hl] at h
    exact h
  clear hb3 hof HI4 HOB hob3 hob4 hI5
  have i10 : (10 : Int) < hd := by omega
  have i11 : (11 : Int) < hd := by omega
  go_upto_region 12 with fail
  refine wp_letter (fun W => Inv ipT w W (ipA tos ttl proto id flags off src dst (.slice ao o co) (.slice bo bl cb)) (.slice (some ⟨g, 0, none⟩) hd cap) hd ((Z.set 10 (C / 256)).set 11 (C % 256))) HI6.out ?_
  intro w4 hI7
  have D9 : w4.cell? ⟨w.heap.size, 9, none⟩ = some (.slice bo bl cb) := hI7.cell 9
  have HI7 : Hid _ := hI7
  clear hI7 HI6 k10 k11 f10 f11
  go_wp2_with (at_builtin; refine wpList_append_more _ rfl (.tmp 92) (.tmp 94) rfl (w.heap.size + 1) _ hd _ rfl HI7.out.own bo cb bl body rfl HS.out.2.2.2.1 HNN.out.2.2.2.2.2.2 (HI7.out.mem.row HS.out.2.1) (by have := HNN.out; have := HS.out; omega) HI7.out.size ?_; intro v8 w8 hown8 hbel8)
  go_ret2
  have hN : hd + bl = N := HS.out.2.2.2.2.2.1.symm
  rw [hN, ← List.map_append, ← HZ.out] at hown8
  rw [show ((h20 hd N tos ttl proto id (flags * 8192 + off) src dst 0 0 ++ opts).set 10 (C / 256)).set 11 (C % 256) = h20 hd N tos ttl proto id (flags * 8192 + off) src dst (C / 256) (C % 256) ++ opts from rfl] at hown8
  exact ⟨_, rfl, own_base hown8 (Nat.le_succ _), HI7.out.mem.below.trans (hbel8.mono (Nat.le_succ _))⟩

/-- What lychref1.IpBytes answers, whatever it is handed. -/
theorem rbytes_any {w : World} {B : Nat} {v : Value} {p : Pk} (hp : p.Ok) (hv : IpV w B v p) :
    Calls Tryz.prog 24 #[v] w fun r w' => ∃ u, r = .returned (.tuple #[u, .int .i64 (ipbErr p)]) ∧ w'.ownsRow w.heap.size 5 1 u (ipOut p).length ((ipOut p).map (Value.int .u8)) ∧ Below w.heap.size w w' := by
  obtain ⟨ao, co, bo, cb, rfl, ho, hb, hn1, hn2, -⟩ := hv
  by_cases h1 : p.opts.length % 4 ≠ 0 ∨ 40 < p.opts.length ∨ 7 < p.flags ∨ 8191 < p.off
  · have e : ipbErr p = 21 := by unfold ipbErr; rw [if_pos h1]
    have e2 : ipOut p = [] := by unfold ipOut; rw [e]; rfl
    rw [e, e2]
    refine (rbytes_form w ao bo p.opts.length p.body.length co cb p.tos p.ttl p.proto p.id p.flags p.off p.src p.dst h1).mono ?_
    rintro r w' ⟨rfl, hbel⟩
    exact ⟨_, rfl, World.ownsRow_nil _ _ _ _, hbel⟩
  · by_cases h2 : 65535 < 20 + p.opts.length + p.body.length
    · have e : ipbErr p = 23 := by unfold ipbErr; rw [if_neg h1, if_pos h2]
      have e2 : ipOut p = [] := by unfold ipOut; rw [e]; rfl
      rw [e, e2]
      refine (rbytes_big w ao bo p.opts.length p.body.length co cb p.tos p.ttl p.proto p.id p.flags p.off p.src p.dst (by omega) (by omega) (by omega) (by omega) h2).mono ?_
      rintro r w' ⟨rfl, hbel⟩
      exact ⟨_, rfl, World.ownsRow_nil _ _ _ _, hbel⟩
    · have e : ipbErr p = 0 := by unfold ipbErr; rw [if_neg h1, if_neg h2]
      have f : Fits p := (fits_iff p).mp e
      have e2 : ipOut p = ipb p := if_pos e
      rw [e, e2, ipb_len]
      have hby := bytes_append (hdw_bytes hp f (x := 0) (y := 0) (by omega) (by omega)) hp.body
      obtain ⟨g1, g2, g3, g4, g5⟩ := f
      obtain ⟨q1, q2, q3, q4, q5, q6, q7, q8, -, -⟩ := hp
      have := rbytes_ok ho hb p.opts.length p.body.length (20 + p.opts.length) (20 + p.opts.length + p.body.length) ((20 + p.opts.length) / 4) rfl rfl rfl rfl (by omega) g2 g5 co cb hn1 hn2 p.tos p.ttl p.proto p.id p.flags p.off p.src p.dst q4 ⟨q5.1, g3⟩ ⟨q6.1, g4⟩ q7 q8 q2 q3 hby (ipc p) rfl
      exact this
end Go.Proofs.YtjalpbkfpjfigaaGreat

namespace Go.Proofs.YtjalpbkfpjfigaaGreat
open Go.RowKit
open Sm
set_option linter.unusedVariables false
set_option maxRecDepth 20000

theorem pt_eq (a b c d : Int) (w : World) : (Op.equalIn 10000 ptT (.agg #[.int .u32 a, .int .u16 b]) (.agg #[.int .u32 c, .int .u16 d])).run Tryz.prog w = .ok (a == c && b == d) w := by
  have u3 := Tryz.underlying29
  have u5 := Tryz.underlying30
  rw [show (10000 : Nat) = 9999 + 1 from rfl, run_equalIn_agg w 9999 ptT _ _ (by kernel_rfl) (by kernel_rfl)]
  simp only [Program.fieldsOf, Tryz.underlying32]
  go_simp
  by_cases h1 : a = c <;> by_cases h2 : b = d <;> simp [h1, h2]
set_option maxHeartbeats 2000000 in
theorem hpoints_yes {w : World} {C D : Nat} {va vb : Value} {ps : List Pt} (ha : PtsV w C va ps) (hb : PtsV w D vb ps) :
    Calls Tryz.prog 50 #[va, vb] w fun e w' => e = .returned (.bool true) ∧ Below w.heap.size w w' := by
  have HB : Hid (∀ q, Below w.heap.size w (w.drewN q)) := fun q => below_drewN (Below.refl _ _) q
  have HB0 : Hid (Below w.heap.size w w) := Below.refl _ _
  rcases ha with ⟨rfl, rfl⟩ | ⟨g, s, d, rfl, rfl, hg, -⟩
  · rcases hb with ⟨-, rfl⟩ | ⟨g', s', d', e, -⟩
    · go_enter Tryz.func50, Tryz.ntmps50
      go_wp2_with fail
      refine wp_loop_rounds 1 ?_
      rw [rounds_succ]
      go_wp2_with fail
      go_ret
      exact ⟨rfl, HB0.out⟩
    · cases e
  · rcases hb with ⟨e, -⟩ | ⟨h, s', d', e, rfl, hh, -⟩
    · cases e
    · simp only [List.cons.injEq, and_true] at e
      obtain ⟨rfl, rfl⟩ := e
      have hM : ∀ (k : Nat) (cs : Array Value), w.heap[k]? = some (.cells cs ptT (0, 0)) → ∀ i, w.cell? ⟨k, i, none⟩ = cs[i]? := fun k cs hk i => by
        unfold World.cell?; simp only [hk] <;> rfl
      have ka := hM g _ hg
      have kb := hM h _ hh
      have q1 := pt_eq s.ip s.port s.ip s.port
      have q2 := pt_eq d.ip d.port d.ip d.port
      simp only [BEq.rfl, Bool.and_self] at q1 q2
      clear hM hg hh
      go_enter Tryz.func50, Tryz.ntmps50
      go_wp2_with fail
      refine wp_loop_rounds 3 ?_
      rw [rounds_succ]
      go_wp2_with fail
      go_quiet (fail)
      go_wp2_with fail
      rw [rounds_succ]
      go_wp2_with fail
      go_quiet (fail)
      go_wp2_with fail
      rw [rounds_succ]
      go_wp2_with fail
      go_ret
      exact ⟨rfl, HB.out _⟩
end Go.Proofs.YtjalpbkfpjfigaaGreat

namespace Go.Proofs.YtjalpbkfpjfigaaGreat
open Sm
namespace Sm
def kpk : Pk := ⟨0, 64, 1, 0, 2, 0, 167772161, 134744072, [], mgOut (bdMg 1000 0 0)⟩
def kl : List Int := [69, 0, 0, 28, 0, 0, 64, 0, 64, 1, 32, 209, 10, 0, 0, 1, 8, 8, 8, 8, 8, 0, 244, 23, 3, 232, 0, 0]
set_option maxRecDepth 20000
theorem kl_out : ipOut kpk = kl := by decide +kernel
theorem kl_len : kl.length = 28 := by decide
theorem kl_ip : ipErr kl = 0 := by decide +kernel
theorem kl_look : lkErr kl = 0 := by decide +kernel
theorem kl_port : (lkFl kl).src.port = 1000 := by decide +kernel
def kp1 : Pt := ⟨1, 9⟩
def kp2 : Pt := ⟨2, 9⟩
def kc : List Int := chOut kl kp1 kp2
theorem kc_err : chErr kl kp1 kp2 = 0 := by decide +kernel
theorem kc_look : lkErr kc = 0 := by decide +kernel
theorem kc_src : (lkFl kc).src.ip = 1 ∧ (lkFl kc).src.port = 9 := by decide +kernel
theorem kc_dst : (lkFl kc).dst.ip = 2 ∧ (lkFl kc).dst.port = 9 := by decide +kernel
theorem kn_look : lkErr [] = 20 := by decide +kernel
theorem kh_err : hopErr kl = 0 := by decide +kernel
theorem kh_len : (hopOut kl).length = 28 := by decide +kernel
theorem kh_ttl : (hopOut kl).getD 8 0 = 63 := by decide +kernel
theorem kc_len : kc.length = 28 := by decide +kernel
end Sm
end Go.Proofs.YtjalpbkfpjfigaaGreat

