/-
  What is changed: the document's Pairs; a tenant in its box.
  What is changed: what is left to tell of two lists in order; changes whose lists lie elsewhere.
-/
import Derived.Test.YtbccadbnaggkhaaGreatKE41
namespace Go.Proofs.YtbccadbnaggkhaaGreat
open Go.RowKit
open Sm
open Cf
open Df
set_option linter.unusedVariables false
set_option linter.unusedSimpArgs false
set_option maxRecDepth 20000

set_option maxHeartbeats 8000000 in
theorem rpairs_any {w : World} (sv tv : Value) (xs ys : List (Int × Int)) (hx : Rw w 2 sv (px xs)) (hy : Rw w 2 tv (px ys)) (hbx : xs.length ≤ 1000000) :
    Calls Tryz.prog 35 #[sv, tv] w fun e w' => e = .returned (.bool (decide (xs = ys))) ∧ ∃ q, w' = w.drewN q := by
  obtain ⟨a, c, rfl, hlc, hcb, ha, hra⟩ := hx
  obtain ⟨a', c', rfl, hlc', hcb', ha', hra'⟩ := hy
  have hlx : (px xs).length = xs.length := by simp [px]
  have hly : (px ys).length = ys.length := by simp [px]
  rw [hlx] at hra ⊢
  rw [hly] at hra' ⊢
  by_cases hl : xs.length = ys.length
  · obtain ⟨n, hn⟩ : ∃ n, xs.length = n := ⟨_, rfl⟩
    have hn2 : ys.length = n := by omega
    rw [hn2]
    rw [hn2] at hra'
    rw [hn] at hra ⊢
    obtain ⟨D, hD⟩ : ∃ D, decide (xs = ys) = D := ⟨_, rfl⟩
    rw [hD]
    have HX : Hid (∀ i, i < n → ∃ b off, a = some ⟨b, off, none⟩ ∧ w.rangeAt b (off + i * 2) ((px xs).getD i [])) := by
      intro i hi
      rcases hra with e | ⟨b, off, rfl, hc⟩
      · rw [e] at hlx; simp at hlx; omega
      · exact ⟨b, off, rfl, fun j u hj => hc i (by omega) j u hj⟩
    have HY : Hid (∀ i, i < n → ∃ b off, a' = some ⟨b, off, none⟩ ∧ w.rangeAt b (off + i * 2) ((px ys).getD i [])) := by
      intro i hi
      rcases hra' with e | ⟨b, off, rfl, hc⟩
      · rw [e] at hly; simp at hly; omega
      · exact ⟨b, off, rfl, fun j u hj => hc i (by omega) j u hj⟩
    clear hra hra' hlc hlc' hcb hcb' ha ha' hl hlx hly
    go_enter Tryz.func35, Tryz.ntmps35
    go_wp2_with fail
    go_loopw [5] (fun u5 w' => ∃ i : Nat, i ≤ n ∧ u5 = .int .i64 i ∧ Hid ((∃ q, w' = w.drewN q) ∧ ∀ j, j < i → xs[j]? = ys[j]?)) (fun u5 w' => n - (intOf u5).toNat)
    case atStart => exact ⟨0, Nat.zero_le _, rfl, ⟨0, rfl⟩, fun j hj => by omega⟩
    case round =>
      obtain ⟨i, hi, rfl, HR⟩ := hrel
      obtain ⟨⟨q, hq⟩, hall⟩ := HR.out
      have HQ : Hid (∃ q, wr = w.drewN q) := ⟨q, hq⟩
      by_cases hlt : i < n
      · have h1 : (i : Int) < n := by omega
        obtain ⟨b, off, rfl, rx⟩ := HX.out i hlt
        obtain ⟨b', off', rfl, ry⟩ := HY.out i hlt
        obtain ⟨x, hxi⟩ : ∃ x, xs[i]? = some x := ⟨_, List.getElem?_eq_getElem (by omega)⟩
        obtain ⟨y, hyi⟩ : ∃ y, ys[i]? = some y := ⟨_, List.getElem?_eq_getElem (by omega)⟩
        have ex : (px xs).getD i [] = [.int .u32 x.1, .int .u32 x.2] := by simp [px, List.getD, hxi]
        have ey : (px ys).getD i [] = [.int .u32 y.1, .int .u32 y.2] := by simp [px, List.getD, hyi]
        rw [ex] at rx
        rw [ey] at ry
        have d3 : wr.cell? ⟨b, off + i * 2, none⟩ = some (.int .u32 x.1) := by have := rx 0 _ rfl; rw [hq]; simpa using this
        have d5 : wr.cell? ⟨b, off + i * 2 + 1, none⟩ = some (.int .u32 x.2) := by have := rx 1 _ rfl; rw [hq]; simpa using this
        have d4 : wr.cell? ⟨b', off' + i * 2, none⟩ = some (.int .u32 y.1) := by have := ry 0 _ rfl; rw [hq]; simpa using this
        have d6 : wr.cell? ⟨b', off' + i * 2 + 1, none⟩ = some (.int .u32 y.2) := by have := ry 1 _ rfl; rw [hq]; simpa using this
        have HA : Hid (∀ j, j < i → xs[j]? = ys[j]?) := hall
        clear HX HY ex ey rx ry hall HR hq
        by_cases hxy : x = y
        · have HF : Hid (∀ j, j < i + 1 → xs[j]? = ys[j]?) := by
            intro j hj
            by_cases e : j = i
            · rw [e, hxi, hyi, hxy]
            · exact HA.out j (by omega)
          clear hxi hyi HA
          subst hxy
          have hb := fun V => pair_eq x.1 x.2 x.1 x.2 V
          simp only [decide_true] at hb
          go_upto_region 6 with fail
          go_quiet (fail)
          go_wp2_with fail
          go_roundw
          case rel => exact ⟨i + 1, by omega, by go_num, drewN_more HQ.out _, HF.out⟩
          case measure => simp [intOf]; omega
        · obtain rfl : D = false := by
            rw [← hD]
            apply decide_eq_false
            intro hc
            rw [hc, hyi] at hxi
            exact hxy (Option.some.inj hxi).symm
          have hb := fun V => pair_eq x.1 x.2 y.1 y.2 V
          rw [decide_eq_false (show ¬ ((x.1, x.2) = (y.1, y.2)) from hxy)] at hb
          clear hD hxi hyi HA
          go_upto_region 6 with fail
          go_quiet (fail)
          go_wp2_with fail
          go_ret
          exact ⟨rfl, drewN_more HQ.out _⟩
      · have h1 : ¬ ((i : Int) < n) := by omega
        obtain rfl : i = n := by omega
        obtain rfl : D = true := by
          rw [← hD]
          apply decide_eq_true
          apply List.ext_getElem?
          intro j
          by_cases hj : j < i
          · exact hall j hj
          · rw [List.getElem?_eq_none (by omega), List.getElem?_eq_none (by omega)]
        clear HR hall hD HX HY hq
        go_wp2_with fail
        go_ret
        exact ⟨rfl, HQ.out⟩
  · rw [decide_eq_false (fun e => hl (by rw [e]))]
    have h1 : ((xs.length : Int) != (ys.length : Int)) = true := by simp; omega
    have h2 : ¬ ((xs.length : Int) = (ys.length : Int)) := by omega
    clear hra hra' hl
    go_enter Tryz.func35, Tryz.ntmps35
    go_wp2_with fail
    go_ret
    exact ⟨rfl, 0, rfl⟩
namespace Df
/-- A tenant in its box. -/
structure Bx (V : World) (g : Nat) (t : Ten) (p s q : Value) : Prop where
  nm : V.cell? ⟨g, 0, none⟩ = some (.string t.name)
  vni : V.cell? ⟨g, 1, none⟩ = some (.int .u32 t.vni)
  vtep : V.cell? ⟨g, 10, none⟩ = some (.int .u32 t.vtep)
  pool : V.cell? ⟨g, 23, none⟩ = some (p)
  lo : V.cell? ⟨g, 24, none⟩ = some (.int .u16 t.lo)
  hi : V.cell? ⟨g, 25, none⟩ = some (.int .u16 t.hi)
  fi : V.cell? ⟨g, 26, none⟩ = some (.int .i64 t.filter)
  st : V.cell? ⟨g, 27, none⟩ = some (s)
  tw : V.cell? ⟨g, 28, none⟩ = some (q)
  se : V.cell? ⟨g, 29, none⟩ = some (.int .i64 t.sess)
  qu : V.cell? ⟨g, 30, none⟩ = some (.int .i64 t.queue)
  ra : V.cell? ⟨g, 31, none⟩ = some (.int .u32 t.rate)
  bu : V.cell? ⟨g, 32, none⟩ = some (.int .u32 t.burst)
  key : V.rangeAt g 2 (t.key.map (Value.int .u8))
  vm : V.rangeAt g 11 (t.vmac.map (Value.int .u8))
  ho : V.rangeAt g 17 (t.host.map (Value.int .u8))
theorem bx_of {V : World} {g : Nat} {t : Ten} {p s q : Value} (hl : TLen t) (h : V.heap[g]? = some (.cells (tc t p s q).toArray 34 (0, 0))) : Bx V g t p s q := by
  obtain ⟨n, vn, key, vt, vm, ho, po, lo, hi, fi, st, tw, se, qu, ra, bu⟩ := t
  obtain ⟨h1, h2, h3⟩ := hl
  obtain ⟨a, b, c, d, f, g', x, y, rfl⟩ := eight8 h1
  obtain ⟨a1, b1, c1, d1, f1, g1, rfl⟩ := six6 h2
  obtain ⟨a2, b2, c2, d2, f2, g2, rfl⟩ := six6 h3
  have key : ∀ i u, (tc ⟨n, vn, [a, b, c, d, f, g', x, y], vt, [a1, b1, c1, d1, f1, g1], [a2, b2, c2, d2, f2, g2], po, lo, hi, fi, st, tw, se, qu, ra, bu⟩ p s q)[i]? = some u → V.cell? ⟨g, i, none⟩ = some u := fun i u hu => by rw [cell_of h]; simpa using hu
  have rng : ∀ (o : Nat) (l : List Value), (∀ j u, l[j]? = some u → (tc ⟨n, vn, [a, b, c, d, f, g', x, y], vt, [a1, b1, c1, d1, f1, g1], [a2, b2, c2, d2, f2, g2], po, lo, hi, fi, st, tw, se, qu, ra, bu⟩ p s q)[o + j]? = some u) → V.rangeAt g o l := fun o l hl j u hj => key (o + j) u (hl j u hj)
  refine ⟨key 0 _ rfl, key 1 _ rfl, key 10 _ rfl, key 23 _ rfl, key 24 _ rfl, key 25 _ rfl, key 26 _ rfl, key 27 _ rfl, key 28 _ rfl, key 29 _ rfl, key 30 _ rfl, key 31 _ rfl, key 32 _ rfl, rng 2 _ ?_, rng 11 _ ?_, rng 17 _ ?_⟩
  · intro j u hj
    have hj8 : j < 8 := by have := (List.getElem?_eq_some_iff.mp hj).1; simpa using this
    match j, hj8, hj with
    | 0, _, h => exact h
    | 1, _, h => exact h
    | 2, _, h => exact h
    | 3, _, h => exact h
    | 4, _, h => exact h
    | 5, _, h => exact h
    | 6, _, h => exact h
    | 7, _, h => exact h
  · intro j u hj
    have hj6 : j < 6 := by have := (List.getElem?_eq_some_iff.mp hj).1; simpa using this
    match j, hj6, hj with
    | 0, _, h => exact h
    | 1, _, h => exact h
    | 2, _, h => exact h
    | 3, _, h => exact h
    | 4, _, h => exact h
    | 5, _, h => exact h
  · intro j u hj
    have hj6 : j < 6 := by have := (List.getElem?_eq_some_iff.mp hj).1; simpa using this
    match j, hj6, hj with
    | 0, _, h => exact h
    | 1, _, h => exact h
    | 2, _, h => exact h
    | 3, _, h => exact h
    | 4, _, h => exact h
    | 5, _, h => exact h
theorem keys_eq {k k' : List Int} (h : k.length = 8) (h' : k'.length = 8) (V : World) : (Op.equalIn 10000 27 (.agg (k.map (Value.int .u8)).toArray) (.agg (k'.map (Value.int .u8)).toArray)).run Tryz.prog V = .ok (decide (k = k')) V := by
  obtain ⟨a, b, c, d, f, g, x, y, rfl⟩ := eight8 h
  obtain ⟨a', b', c', d', f', g', x', y', rfl⟩ := eight8 h'
  exact key_eq ..
theorem macs_eq {k k' : List Int} (h : k.length = 6) (h' : k'.length = 6) (V : World) : (Op.equalIn 10000 29 (.agg (k.map (Value.int .u8)).toArray) (.agg (k'.map (Value.int .u8)).toArray)).run Tryz.prog V = .ok (decide (k = k')) V := by
  obtain ⟨a, b, c, d, f, g, rfl⟩ := six6 h
  obtain ⟨a', b', c', d', f', g', rfl⟩ := six6 h'
  exact mac_eq6 ..
theorem wpList_load_mid_g {ops : Array Oper} {rest : List Oper} {o : Oper} {a : Act} {w : World} {Q : Exit → Act → World → Prop} (ty : TypeId) (x : Operand) (ho : o.op = .load ty x) (hw : Region.wanted o (yielded ops a.tmps) = true)
    (b off : Nat) (hx : a.eval x = .pointer (some ⟨b, off, none⟩)) (cs : List Value) (d : TypeDesc) (hc : w.rangeAt b off cs) (hu : Tryz.prog.underlying ty = some d) (hd : d.isRow = true) (hi : (Tryz.prog.info? ty).map (·.size) = some cs.length)
    (h : wpList Tryz.prog ops Q rest (a.put o.dst (.agg cs.toArray)) w) : wpList Tryz.prog ops Q (o :: rest) a w :=
  wpList_wanted hw fun _ hK => wp_load_mid ty x ho b off hx cs d hc hu hd hi (hK _ _ h)
/-- Does it load a whole array? -/
def rowLoad (o : Oper) : Bool := match o.op with
  | .load ty _ => ty == 27 || ty == 29
  | _ => false
theorem wpList_row {ops : Array Oper} {rest : List Oper} {o : Oper} {a : Act} {w : World} {Q : Exit → Act → World → Prop} (hw : rowLoad o = true) (h : wpList Tryz.prog ops Q (o :: rest) a w) : wpList Tryz.prog ops Q (o :: rest) a w := h
end Df
end Go.Proofs.YtbccadbnaggkhaaGreat

namespace Go.Proofs.YtbccadbnaggkhaaGreat
open Go.RowKit
open Sm
open Cf
open Df
set_option linter.unusedVariables false
set_option linter.unusedSimpArgs false
set_option maxRecDepth 20000

namespace Df
theorem srt_fst {A : List Tv} (h : Srt fk A) : Srt nk (A.map Prod.fst) := List.pairwise_map.2 h
theorem fst_srt {A : List Tv} (h : Srt nk (A.map Prod.fst)) : Srt fk A := by
  unfold Srt at h ⊢
  rw [List.pairwise_map] at h
  exact h
theorem lt_drop {B : List Tv} (hB : Srt fk B) {k : Nat} {n : List UInt8} (h : ∀ hk : k < B.length, n < fk (B[k]'hk)) {z : Tv} (hz : z ∈ B.drop k) : n < fk z := by
  obtain ⟨j, hj, rfl⟩ := List.getElem_of_mem hz
  rw [List.getElem_drop]
  have hj' : k + j < B.length := by rw [List.length_drop] at hj; omega
  rcases Nat.eq_zero_or_pos j with rfl | h0
  · exact h (by omega)
  · exact lt_tr (h (by omega)) (List.pairwise_iff_getElem.1 hB k (k + j) (by omega) hj' (by omega))
theorem srt_cons {A : List Tv} (hA : Srt fk A) {i : Nat} (hi : i < A.length) : Srt nk ((A[i]'hi).1 :: (A.drop (i + 1)).map Prod.fst) := by
  have e := List.drop_eq_getElem_cons hi
  have h : Srt nk ((A.drop i).map Prod.fst) := srt_fst (List.Pairwise.drop hA)
  rw [e, List.map_cons] at h
  exact h
/-- What is left to tell. -/
def lft (A B : List Tv) (i k : Nat) : List Chg := dif ((A.drop i).map Prod.fst) ((B.drop k).map Prod.fst)
theorem lft_lt {A B : List Tv} (hA : Srt fk A) (hB : Srt fk B) {i k : Nat} (hi : i < A.length) (h : ∀ hk : k < B.length, fk (A[i]'hi) < fk (B[k]'hk)) : lft A B i k = ⟨false, (A[i]'hi).1.name, ten0⟩ :: lft A B (i + 1) k := by
  unfold lft
  rw [List.drop_eq_getElem_cons hi, List.map_cons]
  refine dif_lt (srt_cons hA hi) fun y hy => ?_
  obtain ⟨z, hz, rfl⟩ := List.mem_map.1 hy
  exact lt_drop hB h hz
theorem lft_gt {A B : List Tv} (hA : Srt fk A) (hB : Srt fk B) {i k : Nat} (hk : k < B.length) (h : ∀ hi : i < A.length, fk (B[k]'hk) < fk (A[i]'hi)) : lft A B i k = ⟨true, (B[k]'hk).1.name, (B[k]'hk).1⟩ :: lft A B i (k + 1) := by
  unfold lft
  rw [List.drop_eq_getElem_cons hk, List.map_cons]
  refine dif_gt (srt_cons hB hk) fun y hy => ?_
  obtain ⟨z, hz, rfl⟩ := List.mem_map.1 hy
  exact lt_drop hA h hz
theorem lft_eq {A B : List Tv} (hA : Srt fk A) (hB : Srt fk B) {i k : Nat} (hi : i < A.length) (hk : k < B.length) (e : fk (A[i]'hi) = fk (B[k]'hk)) : lft A B i k = if TSame (A[i]'hi).1 (B[k]'hk).1 then lft A B (i + 1) (k + 1) else ⟨true, (B[k]'hk).1.name, (B[k]'hk).1⟩ :: lft A B (i + 1) (k + 1) := by
  unfold lft
  rw [List.drop_eq_getElem_cons hi, List.map_cons, List.drop_eq_getElem_cons hk, List.map_cons]
  exact dif_eq (srt_cons hA hi) (srt_cons hB hk) e
theorem lft_end {A B : List Tv} {i k : Nat} (hi : A.length ≤ i) (hk : B.length ≤ k) : lft A B i k = [] := by
  unfold lft
  rw [List.drop_eq_nil_of_le hi, List.drop_eq_nil_of_le hk]
  exact dif_nil
theorem lft_zero (A B : List Tv) : lft A B 0 0 = dif (A.map Prod.fst) (B.map Prod.fst) := rfl
/-- The changes told so far. -/
def Rv (w W : World) (v : Value) (xs : List Hv) (A B : List Tv) (i k : Nat) : Prop :=
  Ow w W 47 35 v xs.length (xs.map yc).flatten [] ∧ (∀ y ∈ xs, TLen y.1.t ∧ Rws w (yz y)) ∧ xs.map Prod.fst ++ lft A B i k = dif (A.map Prod.fst) (B.map Prod.fst) ∧ xs.length ≤ i + k
theorem Rv.nil (w : World) (A B : List Tv) : Rv w w (.slice none 0 0) [] A B 0 0 := ⟨Ow.nil (Mem.nil w), by simp, by rw [List.map_nil, List.nil_append, lft_zero], Nat.le_refl _⟩
theorem Rv.below {w W : World} {v : Value} {xs : List Hv} {A B : List Tv} {i k : Nat} (h : Rv w W v xs A B i k) : Below w.heap.size w W := h.1.mem.below
theorem Rv.same {w W V : World} {v : Value} {xs : List Hv} {A B : List Tv} {i k i' k' : Nat} (h : Rv w W v xs A B i k) (hV : Below W.heap.size W V) (e : lft A B i k = lft A B i' k') (hle : i + k ≤ i' + k') : Rv w V v xs A B i' k' := ⟨h.1.after hV, h.2.1, by rw [← e]; exact h.2.2.1, Nat.le_trans h.2.2.2 hle⟩
theorem Rv.yv {w W : World} {v : Value} {xs : List Hv} {A B : List Tv} {i k : Nat} (h : Rv w W v xs A B i k) (hi : A.length ≤ i) (hk : B.length ≤ k) : YV W v xs ∧ xs.map Prod.fst = dif (A.map Prod.fst) (B.map Prod.fst) := by
  obtain ⟨hO, hZ, he, -⟩ := h
  rw [lft_end hi hk, List.append_nil] at he
  obtain ⟨B', hB, hM⟩ := hO.owb
  refine ⟨⟨owb_rw' (fun x hx => ?_) (by rw [List.length_map]; exact hB) fun p hp => hM.at_ p (by simp [hp]), fun y hy => ⟨(hZ y hy).1, Rws.at_ (hZ y hy).2 hO.mem.below⟩⟩, he⟩
  obtain ⟨y, hy, rfl⟩ := List.mem_map.mp hx
  exact yc_len (hZ y hy).1
theorem Rv.add {w W V : World} {v : Value} {xs : List Hv} {A B : List Tv} {i k i' k' : Nat} (h : Rv w W v xs A B i k) (hik : i + k ≤ 10000) (y : Hv) (hl : TLen y.1.t) (hr : Rws w (yz y)) (e : lft A B i k = y.1 :: lft A B i' k') (hle : i + k + 1 ≤ i' + k') (hV : Below W.heap.size W V) :
    (Instr.buildSlice 23 1 #[(0, .agg (yc y).toArray)]).run Tryz.prog V = .ok (.slice (some ⟨V.heap.size, 0, none⟩) 1 1) (V.alloc (.cells (yc y).toArray 47)) ∧
      ∃ a m c V', (Builtin.append_ #[23, 23] 23 #[v, .slice (some ⟨V.heap.size, 0, none⟩) 1 1]).run Tryz.prog (V.alloc (.cells (yc y).toArray 47)) = .ok (.slice a m c) V' ∧ Rv w V' (.slice a m c) (xs ++ [y]) A B i' k' := by
  obtain ⟨hO, hZ, he, hx⟩ := h
  refine ⟨bsliceH y hl V, ?_⟩
  have h1 := (hO.after hV).after ((Below.refl V.heap.size V).alloc (Nat.le_refl _) (.cells (yc y).toArray 47))
  have one : ∀ u ∈ yc y, u.oneCell' = true := fun u hu => by
    have := yc_all hr
    rw [Array.all_eq_true_iff_forall_mem] at this
    exact this u (by simpa using hu)
  obtain ⟨v', V', hrn, hO'⟩ := ow_append (ty := 23) Tryz.underlying23 infoH (by kernel_rfl) (by decide) h1 ⟨V.heap.size, 0, none⟩ 1 1 (yc y) (by rw [yc_len hl]) (fun j u hj => by
    rw [Addr.add_mid, Nat.zero_add, World.cell?_alloc_new]
    simpa using hj) one (by unfold maxLen; omega) (by omega)
  obtain ⟨B', hB, -⟩ := hO'.owb
  obtain ⟨a, m, c, rfl⟩ := owb_slice hB
  refine ⟨a, m, c, V', hrn, ?_, fun x hx => ?_, ?_, by rw [List.length_append]; simp; omega⟩
  · rw [List.length_append, List.map_append, List.flatten_append]
    simpa using hO'
  · rcases List.mem_append.1 hx with hx | hx
    · exact hZ x hx
    · rw [List.mem_singleton] at hx
      subst hx
      exact ⟨hl, hr⟩
  · rw [← he, e, List.map_append, List.append_assoc]
    rfl
theorem step_bld_g {ops : Array Oper} {o : Oper} {a : Act} {W : World} {K : Act → World → Prop} {Q : Exit → Act → World → Prop} {E : Prop} (hw : Region.wanted o (yielded ops a.tmps) = true) (ty : TypeId) (parts : Array (Nat × Operand)) (ho : o.op = .build ty parts) {vs : Array (Nat × Value)} {v : Value} {w' : World}
    (hr : (Instr.build ty vs).run Tryz.prog W = .ok v w') (hv : (parts.map fun (i, x) => (i, a.eval x)) = vs) (h : K (a.put o.dst v) w') : if Region.wanted o (yielded ops a.tmps) = true then Oper.wp Tryz.prog o a W K Q else E := by
  rw [if_pos hw]
  subst hv
  unfold Oper.wp execOp
  simp only [ho, Sem.run_bind, hr, Result.andThen_ok, Sem.run_pure]
  exact h
end Df
end Go.Proofs.YtbccadbnaggkhaaGreat

