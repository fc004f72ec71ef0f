/-
  Settings as bytes: the document's OpenConfig: tenants of the call's own, in blocks.
  Settings as bytes: the document's OpenConfig: stores into its box.
  Settings as text: the program's reader: fail, take, expect, mustEnd.
-/
import Derived.Test.YtneciccdiledfaaGreatDoorMl32
import Derived.Test.YtneciccdiledfaaGreatDoorMl33
import Derived.Test.YtneciccdiledfaaGreatDoorMl30
import Derived.Test.YtneciccdiledfaaGreatDoorMl23
namespace Go.Proofs.YtneciccdiledfaaGreatDoor
open Go.RowKit
open Sm
open Cf
set_option linter.unusedVariables false
set_option linter.unusedSimpArgs false
set_option maxRecDepth 20000

/-- A tenant's lists in blocks C. -/
def ZB (z : Tv) (C : List (Nat × Obj)) : Prop := TLen z.1 ∧ ∃ B1 B2 B3, (∀ x ∈ B3 ++ (B2 ++ B1), x ∈ C) ∧ OwB 23 1 z.2.1 z.1.pool.length (ux z.1.pool).flatten B1 ∧ OwB 96 2 z.2.2.1 z.1.stat.length (px z.1.stat).flatten B2 ∧ OwB 96 2 z.2.2.2 z.1.twi.length (px z.1.twi).flatten B3
/-- A slice of tenants of the call's own: its cells in blocks B, their lists in blocks C. -/
def TsB (u : Value) (ts : List Ten) (B C : List (Nat × Obj)) : Prop := ∃ zs : List Tv, zs.map Prod.fst = ts ∧ OwB 45 33 u zs.length (zs.map zc).flatten B ∧ ∀ z ∈ zs, ZB z C
theorem ZB.more {z : Tv} {C D : List (Nat × Obj)} (h : ZB z C) (hs : ∀ x ∈ C, x ∈ D) : ZB z D := by
  obtain ⟨h1, B1, B2, B3, h2, h3⟩ := h
  exact ⟨h1, B1, B2, B3, fun x hx => hs x (h2 x hx), h3⟩
theorem zb_rws {V : World} {z : Tv} {C : List (Nat × Obj)} (h : ZB z C) (hC : ∀ x ∈ C, V.heap[x.1]? = some x.2) : TLen z.1 ∧ Rws V z := by
  obtain ⟨hl, B1, B2, B3, hs, h1, h2, h3⟩ := h
  refine ⟨hl, owb_rw' (fun x hx => ?_) (by simpa [ux] using h1) (fun x hx => hC x (hs x (by simp [hx]))), owb_rw' (fun x hx => ?_) (by simpa [px] using h2) (fun x hx => hC x (hs x (by simp [hx]))), owb_rw' (fun x hx => ?_) (by simpa [px] using h3) (fun x hx => hC x (hs x (by simp [hx])))⟩
  · simp only [ux, List.mem_map] at hx; obtain ⟨y, -, rfl⟩ := hx; rfl
  · simp only [px, List.mem_map] at hx; obtain ⟨y, -, rfl⟩ := hx; rfl
  · simp only [px, List.mem_map] at hx; obtain ⟨y, -, rfl⟩ := hx; rfl
theorem tsb_tsv {V : World} {u : Value} {ts : List Ten} {B C : List (Nat × Obj)} (h : TsB u ts B C) (hB : ∀ x ∈ B ++ C, V.heap[x.1]? = some x.2) : TSV V u ts := by
  obtain ⟨zs, e, h1, h2⟩ := h
  refine ⟨zs, e, owb_rw' (fun x hx => ?_) (by rw [List.length_map]; exact h1) (fun x hx => hB x (by simp [hx])), fun z hz => zb_rws (h2 z hz) (fun x hx => hB x (by simp [hx]))⟩
  obtain ⟨z, hz, rfl⟩ := List.mem_map.mp hx
  exact tc_len (h2 z hz).1 _ _ _
theorem cvs_tsb {w V : World} {u : Value} {c : Cgf} {B C : List (Nat × Obj)} (hl : CLen c) (h : TsB u c.ten B C) (hM : Mem w V (B ++ C)) : CVs w.heap.size V (.agg (cc c u).toArray) c := by
  intro w1 V' h1 hb ha
  exact ⟨hl, u, rfl, tsb_tsv h (fun x hx => (ha _ (hM.low x hx) (hM.lt hx)).trans (hM.at_ x hx))⟩
theorem zb_one {z : Tv} {C : List (Nat × Obj)} (h : ZB z C) : ∀ u ∈ zc z, u.oneCell' = true := by
  obtain ⟨hl, B1, B2, B3, hs, h1, h2, h3⟩ := h
  have := tc_one3 z.1 (owb_one h1) (owb_one h2) (owb_one h3)
  intro u hu
  rw [Array.all_eq_true_iff_forall_mem] at this
  exact this u (by simpa [zc] using hu)
end Go.Proofs.YtneciccdiledfaaGreatDoor

namespace Go.Proofs.YtneciccdiledfaaGreatDoor
open Go.RowKit
open Sm
open Cf
set_option linter.unusedVariables false
set_option linter.unusedSimpArgs false
set_option maxRecDepth 20000

theorem cc_ip (t : Cgf) (u : Value) (y : Int) : (cc t u).toArray.setIfInBounds 0 (.int .u32 y) = (cc { t with ip := y } u).toArray := rfl
theorem cc_mac (t : Cgf) (u : Value) (y : List Int) (h : CLen t) (hy : y.length = 6) : stL (cc t u).toArray 1 (y.map (Value.int .u8)) = (cc { t with mac := y } u).toArray :=
  stL_mid _ (y.map (Value.int .u8)) (t.mac.map (Value.int .u8)) [.int .u32 t.ip] (by rw [List.length_map, List.length_map, h.mac, hy])
theorem cc_omac (t : Cgf) (u : Value) (y : List Int) (h : CLen t) (hy : y.length = 6) : stL (cc t u).toArray 7 (y.map (Value.int .u8)) = (cc { t with omac := y } u).toArray := by
  have := stL_mid (t.nmac.map (Value.int .u8) ++ (t.key.map (Value.int .u8) ++ [.int .u32 t.drain, u])) (y.map (Value.int .u8)) (t.omac.map (Value.int .u8)) (.int .u32 t.ip :: t.mac.map (Value.int .u8)) (by rw [List.length_map, List.length_map, h.omac, hy])
  rw [show (.int .u32 t.ip :: t.mac.map (Value.int .u8) : List Value).length = 7 by simp [h.mac]] at this
  simpa [cc] using this
theorem cc_nmac (t : Cgf) (u : Value) (y : List Int) (h : CLen t) (hy : y.length = 6) : stL (cc t u).toArray 13 (y.map (Value.int .u8)) = (cc { t with nmac := y } u).toArray := by
  have := stL_mid (t.key.map (Value.int .u8) ++ [.int .u32 t.drain, u]) (y.map (Value.int .u8)) (t.nmac.map (Value.int .u8)) (.int .u32 t.ip :: (t.mac.map (Value.int .u8) ++ t.omac.map (Value.int .u8))) (by rw [List.length_map, List.length_map, h.nmac, hy])
  rw [show (.int .u32 t.ip :: (t.mac.map (Value.int .u8) ++ t.omac.map (Value.int .u8)) : List Value).length = 13 by simp [h.mac, h.omac]] at this
  simpa [cc] using this
theorem cc_key (t : Cgf) (u : Value) (y : List Int) (h : CLen t) (hy : y.length = 8) : stL (cc t u).toArray 19 (y.map (Value.int .u8)) = (cc { t with key := y } u).toArray := by
  have := stL_mid [.int .u32 t.drain, u] (y.map (Value.int .u8)) (t.key.map (Value.int .u8)) (.int .u32 t.ip :: (t.mac.map (Value.int .u8) ++ (t.omac.map (Value.int .u8) ++ t.nmac.map (Value.int .u8)))) (by rw [List.length_map, List.length_map, h.key, hy])
  rw [show (.int .u32 t.ip :: (t.mac.map (Value.int .u8) ++ (t.omac.map (Value.int .u8) ++ t.nmac.map (Value.int .u8))) : List Value).length = 19 by simp [h.mac, h.omac, h.nmac]] at this
  simpa [cc] using this
theorem cc_put {t t' : Cgf} {p p' : Value} {o : Nat} {v : Value} (h : CLen t) (e : ∀ ip a b c d f g a1 b1 c1 d1 f1 g1 a2 b2 c2 d2 f2 g2 k1 k2 k3 k4 k5 k6 k7 k8 dr te,
    t = ⟨ip, [a, b, c, d, f, g], [a1, b1, c1, d1, f1, g1], [a2, b2, c2, d2, f2, g2], [k1, k2, k3, k4, k5, k6, k7, k8], dr, te⟩ → (cc t p).set o v = cc t' p') : (cc t p).toArray.setIfInBounds o v = (cc t' p').toArray := by
  rw [List.setIfInBounds_toArray, cset h e]
theorem cc_drain (t : Cgf) (u : Value) (y : Int) (h : CLen t) : (cc t u).toArray.setIfInBounds 27 (.int .u32 y) = (cc { t with drain := y } u).toArray :=
  cc_put h (by rintro ip a b c d f g a1 b1 c1 d1 f1 g1 a2 b2 c2 d2 f2 g2 k1 k2 k3 k4 k5 k6 k7 k8 dr te rfl; rfl)
theorem cc_ten (t : Cgf) (u u' : Value) (h : CLen t) : (cc t u).toArray.setIfInBounds 28 u' = (cc t u').toArray :=
  cc_put h (by rintro ip a b c d f g a1 b1 c1 d1 f1 g1 a2 b2 c2 d2 f2 g2 k1 k2 k3 k4 k5 k6 k7 k8 dr te rfl; rfl)
theorem cc_at28 {t : Cgf} (h : CLen t) (u : Value) : (cc t u).toArray[28]? = some u := by
  obtain ⟨ip, m1, m2, m3, k, dr, te⟩ := t
  obtain ⟨h1, h2, h3, h4⟩ := h
  obtain ⟨a, b, c, d, f, g, rfl⟩ := six6 h1
  obtain ⟨a1, b1, c1, d1, f1, g1, rfl⟩ := six6 h2
  obtain ⟨a2, b2, c2, d2, f2, g2, rfl⟩ := six6 h3
  obtain ⟨k1, k2, k3, k4, k5, k6, k7, k8, rfl⟩ := eight8 h4
  rfl
theorem build_C (V : World) : (Instr.build 29 #[]).run Tryz.prog V = .ok (.agg cz) V := by kernel_rfl
theorem bsliceT (z : Tv) (hl : TLen z.1) (V : World) : (Instr.buildSlice 27 1 #[(0, .agg (zc z).toArray)]).run Tryz.prog V = .ok (.slice (some ⟨V.heap.size, 0, none⟩) 1 1) (V.alloc (.cells (zc z).toArray 45)) := by
  obtain ⟨⟨n, vn, key, vt, vm, ho, po, lo, hi, fi, st, tw, se, qu, ra, bu⟩, p, s, q⟩ := z
  obtain ⟨h1, h2, h3⟩ := hl
  obtain ⟨a, b, c, d, f, g, x, y, rfl⟩ := eight8 h1
  obtain ⟨a1, b1, c1, d1, f1, g1, rfl⟩ := six6 h2
  obtain ⟨a2, b2, c2, d2, f2, g2, rfl⟩ := six6 h3
  obtain ⟨os, tape, heap⟩ := V
  kernel_rfl
end Go.Proofs.YtneciccdiledfaaGreatDoor

namespace Go.Proofs.YtneciccdiledfaaGreatDoor
open Go.RowKit
open Sm
open Cf
open La
set_option linter.unusedVariables false
set_option linter.unusedSimpArgs false
set_option maxRecDepth 20000

theorem Mem.front {w V : World} {K : List (Nat × Obj)} (h : Mem w V K) (o : Obj) {n : Nat} (hn : n = V.heap.size) : Mem w (V.alloc o) ((n, o) :: K) := (h.push n o hn).perm List.perm_append_comm
/-- A fault at a. -/
def Pan (w : World) (a : Nat) (e : Ending) (V : World) : Prop := ∃ g, e = .panicked [{ v := .iface 58 (.pointer (some ⟨g, 0, none⟩)), recovered := false }] ∧ Mem w V [(g, .cells #[.int .i64 a, .int .i64 60] 64 (0, 0))]
theorem fail_any {w V : World} {K : List (Nat × Obj)} (hM : Mem w V K) (a : Nat) : Calls Tryz.prog 43 #[.int .i64 (a : Int), .int .i64 60] V (Pan w a) := by
  have H : Hid (Mem w (V.alloc (.cells #[.int .i64 a, .int .i64 60] 64)) [(V.heap.size, .cells #[.int .i64 a, .int .i64 60] 64 (0, 0))]) := (hM.subl (List.nil_sublist _)).push1 rfl
  clear hM
  go_enter Tryz.func43, Tryz.ntmps43
  go_wp2
  exact ⟨rfl, _, rfl, H.out⟩

/-- A slice of words, in blocks K. -/
def WIn (K : List (Nat × Obj)) (v : Value) (ws : List Wd) : Prop := ∃ a c, v = .slice a ws.length c ∧ ws.length ≤ c ∧ c ≤ 9223372036854775807 ∧
  (ws = [] ∨ ∃ b off A T, a = some ⟨b, off, none⟩ ∧ (b, Obj.cells A T (0, 0)) ∈ K ∧ ∀ (i : Nat) (x : Wd), ws[i]? = some x → A[off + 2 * i]? = some (.string x.1) ∧ A[off + 2 * i + 1]? = some (.int .i64 x.2))
theorem WIn.sub {K L : List (Nat × Obj)} {v : Value} {ws : List Wd} (h : WIn K v ws) (hs : ∀ p ∈ K, p ∈ L) : WIn L v ws := by
  obtain ⟨a, c, h1, h2, h3, h4⟩ := h
  refine ⟨a, c, h1, h2, h3, ?_⟩
  rcases h4 with h | ⟨b, off, A, T, e, hm, hc⟩
  · exact Or.inl h
  · exact Or.inr ⟨b, off, A, T, e, hs _ hm, hc⟩
theorem WIn.tail {K : List (Nat × Obj)} {a : Option Addr} {n c : Nat} {x : Wd} {r : List Wd} (h : WIn K (.slice a n c) (x :: r)) : n = r.length + 1 ∧ n ≤ c ∧ c ≤ 9223372036854775807 ∧ ∃ b off, a = some ⟨b, off, none⟩ ∧
    (∀ w V, Mem w V K → V.cell? ⟨b, off, none⟩ = some (.string x.1) ∧ V.cell? ⟨b, off + 1, none⟩ = some (.int .i64 x.2)) ∧ WIn K (sliced a 1 n c 2) r := by
  obtain ⟨a', c', e, h2, h3, h4⟩ := h
  simp only [Value.slice.injEq] at e
  obtain ⟨rfl, rfl, rfl⟩ := e
  rcases h4 with h | ⟨b, off, A, T, rfl, hm, hc⟩
  · cases h
  · refine ⟨rfl, h2, h3, b, off, rfl, fun w V hV => ?_, ?_⟩
    · have hat := hV.at_ _ hm
      obtain ⟨k1, k2⟩ := hc 0 x rfl
      refine ⟨?_, ?_⟩
      · rw [cell_of hat]; simpa using k1
      · rw [cell_of hat]; simpa using k2
    · simp only [List.length_cons] at h2 ⊢
      by_cases h1 : c = 1
      · have hr : r = [] := List.eq_nil_of_length_eq_zero (by omega)
        subst hr
        subst h1
        exact ⟨some ⟨b, off, none⟩, 0, by simp [sliced], by simp, by omega, Or.inl rfl⟩
      · refine ⟨some ⟨b, off + 2, none⟩, c - 1, by simp [sliced, h1, Addr.add], by omega, by omega, Or.inr ⟨b, off + 2, A, T, rfl, hm, fun i y hy => ?_⟩⟩
        have := hc (i + 1) y (by simpa using hy)
        rw [show off + 2 * (i + 1) = off + 2 + 2 * i by omega] at this
        exact this
/-- A line of the program's, in block g; its words lie in blocks W. -/
def LnS (w V : World) (g : Nat) (post : List Value) (T : TypeId) (σ : Sg) (W K : List (Nat × Obj)) : Prop :=
  σ.bad = none ∧ (∀ x ∈ σ.ws, x.1.size ≤ 32768) ∧ ∃ v, WIn W v σ.ws ∧ Mem w V ((g, .cells (v :: .int .i64 σ.fin :: post).toArray T (0, 0)) :: (K ++ W))
section
variable {w V V' : World} {g : Nat} {post : List Value} {T : TypeId} {σ : Sg} {W K : List (Nat × Obj)}
theorem LnS.mem (h : LnS w V g post T σ W K) : Mem w V (K ++ W) := by
  obtain ⟨-, -, v, -, h⟩ := h; exact h.sub
theorem LnS.all (h : LnS w V g post T σ W K) : ∃ o, Mem w V ((g, o) :: (K ++ W)) := by
  obtain ⟨-, -, v, -, h⟩ := h; exact ⟨_, h⟩
theorem LnS.after (h : LnS w V g post T σ W K) (hb : Below V.heap.size V V') : LnS w V' g post T σ W K := by
  obtain ⟨h1, h2, v, h3, h⟩ := h; exact ⟨h1, h2, v, h3, h.after hb⟩
theorem LnS.push (h : LnS w V g post T σ W K) (o : Obj) {n : Nat} (hn : n = V.heap.size) : LnS w (V.alloc o) g post T σ W ((n, o) :: K) := by
  obtain ⟨h1, h2, v, h3, h⟩ := h
  exact ⟨h1, h2, v, h3, (h.front o hn).perm (List.Perm.swap _ _ _)⟩
theorem LnS.set (h : LnS w V g post T σ W K) {i n : Nat} {A : Array Value} {t : TypeId} (hi : K[i]? = some (n, .cells A t (0, 0))) (j : Nat) (v : Value) : LnS w (V.setCell ⟨n, j, none⟩ v) g post T σ W (K.set i (n, .cells (A.setIfInBounds j v) t (0, 0))) := by
  obtain ⟨h1, h2, u, h3, h⟩ := h
  have hl : i < K.length := by
    rcases Nat.lt_or_ge i K.length with h | h
    · exact h
    · rw [List.getElem?_eq_none h] at hi; cases hi
  have := h.set (i + 1) (by rw [List.getElem?_cons_succ, List.getElem?_append_left hl]; exact hi) j v
  rw [List.set_cons_succ, List.set_append_left _ _ hl] at this
  exact ⟨h1, h2, u, h3, this⟩
theorem LnS.perm {K' : List (Nat × Obj)} (h : LnS w V g post T σ W K) (hp : K.Perm K') : LnS w V g post T σ W K' := by
  obtain ⟨h1, h2, v, h3, h⟩ := h
  exact ⟨h1, h2, v, h3, h.perm (List.Perm.cons _ (hp.append_right W))⟩
theorem LnS.drop1 {p : Nat × Obj} (h : LnS w V g post T σ W (p :: K)) : LnS w V g post T σ W K := by
  obtain ⟨h1, h2, v, h3, h⟩ := h
  exact ⟨h1, h2, v, h3, (h.perm (List.Perm.swap _ _ _)).sub⟩
end

set_option maxHeartbeats 1000000 in
theorem take_no {w V : World} {g : Nat} {post : List Value} {T : TypeId} {σ : Sg} {W K : List (Nat × Obj)} (h : LnS w V g post T σ W K) (he : σ.ws = []) :
    Calls Tryz.prog 81 #[.pointer (some ⟨g, 0, none⟩)] V (Pan w σ.fin) := by
  obtain ⟨h1, h2, v, h3, hM⟩ := h
  rw [he] at h3
  obtain ⟨a, c, rfl, -, -, -⟩ := h3
  have HM : Hid (Mem w V ((g, .cells (.slice a 0 c :: .int .i64 σ.fin :: post).toArray T (0, 0)) :: (K ++ W))) := hM
  clear hM h1 h2 he
  go_enter Tryz.func81, Tryz.ntmps81
  go_upto_region 1 with fail
  refine wp_letter (fun X => Mem w X ((g, .cells (.slice a 0 c :: .int .i64 σ.fin :: post).toArray T (0, 0)) :: (K ++ W))) (HM.out.after ((Below.refl _ _).alloc (Nat.le_refl _) _)) ?_
  intro V1 hM
  have d0 : V1.cell? ⟨g, 0, none⟩ = some (.slice a 0 c) := hM.cell 0 rfl 0
  have d1 : V1.cell? ⟨g, 1, none⟩ = some (.int .i64 σ.fin) := hM.cell 0 rfl 1
  have CF := fail_any hM σ.fin
  clear hM HM
  go_wp2_with fail
  refine CF.mono ?_
  rintro e V' ⟨g', rfl, hM⟩
  exact ⟨rfl, _, rfl, hM⟩
set_option maxHeartbeats 1000000 in
theorem take_yes {w V : World} {g : Nat} {post : List Value} {T : TypeId} {σ : Sg} {W K : List (Nat × Obj)} (h : LnS w V g post T σ W K) {x : Wd} {r : List Wd} (he : σ.ws = x :: r) :
    Calls Tryz.prog 81 #[.pointer (some ⟨g, 0, none⟩)] V fun e V' => e = .returned (.agg #[.string x.1, .int .i64 x.2]) ∧ LnS w V' g post T ⟨r, σ.fin, none⟩ W K := by
  obtain ⟨h1, h2, v, h3, hM⟩ := h
  rw [he] at h2 h3
  have h3' := h3
  obtain ⟨a, c, rfl, -, -, -⟩ := h3'
  obtain ⟨hn, hc1, hc2, b, off, rfl, hcl, hW⟩ := h3.tail
  have hlen : 0 < (x :: r).length := by simp
  obtain ⟨n, hn'⟩ : ∃ n, (x :: r).length = n := ⟨_, rfl⟩
  rw [hn'] at hM hW hc1 hlen
  have hsz : ∀ V, (sizeOf (Tryz.prog.elem 103)).run Tryz.prog V = .ok 2 V := fun V => by kernel_rfl
  have hrun : ∀ V, (Instr.slice 103 (.slice (some ⟨b, off, none⟩) n c) (some (.int .i64 1)) none none).run Tryz.prog V = .ok (sliced (some ⟨b, off, none⟩) 1 n c 2) V := by
    intro V
    rw [run_slice_l (P := Tryz.prog) V 103 (some ⟨b, off, none⟩) n c (by kernel_rfl) .i64 1 (by omega) (by omega), hsz]
    rfl
  obtain ⟨u, hu⟩ : ∃ u, sliced (some ⟨b, off, none⟩) 1 n c 2 = u := ⟨_, rfl⟩
  obtain ⟨a3, n3, c3, rfl⟩ : ∃ a3 n3 c3, u = .slice a3 n3 c3 := by rw [← hu]; exact ⟨_, _, _, rfl⟩
  rw [hu] at hrun hW
  have HL : Hid (WIn W (.slice a3 n3 c3) r ∧ ∀ x ∈ r, x.1.size ≤ 32768) := ⟨hW, fun y hy => h2 y (by simp [hy])⟩
  have HC : Hid (∀ w V, Mem w V W → V.cell? ⟨b, off, none⟩ = some (.string x.1) ∧ V.cell? ⟨b, off + 1, none⟩ = some (.int .i64 x.2)) := hcl
  have HM : Hid (Mem w V ((g, .cells (.slice (some ⟨b, off, none⟩) n c :: .int .i64 σ.fin :: post).toArray T (0, 0)) :: (K ++ W))) := hM
  obtain ⟨g0, hg0⟩ : ∃ g0, V.heap.size = g0 := ⟨_, rfl⟩
  have HG : Hid (V.heap.size = g0) := hg0
  clear hM h1 h2 he h3 hcl hn hn' hu hW
  go_enter Tryz.func81, Tryz.ntmps81
  go_upto_region 1 with fail
  refine wp_letter (fun X => Mem w X ((g0, .cells #[.string ⟨#[]⟩, .int .i64 0] 149 (0, 0)) :: (g, .cells (.slice (some ⟨b, off, none⟩) n c :: .int .i64 σ.fin :: post).toArray T (0, 0)) :: (K ++ W))) (HM.out.front _ hg0.symm) ?_
  intro V1 hM
  try simp only [hg0]
  have HM1 : Hid _ := hM
  have d0 : V1.cell? ⟨g, 0, none⟩ = some (.slice (some ⟨b, off, none⟩) n c) := hM.cell 1 rfl 0
  obtain ⟨c0, c1⟩ := HC.out _ _ hM.sub.sub.dropA
  clear hM HM hg0
  go_upto_region 4 with fail
  obtain ⟨g1, hg1⟩ : ∃ g1, V1.heap.size = g1 := ⟨_, rfl⟩
  refine wp_letter (fun X => Mem w X ((g1, .cells #[.string x.1, .int .i64 x.2] 149 (0, 0)) :: (g0, .cells #[.string ⟨#[]⟩, .int .i64 0] 149 (0, 0)) :: (g, .cells (.slice (some ⟨b, off, none⟩) n c :: .int .i64 σ.fin :: post).toArray T (0, 0)) :: (K ++ W))) (HM1.out.front _ hg1.symm) ?_
  intro V2 hM
  try simp only [hg1]
  have HM2 : Hid _ := hM
  have d0 : V2.cell? ⟨g, 0, none⟩ = some (.slice (some ⟨b, off, none⟩) n c) := hM.cell 2 rfl 0
  have hf := hM.free 2 rfl
  clear hM HM1 hg1 c0 c1
  go_upto_region 5 with fail
  refine wp_letter (fun X => Mem w X ((g1, .cells #[.string x.1, .int .i64 x.2] 149 (0, 0)) :: (g0, .cells #[.string ⟨#[]⟩, .int .i64 0] 149 (0, 0)) :: (g, .cells (.slice a3 n3 c3 :: .int .i64 σ.fin :: post).toArray T (0, 0)) :: (K ++ W))) (HM2.out.set 2 rfl 0 _) ?_
  intro V3 hM
  have e0 : V3.cell? ⟨g1, 0, none⟩ = some (.string x.1) := hM.cell 0 rfl 0
  have e1 : V3.cell? ⟨g1, 1, none⟩ = some (.int .i64 x.2) := hM.cell 0 rfl 1
  have f0 : V3.cell? ⟨g0, 0, none⟩ = some (.string ⟨#[]⟩) := hM.cell 1 rfl 0
  have f1 : V3.cell? ⟨g0, 1, none⟩ = some (.int .i64 0) := hM.cell 1 rfl 1
  have hf := hM.free 1 rfl
  have HM3 : Hid _ := hM
  clear hM HM2 d0
  go_wp2_with fail
  refine post_let (fun X => Mem w X ((g1, .cells #[.string x.1, .int .i64 x.2] 149 (0, 0)) :: (g0, .cells #[.string x.1, .int .i64 x.2] 149 (0, 0)) :: (g, .cells (.slice a3 n3 c3 :: .int .i64 σ.fin :: post).toArray T (0, 0)) :: (K ++ W))) ((HM3.out.set 1 rfl 0 _).set 1 rfl 1 _) ?_
  intro V4 hM
  have k0 : V4.cell? ⟨g0, 0, none⟩ = some (.string x.1) := hM.cell 1 rfl 0
  have k1 : V4.cell? ⟨g0, 1, none⟩ = some (.int .i64 x.2) := hM.cell 1 rfl 1
  exact bodyPost_ret (v := .agg #[.string x.1, .int .i64 x.2]) (by simp [results, Tryz.results81, go_sem, k0, k1]) rfl ⟨rfl, rfl, HL.out.2, _, HL.out.1, hM.sub.sub⟩
end Go.Proofs.YtneciccdiledfaaGreatDoor

