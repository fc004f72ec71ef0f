/-
  What package log's read answers, whatever lies in a slot; a slice of entries of the call's own.
-/
import Derived.Test.YtbmpjlgfbiakoaaDoorLgRead
namespace Go.Proofs.YtbmpjlgfbiakoaaDoor
open Go.RowKit
open Sm
set_option linter.unusedVariables false

section
variable {w W : World} {p h m : Nat} {D : Dk} {hc : Array Value} {ks : List Bk} {L : List (Nat × Obj)}
theorem rd_live (H : DkAt w W p h m D hc ks L) (hd : D.dead = false) (hn : 4 ≤ ks.length) (hm : 256 ≤ m) {t : TypeId} {v : Value} (hgl : W.cell? ⟨0, 0, none⟩ = some (.iface t v)) (slot : Nat) (hs : slot ≤ 1) :
    Calls Tryd.prog 36 #[.pointer (some ⟨p, 0, none⟩), .int .i64 slot] W fun e W' => ∃ vr, e = .returned (rdV (.iface t v) vr (rd (ks.map Bk.b) slot)) ∧ ∃ X K, Mem W W' (X ++ K) ∧ ∀ x, rd (ks.map Bk.b) slot = some x → OwnV vr x.r X := by
  unfold rd
  cases hrp : rp (ks.map Bk.b) slot 0 with
  | none =>
    refine (rd_first H hd hn hm hgl slot hs hrp).mono ?_
    rintro e W' ⟨rfl, K, hK⟩
    exact ⟨.nilIface, rfl, [], K, hK, fun x e => by cases e⟩
  | some f =>
    obtain ⟨ft, fc, fi, fn, fb⟩ := f
    have hq := (rp_n hrp).1
    simp only at hq
    have hn0 : 0 ≤ fn := by
      have hz : slot * sbk ks.length + 0 < ks.length := slot_in hs hn (by unfold sbk; omega)
      have e1 : (ks.map Bk.b).getD (slot * sbk ks.length + 0) [] = (ks[slot * sbk ks.length + 0]'hz).b := by simp [List.getD, List.getElem?_eq_getElem (show slot * sbk ks.length < ks.length by simpa using hz)]
      have o := H.st.ok _ (List.getElem_mem hz)
      unfold rp at hrp
      rw [List.length_map, e1] at hrp
      split at hrp
      · cases hrp
      · rename_i q hu
        split at hrp
        · cases hrp
        · simp only [Option.some.injEq] at hrp
          subst hrp
          exact (unf_facts hu o.len hm o.bytes).2.2.2.2.1.1
    obtain ⟨fk, rfl⟩ := Int.eq_ofNat_of_zero_le hn0
    have hrp2 : rp (ks.map Bk.b) slot 0 = some ⟨ft, fc, 0, fk, fb⟩ := by rw [hrp, hq]; rfl
    refine (rd_more H hd hn hm hgl slot hs hrp2).mono ?_
    rintro e W' ⟨vr, rfl, X, K, hK, hO⟩
    refine ⟨vr, rfl, X, K, hK, fun x e => ?_⟩
    simp only [Int.toNat_natCast, Option.map_eq_some_iff] at e
    obtain ⟨r, hr, rfl⟩ := e
    exact hO r hr
end

/-! ### A slice of entries. -/
def enC (x : En × Value) : List Value := [.int .i64 x.1.s, .int .u64 x.1.t, .int .i64 x.1.c, x.2]
def enCs (l : List (En × Value)) : List Value := l.flatMap enC
theorem enCs_length (l : List (En × Value)) : (enCs l).length = l.length * 4 := by
  induction l with
  | nil => rfl
  | cons x l ih => simp only [enCs, List.flatMap_cons, List.length_append, List.length_cons] at ih ⊢; rw [ih]; simp [enC]; omega
/-- Each record is of the call's own. -/
inductive OwnL : List (En × Value) → List (Nat × Obj) → Prop where
  | nil : OwnL [] []
  | cons {x : En × Value} {X : List (Nat × Obj)} {l : List (En × Value)} {Xs : List (Nat × Obj)} (h : OwnV x.2 x.1.r X) (t : OwnL l Xs) : OwnL (x :: l) (X ++ Xs)
theorem OwnL.snoc {l : List (En × Value)} {Xs : List (Nat × Obj)} (h : OwnL l Xs) {x : En × Value} {X : List (Nat × Obj)} (hx : OwnV x.2 x.1.r X) : OwnL (l ++ [x]) (Xs ++ X) := by
  induction h with
  | nil => have := OwnL.cons hx .nil; simpa using this
  | cons h t ih => rw [List.cons_append, List.append_assoc]; exact .cons h ih
def ES (v : Value) (l : List (En × Value)) (Y : List (Nat × Obj)) : Prop :=
  (v = .slice none 0 0 ∧ l = [] ∧ Y = []) ∨ ∃ g cap cur Xs, v = .slice (some ⟨g, 0, none⟩) l.length cap ∧ 0 < l.length ∧ l.length ≤ cap ∧ cap * 4 ≤ cur.size ∧ cur.toList.take (l.length * 4) = enCs l ∧ OwnL l Xs ∧ Y = (g, .cells cur enT (0, 0)) :: Xs
theorem ES.shape {v : Value} {l : List (En × Value)} {Y : List (Nat × Obj)} (h : ES v l Y) : ∃ a c, v = .slice a l.length c := by
  rcases h with ⟨rfl, rfl, rfl⟩ | ⟨g, cap, cur, Xs, rfl, _⟩
  · exact ⟨none, 0, rfl⟩
  · exact ⟨_, _, rfl⟩
theorem en_info : (Tryd.prog.info? enT).map (fun i => (i.zero, i.size, i.bytes)) = some (some (.agg en0), 4, 48) := by kernel_rfl
theorem cells_one {s t c : Int} {a : Option Addr} {n k : Nat} : ∀ u ∈ [Value.int .i64 s, .int .u64 t, .int .i64 c, .slice a n k], u.oneCell' = true := by
  intro u hu
  simp at hu
  rcases hu with rfl | rfl | rfl | rfl <;> rfl
/-- One entry more. -/
theorem es_append {w W : World} {v : Value} {l : List (En × Value)} {Y X K : List (Nat × Obj)} (hE : ES v l Y) (hM : Mem w W (Y ++ (X ++ K))) (hl : l.length ≤ 100) {x : En} {vr : Value} (hx : OwnV vr x.r X) {gt : Nat}
    (hc : ∀ j, j < 4 → W.cell? ⟨gt, j, none⟩ = (enA x.s x.t x.c vr)[j]?) (ty : TypeId) :
    ∃ a' c' Y' W', (Builtin.append_ #[58, 58] ty #[v, .slice (some ⟨gt, 0, none⟩) 1 1]).run Tryd.prog W = .ok (.slice a' (l.length + 1) c') W' ∧ ES (.slice a' (l.length + 1) c') (l ++ [(x, vr)]) Y' ∧ Mem w W' (Y' ++ K) := by
  obtain ⟨i, hi, hz, hs1, hby⟩ := info_parts en_info
  obtain ⟨av, cv, ev, -⟩ := hx.shape
  have hnews : ∀ j u, (enC (x, vr))[j]? = some u → W.cell? ((⟨gt, 0, none⟩ : Addr).add j) = some u := by
    intro j u hj
    have hjl := (List.getElem?_eq_some_iff.mp hj).1
    have e : ((⟨gt, 0, none⟩ : Addr).add j) = ⟨gt, j, none⟩ := by
      by_cases e : j = 0
      · subst e; simp [Addr.add]
      · simp [Addr.add, e]
    rw [e, hc j (by simpa [enC] using hjl), ← hj]
    simp [enC, enA]
  have hone : ∀ u ∈ enC (x, vr), u.oneCell' = true := by rw [ev]; exact cells_one
  have hnl : (enC (x, vr)).length = 4 := rfl
  have hll : (l ++ [(x, vr)]).length = l.length + 1 := by simp
  have hcs : enCs (l ++ [(x, vr)]) = enCs l ++ enC (x, vr) := by simp [enCs]
  rcases hE with ⟨rfl, rfl, rfl⟩ | ⟨g, cap, cur, Xs, rfl, h0, h1, h2, h3, h4, rfl⟩
  · have hr := run_append_nil (P := Tryd.prog) W 58 ty enT i (.agg en0) Tryd.underlying58 hi hz ⟨gt, 0, none⟩ 1 1 (enC (x, vr)) (by rw [hs1]; rfl) hnews (by omega) (by omega) (by rw [hby]; omega)
    have hge := grownCap_ge W 1 0 enT
    refine ⟨_, _, _, _, hr, Or.inr ⟨W.heap.size, grownCap W 1 0 enT, (enC (x, vr)).toArray ++ Builtin.zeroCells (Value.agg en0).cells (grownCap W 1 0 enT - 1), X, by simp, by simp, by simpa using hge, ?_, ?_, (by have := OwnL.cons (x := (x, vr)) hx .nil; simpa using this), rfl⟩, ?_⟩
    · simp only [Array.size_append, List.size_toArray, size_zeroCells, hnl, Value.cells]
      simp only [List.length_cons, List.length_nil]; omega
    · simp only [Array.toList_append]
      rw [List.take_left' (by rw [hnl]; rfl)]; simp [enCs]
    · have := (hM.drew.alloc (.cells ((enC (x, vr)).toArray ++ Builtin.zeroCells (Value.agg en0).cells (grownCap W 1 0 enT - 1)) enT)).perm List.perm_append_comm
      simpa using this
  · have hg : W.heap[g]? = some (.cells cur enT (0, 0)) := hM.get 0 rfl
    have htl : (cur.toList.take (l.length * 4)).length = l.length * 4 := by rw [h3, enCs_length]
    have pm : (((g, Obj.cells cur enT (0, 0)) :: Xs) ++ (X ++ K)).Perm ((g, .cells cur enT (0, 0)) :: ((Xs ++ X) ++ K)) := by rw [List.cons_append, List.append_assoc]
    by_cases hroom : l.length + 1 ≤ cap
    · have hr := run_append_room (P := Tryd.prog) W 58 ty enT i Tryd.underlying58 hi g l.length cap cur hg ⟨gt, 0, none⟩ 1 1 (enC (x, vr)) (by rw [hs1]; rfl) hnews hone hroom (by rw [hs1, hnl]; omega)
      refine ⟨_, _, _, _, hr, Or.inr ⟨g, cap, (cur.toList.take (l.length * i.size) ++ enC (x, vr) ++ cur.toList.drop (l.length * i.size + (enC (x, vr)).length)).toArray, Xs ++ X, by rw [hll], by rw [hll]; omega, by rw [hll]; exact hroom, ?_, ?_, h4.snoc hx, rfl⟩, ?_⟩
      · simp only [List.size_toArray, List.length_append, List.length_take, List.length_drop, Array.length_toList, hnl, hs1]; omega
      · rw [hll, hcs, ← h3, List.toList_toArray, hs1, List.take_left' (by rw [List.length_append, htl, hnl]; omega)]
      · exact (hM.perm pm).wrote 0 rfl (wrote_setRow W g cur _ enT hg)
    · have holds : ∀ q u, (cur.toList.take (l.length * 4))[q]? = some u → W.cell? ((⟨g, 0, none⟩ : Addr).add q) = some u := by
        intro q u hq
        have hql := (List.getElem?_eq_some_iff.mp hq).1
        rw [htl] at hql
        have e : ((⟨g, 0, none⟩ : Addr).add q) = ⟨g, q, none⟩ := by
          by_cases e : q = 0
          · subst e; simp [Addr.add]
          · simp [Addr.add, e]
        rw [e, cell_of hg]
        rw [List.getElem?_take, if_pos hql] at hq
        simpa using hq
      have hr := run_append_grow (P := Tryd.prog) W 58 ty enT i (.agg en0) Tryd.underlying58 hi hz ⟨g, 0, none⟩ l.length cap (cur.toList.take (l.length * 4)) (by rw [hs1, htl]) holds ⟨gt, 0, none⟩ 1 1 (enC (x, vr)) (by rw [hs1]; rfl) hnews (by omega) (by omega) (growslice_fits (by omega) (by rw [hby]; omega))
      have hge := grownCap_ge W (l.length + 1) cap enT
      refine ⟨_, _, _, _, hr, Or.inr ⟨W.heap.size, grownCap W (l.length + 1) cap enT, (cur.toList.take (l.length * 4)).toArray ++ (enC (x, vr)).toArray ++ Builtin.zeroCells (Value.agg en0).cells (grownCap W (l.length + 1) cap enT - (l.length + 1)), Xs ++ X, by rw [hll], by rw [hll]; omega, by rw [hll]; exact hge, ?_, ?_, h4.snoc hx, rfl⟩, ?_⟩
      · simp only [Array.size_append, List.size_toArray, size_zeroCells, htl, hnl, Value.cells]
        simp only [List.length_cons, List.length_nil]; omega
      · rw [hll, hcs, ← h3, Array.toList_append, Array.toList_append, List.toList_toArray, List.toList_toArray, List.take_left' (by rw [List.length_append, htl, hnl]; omega)]
      · exact ((hM.perm pm).sub.drew.alloc _).perm List.perm_append_comm
end Go.Proofs.YtbmpjlgfbiakoaaDoor
