/-
  Of no one layer: a row of bytes of the call's own, or none yet, to which bytes are put.
-/
import Derived.Test.YtbmpjlgfbiakoaaDoorDkAppend
import Derived.Test.YtbmpjlgfbiakoaaDoorLgMath
namespace Go.Proofs.YtbmpjlgfbiakoaaDoor
open Go.RowKit
open Sm
set_option linter.unusedVariables false

/-- A value that is the bytes b, and the blocks that it takes. -/
def OwnV (v : Value) (b : List Int) (X : List (Nat × Obj)) : Prop :=
  (v = .slice none 0 0 ∧ b = [] ∧ X = []) ∨ ∃ k : Bk, v = .slice (some ⟨k.g, 0, none⟩) b.length k.cap ∧ k.b = b ∧ k.Ok b.length ∧ X = [k.ob]
theorem OwnV.shape {v : Value} {b : List Int} {X : List (Nat × Obj)} (h : OwnV v b X) : ∃ a c, v = .slice a b.length c ∧ b.length ≤ c := by
  rcases h with ⟨rfl, rfl, rfl⟩ | ⟨k, rfl, _, o, rfl⟩
  · exact ⟨none, 0, rfl, Nat.le_refl _⟩
  · exact ⟨_, _, rfl, o.cap⟩
theorem OwnV.isb {v : Value} {b : List Int} {X : List (Nat × Obj)} (h : OwnV v b X) : IsBytes b := by
  rcases h with ⟨rfl, rfl, rfl⟩ | ⟨k, rfl, e, o, rfl⟩
  · intro i; simp
  · rw [← e]; exact o.bytes
theorem OwnV.row {v : Value} {b : List Int} {X R : List (Nat × Obj)} (h : OwnV v b X) {w W : World} (hM : Mem w W (X ++ R)) (hl : b.length ≤ 140737488351232) : ∃ a c, v = .slice a b.length c ∧ b.length ≤ c ∧ Row W a b := by
  rcases h with ⟨rfl, rfl, rfl⟩ | ⟨k, rfl, e, o, rfl⟩
  · exact ⟨none, 0, rfl, Nat.le_refl _, ⟨fun i => by simp, by simp, Or.inl rfl⟩⟩
  · refine ⟨_, _, rfl, o.cap, ⟨by rw [← e]; exact o.bytes, hl, Or.inr ⟨k.g, 0, rfl, fun j hj => ?_⟩⟩⟩
    have hg : W.heap[k.g]? = some (.cells k.cur 5 (0, 0)) := hM.get 0 rfl
    rw [Nat.zero_add, cell_of hg]
    have e2 := congrArg (fun l => l[j]?) o.here
    have hjb : j < k.b.length := by rw [e]; exact hj
    simp only [List.getElem?_map, List.getElem?_take, if_pos hj, Array.getElem?_toList, List.getElem?_eq_getElem hjb, Option.map_some] at e2
    rw [e2, getD_eq hj]
    simp only [e]
theorem append_zero_nil (W : World) (ad : Addr) (c : Nat) (ty : TypeId) : (Builtin.append_ #[22, 22] ty #[.slice none 0 0, .slice (some ad) 0 c]).run Tryd.prog W = .ok (.slice none 0 0) W := by
  obtain ⟨i, hi, hz, hs1, hby⟩ := info_parts info5
  have hf := run_firstCells_some (P := Tryd.prog) W i.size 0 ad 0 c [] (by simp) (by simp)
  simp [Builtin.append_, run_underlying Tryd.underlying22, sizeOf, typeInfo, hi, Builtin.lenOf, hf]
theorem append_row {w W : World} {v : Value} {b : List Int} {X R : List (Nat × Obj)} (hM : Mem w W (X ++ R)) (ho : OwnV v b X) {g off j c : Nat} {l : List Int} (hl : l.length = j) (hr : Row W (some ⟨g, off, none⟩) l) (hb : b.length + j ≤ 1000000000) (ty : TypeId) :
    ∃ v' X' W', (Builtin.append_ #[22, 22] ty #[v, .slice (some ⟨g, off, none⟩) j c]).run Tryd.prog W = .ok v' W' ∧ OwnV v' (b ++ l) X' ∧ Mem w W' (X' ++ R) := by
  obtain ⟨i, hi, hz, hs1, hby⟩ := info_parts info5
  rcases ho with ⟨rfl, rfl, rfl⟩ | ⟨k, rfl, e, o, rfl⟩
  · by_cases hj : j = 0
    · subst hj
      have : l = [] := List.eq_nil_of_length_eq_zero hl
      subst this
      exact ⟨_, [], W, append_zero_nil W _ _ _, Or.inl ⟨rfl, rfl, rfl⟩, hM⟩
    · obtain ⟨g', cap, W', h1, cur, h2, h3⟩ := append_new W hl hr (by omega) c ty
      refine ⟨_, [(g', .cells cur 5 (0, 0))], W', h1, Or.inr ⟨Bk.mk g' cap cur l, by rw [List.nil_append, hl], rfl, by rw [List.nil_append, hl]; exact h3, rfl⟩, ?_⟩
      exact (hM.join h2).perm List.perm_append_comm
  · have hg : W.heap[k.g]? = some (.cells k.cur 5 (0, 0)) := hM.get 0 rfl
    have hlen : (b ++ l).length = b.length + j := by simp [hl]
    have hkb := o.here
    have hlm : (l.map (Value.int .u8)).length = j := by simp [hl]
    have htl : (k.cur.toList.take b.length).length = b.length := by rw [o.here, List.length_map, e]
    by_cases hroom : b.length + j ≤ k.cap
    · have h1 := run_append_room (P := Tryd.prog) W 22 ty 5 i Tryd.underlying22 hi k.g b.length k.cap k.cur hg ⟨g, off, none⟩ j c (l.map (Value.int .u8)) (by rw [hs1]; simp; omega) hr.news (ints_oneCell _ _) hroom (by rw [hs1, hlm]; have := o.size; omega)
      refine ⟨_, _, _, h1, Or.inr ⟨Bk.mk k.g k.cap (k.cur.toList.take (b.length * i.size) ++ l.map (Value.int .u8) ++ k.cur.toList.drop (b.length * i.size + (l.map (Value.int .u8)).length)).toArray (b ++ l), by rw [hlen], rfl, ⟨by rw [hlen]; exact hroom, ?_, ?_, rfl, bytes_app (by rw [← e]; exact o.bytes) hr.bytes⟩, rfl⟩, ?_⟩
      · have := o.size
        simp only [List.size_toArray, List.length_append, List.length_take, List.length_drop, Array.length_toList, hlm, hs1]; omega
      · rw [hlen, List.toList_toArray, hs1, Nat.mul_one, List.take_left' (by rw [List.length_append, htl, hlm]), List.map_append, o.here, e]
      · exact hM.wrote 0 rfl (wrote_setRow W k.g k.cur _ 5 hg)
    · have holds : ∀ q u, (k.cur.toList.take b.length)[q]? = some u → W.cell? ((⟨k.g, 0, none⟩ : Addr).add q) = some u := by
        intro q u hq
        have hql := (List.getElem?_eq_some_iff.mp hq).1
        rw [htl] at hql
        have e : ((⟨k.g, 0, none⟩ : Addr).add q) = ⟨k.g, q, none⟩ := by
          by_cases e : q = 0
          · subst e; simp [Addr.add]
          · simp [Addr.add, e]
        rw [e, cell_of hg]
        rw [List.getElem?_take, if_pos hql] at hq
        simpa using hq
      have h1 := run_append_grow (P := Tryd.prog) W 22 ty 5 i (.int .u8 0) Tryd.underlying22 hi hz ⟨k.g, 0, none⟩ b.length k.cap (k.cur.toList.take b.length) (by rw [hs1, htl]; omega) holds ⟨g, off, none⟩ j c (l.map (Value.int .u8)) (by rw [hs1]; simp; omega) hr.news (by omega) (by omega) (growslice_fits (by omega) (by rw [hby]; omega))
      have hge := grownCap_ge W (b.length + j) k.cap 5
      refine ⟨_, _, _, h1, Or.inr ⟨Bk.mk W.heap.size (grownCap W (b.length + j) k.cap 5) ((k.cur.toList.take b.length).toArray ++ (l.map (Value.int .u8)).toArray ++ Builtin.zeroCells (Value.int .u8 0).cells (grownCap W (b.length + j) k.cap 5 - (b.length + j))) (b ++ l), by rw [hlen], rfl, ⟨by rw [hlen]; exact hge, ?_, ?_, rfl, bytes_app (by rw [← e]; exact o.bytes) hr.bytes⟩, rfl⟩, ?_⟩
      · simp only [Array.size_append, List.size_toArray, size_zeroCells, htl, hlm, Value.cells]
        simp; omega
      · rw [hlen, Array.toList_append, Array.toList_append, List.toList_toArray, List.toList_toArray, List.take_left' (by rw [List.length_append, htl, hlm]), List.map_append, o.here, e]
      · exact (hM.sub.drew.alloc _).perm List.perm_append_comm
end Go.Proofs.YtbmpjlgfbiakoaaDoor
