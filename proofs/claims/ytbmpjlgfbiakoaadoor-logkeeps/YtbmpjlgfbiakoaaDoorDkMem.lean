/-
  Of no one layer: a struct's box whose first field is a slice of slices of bytes, the row of these slices, and the rows themselves, all of the call's own.
-/
import Derived.Test.YtbmpjlgfbiakoaaDoorKit
import Derived.Test.YtbmpjlgfbiakoaaDoorHelp
namespace Go.Proofs.YtbmpjlgfbiakoaaDoor
open Go.RowKit
open Sm
set_option linter.unusedVariables false

/-- A block of bytes: its number, its capacity, its cells, and the bytes that its slice reads as. -/
structure Bk where
  g : Nat
  cap : Nat
  cur : Array Value
  b : List Int
def Bk.hd (m : Nat) (k : Bk) : Value := .slice (some ⟨k.g, 0, none⟩) m k.cap
def Bk.ob (k : Bk) : Nat × Obj := (k.g, .cells k.cur 5 (0, 0))
structure Bk.Ok (m : Nat) (k : Bk) : Prop where
  cap : m ≤ k.cap
  size : k.cap ≤ k.cur.size
  here : k.cur.toList.take m = k.b.map (Value.int .u8)
  len : k.b.length = m
  bytes : IsBytes k.b

abbrev stL (p : Nat) (A : Array Value) (T : TypeId) (h : Nat) (hc : Array Value) (ks : List Bk) (L : List (Nat × Obj)) : List (Nat × Obj) :=
  (p, .cells A T (0, 0)) :: (h, .cells hc 22 (0, 0)) :: (ks.map Bk.ob ++ L)

structure St (w W : World) (p : Nat) (A : Array Value) (T : TypeId) (h m : Nat) (hc : Array Value) (ks : List Bk) (L : List (Nat × Obj)) : Prop where
  mem : Mem w W (stL p A T h hc ks L)
  heads : hc.toList.take ks.length = ks.map (Bk.hd m)
  ok : ∀ k ∈ ks, k.Ok m

theorem perm_set {α : Type} (l : List α) (i : Nat) (k a : α) (L : List α) (h : l[i]? = some k) : (l ++ a :: L).Perm (k :: (l.set i a ++ L)) := by
  induction l generalizing i with
  | nil => simp at h
  | cons x xs ih =>
    cases i with
    | zero =>
      simp at h; subst h
      simp only [List.set_cons_zero, List.cons_append]
      exact (List.perm_middle).cons x
    | succ i =>
      simp at h
      simp only [List.set_cons_succ, List.cons_append]
      exact ((ih i h).cons x).trans (List.Perm.swap _ _ _)

section
variable {w W : World} {p : Nat} {A : Array Value} {T : TypeId} {h m : Nat} {hc : Array Value} {ks : List Bk} {L : List (Nat × Obj)}
theorem St.box (s : St w W p A T h m hc ks L) (i : Nat) : W.cell? ⟨p, i, none⟩ = A[i]? := s.mem.cell 0 rfl i
theorem St.boxFree (s : St w W p A T h m hc ks L) (i : Nat) : W.frozen? ⟨p, i, none⟩ = false := s.mem.free 0 rfl i
theorem St.headFree (s : St w W p A T h m hc ks L) (i : Nat) : W.frozen? ⟨h, i, none⟩ = false := s.mem.free 1 rfl i
theorem St.head (s : St w W p A T h m hc ks L) {i : Nat} {k : Bk} (hi : ks[i]? = some k) : W.cell? ⟨h, i, none⟩ = some (.slice (some ⟨k.g, 0, none⟩) m k.cap) := by
  have hil := (List.getElem?_eq_some_iff.mp hi).1
  rw [s.mem.cell 1 rfl i]
  have e := congrArg (fun l => l[i]?) s.heads
  simp only [List.getElem?_map, hi, Option.map_some, List.getElem?_take, if_pos hil, Array.getElem?_toList] at e
  exact e
theorem St.at_ (s : St w W p A T h m hc ks L) {i : Nat} {k : Bk} (hi : ks[i]? = some k) : (stL p A T h hc ks L)[i + 2]? = some (k.g, .cells k.cur 5 (0, 0)) := by
  have hil := (List.getElem?_eq_some_iff.mp hi).1
  show ((ks.map Bk.ob ++ L))[i]? = _
  rw [List.getElem?_append_left (by simpa using hil), List.getElem?_map, hi]
  rfl
theorem St.free (s : St w W p A T h m hc ks L) {i : Nat} {k : Bk} (hi : ks[i]? = some k) (j : Nat) : W.frozen? ⟨k.g, j, none⟩ = false := s.mem.free (i + 2) (s.at_ hi) j
theorem St.okAt (s : St w W p A T h m hc ks L) {i : Nat} {k : Bk} (hi : ks[i]? = some k) : k.Ok m := s.ok k (List.mem_of_getElem? hi)
theorem St.cell (s : St w W p A T h m hc ks L) {i : Nat} {k : Bk} (hi : ks[i]? = some k) {j : Nat} (hj : j < m) : W.cell? ⟨k.g, j, none⟩ = some (.int .u8 (k.b.getD j 0)) := by
  have o := s.okAt hi
  rw [s.mem.cell (i + 2) (s.at_ hi) j]
  have e := congrArg (fun l => l[j]?) o.here
  have hjb : j < k.b.length := by rw [o.len]; exact hj
  simp only [List.getElem?_map, List.getElem?_take, if_pos hj, Array.getElem?_toList, List.getElem?_eq_getElem hjb, Option.map_some] at e
  rw [e, getD_eq hjb]
theorem St.row (s : St w W p A T h m hc ks L) {i : Nat} {k : Bk} (hi : ks[i]? = some k) (hm : m ≤ 140737488351232) : Row W (some ⟨k.g, 0, none⟩) k.b := by
  have o := s.okAt hi
  exact ⟨o.bytes, by rw [o.len]; exact hm, Or.inr ⟨k.g, 0, rfl, fun j hj => by rw [Nat.zero_add]; exact s.cell hi (by rw [o.len] at hj; exact hj)⟩⟩
theorem St.drew (s : St w W p A T h m hc ks L) : St w W.drew p A T h m hc ks L := ⟨s.mem.drew, s.heads, s.ok⟩
theorem St.drewN (s : St w W p A T h m hc ks L) (n : Nat) : St w (W.drewN n) p A T h m hc ks L := ⟨s.mem.drewN n, s.heads, s.ok⟩
theorem St.put (s : St w W p A T h m hc ks L) (j : Nat) (v : Value) : St w (W.setCell ⟨p, j, none⟩ v) p (A.setIfInBounds j v) T h m hc ks L :=
  ⟨s.mem.set 0 rfl j v, s.heads, s.ok⟩
theorem St.set (s : St w W p A T h m hc ks L) {i : Nat} {k : Bk} (hi : ks[i]? = some k) {W2 : World} {new : Array Value} {b : List Int} (hw : Wrote W W2 k.g new 5) (hsz : new.size = k.cur.size)
    (hhere : new.toList.take m = b.map (Value.int .u8)) (hb : IsBytes b) (hl : b.length = m) : St w W2 p A T h m hc (ks.set i ⟨k.g, k.cap, new, b⟩) L := by
  have o := s.okAt hi
  have hil := (List.getElem?_eq_some_iff.mp hi).1
  refine ⟨?_, ?_, ?_⟩
  · have := s.mem.wrote (i + 2) (s.at_ hi) hw
    have e : (stL p A T h hc ks L).set (i + 2) (k.g, .cells new 5 (0, 0)) = stL p A T h hc (ks.set i ⟨k.g, k.cap, new, b⟩) L := by
      simp only [stL, List.set_cons_succ, List.map_set]
      rw [List.set_append_left _ _ (by simpa using hil)]
      rfl
    rw [e] at this; exact this
  · rw [List.length_set, s.heads, List.map_set]
    apply List.ext_getElem?; intro j
    by_cases e : i = j
    · subst e
      rw [List.getElem?_set_self (by simpa using hil), List.getElem?_map, hi]; rfl
    · rw [List.getElem?_set_ne e]
  · intro k' hk'
    rcases List.mem_or_eq_of_mem_set hk' with q | q
    · exact s.ok k' q
    · subst q; exact ⟨o.cap, by rw [hsz]; exact o.size, hhere, hl, hb⟩
/-- Bytes written from its start. -/
theorem St.fill (s : St w W p A T h m hc ks L) {i : Nat} {k : Bk} (hi : ks[i]? = some k) {l : List Int} (hl : l.length ≤ m) (hb : IsBytes l) {W2 : World} {new : Array Value}
    (hnew : new.toList = k.cur.toList.take 0 ++ (l.map (Value.int .u8) ++ k.cur.toList.drop (0 + l.length))) (hw : Wrote W W2 k.g new 5) :
    St w W2 p A T h m hc (ks.set i ⟨k.g, k.cap, new, l ++ k.b.drop l.length⟩) L := by
  have o := s.okAt hi
  have hc1 := o.cap; have hc2 := o.size
  rw [List.take_zero, List.nil_append, Nat.zero_add] at hnew
  refine s.set hi hw ?_ ?_ ?_ ?_
  · rw [← Array.length_toList, hnew, ← Array.length_toList]; simp; omega
  · rw [hnew, List.map_append, List.map_drop, ← o.here, List.drop_take, List.take_append, List.length_map, List.take_of_length_le (by simpa using hl)]
  · refine bytes_append hb ?_
    intro j
    have : (k.b.drop l.length).getD j 0 = k.b.getD (l.length + j) 0 := by simp [List.getD]
    rw [this]; exact o.bytes _
  · have := o.len; simp; omega
/-- A byte written. -/
theorem St.byte (s : St w W p A T h m hc ks L) {i : Nat} {k : Bk} (hi : ks[i]? = some k) {j : Nat} (hj : j < m) {x : Int} (hx : 0 ≤ x ∧ x ≤ 255) :
    St w (W.setCell ⟨k.g, j, none⟩ (.int .u8 x)) p A T h m hc (ks.set i ⟨k.g, k.cap, k.cur.setIfInBounds j (.int .u8 x), k.b.set j x⟩) L := by
  have o := s.okAt hi
  have hg := s.mem.get (i + 2) (s.at_ hi)
  rw [setCell_eq_setRow W k.g j k.cur 5 (0, 0) _ hg]
  refine s.set hi (wrote_setRow W k.g _ _ 5 hg) (by simp) ?_ ?_ (by rw [List.length_set]; exact o.len)
  · rw [Array.toList_setIfInBounds, List.map_set, ← o.here, List.take_set]
  · intro q
    by_cases e : q = j
    · subst e
      by_cases h2 : q < k.b.length
      · have : (k.b.set q x).getD q 0 = x := by simp [List.getD, h2]
        rw [this]; exact hx
      · have : (k.b.set q x).getD q 0 = 0 := by simp [List.getD, h2]
        rw [this]; omega
    · have : (k.b.set j x).getD q 0 = k.b.getD q 0 := by simp [List.getD, List.getElem?_set_ne (fun c => e c.symm)]
      rw [this]; exact o.bytes q
/-- Another block in its place. -/
theorem St.turn {kn : Bk} (s : St w W p A T h m hc ks (kn.ob :: L)) (hkn : kn.Ok m) {i : Nat} {k : Bk} (hi : ks[i]? = some k) :
    St w (W.setCell ⟨h, i, none⟩ (.slice (some ⟨kn.g, 0, none⟩) m kn.cap)) p A T h m (hc.setIfInBounds i (.slice (some ⟨kn.g, 0, none⟩) m kn.cap)) (ks.set i kn) L := by
  have hil := (List.getElem?_eq_some_iff.mp hi).1
  refine ⟨?_, ?_, ?_⟩
  · have h1 := s.mem.set 1 rfl i (.slice (some ⟨kn.g, 0, none⟩) m kn.cap)
    simp only [List.set_cons_succ, List.set_cons_zero] at h1
    have hp : (ks.map Bk.ob ++ kn.ob :: L).Perm (k.ob :: ((ks.map Bk.ob).set i kn.ob ++ L)) := perm_set _ i k.ob kn.ob L (by rw [List.getElem?_map, hi]; rfl)
    have h2 := h1.perm (((hp.cons _).trans (List.Perm.swap _ _ _)).cons _ |>.trans (List.Perm.swap _ _ _))
    have h3 := h2.sub
    rw [stL, List.map_set]
    exact h3
  · rw [List.length_set, Array.toList_setIfInBounds, List.take_set, s.heads, List.map_set]; rfl
  · intro k' hk'
    rcases List.mem_or_eq_of_mem_set hk' with q | q
    · exact s.ok k' q
    · subst q; exact hkn
/-- Whatever else was made goes by. -/
theorem St.sub {q : Nat × Obj} (s : St w W p A T h m hc ks (q :: L)) : St w W p A T h m hc ks L := by
  refine ⟨?_, s.heads, s.ok⟩
  have e : (stL p A T h hc ks (q :: L)).Perm (q :: stL p A T h hc ks L) := by
    refine (List.Perm.cons _ ((List.Perm.cons _ List.perm_middle).trans (List.Perm.swap _ _ _))).trans (List.Perm.swap _ _ _)
  exact (s.mem.perm e).sub
theorem St.perm {L' : List (Nat × Obj)} (s : St w W p A T h m hc ks L) (hp : L.Perm L') : St w W p A T h m hc ks L' :=
  ⟨s.mem.perm (((hp.append_left _).cons _).cons _), s.heads, s.ok⟩
/-- A block more. -/
theorem St.alloc (s : St w W p A T h m hc ks L) (o : Obj) : St w (W.alloc o) p A T h m hc ks ((W.heap.size, o) :: L) := by
  refine ⟨?_, s.heads, s.ok⟩
  refine (s.mem.alloc o).perm ?_
  have : (stL p A T h hc ks L ++ [(W.heap.size, o)]).Perm (stL p A T h hc ks ([(W.heap.size, o)] ++ L)) := by
    simp only [stL, List.cons_append, List.append_assoc]
    exact (((List.perm_append_comm).append_left _).cons _).cons _
  exact this
/-- What another call made. -/
theorem St.join {W2 : World} {K : List (Nat × Obj)} (s : St w W p A T h m hc ks L) (k : Mem W W2 K) : St w W2 p A T h m hc ks (K ++ L) := by
  refine ⟨(s.mem.join k).perm ?_, s.heads, s.ok⟩
  simp only [stL, List.cons_append, List.append_assoc]
  exact (((List.perm_append_comm).append_left _).cons _).cons _
/-- Two of them, the other one ahead. -/
theorem St.swap {p2 : Nat} {A2 : Array Value} {T2 : TypeId} {h2 m2 : Nat} {hc2 : Array Value} {ks2 : List Bk} (s : St w W p A T h m hc ks (stL p2 A2 T2 h2 hc2 ks2 L))
    (h1 : hc2.toList.take ks2.length = ks2.map (Bk.hd m2)) (h3 : ∀ k ∈ ks2, k.Ok m2) : St w W p2 A2 T2 h2 m2 hc2 ks2 (stL p A T h hc ks L) := by
  refine ⟨s.mem.perm ?_, h1, h3⟩
  have e : ∀ (a b : List (Nat × Obj)) (x y u v : Nat × Obj), (x :: y :: (a ++ u :: v :: (b ++ L))).Perm (u :: v :: (b ++ x :: y :: (a ++ L))) := by
    intro a b x y u v
    have q : ((x :: y :: a) ++ ((u :: v :: b) ++ L)).Perm ((u :: v :: b) ++ ((x :: y :: a) ++ L)) := by
      rw [← List.append_assoc, ← List.append_assoc]
      exact (List.perm_append_comm).append_right L
    simpa using q
  exact e _ _ _ _ _ _
/-- What lies behind it all. -/
theorem St.extra {q : Nat × Obj} (s : St w W p A T h m hc ks (q :: L)) : (stL p A T h hc ks (q :: L))[ks.length + 2]? = some q := by
  show ((ks.map Bk.ob ++ q :: L))[ks.length]? = _
  rw [List.getElem?_append_right (by simp)]
  simp
theorem St.extraCell {g : Nat} {c : Array Value} {t : TypeId} (s : St w W p A T h m hc ks ((g, .cells c t (0, 0)) :: L)) (j : Nat) : W.cell? ⟨g, j, none⟩ = c[j]? := s.mem.cell _ s.extra j
theorem St.extraFree {g : Nat} {c : Array Value} {t : TypeId} (s : St w W p A T h m hc ks ((g, .cells c t (0, 0)) :: L)) (j : Nat) : W.frozen? ⟨g, j, none⟩ = false := s.mem.free _ s.extra j
theorem St.extraRow {g : Nat} {l : List Int} {t : TypeId} (s : St w W p A T h m hc ks ((g, .cells (bs l) t (0, 0)) :: L)) (hb : IsBytes l) (hl : l.length ≤ 140737488351232) : Row W (some ⟨g, 0, none⟩) l := s.mem.own _ s.extra hb hl
theorem St.extraSet {g : Nat} {c : Array Value} {t : TypeId} (s : St w W p A T h m hc ks ((g, .cells c t (0, 0)) :: L)) (j : Nat) (v : Value) : St w (W.setCell ⟨g, j, none⟩ v) p A T h m hc ks ((g, .cells (c.setIfInBounds j v) t (0, 0)) :: L) := by
  refine ⟨?_, s.heads, s.ok⟩
  have h1 := s.mem.set _ s.extra j v
  have e : (stL p A T h hc ks ((g, .cells c t (0, 0)) :: L)).set (ks.length + 2) (g, .cells (c.setIfInBounds j v) t (0, 0)) = stL p A T h hc ks ((g, .cells (c.setIfInBounds j v) t (0, 0)) :: L) := by
    simp only [stL, List.set_cons_succ]
    rw [List.set_append_right _ _ (by simp)]
    simp
  rw [e] at h1
  exact h1
theorem St.extraWrote {g : Nat} {c new : Array Value} {t : TypeId} {W2 : World} (s : St w W p A T h m hc ks ((g, .cells c t (0, 0)) :: L)) (hw : Wrote W W2 g new t) : St w W2 p A T h m hc ks ((g, .cells new t (0, 0)) :: L) := by
  refine ⟨?_, s.heads, s.ok⟩
  have h1 := s.mem.wrote _ s.extra hw
  have e : (stL p A T h hc ks ((g, .cells c t (0, 0)) :: L)).set (ks.length + 2) (g, .cells new t (0, 0)) = stL p A T h hc ks ((g, .cells new t (0, 0)) :: L) := by
    simp only [stL, List.set_cons_succ]
    rw [List.set_append_right _ _ (by simp)]
    simp
  rw [e] at h1
  exact h1
theorem St.below (s : St w W p A T h m hc ks L) : Below w.heap.size w W := s.mem.below
end

theorem place_small {x : Int} {n : Nat} (h0 : 0 ≤ x) (h1 : x < n) : ∃ i : Nat, x = (i : Int) ∧ i < n := ⟨x.toNat, by omega, by omega⟩
end Go.Proofs.YtbmpjlgfbiakoaaDoor
