/-
  Laws of no one program: bytes copied into a row of the call's own, whatever lies beside it; bytes made; a cell of a block.
-/
import Derived.Test.YteojfacalkklfaaBase
import Derived.Laws.CopyOwn
import Derived.Deep.OwnRows
import Derived.Deep.RegionHeld3
import Derived.Deep.QuietTactic
import Derived.BigQuiet
import Derived.Deep.DeepCutAuto
namespace Go.Proofs.Yteojfacalkklfaa
open Go.RowKit
open Sm
set_option linter.unusedVariables false

/-- What a write into block g leaves: g itself anew, all else as it was. -/
structure Wrote (w w' : World) (g : Nat) (new : Array Value) (t : TypeId) : Prop where
  here : w'.heap[g]? = some (.cells new t (0, 0))
  there : ∀ k, k ≠ g → w'.heap[k]? = w.heap[k]?
  size : w'.heap.size = w.heap.size
  below : ∀ B w0, B ≤ g → Below B w0 w → Below B w0 w'

theorem wrote_setRow (w : World) (g : Nat) (cur new : Array Value) (t : TypeId) (hg : w.heap[g]? = some (.cells cur t (0, 0))) : Wrote w (w.setRow g new) g new t :=
  ⟨setRow_heap w g cur _ t _ hg, fun k hk => setRow_other w g k _ (fun e => hk e), by simp [World.setRow], fun B w0 h hb => below_setRow hb h _⟩

theorem wrote_same (w : World) (g : Nat) (cur : Array Value) (t : TypeId) (hg : w.heap[g]? = some (.cells cur t (0, 0))) : Wrote w w g cur t :=
  ⟨hg, fun _ _ => rfl, rfl, fun _ _ _ h => h⟩

theorem run_copy_wrote {P : Program} (w : World) (dT sT ty elem : TypeId) (hu : P.underlying dT = some (.slice elem)) (hsz : (P.info? elem).map (·.size) = some 1)
    (dp sp : Option Addr) (dLen dCap sLen sCap g off : Nat) (cur new : Array Value) (t : TypeId) (hg : w.heap[g]? = some (.cells cur t (0, 0))) (l : List Int) (hn : l.length = Nat.min sLen dLen)
    (hpos : 0 < l.length → dp = some ⟨g, off, none⟩ ∧ ∃ ad, sp = some ad ∧ ∀ j v, (l.map (Value.int .u8))[j]? = some v → w.cell? (ad.add j) = some v)
    (hfit : off + l.length ≤ cur.size) (hnew : new.toList = cur.toList.take off ++ (l.map (Value.int .u8) ++ cur.toList.drop (off + l.length))) :
    ∃ w', (Builtin.copy_ #[dT, sT] ty #[.slice dp dLen dCap, .slice sp sLen sCap]).run P w = .ok (goInt l.length) w' ∧ Wrote w w' g new t := by
  by_cases h0 : l.length = 0
  · obtain rfl : l = [] := List.eq_nil_of_length_eq_zero h0
    have e : new = cur := by apply Array.toList_inj.mp; rw [hnew]; simp
    subst e
    exact ⟨w, run_copy_none (P := P) w dT sT ty elem dp sp dLen dCap sLen sCap hu hsz (by simpa using hn.symm), wrote_same w g new t hg⟩
  · obtain ⟨rfl, ad, rfl, hsrc⟩ := hpos (by omega)
    have hr := run_copy_row (P := P) w dT sT ty elem g off dLen dCap ad sLen sCap cur t (l.map (Value.int .u8)) hu hsz hg (by simpa using hn) hsrc (by simpa using hfit) (ints_oneCell _ _)
    have e : (cur.toList.take off ++ l.map (Value.int .u8) ++ cur.toList.drop (off + (l.map (Value.int .u8)).length)).toArray = new := by
      apply Array.toList_inj.mp; rw [hnew]; simp
    rw [e, List.length_map] at hr
    exact ⟨_, hr, wrote_setRow w g cur new t hg⟩

theorem wpList_copy_bytes {w : World} {ops : Array Oper} {rest : List Oper} {o : Oper} {a : Act} {Q : Exit → Act → World → Prop} (hgd : Region.wanted o (yielded ops a.tmps) = true) (d s : Operand) (dT sT : TypeId)
    (ho : o.op = .call { callee := .builtin .copy, args := #[d, s], argTypes := #[dT, sT] }) (hu : Try.prog.underlying dT = some (.slice 5))
    (dp sp : Option Addr) (dLen dCap sLen sCap : Nat) (hd : a.eval d = .slice dp dLen dCap) (hs : a.eval s = .slice sp sLen sCap)
    (g off : Nat) (cur new : Array Value) (t : TypeId) (hg : w.heap[g]? = some (.cells cur t (0, 0))) (l : List Int) (hn : l.length = Nat.min sLen dLen)
    (hpos : 0 < l.length → dp = some ⟨g, off, none⟩ ∧ ∃ ad, sp = some ad ∧ ∀ j v, (l.map (Value.int .u8))[j]? = some v → w.cell? (ad.add j) = some v)
    (hfit : off + l.length ≤ cur.size) (hnew : new.toList = cur.toList.take off ++ (l.map (Value.int .u8) ++ cur.toList.drop (off + l.length)))
    (h : ∀ w', Wrote w w' g new t → wpList Try.prog ops Q rest (a.put o.dst (goInt l.length)) w') :
    wpList Try.prog ops Q (o :: rest) a w := by
  have hsz : (Try.prog.info? 5).map (·.size) = some 1 := by kernel_rfl
  obtain ⟨w', hr, hw⟩ := run_copy_wrote (P := Try.prog) w dT sT o.type 5 hu hsz dp sp dLen dCap sLen sCap g off cur new t hg l hn hpos hfit hnew
  refine wpList_wanted hgd fun K hK => ?_
  unfold Oper.wp
  simp [execOp, ho, resolve, invoke, builtin, hd, hs, hr, Result.andThen]
  exact hK _ _ (h w' hw)

/-- The same as one step of a region that draws its order. -/
theorem step_copy_bytes {ops : Array Oper} {o : Oper} {a : Act} {w : World} {K : Act → World → Prop} {Q : Exit → Act → World → Prop} {E : Prop} (hgd : o.guard = none) (d s : Operand) (dT sT : TypeId)
    (ho : o.op = .call { callee := .builtin .copy, args := #[d, s], argTypes := #[dT, sT] }) (hu : Try.prog.underlying dT = some (.slice 5))
    (dp sp : Option Addr) (dLen dCap sLen sCap : Nat) (hd : a.eval d = .slice dp dLen dCap) (hs : a.eval s = .slice sp sLen sCap)
    (g off : Nat) (cur new : Array Value) (t : TypeId) (hg : w.heap[g]? = some (.cells cur t (0, 0))) (l : List Int) (hn : l.length = Nat.min sLen dLen)
    (hpos : 0 < l.length → dp = some ⟨g, off, none⟩ ∧ ∃ ad, sp = some ad ∧ ∀ j v, (l.map (Value.int .u8))[j]? = some v → w.cell? (ad.add j) = some v)
    (hfit : off + l.length ≤ cur.size) (hnew : new.toList = cur.toList.take off ++ (l.map (Value.int .u8) ++ cur.toList.drop (off + l.length)))
    (h : ∀ w', Wrote w w' g new t → K (a.put o.dst (goInt l.length)) w') :
    if Region.wanted o (yielded ops a.tmps) = true then Oper.wp Try.prog o a w K Q else E := by
  have hw : Region.wanted o (yielded ops a.tmps) = true := by simp [Region.wanted, hgd]
  rw [if_pos hw]
  have hsz : (Try.prog.info? 5).map (·.size) = some 1 := by kernel_rfl
  obtain ⟨w', hr, hw⟩ := run_copy_wrote (P := Try.prog) w dT sT o.type 5 hu hsz dp sp dLen dCap sLen sCap g off cur new t hg l hn hpos hfit hnew
  unfold Oper.wp
  simp [execOp, ho, resolve, invoke, builtin, hd, hs, hr, Result.andThen]
  exact h w' hw

/-- A cell of a block that is known. -/
theorem cell_of {w : World} {g : Nat} {c : Array Value} {t : TypeId} (h : w.heap[g]? = some (.cells c t (0, 0))) (i : Nat) : w.cell? ⟨g, i, none⟩ = c[i]? := by
  simp [World.cell?, h]

theorem wrap16_small (x : Int) (h0 : 0 ≤ x) (h1 : x ≤ 65535) : IntKind.u16.wrap x = x := by
  rw [show IntKind.u16.wrap x = x % 65536 by simp [IntKind.wrap, IntKind.bits, IntKind.signed]]; omega
theorem wrap8_small (x : Int) (h0 : 0 ≤ x) (h1 : x ≤ 255) : IntKind.u8.wrap x = x := by
  rw [show IntKind.u8.wrap x = x % 256 by simp [IntKind.wrap, IntKind.bits, IntKind.signed]]; omega

/-- A part of a row. -/
theorem Row.cellAt {w : World} {b off : Nat} {l : List Int} (h : Row w (some ⟨b, off, none⟩) l) (i : Nat) (hi : i < l.length) : w.cell? ⟨b, off + i, none⟩ = some (.int .u8 (l.getD i 0)) := by
  rcases h.cells with e | ⟨b', off', e, hc⟩
  · subst e; simp at hi
  · simp only [Option.some.injEq, Addr.mk.injEq] at e
    obtain ⟨rfl, rfl, -⟩ := e
    exact hc i hi
theorem Row.part {w : World} {b off : Nat} {l : List Int} (h : Row w (some ⟨b, off, none⟩) l) (i m : Nat) (hi : i + m ≤ l.length) : Row w (some ⟨b, off + i, none⟩) ((l.drop i).take m) := by
  have hl := h.len
  have hlen : ((l.drop i).take m).length = m := by simp; omega
  refine ⟨fun j => ?_, by omega, Or.inr ⟨b, off + i, rfl, fun j hj => ?_⟩⟩
  · by_cases hj : j < m
    · have : ((l.drop i).take m).getD j 0 = l.getD (i + j) 0 := by simp [List.getD, hj]
      rw [this]; exact h.bytes _
    · have : ((l.drop i).take m).getD j 0 = 0 := by simp [List.getD, List.getElem?_eq_none (show ((l.drop i).take m).length ≤ j by omega)]
      rw [this]; omega
  · have e : ((l.drop i).take m).getD j 0 = l.getD (i + j) 0 := by simp [List.getD, show j < m by omega]
    rw [e, Nat.add_assoc]
    exact h.cellAt (i + j) (by omega)

/-- What the call has made so far: the blocks L (number, content) behind all that was there, and nothing that was there turned. -/
structure Mem (w w' : World) (L : List (Nat × Obj)) : Prop where
  below : Below w.heap.size w w'
  low : ∀ p ∈ L, w.heap.size ≤ p.1
  at_ : ∀ p ∈ L, w'.heap[p.1]? = some p.2
  apart : (L.map Prod.fst).Nodup
theorem Mem.nil (w : World) : Mem w w [] := ⟨Below.refl _ _, fun p h => by simp at h, fun p h => by simp at h, by simp⟩
theorem Mem.lt {w w' : World} {L : List (Nat × Obj)} (h : Mem w w' L) {p : Nat × Obj} (hp : p ∈ L) : p.1 < w'.heap.size := by
  have := h.at_ p hp
  exact (Array.getElem?_eq_some_iff.mp this).1
theorem Mem.alloc {w w' : World} {L : List (Nat × Obj)} (h : Mem w w' L) (o : Obj) : Mem w (w'.alloc o) (L ++ [(w'.heap.size, o)]) := by
  have hs := h.below.size
  refine ⟨h.below.alloc hs o, fun p hp => ?_, fun p hp => ?_, ?_⟩
  · rcases List.mem_append.mp hp with hp | hp
    · exact h.low p hp
    · simp at hp; subst hp; exact hs
  · rcases List.mem_append.mp hp with hp | hp
    · rw [Below.heap_alloc _ _ _ (h.lt hp)]; exact h.at_ p hp
    · simp at hp; subst hp; exact heap_alloc_new _ _
  · rw [List.map_append, List.nodup_append]
    refine ⟨h.apart, by simp, fun a ha b hb => ?_⟩
    obtain ⟨p, hp, rfl⟩ := List.mem_map.mp ha
    simp at hb
    have := h.lt hp
    omega
theorem Mem.push {w w' : World} {L : List (Nat × Obj)} (h : Mem w w' L) (g : Nat) (o : Obj) (hg : g = w'.heap.size) : Mem w (w'.alloc o) (L ++ [(g, o)]) := by subst hg; exact h.alloc o
theorem Mem.drew {w w' : World} {L : List (Nat × Obj)} (h : Mem w w' L) : Mem w w'.drew L := ⟨h.below.drew, h.low, h.at_, h.apart⟩
theorem Mem.drewN {w w' : World} {L : List (Nat × Obj)} (h : Mem w w' L) (n : Nat) : Mem w (w'.drewN n) L := ⟨below_drewN h.below n, h.low, h.at_, h.apart⟩
theorem Mem.perm {w w' : World} {L L' : List (Nat × Obj)} (h : Mem w w' L) (hp : L.Perm L') : Mem w w' L' :=
  ⟨h.below, fun p q => h.low p (hp.symm.subset q), fun p q => h.at_ p (hp.symm.subset q), (hp.map Prod.fst).nodup_iff.mp h.apart⟩
theorem Mem.sub {w w' : World} {p : Nat × Obj} {L : List (Nat × Obj)} (h : Mem w w' (p :: L)) : Mem w w' L :=
  ⟨h.below, fun q hq => h.low q (List.mem_cons_of_mem _ hq), fun q hq => h.at_ q (List.mem_cons_of_mem _ hq), (List.nodup_cons.mp h.apart).2⟩
theorem Mem.get {w w' : World} {L : List (Nat × Obj)} (h : Mem w w' L) (i : Nat) {g : Nat} {o : Obj} (hi : L[i]? = some (g, o)) : w'.heap[g]? = some o := h.at_ (g, o) (List.mem_of_getElem? hi)
theorem Mem.ge {w w' : World} {L : List (Nat × Obj)} (h : Mem w w' L) (i : Nat) {g : Nat} {o : Obj} (hi : L[i]? = some (g, o)) : w.heap.size ≤ g := h.low (g, o) (List.mem_of_getElem? hi)
theorem Mem.wrote {w w' w2 : World} {L : List (Nat × Obj)} (h : Mem w w' L) (i : Nat) {g : Nat} {o : Obj} (hi : L[i]? = some (g, o)) {new : Array Value} {t : TypeId} (hw : Wrote w' w2 g new t) : Mem w w2 (L.set i (g, .cells new t (0, 0))) := by
  have hil := (List.getElem?_eq_some_iff.mp hi).1
  have he : L[i] = (g, o) := (List.getElem?_eq_some_iff.mp hi).2
  have hm : (L.set i (g, .cells new t (0, 0))).map Prod.fst = L.map Prod.fst := by
    rw [List.map_set]
    apply List.ext_getElem? ; intro j
    by_cases e : i = j
    · subst e; simp [hil, he]
    · rw [List.getElem?_set_ne e]
  have key : ∀ p ∈ L.set i (g, .cells new t (0, 0)), p = (g, .cells new t (0, 0)) ∨ (p ∈ L ∧ p.1 ≠ g) := by
    intro p hp
    obtain ⟨j, hj, rfl⟩ := List.mem_iff_getElem.mp hp
    by_cases e : i = j
    · subst e; left; simp
    · right
      have hjl : j < L.length := by simpa using hj
      rw [List.getElem_set_ne e]
      refine ⟨List.getElem_mem hjl, fun c => e ?_⟩
      have hpw := List.pairwise_iff_getElem.mp h.apart
      have hil' : i < (L.map Prod.fst).length := by simpa using hil
      have hjl' : j < (L.map Prod.fst).length := by simpa using hjl
      have c' : (L.map Prod.fst)[i] = (L.map Prod.fst)[j] := by simp [he, c]
      rcases Nat.lt_trichotomy i j with q | q | q
      · exact absurd c' (hpw i j hil' hjl' q)
      · exact q
      · exact absurd c'.symm (hpw j i hjl' hil' q)
  refine ⟨hw.below _ _ (h.ge i hi) h.below, fun p hp => ?_, fun p hp => ?_, by rw [hm]; exact h.apart⟩
  · rcases key p hp with rfl | ⟨q, _⟩
    · exact h.ge i hi
    · exact h.low p q
  · rcases key p hp with rfl | ⟨q, c⟩
    · exact hw.here
    · rw [hw.there _ c]; exact h.at_ p q
theorem Mem.after {w w' w2 : World} {L : List (Nat × Obj)} (h : Mem w w' L) (hb : Below w'.heap.size w' w2) : Mem w w2 L :=
  ⟨h.below.trans (hb.mono h.below.size), h.low, fun p hp => by rw [hb.block p.1 (h.lt hp)]; exact h.at_ p hp, h.apart⟩
theorem Mem.old {w w' : World} {L : List (Nat × Obj)} (h : Mem w w' L) {b i : Nat} (hb : b < w.heap.size) : w'.cell? ⟨b, i, none⟩ = w.cell? ⟨b, i, none⟩ := h.below.cell (p := ⟨b, i, none⟩) hb
theorem Mem.row {w w' : World} {L : List (Nat × Obj)} (h : Mem w w' L) {a : Option Addr} {l : List Int} (hr : Row w a l) : Row w' a l := hr.below h.below (Nat.le_refl _)
theorem Mem.cell {w w' : World} {L : List (Nat × Obj)} (h : Mem w w' L) (i : Nat) {g : Nat} {c : Array Value} {t : TypeId} (hi : L[i]? = some (g, .cells c t (0, 0))) (j : Nat) : w'.cell? ⟨g, j, none⟩ = c[j]? := cell_of (h.get i hi) j
theorem Mem.free {w w' : World} {L : List (Nat × Obj)} (h : Mem w w' L) (i : Nat) {g : Nat} {c : Array Value} {t : TypeId} (hi : L[i]? = some (g, .cells c t (0, 0))) (j : Nat) : w'.frozen? ⟨g, j, none⟩ = false := by
  simp [World.frozen?, h.get i hi]
/-- A store into one of these blocks. -/
theorem Mem.set {w w' : World} {L : List (Nat × Obj)} (h : Mem w w' L) (i : Nat) {g : Nat} {c : Array Value} {t : TypeId} (hi : L[i]? = some (g, .cells c t (0, 0))) (j : Nat) (v : Value) : Mem w (w'.setCell ⟨g, j, none⟩ v) (L.set i (g, .cells (c.setIfInBounds j v) t (0, 0))) := by
  have e := setCell_eq_setRow w' g j c t (0, 0) v (h.get i hi)
  rw [e]
  exact h.wrote i hi (wrote_setRow w' g c _ t (h.get i hi))
/-- Bytes of the call's own as a row. -/
theorem Mem.own {w w' : World} {L : List (Nat × Obj)} (h : Mem w w' L) (i : Nat) {g : Nat} {l : List Int} {t : TypeId} (hi : L[i]? = some (g, .cells (l.map (Value.int .u8)).toArray t (0, 0))) (hb : IsBytes l) (hl : l.length ≤ 140737488351232) : Row w' (some ⟨g, 0, none⟩) l :=
  ⟨hb, hl, Or.inr ⟨g, 0, rfl, fun j hj => by rw [h.cell i hi, Nat.zero_add]; simp [hj]⟩⟩

theorem made_new (m : Nat) (l : List Int) (h : l.length = m) : (l.map (Value.int .u8)).toArray.toList = (madeCells #[Value.int .u8 0] m).toList.take 0 ++ (l.map (Value.int .u8) ++ (madeCells #[Value.int .u8 0] m).toList.drop (0 + l.length)) := by
  rw [List.drop_eq_nil_of_le (by rw [toList_madeCells_one]; simp; omega)]
  simp

/-- A store elsewhere. -/
theorem Row.setCell {w : World} {b off : Nat} {l : List Int} (h : Row w (some ⟨b, off, none⟩) l) {p : Addr} (hp : p.block ≠ b) (v : Value) : Row (w.setCell p v) (some ⟨b, off, none⟩) l :=
  ⟨h.bytes, h.len, Or.inr ⟨b, off, rfl, fun i hi => by rw [World.cell?_setCell_other _ _ _ _ (fun e => hp (by rw [e]))]; exact h.cellAt i hi⟩⟩
theorem Row.far {w : World} {ao : Option Addr} {l : List Int} (h : Row w ao l) {g j : Nat} (hp : ∀ x, ao = some x → g ≠ x.block) {v : Value} : Row (w.setCell ⟨g, j, none⟩ v) ao l := by
  refine ⟨h.bytes, h.len, ?_⟩
  rcases h.cells with e | ⟨b, off, rfl, hc⟩
  · exact Or.inl e
  · exact Or.inr ⟨b, off, rfl, fun i hi => by rw [World.cell?_setCell_other _ _ _ _ (fun e => hp _ rfl (by simp only [Addr.mk.injEq] at e; exact e.1))]; exact hc i hi⟩
theorem Mem.ne {w w' : World} {L : List (Nat × Obj)} (h : Mem w w' L) (i j : Nat) {g k : Nat} {o u : Obj} (hi : L[i]? = some (g, o)) (hj : L[j]? = some (k, u)) (hij : i ≠ j) : g ≠ k := by
  obtain ⟨hil, ei⟩ := List.getElem?_eq_some_iff.mp hi
  obtain ⟨hjl, ej⟩ := List.getElem?_eq_some_iff.mp hj
  have hpw := List.pairwise_iff_getElem.mp h.apart
  intro c
  have c' : (L.map Prod.fst)[i]'(by simpa using hil) = (L.map Prod.fst)[j]'(by simpa using hjl) := by simp [ei, ej, c]
  rcases Nat.lt_trichotomy i j with q | q | q
  · exact hpw i j (by simpa using hil) (by simpa using hjl) q c'
  · exact hij q
  · exact hpw j i (by simpa using hjl) (by simpa using hil) q c'.symm

theorem below_set {B : Nat} {a w : World} {g j : Nat} {v : Value} (h : Below B a w) (hg : B ≤ g) : Below B a (w.setCell ⟨g, j, none⟩ v) := h.setCell (p := ⟨g, j, none⟩) hg v

/-- The world under a new letter. -/
theorem wp_letter {P : Program} {c : Code} {Q : Exit → Act → World → Prop} {a : Act} {W : World} (R : World → Prop) (h : R W) (k : ∀ W', R W' → Code.wp P c Q a W') : Code.wp P c Q a W := k W h
end Go.Proofs.Yteojfacalkklfaa
