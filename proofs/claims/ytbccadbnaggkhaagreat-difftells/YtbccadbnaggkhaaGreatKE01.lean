/-
  Plain mathematics of the Internet's checksum, with no program in it: folding is the residue by 65535 (with the two noughts told apart), and a sum with end-around carry folds to what the plain sum folds to.
  Rows of bytes in memory: what a slice of bytes reads as, rows that the call itself made, and bytes or noughts appended to them. Of no one program.
  Laws of no one program: bytes copied into a row of the call's own, whatever lies beside it; bytes made; a cell of a block.
  What each function of package sum (and each of the document's own, lychref1) answers, as contracts: whatever the arguments, in whatever memory.
-/
import Derived.Laws.BitsLemmas
import Derived.Laws.BitsAllLaws
import Derived.Test.YtbccadbnaggkhaaGreatRows
import Derived.WalkKit
import Derived.WalkSpells
import Derived.WalkLawsBesides
import Derived.Laws.AppendOwnNone
import Derived.Lib.AppendZerosOnto
import Derived.Laws.CopyOwn
import Derived.Deep.OwnRows
import Derived.Deep.RegionHeld3
import Derived.Deep.QuietTactic
import Derived.BigQuiet
import Derived.Deep.DeepCutAuto
namespace Go.Proofs.YtbccadbnaggkhaaGreat
namespace Sm

theorem wraps_u32 (n : Int) (h0 : 0 ≤ n) (h1 : n < 2 ^ 32) : IntKind.u32.wrap n = n := by rw [IntKind.wrap_u32]; omega
def IsBytes (l : List Int) : Prop := ∀ i : Nat, 0 ≤ l.getD i 0 ∧ l.getD i 0 ≤ 255
/-- How many words so many bytes have. -/
def cnt (n : Nat) : Nat := n / 2 + n % 2
end Sm
end Go.Proofs.YtbccadbnaggkhaaGreat

namespace Go.Proofs.YtbccadbnaggkhaaGreat
open Go.RowKit
open Sm
set_option linter.unusedVariables false

/-- A slice whose elements are the bytes l. -/
structure Row (w : World) (a : Option Addr) (l : List Int) : Prop where
  bytes : IsBytes l
  len : l.length ≤ 140737488351232
  cells : l = [] ∨ ∃ b off, a = some ⟨b, off, none⟩ ∧ ∀ i, i < l.length → w.cell? ⟨b, off + i, none⟩ = some (.int .u8 (l.getD i 0))

theorem cell_lt {w : World} {p : Addr} {v : Value} (h : w.cell? p = some v) : p.block < w.heap.size := by
  by_cases hc : p.block < w.heap.size
  · exact hc
  · have : w.heap[p.block]? = none := by simp; omega
    simp [World.cell?, this] at h

theorem Row.below {w w' : World} {a : Option Addr} {l : List Int} (h : Row w a l) {B : Nat} (hb : Below B w w') (hB : w.heap.size ≤ B) : Row w' a l := by
  refine ⟨h.bytes, h.len, ?_⟩
  rcases h.cells with e | ⟨b, off, rfl, hc⟩
  · exact Or.inl e
  · refine Or.inr ⟨b, off, rfl, fun i hi => ?_⟩
    have := cell_lt (hc i hi)
    rw [hb.cell (p := ⟨b, off + i, none⟩) (by simp at this ⊢; omega)]
    exact hc i hi

theorem info5 : (Tryz.prog.info? 5).map (fun i => (i.zero, i.size, i.bytes)) = some (some (.int .u8 0), 1, 1) := by kernel_rfl

/-- A slice of the call's own that holds the bytes l. -/
def OwnB (w : World) (B g cap : Nat) (l : List Int) : Prop := w.ownsRow B 5 1 (.slice (some ⟨g, 0, none⟩) l.length cap) l.length (l.map (Value.int .u8))

theorem getD_eq {l : List Int} {i : Nat} (h : i < l.length) : l.getD i 0 = l[i] := by simp [List.getD, List.getElem?_eq_getElem h]

theorem OwnB.cell {w : World} {B g cap : Nat} {l : List Int} (h : OwnB w B g cap l) (i : Nat) (hi : i < l.length) : w.cell? ⟨g, i, none⟩ = some (.int .u8 (l.getD i 0)) := by
  rw [World.ownsRow.cellAt h i (by omega), getD_eq hi]
  simp [hi]

theorem OwnB.row {w : World} {B g cap : Nat} {l : List Int} (h : OwnB w B g cap l) (hb : IsBytes l) (hl : l.length ≤ 140737488351232) : Row w (some ⟨g, 0, none⟩) l :=
  ⟨hb, hl, Or.inr ⟨g, 0, rfl, fun i hi => by rw [Nat.zero_add]; exact h.cell i hi⟩⟩

theorem OwnB.free {w : World} {B g cap : Nat} {l : List Int} (h : OwnB w B g cap l) (j : Nat) : w.frozen? ⟨g, j, none⟩ = false := World.ownsRow.frozenAt h j

theorem Row.news {w : World} {b off : Nat} {l : List Int} (h : Row w (some ⟨b, off, none⟩) l) :
    ∀ (j : Nat) (u : Value), (l.map (Value.int .u8))[j]? = some u → w.cell? ((⟨b, off, none⟩ : Addr).add j) = some u := by
  intro j u hj
  have hjl : j < l.length := by
    have := (List.getElem?_eq_some_iff.mp hj).1
    simpa using this
  have e : ((⟨b, off, none⟩ : Addr).add j) = ⟨b, off + j, none⟩ := by
    by_cases e : j = 0
    · subst e; simp [Addr.add]
    · simp [Addr.add, e]
  rcases h.cells with e' | ⟨b', off', e', hc⟩
  · subst e'; simp at hjl
  · simp only [Option.some.injEq, Addr.mk.injEq] at e'
    obtain ⟨rfl, rfl, -⟩ := e'
    rw [e, hc j hjl]
    rw [getD_eq hjl]
    simpa [hjl] using hj

theorem wpList_wanted {P : Program} {ops : Array Oper} {Q : Exit → Act → World → Prop} {a : Act} {w : World} {rest : List Oper} {o : Oper} (hw : Region.wanted o (yielded ops a.tmps) = true)
    (h : ∀ K : Act → World → Prop, (∀ a w, wpList P ops Q rest a w → K a w) → o.wp P a w K Q) : wpList P ops Q (o :: rest) a w :=
  wpList_step fun K hK => by rw [if_pos hw]; exact h K hK

theorem wp_append_out {o : Oper} {a : Act} {w : World} {K : Act → World → Prop} {Q : Exit → Act → World → Prop} (s x : Operand) (t tn : TypeId)
    (ho : o.op = .call { callee := .builtin .append, args := #[s, x], argTypes := #[t, tn] }) {vs vx : Value} (hs : a.eval s = vs) (hx : a.eval x = vx)
    {v' : Value} {w' : World} (hr : (Builtin.append_ #[t, tn] o.type #[vs, vx]).run Tryz.prog w = .ok v' w') (h : K (a.put o.dst v') w') : o.wp Tryz.prog a w K Q :=
  Lib.wp_append_run w s x t tn ho vs vx hs hx v' w' hr h

namespace Sm
end Sm

end Go.Proofs.YtbccadbnaggkhaaGreat

namespace Go.Proofs.YtbccadbnaggkhaaGreat
open Go.RowKit
open Sm
set_option linter.unusedVariables false

/-- What a write into block g leaves: g itself anew, all else as it was. -/
structure Wrote (w w' : World) (g : Nat) (new : Array Value) (t : TypeId) : Prop where
  here : w'.heap[g]? = some (.cells new t (0, 0))
  there : ∀ k, k ≠ g → w'.heap[k]? = w.heap[k]?
  size : w'.heap.size = w.heap.size
  below : ∀ B w0, B ≤ g → Below B w0 w → Below B w0 w'

theorem wrote_setRow (w : World) (g : Nat) (cur new : Array Value) (t : TypeId) (hg : w.heap[g]? = some (.cells cur t (0, 0))) : Wrote w (w.setRow g new) g new t :=
  ⟨setRow_heap w g cur _ t _ hg, fun k hk => setRow_other w g k _ (fun e => hk e), by simp [World.setRow], fun B w0 h hb => below_setRow hb h _⟩

theorem wrote_same (w : World) (g : Nat) (cur : Array Value) (t : TypeId) (hg : w.heap[g]? = some (.cells cur t (0, 0))) : Wrote w w g cur t :=
  ⟨hg, fun _ _ => rfl, rfl, fun _ _ _ h => h⟩

theorem run_copy_wrote {P : Program} (w : World) (dT sT ty elem : TypeId) (hu : P.underlying dT = some (.slice elem)) (hsz : (P.info? elem).map (·.size) = some 1)
    (dp sp : Option Addr) (dLen dCap sLen sCap g off : Nat) (cur new : Array Value) (t : TypeId) (hg : w.heap[g]? = some (.cells cur t (0, 0))) (l : List Int) (hn : l.length = Nat.min sLen dLen)
    (hpos : 0 < l.length → dp = some ⟨g, off, none⟩ ∧ ∃ ad, sp = some ad ∧ ∀ j v, (l.map (Value.int .u8))[j]? = some v → w.cell? (ad.add j) = some v)
    (hfit : off + l.length ≤ cur.size) (hnew : new.toList = cur.toList.take off ++ (l.map (Value.int .u8) ++ cur.toList.drop (off + l.length))) :
    ∃ w', (Builtin.copy_ #[dT, sT] ty #[.slice dp dLen dCap, .slice sp sLen sCap]).run P w = .ok (goInt l.length) w' ∧ Wrote w w' g new t := by
  by_cases h0 : l.length = 0
  · obtain rfl : l = [] := List.eq_nil_of_length_eq_zero h0
    have e : new = cur := by apply Array.toList_inj.mp; rw [hnew]; simp
    subst e
    exact ⟨w, run_copy_none (P := P) w dT sT ty elem dp sp dLen dCap sLen sCap hu hsz (by simpa using hn.symm), wrote_same w g new t hg⟩
  · obtain ⟨rfl, ad, rfl, hsrc⟩ := hpos (by omega)
    have hr := run_copy_row (P := P) w dT sT ty elem g off dLen dCap ad sLen sCap cur t (l.map (Value.int .u8)) hu hsz hg (by simpa using hn) hsrc (by simpa using hfit) (ints_oneCell _ _)
    have e : (cur.toList.take off ++ l.map (Value.int .u8) ++ cur.toList.drop (off + (l.map (Value.int .u8)).length)).toArray = new := by
      apply Array.toList_inj.mp; rw [hnew]; simp
    rw [e, List.length_map] at hr
    exact ⟨_, hr, wrote_setRow w g cur new t hg⟩

theorem copy_bytes (w : World) (ty : TypeId) (dp sp : Option Addr) (dLen dCap sLen sCap g off : Nat) (cur new : Array Value) (t : TypeId) (hg : w.heap[g]? = some (.cells cur t (0, 0))) (l : List Int) (hn : l.length = Nat.min sLen dLen)
    (hpos : 0 < l.length → dp = some ⟨g, off, none⟩ ∧ ∃ ad, sp = some ad ∧ ∀ j v, (l.map (Value.int .u8))[j]? = some v → w.cell? (ad.add j) = some v)
    (hfit : off + l.length ≤ cur.size) (hnew : new.toList = cur.toList.take off ++ (l.map (Value.int .u8) ++ cur.toList.drop (off + l.length))) :
    ∃ w', (Builtin.copy_ #[87, 87] ty #[.slice dp dLen dCap, .slice sp sLen sCap]).run Tryz.prog w = .ok (goInt l.length) w' ∧ Wrote w w' g new t :=
  run_copy_wrote (P := Tryz.prog) w 87 87 ty 5 Tryz.underlying87 (by kernel_rfl) dp sp dLen dCap sLen sCap g off cur new t hg l hn hpos hfit hnew

theorem cell_of {w : World} {g : Nat} {c : Array Value} {t : TypeId} (h : w.heap[g]? = some (.cells c t (0, 0))) (i : Nat) : w.cell? ⟨g, i, none⟩ = c[i]? := by
  simp [World.cell?, h]

theorem wrap16_small (x : Int) (h0 : 0 ≤ x) (h1 : x ≤ 65535) : IntKind.u16.wrap x = x := by
  rw [show IntKind.u16.wrap x = x % 65536 by simp [IntKind.wrap, IntKind.bits, IntKind.signed]]; omega
theorem Row.cellAt {w : World} {b off : Nat} {l : List Int} (h : Row w (some ⟨b, off, none⟩) l) (i : Nat) (hi : i < l.length) : w.cell? ⟨b, off + i, none⟩ = some (.int .u8 (l.getD i 0)) := by
  rcases h.cells with e | ⟨b', off', e, hc⟩
  · subst e; simp at hi
  · simp only [Option.some.injEq, Addr.mk.injEq] at e
    obtain ⟨rfl, rfl, -⟩ := e
    exact hc i hi
theorem Row.part {w : World} {b off : Nat} {l : List Int} (h : Row w (some ⟨b, off, none⟩) l) (i m : Nat) (hi : i + m ≤ l.length) : Row w (some ⟨b, off + i, none⟩) ((l.drop i).take m) := by
  have hl := h.len
  have hlen : ((l.drop i).take m).length = m := by simp; omega
  refine ⟨fun j => ?_, by omega, Or.inr ⟨b, off + i, rfl, fun j hj => ?_⟩⟩
  · by_cases hj : j < m
    · have : ((l.drop i).take m).getD j 0 = l.getD (i + j) 0 := by simp [List.getD, hj]
      rw [this]; exact h.bytes _
    · have : ((l.drop i).take m).getD j 0 = 0 := by simp [List.getD, List.getElem?_eq_none (show ((l.drop i).take m).length ≤ j by omega)]
      rw [this]; omega
  · have e : ((l.drop i).take m).getD j 0 = l.getD (i + j) 0 := by simp [List.getD, show j < m by omega]
    rw [e, Nat.add_assoc]
    exact h.cellAt (i + j) (by omega)

/-- What the call has made so far: the blocks L (number, content) behind all that was there, and nothing that was there turned. -/
structure Mem (w w' : World) (L : List (Nat × Obj)) : Prop where
  below : Below w.heap.size w w'
  low : ∀ p ∈ L, w.heap.size ≤ p.1
  at_ : ∀ p ∈ L, w'.heap[p.1]? = some p.2
  apart : (L.map Prod.fst).Nodup
theorem Mem.nil (w : World) : Mem w w [] := ⟨Below.refl _ _, fun p h => by simp at h, fun p h => by simp at h, by simp⟩
theorem Mem.lt {w w' : World} {L : List (Nat × Obj)} (h : Mem w w' L) {p : Nat × Obj} (hp : p ∈ L) : p.1 < w'.heap.size := by
  have := h.at_ p hp
  exact (Array.getElem?_eq_some_iff.mp this).1
theorem Mem.alloc {w w' : World} {L : List (Nat × Obj)} (h : Mem w w' L) (o : Obj) : Mem w (w'.alloc o) (L ++ [(w'.heap.size, o)]) := by
  have hs := h.below.size
  refine ⟨h.below.alloc hs o, fun p hp => ?_, fun p hp => ?_, ?_⟩
  · rcases List.mem_append.mp hp with hp | hp
    · exact h.low p hp
    · simp at hp; subst hp; exact hs
  · rcases List.mem_append.mp hp with hp | hp
    · rw [Below.heap_alloc _ _ _ (h.lt hp)]; exact h.at_ p hp
    · simp at hp; subst hp; exact heap_alloc_new _ _
  · rw [List.map_append, List.nodup_append]
    refine ⟨h.apart, by simp, fun a ha b hb => ?_⟩
    obtain ⟨p, hp, rfl⟩ := List.mem_map.mp ha
    simp at hb
    have := h.lt hp
    omega
theorem Mem.push {w w' : World} {L : List (Nat × Obj)} (h : Mem w w' L) (g : Nat) (o : Obj) (hg : g = w'.heap.size) : Mem w (w'.alloc o) (L ++ [(g, o)]) := by subst hg; exact h.alloc o
theorem Mem.drew {w w' : World} {L : List (Nat × Obj)} (h : Mem w w' L) : Mem w w'.drew L := ⟨h.below.drew, h.low, h.at_, h.apart⟩
theorem Mem.drewN {w w' : World} {L : List (Nat × Obj)} (h : Mem w w' L) (n : Nat) : Mem w (w'.drewN n) L := ⟨Go.below_drewN h.below n, h.low, h.at_, h.apart⟩
theorem Mem.perm {w w' : World} {L L' : List (Nat × Obj)} (h : Mem w w' L) (hp : L.Perm L') : Mem w w' L' :=
  ⟨h.below, fun p q => h.low p (hp.symm.subset q), fun p q => h.at_ p (hp.symm.subset q), (hp.map Prod.fst).nodup_iff.mp h.apart⟩
theorem Mem.sub {w w' : World} {p : Nat × Obj} {L : List (Nat × Obj)} (h : Mem w w' (p :: L)) : Mem w w' L :=
  ⟨h.below, fun q hq => h.low q (List.mem_cons_of_mem _ hq), fun q hq => h.at_ q (List.mem_cons_of_mem _ hq), (List.nodup_cons.mp h.apart).2⟩
theorem Mem.get {w w' : World} {L : List (Nat × Obj)} (h : Mem w w' L) (i : Nat) {g : Nat} {o : Obj} (hi : L[i]? = some (g, o)) : w'.heap[g]? = some o := h.at_ (g, o) (List.mem_of_getElem? hi)
theorem Mem.ge {w w' : World} {L : List (Nat × Obj)} (h : Mem w w' L) (i : Nat) {g : Nat} {o : Obj} (hi : L[i]? = some (g, o)) : w.heap.size ≤ g := h.low (g, o) (List.mem_of_getElem? hi)
theorem Mem.wrote {w w' w2 : World} {L : List (Nat × Obj)} (h : Mem w w' L) (i : Nat) {g : Nat} {o : Obj} (hi : L[i]? = some (g, o)) {new : Array Value} {t : TypeId} (hw : Wrote w' w2 g new t) : Mem w w2 (L.set i (g, .cells new t (0, 0))) := by
  have hil := (List.getElem?_eq_some_iff.mp hi).1
  have he : L[i] = (g, o) := (List.getElem?_eq_some_iff.mp hi).2
  have hm : (L.set i (g, .cells new t (0, 0))).map Prod.fst = L.map Prod.fst := by
    rw [List.map_set]
    apply List.ext_getElem? ; intro j
    by_cases e : i = j
    · subst e; simp [hil, he]
    · rw [List.getElem?_set_ne e]
  have key : ∀ p ∈ L.set i (g, .cells new t (0, 0)), p = (g, .cells new t (0, 0)) ∨ (p ∈ L ∧ p.1 ≠ g) := by
    intro p hp
    obtain ⟨j, hj, rfl⟩ := List.mem_iff_getElem.mp hp
    by_cases e : i = j
    · subst e; left; simp
    · right
      have hjl : j < L.length := by simpa using hj
      rw [List.getElem_set_ne e]
      refine ⟨List.getElem_mem hjl, fun c => e ?_⟩
      have hpw := List.pairwise_iff_getElem.mp h.apart
      have hil' : i < (L.map Prod.fst).length := by simpa using hil
      have hjl' : j < (L.map Prod.fst).length := by simpa using hjl
      have c' : (L.map Prod.fst)[i] = (L.map Prod.fst)[j] := by simp [he, c]
      rcases Nat.lt_trichotomy i j with q | q | q
      · exact absurd c' (hpw i j hil' hjl' q)
      · exact q
      · exact absurd c'.symm (hpw j i hjl' hil' q)
  refine ⟨hw.below _ _ (h.ge i hi) h.below, fun p hp => ?_, fun p hp => ?_, by rw [hm]; exact h.apart⟩
  · rcases key p hp with rfl | ⟨q, _⟩
    · exact h.ge i hi
    · exact h.low p q
  · rcases key p hp with rfl | ⟨q, c⟩
    · exact hw.here
    · rw [hw.there _ c]; exact h.at_ p q
theorem Mem.after {w w' w2 : World} {L : List (Nat × Obj)} (h : Mem w w' L) (hb : Below w'.heap.size w' w2) : Mem w w2 L :=
  ⟨h.below.trans (hb.mono h.below.size), h.low, fun p hp => by rw [hb.block p.1 (h.lt hp)]; exact h.at_ p hp, h.apart⟩
theorem Mem.old {w w' : World} {L : List (Nat × Obj)} (h : Mem w w' L) {b i : Nat} (hb : b < w.heap.size) : w'.cell? ⟨b, i, none⟩ = w.cell? ⟨b, i, none⟩ := h.below.cell (p := ⟨b, i, none⟩) hb
theorem Mem.row {w w' : World} {L : List (Nat × Obj)} (h : Mem w w' L) {a : Option Addr} {l : List Int} (hr : Row w a l) : Row w' a l := hr.below h.below (Nat.le_refl _)
theorem Mem.cell {w w' : World} {L : List (Nat × Obj)} (h : Mem w w' L) (i : Nat) {g : Nat} {c : Array Value} {t : TypeId} (hi : L[i]? = some (g, .cells c t (0, 0))) (j : Nat) : w'.cell? ⟨g, j, none⟩ = c[j]? := cell_of (h.get i hi) j
theorem Mem.free {w w' : World} {L : List (Nat × Obj)} (h : Mem w w' L) (i : Nat) {g : Nat} {c : Array Value} {t : TypeId} (hi : L[i]? = some (g, .cells c t (0, 0))) (j : Nat) : w'.frozen? ⟨g, j, none⟩ = false := by
  simp [World.frozen?, h.get i hi]
theorem Mem.set {w w' : World} {L : List (Nat × Obj)} (h : Mem w w' L) (i : Nat) {g : Nat} {c : Array Value} {t : TypeId} (hi : L[i]? = some (g, .cells c t (0, 0))) (j : Nat) (v : Value) : Mem w (w'.setCell ⟨g, j, none⟩ v) (L.set i (g, .cells (c.setIfInBounds j v) t (0, 0))) := by
  have e := setCell_eq_setRow w' g j c t (0, 0) v (h.get i hi)
  rw [e]
  exact h.wrote i hi (wrote_setRow w' g c _ t (h.get i hi))
theorem Mem.own {w w' : World} {L : List (Nat × Obj)} (h : Mem w w' L) (i : Nat) {g : Nat} {l : List Int} {t : TypeId} (hi : L[i]? = some (g, .cells (l.map (Value.int .u8)).toArray t (0, 0))) (hb : IsBytes l) (hl : l.length ≤ 140737488351232) : Row w' (some ⟨g, 0, none⟩) l :=
  ⟨hb, hl, Or.inr ⟨g, 0, rfl, fun j hj => by rw [h.cell i hi, Nat.zero_add]; simp [hj]⟩⟩

theorem Row.setCell {w : World} {b off : Nat} {l : List Int} (h : Row w (some ⟨b, off, none⟩) l) {p : Addr} (hp : p.block ≠ b) (v : Value) : Row (w.setCell p v) (some ⟨b, off, none⟩) l :=
  ⟨h.bytes, h.len, Or.inr ⟨b, off, rfl, fun i hi => by rw [World.cell?_setCell_other _ _ _ _ (fun e => hp (by rw [e]))]; exact h.cellAt i hi⟩⟩
theorem wp_letter {P : Program} {c : Code} {Q : Exit → Act → World → Prop} {a : Act} {W : World} (R : World → Prop) (h : R W) (k : ∀ W', R W' → Code.wp P c Q a W') : Code.wp P c Q a W := k W h
end Go.Proofs.YtbccadbnaggkhaaGreat

namespace Go.Proofs.YtbccadbnaggkhaaGreat
open Go.RowKit
open Sm
set_option linter.unusedVariables false

end Go.Proofs.YtbccadbnaggkhaaGreat

