/-
  Numbers as text: the document's own Num, at every text, and a number's own text.
  Laws of no one program: bytes copied into a row of the call's own, whatever lies beside it; bytes made; a cell of a block.
  What this program calls of Go's library, in this text's own words: a text cut at a sign, texts joined, a number's text, runes.
  What each function of package sum (and each of the document's own, lychref1) answers, as contracts: whatever the arguments, in whatever memory.
-/
import Derived.Test.YtneciccdiledfaaGreatDoorMx02
import Derived.Laws.CopyOwn
import Derived.Deep.OwnRows
import Derived.Deep.RegionHeld3
import Derived.Deep.QuietTactic
import Derived.BigQuiet
import Derived.Deep.DeepCutAuto
import Derived.Test.YtneciccdiledfaaGreatDoorMx01
set_option linter.unusedVariables false
namespace Go.Proofs.YtneciccdiledfaaGreatDoor
open Go.RowKit
open Ad
set_option maxHeartbeats 4000000 in
set_option maxRecDepth 20000 in
theorem rnum_go (s : ByteArray) (most : Nat) (hm : most ≤ 4294967295) (hs : s.size ≤ 140737488355328) (w : World) (h0 : 0 < s.size) (hz : s.size = 1 ∨ 1 < s.size ∧ (s[0]'h0).toNat ≠ 48) :
  Calls Tryz.prog 55 #[.string s, .int .u32 most] w fun e w' => e = .returned (.tuple #[.int .u32 (nv (numGo most 0 s.data.toList)), .int .i64 (ne (numGo most 0 s.data.toList))]) ∧ w = w' := by
 have he : (s.toList == ([] : List UInt8)) = false := by
  have := size_pos_iff s
  cases hb : (s.toList == ([] : List UInt8))
  ·rfl
  ·have := this.1 hb; omega
 have hlen : s.data.toList.length = s.size := by rw [Array.length_toList]; rfl
 have hzz : s.size = 1 ∨ 1 < s.size ∧ (((s[0]'h0).toNat : Int) == 48) = false := by
  rcases hz with h | ⟨h, h2⟩
  ·exact Or.inl h
  ·exact Or.inr ⟨h, by simp; omega⟩
 clear hz
 rcases hzz with h1 | ⟨h1, hz⟩
 all_goals
  obtain ⟨R, hR⟩ : ∃ R, numGo most 0 s.data.toList = R := ⟨_, rfl⟩
  rw [hR]
  have hmz : (0 : Int) ≤ most := by omega
  have hmz2 : (most : Int) ≤ 4294967295 := by omega
  go_enter Tryz.func55, Tryz.ntmps55
  go_wp2_with fail
  go_loopw [6, 7] (fun v j w' => ∃ (pos n : Nat), w' = w ∧ v = .int .u64 n ∧ j = .int .i64 pos ∧ pos ≤ s.size ∧ n ≤ most ∧ numGo most n (s.data.toList.drop pos) = R) (fun _ j _ => s.size - (intOf j).toNat)
  case atStart => exact ⟨0, 0, rfl, rfl, rfl, Nat.zero_le _, Nat.zero_le _, by simpa using hR⟩
  case round =>
   obtain ⟨pos, n, rfl, rfl, rfl, hps, hn, hc⟩ := hrel
   have e7 : IntKind.i64.wrap ((pos : Int) + 1) = (pos : Int) + 1 := wrap64 (by omega) (by omega)
   by_cases hp : pos < s.size
   ·rw [drop_cons s pos hp] at hc
    have hpz : (pos : Int) < s.size := by omega
    have hix : ∀ W, (Instr.index 9 (.string s) (.int .i64 pos)).run Tryz.prog W = .ok (.int .u8 ((s[pos]'hp).toNat : Int)) W := by
     intro W
     rw [run_index_string W 9 s .i64 pos Tryz.underlying9, dif_pos ⟨by omega, hpz⟩]
     simp
    have hb256 : (s[pos]'hp).toNat < 256 := UInt8.toNat_lt _
    generalize s[pos]'hp = b at hc hix hb256
    have e1 : IntKind.u8.wrap ((b.toNat : Int) - 48) = ((b.toNat : Int) - 48) % 256 := by simp [IntKind.wrap, IntKind.bits, IntKind.signed]
    by_cases hd : 48 ≤ b.toNat ∧ b.toNat ≤ 57
    ·have e1 : IntKind.u8.wrap ((b.toNat : Int) - 48) = (b.toNat : Int) - 48 := wrap8u (by omega) (by omega)
     have e2 : IntKind.u64.wrap ((b.toNat : Int) - 48) = (b.toNat : Int) - 48 := wrap64u (by omega) (by omega)
     have e3 : IntKind.u64.wrap (10 * (n : Int)) = 10 * (n : Int) := wrap64u (by omega) (by omega)
     have e4 : IntKind.u64.wrap (10 * (n : Int) + ((b.toNat : Int) - 48)) = 10 * (n : Int) + ((b.toNat : Int) - 48) := wrap64u (by omega) (by omega)
     have e5 : IntKind.u64.wrap (most : Int) = most := wrap64u (by omega) (by omega)
     have d1 : ¬ (b.toNat : Int) < 48 := by omega
     have d2 : ¬ (57 : Int) < b.toNat := by omega
     by_cases hov : most < 10 * n + (b.toNat - 48)
     ·rw [numGo_over hd hov] at hc
      subst hc
      have hovz : (most : Int) < 10 * (n : Int) + ((b.toNat : Int) - 48) := by omega
      go_wp2_with fail
      exact bodyPost_ret (v := .tuple #[.int .u32 0, .int .i64 60]) (by simp [results, Tryz.results55, go_sem]) rfl ⟨rfl, rfl⟩
     ·rw [numGo_on hd hov] at hc
      have hovz : ¬ (most : Int) < 10 * (n : Int) + ((b.toNat : Int) - 48) := by omega
      go_wp2_with fail
      go_roundw
      case rel => exact ⟨pos + 1, 10 * n + (b.toNat - 48), by first | rfl | trivial, by congr 1; omega, by first | rfl | trivial, by omega, by omega, hc⟩
      case measure => simp [intOf]; omega
    ·rw [numGo_stop hd] at hc
     subst hc
     by_cases d1 : (b.toNat : Int) < 48
     ·go_wp2_with fail
      exact bodyPost_ret (v := .tuple #[.int .u32 0, .int .i64 60]) (by simp [results, Tryz.results55, go_sem]) rfl ⟨rfl, rfl⟩
     ·have d2 : (57 : Int) < b.toNat := by omega
      go_wp2_with fail
      exact bodyPost_ret (v := .tuple #[.int .u32 0, .int .i64 60]) (by simp [results, Tryz.results55, go_sem]) rfl ⟨rfl, rfl⟩
   ·have hpz : ¬ (pos : Int) < s.size := by omega
    rw [drop_end s pos hp] at hc
    have e6 : IntKind.u32.wrap (n : Int) = n := wrap32u (by omega) (by omega)
    go_wp2_with fail
    subst hc
    exact bodyPost_ret (v := .tuple #[.int .u32 n, .int .i64 0]) (by simp [results, Tryz.results55, go_sem]) rfl ⟨rfl, rfl⟩
theorem rnum_none (s : ByteArray) (most : Nat) (w : World) (h : s.size = 0 ∨ ∃ h0 : 0 < s.size, 1 < s.size ∧ (s[0]'h0).toNat = 48) :
  Calls Tryz.prog 55 #[.string s, .int .u32 most] w fun e w' => e = .returned (.tuple #[.int .u32 0, .int .i64 60]) ∧ w = w' := by
 rcases h with h | ⟨h0, h1, hz⟩
 ·have he : (s.toList == ([] : List UInt8)) = true := (size_pos_iff s).2 h
  go_enter Tryz.func55, Tryz.ntmps55
  go_wp2_with fail
  exact bodyPost_ret (v := .tuple #[.int .u32 0, .int .i64 60]) (by simp [results, Tryz.results55, go_sem]) rfl ⟨rfl, rfl⟩
 ·have he : (s.toList == ([] : List UInt8)) = false := by
   have := size_pos_iff s
   cases hb : (s.toList == ([] : List UInt8))
   ·rfl
   ·have := this.1 hb; omega
  have hz : (((s[0]'h0).toNat : Int) == 48) = true := by simp; omega
  go_enter Tryz.func55, Tryz.ntmps55
  go_wp2_with fail
  exact bodyPost_ret (v := .tuple #[.int .u32 0, .int .i64 60]) (by simp [results, Tryz.results55, go_sem]) rfl ⟨rfl, rfl⟩
theorem rnum_any (s : ByteArray) (most : Nat) (hm : most ≤ 4294967295) (hs : s.size ≤ 140737488355328) (w : World) :
  Calls Tryz.prog 55 #[.string s, .int .u32 most] w fun e w' => e = .returned (.tuple #[.int .u32 (nv (num s.data.toList most)), .int .i64 (ne (num s.data.toList most))]) ∧ w = w' := by
 rcases num_cases s most with ⟨e, h⟩ | ⟨e, h0, h⟩
 ·rw [e]; exact rnum_none s most w h
 ·rw [e]; exact rnum_go s most hm hs w h0 h
end Go.Proofs.YtneciccdiledfaaGreatDoor
namespace Go.Proofs.YtneciccdiledfaaGreatDoor
open Go.RowKit
open Sm
structure Wrote (w w' : World) (g : Nat) (new : Array Value) (t : TypeId) : Prop where
 here : w'.heap[g]? = some (.cells new t (0, 0))
 there : ∀ k, k ≠ g → w'.heap[k]? = w.heap[k]?
 size : w'.heap.size = w.heap.size
 below : ∀ B w0, B ≤ g → Below B w0 w → Below B w0 w'
theorem wrote_setRow (w : World) (g : Nat) (cur new : Array Value) (t : TypeId) (hg : w.heap[g]? = some (.cells cur t (0, 0))) : Wrote w (w.setRow g new) g new t :=
 ⟨setRow_heap w g cur _ t _ hg, fun k hk => setRow_other w g k _ (fun e => hk e), by simp [World.setRow], fun B w0 h hb => below_setRow hb h _⟩
theorem cell_of {w : World} {g : Nat} {c : Array Value} {t : TypeId} (h : w.heap[g]? = some (.cells c t (0, 0))) (i : Nat) : w.cell? ⟨g, i, none⟩ = c[i]? := by
 simp [World.cell?, h]
theorem wrap16_small (x : Int) (h0 : 0 ≤ x) (h1 : x ≤ 65535) : IntKind.u16.wrap x = x := by
 rw [show IntKind.u16.wrap x = x % 65536 by simp [IntKind.wrap, IntKind.bits, IntKind.signed]]; omega
theorem wrap8_small (x : Int) (h0 : 0 ≤ x) (h1 : x ≤ 255) : IntKind.u8.wrap x = x := by
 rw [show IntKind.u8.wrap x = x % 256 by simp [IntKind.wrap, IntKind.bits, IntKind.signed]]; omega
theorem Row.cellAt {w : World} {b off : Nat} {l : List Int} (h : Row w (some ⟨b, off, none⟩) l) (i : Nat) (hi : i < l.length) : w.cell? ⟨b, off + i, none⟩ = some (.int .u8 (l.getD i 0)) := by
 rcases h.cells with e | ⟨b', off', e, hc⟩
 ·subst e; simp at hi
 ·simp only [Option.some.injEq, Addr.mk.injEq] at e
  obtain ⟨rfl, rfl, -⟩ := e
  exact hc i hi
theorem Row.part {w : World} {b off : Nat} {l : List Int} (h : Row w (some ⟨b, off, none⟩) l) (i m : Nat) (hi : i + m ≤ l.length) : Row w (some ⟨b, off + i, none⟩) ((l.drop i).take m) := by
 have hl := h.len
 have hlen : ((l.drop i).take m).length = m := by simp; omega
 refine ⟨fun j => ?_, by omega, Or.inr ⟨b, off + i, rfl, fun j hj => ?_⟩⟩
 ·by_cases hj : j < m
  ·have : ((l.drop i).take m).getD j 0 = l.getD (i + j) 0 := by simp [List.getD, hj]
   rw [this]; exact h.bytes _
  ·have : ((l.drop i).take m).getD j 0 = 0 := by simp [List.getD, List.getElem?_eq_none (show ((l.drop i).take m).length ≤ j by omega)]
   rw [this]; omega
 ·have e : ((l.drop i).take m).getD j 0 = l.getD (i + j) 0 := by simp [List.getD, show j < m by omega]
  rw [e, Nat.add_assoc]
  exact h.cellAt (i + j) (by omega)
structure Mem (w w' : World) (L : List (Nat × Obj)) : Prop where
 below : Below w.heap.size w w'
 low : ∀ p ∈ L, w.heap.size ≤ p.1
 at_ : ∀ p ∈ L, w'.heap[p.1]? = some p.2
 apart : (L.map Prod.fst).Nodup
theorem Mem.nil (w : World) : Mem w w [] := ⟨Below.refl _ _, fun p h => by simp at h, fun p h => by simp at h, by simp⟩
theorem Mem.lt {w w' : World} {L : List (Nat × Obj)} (h : Mem w w' L) {p : Nat × Obj} (hp : p ∈ L) : p.1 < w'.heap.size := by
 have := h.at_ p hp
 exact (Array.getElem?_eq_some_iff.mp this).1
theorem Mem.alloc {w w' : World} {L : List (Nat × Obj)} (h : Mem w w' L) (o : Obj) : Mem w (w'.alloc o) (L ++ [(w'.heap.size, o)]) := by
 have hs := h.below.size
 refine ⟨h.below.alloc hs o, fun p hp => ?_, fun p hp => ?_, ?_⟩
 ·rcases List.mem_append.mp hp with hp | hp
  ·exact h.low p hp
  ·simp at hp; subst hp; exact hs
 ·rcases List.mem_append.mp hp with hp | hp
  ·rw [Below.heap_alloc _ _ _ (h.lt hp)]; exact h.at_ p hp
  ·simp at hp; subst hp; exact heap_alloc_new _ _
 ·rw [List.map_append, List.nodup_append]
  refine ⟨h.apart, by simp, fun a ha b hb => ?_⟩
  obtain ⟨p, hp, rfl⟩ := List.mem_map.mp ha
  simp at hb
  have := h.lt hp
  omega
theorem Mem.push {w w' : World} {L : List (Nat × Obj)} (h : Mem w w' L) (g : Nat) (o : Obj) (hg : g = w'.heap.size) : Mem w (w'.alloc o) (L ++ [(g, o)]) := by subst hg; exact h.alloc o
theorem Mem.drew {w w' : World} {L : List (Nat × Obj)} (h : Mem w w' L) : Mem w w'.drew L := ⟨h.below.drew, h.low, h.at_, h.apart⟩
theorem Mem.drewN {w w' : World} {L : List (Nat × Obj)} (h : Mem w w' L) (n : Nat) : Mem w (w'.drewN n) L := ⟨Go.below_drewN h.below n, h.low, h.at_, h.apart⟩
theorem Mem.perm {w w' : World} {L L' : List (Nat × Obj)} (h : Mem w w' L) (hp : L.Perm L') : Mem w w' L' :=
 ⟨h.below, fun p q => h.low p (hp.symm.subset q), fun p q => h.at_ p (hp.symm.subset q), (hp.map Prod.fst).nodup_iff.mp h.apart⟩
theorem Mem.sub {w w' : World} {p : Nat × Obj} {L : List (Nat × Obj)} (h : Mem w w' (p :: L)) : Mem w w' L :=
 ⟨h.below, fun q hq => h.low q (List.mem_cons_of_mem _ hq), fun q hq => h.at_ q (List.mem_cons_of_mem _ hq), (List.nodup_cons.mp h.apart).2⟩
theorem Mem.get {w w' : World} {L : List (Nat × Obj)} (h : Mem w w' L) (i : Nat) {g : Nat} {o : Obj} (hi : L[i]? = some (g, o)) : w'.heap[g]? = some o := h.at_ (g, o) (List.mem_of_getElem? hi)
theorem Mem.ge {w w' : World} {L : List (Nat × Obj)} (h : Mem w w' L) (i : Nat) {g : Nat} {o : Obj} (hi : L[i]? = some (g, o)) : w.heap.size ≤ g := h.low (g, o) (List.mem_of_getElem? hi)
theorem Mem.wrote {w w' w2 : World} {L : List (Nat × Obj)} (h : Mem w w' L) (i : Nat) {g : Nat} {o : Obj} (hi : L[i]? = some (g, o)) {new : Array Value} {t : TypeId} (hw : Wrote w' w2 g new t) : Mem w w2 (L.set i (g, .cells new t (0, 0))) := by
 have hil := (List.getElem?_eq_some_iff.mp hi).1
 have he : L[i] = (g, o) := (List.getElem?_eq_some_iff.mp hi).2
 have hm : (L.set i (g, .cells new t (0, 0))).map Prod.fst = L.map Prod.fst := by
  rw [List.map_set]
  apply List.ext_getElem? ; intro j
  by_cases e : i = j
  ·subst e; simp [hil, he]
  ·rw [List.getElem?_set_ne e]
 have key : ∀ p ∈ L.set i (g, .cells new t (0, 0)), p = (g, .cells new t (0, 0)) ∨ (p ∈ L ∧ p.1 ≠ g) := by
  intro p hp
  obtain ⟨j, hj, rfl⟩ := List.mem_iff_getElem.mp hp
  by_cases e : i = j
  ·subst e; left; simp
  ·right
   have hjl : j < L.length := by simpa using hj
   rw [List.getElem_set_ne e]
   refine ⟨List.getElem_mem hjl, fun c => e ?_⟩
   have hpw := List.pairwise_iff_getElem.mp h.apart
   have hil' : i < (L.map Prod.fst).length := by simpa using hil
   have hjl' : j < (L.map Prod.fst).length := by simpa using hjl
   have c' : (L.map Prod.fst)[i] = (L.map Prod.fst)[j] := by simp [he, c]
   rcases Nat.lt_trichotomy i j with q | q | q
   ·exact absurd c' (hpw i j hil' hjl' q)
   ·exact q
   ·exact absurd c'.symm (hpw j i hjl' hil' q)
 refine ⟨hw.below _ _ (h.ge i hi) h.below, fun p hp => ?_, fun p hp => ?_, by rw [hm]; exact h.apart⟩
 ·rcases key p hp with rfl | ⟨q, _⟩
  ·exact h.ge i hi
  ·exact h.low p q
 ·rcases key p hp with rfl | ⟨q, c⟩
  ·exact hw.here
  ·rw [hw.there _ c]; exact h.at_ p q
theorem Mem.after {w w' w2 : World} {L : List (Nat × Obj)} (h : Mem w w' L) (hb : Below w'.heap.size w' w2) : Mem w w2 L :=
 ⟨h.below.trans (hb.mono h.below.size), h.low, fun p hp => by rw [hb.block p.1 (h.lt hp)]; exact h.at_ p hp, h.apart⟩
theorem Mem.old {w w' : World} {L : List (Nat × Obj)} (h : Mem w w' L) {b i : Nat} (hb : b < w.heap.size) : w'.cell? ⟨b, i, none⟩ = w.cell? ⟨b, i, none⟩ := h.below.cell (p := ⟨b, i, none⟩) hb
theorem Mem.row {w w' : World} {L : List (Nat × Obj)} (h : Mem w w' L) {a : Option Addr} {l : List Int} (hr : Row w a l) : Row w' a l := hr.below h.below (Nat.le_refl _)
theorem Mem.cell {w w' : World} {L : List (Nat × Obj)} (h : Mem w w' L) (i : Nat) {g : Nat} {c : Array Value} {t : TypeId} (hi : L[i]? = some (g, .cells c t (0, 0))) (j : Nat) : w'.cell? ⟨g, j, none⟩ = c[j]? := cell_of (h.get i hi) j
theorem Mem.free {w w' : World} {L : List (Nat × Obj)} (h : Mem w w' L) (i : Nat) {g : Nat} {c : Array Value} {t : TypeId} (hi : L[i]? = some (g, .cells c t (0, 0))) (j : Nat) : w'.frozen? ⟨g, j, none⟩ = false := by
 simp [World.frozen?, h.get i hi]
theorem Mem.set {w w' : World} {L : List (Nat × Obj)} (h : Mem w w' L) (i : Nat) {g : Nat} {c : Array Value} {t : TypeId} (hi : L[i]? = some (g, .cells c t (0, 0))) (j : Nat) (v : Value) : Mem w (w'.setCell ⟨g, j, none⟩ v) (L.set i (g, .cells (c.setIfInBounds j v) t (0, 0))) := by
 have e := setCell_eq_setRow w' g j c t (0, 0) v (h.get i hi)
 rw [e]
 exact h.wrote i hi (wrote_setRow w' g c _ t (h.get i hi))
theorem Mem.own {w w' : World} {L : List (Nat × Obj)} (h : Mem w w' L) (i : Nat) {g : Nat} {l : List Int} {t : TypeId} (hi : L[i]? = some (g, .cells (l.map (Value.int .u8)).toArray t (0, 0))) (hb : IsBytes l) (hl : l.length ≤ 140737488351232) : Row w' (some ⟨g, 0, none⟩) l :=
 ⟨hb, hl, Or.inr ⟨g, 0, rfl, fun j hj => by rw [h.cell i hi, Nat.zero_add]; simp [hj]⟩⟩
theorem Row.setCell {w : World} {b off : Nat} {l : List Int} (h : Row w (some ⟨b, off, none⟩) l) {p : Addr} (hp : p.block ≠ b) (v : Value) : Row (w.setCell p v) (some ⟨b, off, none⟩) l :=
 ⟨h.bytes, h.len, Or.inr ⟨b, off, rfl, fun i hi => by rw [World.cell?_setCell_other _ _ _ _ (fun e => hp (by rw [e]))]; exact h.cellAt i hi⟩⟩
theorem Mem.ne {w w' : World} {L : List (Nat × Obj)} (h : Mem w w' L) (i j : Nat) {g k : Nat} {o u : Obj} (hi : L[i]? = some (g, o)) (hj : L[j]? = some (k, u)) (hij : i ≠ j) : g ≠ k := by
 obtain ⟨hil, ei⟩ := List.getElem?_eq_some_iff.mp hi
 obtain ⟨hjl, ej⟩ := List.getElem?_eq_some_iff.mp hj
 have hpw := List.pairwise_iff_getElem.mp h.apart
 intro c
 have c' : (L.map Prod.fst)[i]'(by simpa using hil) = (L.map Prod.fst)[j]'(by simpa using hjl) := by simp [ei, ej, c]
 rcases Nat.lt_trichotomy i j with q | q | q
 ·exact hpw i j (by simpa using hil) (by simpa using hjl) q c'
 ·exact hij q
 ·exact hpw j i (by simpa using hjl) (by simpa using hil) q c'.symm
theorem wp_letter {P : Program} {c : Code} {Q : Exit → Act → World → Prop} {a : Act} {W : World} (R : World → Prop) (h : R W) (k : ∀ W', R W' → Code.wp P c Q a W') : Code.wp P c Q a W := k W h
end Go.Proofs.YtneciccdiledfaaGreatDoor
namespace Go.Proofs.YtneciccdiledfaaGreatDoor
open Go.RowKit
open Ad
structure Vs (w : World) : Prop where
 len : ∃ m, w.cell? ⟨5, 0, none⟩ = some (.int .i64 m)
 pow : Lib.TabIs Tryz.prog w "internal/strconv.uint64pow10" .u64 Lib.pow10Tab
 utf : Lib.Utf8Tabs 2 3 w
theorem cell_in {w : World} {p : Addr} {v : Value} (h : w.cell? p = some v) : p.block < w.heap.size := by
 by_cases hc : p.block < w.heap.size
 ·exact hc
 ·have : w.heap[p.block]? = none := by simp; omega
  simp [World.cell?, this] at h
theorem tab_below {w w' : World} {name : String} {k : IntKind} {zs : List Int} (h : Lib.TabIs Tryz.prog w name k zs) (hb : Below w.heap.size w w') : Lib.TabIs Tryz.prog w' name k zs := by
 unfold Lib.TabIs World.var? at *
 cases hg : Tryz.prog.globalNamed name with
 | none => simp [hg] at h
 | some g =>
  simp only [hg, Option.bind_some] at h ⊢
  have hlt : g < w.heap.size := by
   by_cases hc : g < w.heap.size
   ·exact hc
   ·have : w.heap[g]? = none := by simp; omega
    rw [this] at h; simp at h
  rw [hb.block g hlt]
  exact h
theorem Vs.below {w w' : World} (h : Vs w) (hb : Below w.heap.size w w') : Vs w' := by
 refine ⟨?_, tab_below h.pow hb, Utf8Tabs_below h.utf hb⟩
 obtain ⟨m, hm⟩ := h.len
 exact ⟨m, (hb.cell (cell_in hm)).trans hm⟩
theorem split_any {w : World} (hV : Vs w) (s : ByteArray) (c : UInt8) (n m : Nat) (hs : s.size ≤ 1000000) (hm : m < n) (hn : n ≤ 1000) (N : Int) (hN : N = (n : Int)) :
  Calls Tryz.prog 99 #[.string s, .string ⟨#[c]⟩, .int .i64 N] w fun e w' => ∃ (P : List ByteArray) (cap : Nat), e = .returned (.slice (some ⟨w.heap.size, 0, none⟩) P.length cap) ∧ P.length ≤ cap ∧
   (∀ (j : Nat) x, P[j]? = some x → w'.cell? ⟨w.heap.size, j, none⟩ = some (.string x)) ∧ Below w.heap.size w w' ∧
   ((P.length = m ∧ P.map (·.data.toList) = cut c s.data.toList ∧ (cut c s.data.toList).length = m) ∨ (P.length ≠ m ∧ (cut c s.data.toList).length ≠ m)) := by
 subst hN
 obtain ⟨q, hq⟩ := hV.len
 refine (Tryz.strings_SplitN s ⟨#[c]⟩ n q w (by omega) hq (Nat.le_refl 1) (by omega) (by omega)).mono ?_
 rintro e w' ⟨rfl, rfl⟩
 have hle : (Lib.splitB ⟨#[c]⟩ 0 (min n (s.size + 1) - 1) s).length ≤ min n (s.size + 1) := by
  have := Lib.splitB_length_le ⟨#[c]⟩ 0 (min n (s.size + 1) - 1) s
  omega
 refine ⟨_, _, rfl, hle, ?_, (Below.refl _ w).alloc (Nat.le_refl _) _, split_n c s n m hm⟩
 generalize Lib.splitB ⟨#[c]⟩ 0 (min n (s.size + 1) - 1) s = P at hle ⊢
 intro j x hj
 have hjl := (List.getElem?_eq_some_iff.1 hj).1
 have hh := heap_alloc_new w (.cells (Lib.cellsOf P (min n (s.size + 1))) 9)
 rw [cell_of_row _ _ _ _ _ _ hh]
 unfold Lib.cellsOf
 rw [List.getElem?_toArray, List.getElem?_append_left (by simpa using hjl), List.getElem?_map, hj]
 rfl
theorem join_any {w : World} {g c n : Nat} (xs : List ByteArray) (hn : xs.length = n) (sep : ByteArray) (hcells : ∀ (j : Nat) x, xs[j]? = some x → w.cell? ⟨g, 0 + j, none⟩ = some (.string x)) (hg : g < w.heap.size) (hc : n ≤ c) (hN : n ≤ 100000)
  (hlen : (Lib.join (xs.map (·.data.toList)) sep.data.toList).length ≤ 100000000) :
  Calls Tryz.prog 93 #[.slice (some ⟨g, 0, none⟩) n c, .string sep] w fun e w' => e = .returned (.string ⟨(Lib.join (xs.map (·.data.toList)) sep.data.toList).toArray⟩) ∧ Below w.heap.size w w' := by
 subst hn
 exact Tryz.strings_Join g 0 c xs sep w hcells hg (by omega) hc (by omega)
theorem below_drewN' {B : Nat} {a w : World} (h : Below B a w) : ∀ q, Below B a (w.drewN q)
 | 0 => h
 | q + 1 => (below_drewN' h q).drew
theorem below_grow (w : World) (os : Array Obj) : Below w.heap.size w (Go.Sort.grow w os) := by
 refine ⟨rfl, rfl, rfl, by simp [Go.Sort.grow], fun k hk => ?_⟩
 show (w.heap ++ os)[k]? = _
 rw [Array.getElem?_append_left hk]
theorem itoa_any {w : World} (hV : Vs w) (n : Nat) (hn : n ≤ 4294967295) :
  Calls Tryz.prog 95 #[.int .i64 (n : Int)] w fun e w' => e = .returned (.string ⟨(Lib.itoa n).toArray⟩) ∧ Below w.heap.size w w' := by
 refine (Tryz.strconv_Itoa n (by omega) (by omega) w hV.pow).mono ?_
 rintro e w' ⟨rfl, k, os, rfl⟩
 have h1 := below_drewN' (Below.refl w.heap.size w) k
 exact ⟨rfl, h1.trans ((below_grow _ os).mono h1.size)⟩
theorem decode_any {w : World} (hV : Vs w) (s : ByteArray) :
  Calls Tryz.prog 89 #[.string s] w fun e w' => e = .returned (.tuple #[.int .i32 (Lib.decodeGo s).1, .int .i64 (Lib.decodeGo s).2]) ∧ Below w.heap.size w w' :=
 Tryz.utf8_DecodeRuneInString s w hV.utf
theorem valid_any {w : World} (hV : Vs w) (s : ByteArray) (hs : s.size ≤ 1000000) :
  Calls Tryz.prog 128 #[.string s] w fun e w' => e = .returned (.bool (Lib.validD s.data.toList)) ∧ Below w.heap.size w w' :=
 Any.utf8_ValidString Tryz.lays196 s w (by omega) hV.utf
end Go.Proofs.YtneciccdiledfaaGreatDoor
namespace Go.Proofs.YtneciccdiledfaaGreatDoor
open Go.RowKit
open Sm
def plc (at_ n : Int) : Int := if at_.tmod n < 0 then at_.tmod n + n else at_.tmod n
theorem plc_range (a n : Int) (hn : 0 < n) : 0 ≤ plc a n ∧ plc a n < n := by
 have h1 := Int.tmod_lt_of_pos a hn
 have h2 : -n < a.tmod n := by
  have := Int.lt_tmod_of_pos a hn
  omega
 unfold plc; split <;> omega
set_option maxHeartbeats 400000 in
theorem place_any (a n : Int) (w : World) (h0 : -9223372036854775808 ≤ a) (h1 : a ≤ 9223372036854775807) (hn : 0 < n) (hn1 : n ≤ 140737488351232) :
  Calls Tryz.prog 18 #[.int .i64 a, .int .i64 n] w fun e w' => e = .returned (.int .i64 (plc a n)) ∧ w = w' := by
 have b1 := Int.tmod_lt_of_pos a hn
 have b2 := Int.lt_tmod_of_pos a hn
 by_cases hc : a.tmod n < 0
 ·go_enter Tryz.func18, Tryz.ntmps18
  go_wp2
  go_ret
  exact ⟨ret_int (by unfold plc; rw [if_pos hc]), rfl⟩
 ·go_enter Tryz.func18, Tryz.ntmps18
  go_wp2
  go_ret
  exact ⟨ret_int (by unfold plc; rw [if_neg (by omega)]), rfl⟩
end Go.Proofs.YtneciccdiledfaaGreatDoor
