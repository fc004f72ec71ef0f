/-
  Wheel, the program's own: an id laid into a slot, and taken out.
-/
import Derived.Test.YtfplmefcblkljaaWpSt
namespace Go.Proofs.Ytfplmefcblkljaa
open Go.RowKit
open Sm
open Po
open Wh
set_option linter.unusedVariables false
set_option linter.unusedSimpArgs false
set_option maxRecDepth 20000

namespace Wp
theorem StW.turn {now : Int} {A : Int → Option Int} {F : Int → Option Nat} {C : Array Value} {mb : Nat} {es : Array MapEntry} {clock : Nat} {sl : Sl} (h : StW now A F C mb es clock sl) {i : Nat} (hi : i < 128) {k : Int} {o : Option Nat} (hF : F k = none ∨ F k = some i) (ho : o = none ∨ o = some i) (hA : o ≠ none → A k ≠ none)
    (x : Option (Nat × Array MapEntry × Nat)) (h0 : x = none → ∀ q, upd F k o q ≠ some i) (h1 : ∀ y, x = some y → MI (mrk (upd F k o) i) y.2.1 y.2.2) :
    StW now A (upd F k o) (C.setIfInBounds (i + 2) (.map (x.map (·.1)))) mb es clock (ups sl i x) where
  size := by rw [Array.size_setIfInBounds]; exact h.size
  c0 := by rw [Array.getElem?_setIfInBounds]; simp; exact h.c0
  c1 := by rw [Array.getElem?_setIfInBounds]; simp; exact h.c1
  cs := fun j hj => by
    have hs := h.size
    rw [Array.getElem?_setIfInBounds]
    by_cases e : j = i
    · subst e
      rw [if_pos rfl, ups_at, if_pos (by omega)]
    · rw [if_neg (by omega), ups_off _ _ e]
      exact h.cs j hj
  when := h.when
  slots := fun j hj => by
    by_cases e : j = i
    · subst e
      rw [ups_at]
      exact ⟨h0, h1⟩
    · rw [ups_off _ _ e]
      obtain ⟨a, b⟩ := h.slots j hj
      refine ⟨fun hn q hq => ?_, fun y hy => (b y hy).congr (mrk_other o hF ho e)⟩
      by_cases hqk : q = k
      · subst hqk
        rw [upd_at] at hq
        rcases ho with ho | ho
        · rw [ho] at hq; cases hq
        · rw [ho] at hq
          exact e (by simpa using hq.symm)
      · rw [upd_off _ _ hqk] at hq
        exact a hn q hq
  dom := h.dom
  inA := fun q hq => by
    by_cases hqk : q = k
    · subst hqk
      rw [upd_at] at hq
      exact hA hq
    · rw [upd_off _ _ hqk] at hq
      exact h.inA q hq
  keys := h.keys
  vals := h.vals
  low := fun q j hq => by
    by_cases hqk : q = k
    · subst hqk
      rw [upd_at] at hq
      rcases ho with ho | ho
      · rw [ho] at hq; cases hq
      · rw [ho] at hq
        have : i = j := by simpa using hq
        omega
    · rw [upd_off _ _ hqk] at hq
      exact h.low q j hq
  nows := h.nows
theorem set_same {C : Array Value} {j : Nat} {v : Value} (h : C[j]? = some v) : C.setIfInBounds j v = C := by
  apply Array.ext_getElem?
  intro k
  rw [Array.getElem?_setIfInBounds]
  by_cases e : j = k
  · subst e
    rw [if_pos rfl, h]
    obtain ⟨hl, -⟩ := Array.getElem?_eq_some_iff.1 h
    rw [if_pos hl]
  · rw [if_neg e]
theorem eq_nil_nil (W : World) : (Go.binOp BinOp.eql 52 (.map none) (.map none)).run Try.prog W = .ok (.bool true) W := by kernel_rfl
theorem eq_nil_some (b : Nat) (W : World) : (Go.binOp BinOp.eql 52 (.map (some b)) (.map none)).run Try.prog W = .ok (.bool false) W := by kernel_rfl
theorem StW.room {now : Int} {A : Int → Option Int} {F : Int → Option Nat} {C : Array Value} {mb : Nat} {es : Array MapEntry} {clock : Nat} {sl : Sl} (h : StW now A F C mb es clock sl) : es.size < maxLen ∧ ∀ i x, i < 128 → sl i = some x → x.2.1.size < maxLen := by
  obtain ⟨l, hl, hd⟩ := h.dom
  refine ⟨?_, fun i x hi hx => ?_⟩
  · have := h.when.le (l := l) fun k hk => hd k fun e => by simp [e] at hk
    simp only [maxLen]
    omega
  · have := ((h.slots i hi).2 x hx).le (l := l) fun k hk => hd k (h.inA k fun e => by simp [mrk, e] at hk)
    simp only [maxLen]
    omega
theorem perm_a (p m b : Nat × Obj) (X L : List (Nat × Obj)) {Y : List (Nat × Obj)} (h : Y.Perm (b :: X)) : List.Perm (p :: m :: (Y ++ L)) (p :: b :: (m :: (X ++ L))) := by
  refine List.Perm.cons p ?_
  exact ((h.append_right L).cons m).trans (List.Perm.swap ..)
set_option maxHeartbeats 2000000 in
theorem put_any {now : Int} {A : Int → Option Int} {F : Int → Option Nat} {p mb : Nat} {w V : World} {L : List (Nat × Obj)} (h : WSt now A F p mb w V L) {i : Nat} (hi : i < 128) {k : Int} (hA : A k ≠ none) (hF : F k = none ∨ F k = some i) :
    Calls Try.prog 21 #[.pointer (some ⟨p, i + 2, none⟩), .int .i64 k] V fun e V' => e = .returned (.tuple #[]) ∧ WSt now A (upd F k (some i)) p mb w V' L := by
  obtain ⟨C, es, clock, sl, hS, hM⟩ := h
  obtain ⟨jo, hjo⟩ : ∃ jo, i + 2 = jo := ⟨_, rfl⟩
  have hk := hS.keys k hA
  have hc : V.cell? ⟨p, jo, none⟩ = some (.map ((sl i).map (·.1))) := by rw [hM.cell 0 rfl, ← hjo]; exact hS.cs i hi
  have hroom := hS.room.2 i
  have HSZ : Hid (jo < C.size) := by
    have : jo < C.size := by have := hS.size; omega
    exact this
  rw [hjo]
  cases hsl : sl i with
  | none =>
    rw [hsl] at hc
    simp only [Option.map_none] at hc
    obtain ⟨g, hg⟩ : ∃ g, V.heap.size = g := ⟨_, rfl⟩
    have hf : V.frozen? ⟨p, jo, none⟩ = false := hM.free 0 rfl jo
    have hM0 : Mem w ((V.alloc (.map #[] 0)).setCell ⟨p, jo, none⟩ (.map (some g))) (((p, .cells (C.setIfInBounds jo (.map (some g))) 55 (0, 0)) :: (mb, .map es clock) :: (blk sl ++ L)) ++ [(g, .map #[] 0)]) := (hM.push g (.map #[] 0) hg.symm).set 0 rfl jo (.map (some g))
    have hM1 : Mem w ((V.alloc (.map #[] 0)).setCell ⟨p, jo, none⟩ (.map (some g))) ((g, .map #[] 0) :: (p, .cells (C.setIfInBounds jo (.map (some g))) 55 (0, 0)) :: (mb, .map es clock) :: (blk sl ++ L)) := hM0.perm List.perm_append_comm
    have HM1 : Hid (Mem w ((V.alloc (.map #[] 0)).setCell ⟨p, jo, none⟩ (.map (some g))) ((g, .map #[] 0) :: (p, .cells (C.setIfInBounds jo (.map (some g))) 55 (0, 0)) :: (mb, .map es clock) :: (blk sl ++ L))) := hM1
    have HZ : Hid (∀ X es' clock', Mem w X ((g, .map es' clock') :: (p, .cells (C.setIfInBounds jo (.map (some g))) 55 (0, 0)) :: (mb, .map es clock) :: (blk sl ++ L)) → MI (upd (mrk F i) k (some unit)) es' clock' → WSt now A (upd F k (some i)) p mb w X L) := fun X es' clock' hX hI => by
      have h0 : ∀ q, mrk F i q = none := fun q => by
        have := (hS.slots i hi).1 hsl q
        simp [mrk, this]
      refine ⟨_, es, clock, _, hS.turn hi hF (Or.inr rfl) (fun _ => hA) (some (g, es', clock')) (fun e => by cases e) (fun y hy => ?_), ?_⟩
      · obtain rfl := Option.some.inj hy
        exact hI.congr (mrk_upd F k i)
      · rw [Option.map_some, hjo]
        have e0 := blk_none hsl
        refine hX.perm ?_
        have := blk_put (sl := sl) hi (g, es', clock')
        rw [e0] at this
        refine List.Perm.trans ?_ (((this.symm.append_right L).cons _).cons _)
        exact (List.Perm.swap ..).trans ((List.Perm.swap ..).cons _)
    have HI : Hid (∀ X : World, X.heap[g]? = some (.map #[] 0) → ∃ es' clock', (Instr.mapUpdate 52 (.map (some g)) (.int .i64 k) (.agg #[])).run Try.prog X = .ok () (Go.ChangeMaps.setBlock X g (.map es' clock')) ∧ MI (upd (mrk F i) k (some unit)) es' clock') := fun X hX => by
      have h0 : ∀ q, mrk F i q = none := fun q => by
        have := (hS.slots i hi).1 hsl q
        simp [mrk, this]
      exact (MI.nil h0).store hX hk Try.underlying52 (by simp [maxLen]) unit
    have hq : ∀ W, (Go.binOp BinOp.eql 52 (.map none) (.map none)).run Try.prog W = .ok (.bool true) W := eq_nil_nil
    have hmk : (Instr.makeMap 52 none).run Try.prog V = .ok (.map (some g)) (V.alloc (.map #[] 0)) := by rw [← hg]; rfl
    have hMp := hM.push g (.map #[] 0) hg.symm
    have hf2 : (V.alloc (.map #[] 0)).frozen? ⟨p, jo, none⟩ = false := hMp.free 0 rfl jo
    have hc2 : (V.alloc (.map #[] 0)).cell? ⟨p, jo, none⟩ = some (.map none) := by
      rw [hMp.cell 0 rfl, ← hM.cell 0 rfl]
      exact hc
    clear hM hM0 hM1 hS hroom hMp
    go_enter Try.func21, Try.ntmps21
    go_upto_region 2 with fail
    refine wp_letter (fun X => Mem w X ((g, .map #[] 0) :: (p, .cells (C.setIfInBounds jo (.map (some g))) 55 (0, 0)) :: (mb, .map es clock) :: (blk sl ++ L))) (by exact HM1.out) ?_
    intro X hX
    try simp only [hg]
    obtain ⟨es', clock', hrun, hI⟩ := HI.out X (hX.get 0 rfl)
    have hc1 : X.cell? ⟨p, jo, none⟩ = some (.map (some g)) := by
      rw [hX.cell 1 rfl, Array.getElem?_setIfInBounds, if_pos rfl, if_pos HSZ.out]
    have HR : Hid (WSt now A (upd F k (some i)) p mb w (Go.ChangeMaps.setBlock X g (.map es' clock')) L) := HZ.out _ es' clock' (mem_blk hX) hI
    clear hX HZ HI HM1 hc hf hI hf2 hc2
    go_wp2_with fail
    go_end0
    exact ⟨rfl, HR.out⟩
  | some x =>
    obtain ⟨b, es0, clock0⟩ := x
    rw [hsl] at hc
    simp only [Option.map_some] at hc
    have hrm := hroom _ hi hsl
    have hMI := (hS.slots i hi).2 _ hsl
    simp only at hrm hMI
    have hM1 := hM.perm (perm_a _ _ _ _ L (blk_some hi hsl))
    have hb : V.heap[b]? = some (.map es0 clock0) := hM1.get 1 rfl
    obtain ⟨es', clock', hrun, hI⟩ := hMI.store hb hk Try.underlying52 hrm unit
    have HR : Hid (WSt now A (upd F k (some i)) p mb w (Go.ChangeMaps.setBlock V b (.map es' clock')) L) := by
      have h2 : Mem w V ((b, .map es0 clock0) :: (p, .cells C 55 (0, 0)) :: (mb, .map es clock) :: (blk (ups sl i none) ++ L)) := hM1.perm (List.Perm.swap ..)
      have h3 := mem_blk (o' := .map es' clock') h2
      refine ⟨_, es, clock, _, hS.turn hi hF (Or.inr rfl) (fun _ => hA) (some (b, es', clock')) (fun e => by cases e) (fun y hy => ?_), ?_⟩
      · obtain rfl := Option.some.inj hy
        exact hI.congr (mrk_upd F k i)
      · have h4 := hS.cs i hi
        rw [hsl] at h4
        simp only [Option.map_some] at h4 ⊢
        rw [set_same h4]
        refine h3.perm ?_
        refine List.Perm.trans ?_ ((((blk_put (sl := sl) hi (b, es', clock')).symm.append_right L).cons _).cons _)
        exact (List.Perm.swap ..).trans ((List.Perm.swap ..).cons _)
    have hq : ∀ W, (Go.binOp BinOp.eql 52 (.map (some b)) (.map none)).run Try.prog W = .ok (.bool false) W := eq_nil_some b
    have hrun' : (Instr.mapUpdate 52 (.map (some b)) (.int .i64 k) (.agg #[])).run Try.prog V = .ok () (Go.ChangeMaps.setBlock V b (.map es' clock')) := hrun
    clear hM hM1 hS hroom hrun hI hMI hb
    go_enter Try.func21, Try.ntmps21
    go_wp2_with fail
    go_end0
    exact ⟨rfl, HR.out⟩
theorem len_map {t e : TypeId} (ht : Try.prog.underlying t = some (.map 3 e)) {X : World} {b : Nat} {es : Array MapEntry} {clock : Nat} (hb : X.heap[b]? = some (.map es clock)) (ty : TypeId) :
    (Builtin.len_ #[t] ty #[.map (some b)]).run Try.prog X = .ok (.int .i64 es.size) X := by
  simp [Builtin.len_, run_underlying ht, MapKept.run_getObj_map hb, goInt, Result.andThen]
set_option maxHeartbeats 2000000 in
theorem sdrop_any {now : Int} {A : Int → Option Int} {F : Int → Option Nat} {p mb : Nat} {w V : World} {L : List (Nat × Obj)} (h : WSt now A F p mb w V L) {i : Nat} (hi : i < 128) {k : Int} (hF : F k = some i) :
    Calls Try.prog 22 #[.pointer (some ⟨p, i + 2, none⟩), .int .i64 k] V fun e V' => e = .returned (.tuple #[]) ∧ WSt now A (upd F k none) p mb w V' L := by
  obtain ⟨C, es, clock, sl, hS, hM⟩ := h
  obtain ⟨jo, hjo⟩ : ∃ jo, i + 2 = jo := ⟨_, rfl⟩
  have hA : A k ≠ none := hS.inA k (by rw [hF]; simp)
  have hk := hS.keys k hA
  have hc : V.cell? ⟨p, jo, none⟩ = some (.map ((sl i).map (·.1))) := by rw [hM.cell 0 rfl, ← hjo]; exact hS.cs i hi
  rw [hjo]
  cases hsl : sl i with
  | none => exact absurd hF ((hS.slots i hi).1 hsl k)
  | some x =>
    obtain ⟨b, es0, clock0⟩ := x
    rw [hsl] at hc
    simp only [Option.map_some] at hc
    have hMI := (hS.slots i hi).2 _ hsl
    simp only at hMI
    have hM1 := hM.perm (perm_a _ _ _ _ L (blk_some hi hsl))
    have hb : V.heap[b]? = some (.map es0 clock0) := hM1.get 1 rfl
    obtain ⟨es', hrun, hI⟩ := hMI.drop hb hk Try.underlying52 0
    have h2 : Mem w V ((b, .map es0 clock0) :: (p, .cells C 55 (0, 0)) :: (mb, .map es clock) :: (blk (ups sl i none) ++ L)) := hM1.perm (List.Perm.swap ..)
    have h3 := mem_blk (o' := .map es' clock0) h2
    have hlow := hM.lt (List.mem_cons_self ..)
    have hlen := len_map Try.underlying52 (h3.get 0 rfl) 3
    have hc1 := h3.cell 1 rfl jo
    have hf1 := h3.free 1 rfl jo
    have hcs := hS.cs i hi
    rw [hsl, hjo] at hcs
    simp only [Option.map_some] at hcs
    rw [hcs] at hc1
    have hrun' : (Builtin.delete_ #[52, 3] 0 #[.map (some b), .int .i64 k]).run Try.prog V = .ok (.tuple #[]) (Go.ChangeMaps.setBlock V b (.map es' clock0)) := hrun
    by_cases h0 : es'.size = 0
    · have HR : Hid (WSt now A (upd F k none) p mb w ((Go.ChangeMaps.setBlock V b (.map es' clock0)).setCell ⟨p, jo, none⟩ (.map none)) L) := by
        refine ⟨_, es, clock, _, hS.turn hi (Or.inr hF) (Or.inl rfl) (fun e => absurd rfl e) none (fun _ q hq => ?_) (fun y hy => by cases hy), ?_⟩
        · have h5 : upd (mrk F i) k none q = some unit := by
            rw [← mrk_del F k i q]
            unfold mrk
            rw [if_pos hq]
          obtain ⟨e, he, -⟩ := hI.all q _ h5
          have : es'.toList = [] := List.eq_nil_of_length_eq_zero (by simpa using h0)
          rw [this] at he
          cases he
        · have h4 := h3.set 1 rfl jo (.map none)
          rw [hjo]
          exact h4.sub
      have h0' : (es'.size : Int) = 0 := by omega
      rw [h0'] at hlen
      clear hM hM1 hS hrun hI hMI hb h2 h3 h0 h0'
      go_enter Try.func22, Try.ntmps22
      go_wp2_with fail
      go_end0
      exact ⟨rfl, HR.out⟩
    · have HR : Hid (WSt now A (upd F k none) p mb w (Go.ChangeMaps.setBlock V b (.map es' clock0)) L) := by
        refine ⟨_, es, clock, _, hS.turn hi (Or.inr hF) (Or.inl rfl) (fun e => absurd rfl e) (some (b, es', clock0)) (fun e => by cases e) (fun y hy => ?_), ?_⟩
        · obtain rfl := Option.some.inj hy
          exact hI.congr (mrk_del F k i)
        · rw [hjo]
          simp only [Option.map_some]
          rw [set_same hcs]
          refine h3.perm ?_
          refine List.Perm.trans ?_ ((((blk_put (sl := sl) hi (b, es', clock0)).symm.append_right L).cons _).cons _)
          exact (List.Perm.swap ..).trans ((List.Perm.swap ..).cons _)
      have hz : ((es'.size : Int) == 0) = false := by
        rw [beq_eq_false_iff_ne]
        omega
      obtain ⟨n, hn⟩ : ∃ n : Int, (es'.size : Int) = n := ⟨_, rfl⟩
      rw [hn] at hlen hz
      clear hM hM1 hS hrun hI hMI hb h2 h3 h0 hn
      go_enter Try.func22, Try.ntmps22
      go_wp2_with fail
      go_end0
      exact ⟨rfl, HR.out⟩
end Wp
end Go.Proofs.Ytfplmefcblkljaa
