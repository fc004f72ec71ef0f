/-
  Sessions, the program's own: maps keyed by three numbers (a session's key; an outside point), as functions of the key; a walk over one.
-/
import Derived.Test.YtgeeijinhneoiaaSsFace
import Derived.Maps.Keyed
import Derived.Maps.RangeWalk
import Derived.DeepKeys4
namespace Go.Proofs.Ytgeeijinhneoiaa
open Go.RowKit
open Sm
open Po
open Go.Maps (Keyed)
open Go.WideElems (Fit rg rd_key rd_val rg_of)
open Go.ChangeShapes Go.WideShapes Go.MapKept
set_option linter.unusedVariables false
set_option linter.unusedSimpArgs false
set_option maxRecDepth 20000

namespace Ss
/-- How an element reads: as the value that it is. -/
abbrev RB : Value → Option (DataW Value × List MemPlace) := fun v => some (.held v, [])
def kv (k : Ky) : Value := .agg #[.int .u8 k.1, .int .u32 k.2.1, .int .u16 k.2.2]
theorem kv_inj {a b : Ky} (h : kv a = kv b) : a = b := by
  obtain ⟨a1, a2, a3⟩ := a
  obtain ⟨b1, b2, b3⟩ := b
  unfold kv at h
  simp at h
  obtain ⟨rfl, rfl, rfl⟩ := h
  rfl
/-- A type whose values are told by three numbers. -/
structure KT (kt : TypeId) : Prop where
  keyed : Keyed Try.prog kt
  key : ∀ k : Ky, KIn k → ∃ l, keyOf Try.prog kt (kv k) = some l
set_option maxRecDepth 100000 in
theorem keyed_key : Keyed Try.prog 36 := Keyed.of_law (deep_law_laid (m := 3) (by kernel_rfl) (by omega) (of_decide_eq_true (by kernel_rfl)) (by kernel_rfl) (by kernel_rfl))
set_option maxRecDepth 100000 in
theorem keyed_out : Keyed Try.prog 72 := Keyed.of_law (deep_law_laid (m := 3) (by kernel_rfl) (by omega) (of_decide_eq_true (by kernel_rfl)) (by kernel_rfl) (by kernel_rfl))
theorem keylits {kt : TypeId} {k : Ky} (hk : KIn k) (ht : Try.prog.keyType kt = true) (hfm : (kv k).formed Try.prog kt = true) (hc : Try.prog.cellsOf kt = 3) (hu : Try.prog.underlying kt = Try.prog.underlying 36 ∨ Try.prog.underlying kt = Try.prog.underlying 72) : ∃ l, keyOf Try.prog kt (kv k) = some l := by
  obtain ⟨a, b, c⟩ := k
  obtain ⟨h1, h2, h3⟩ := hk
  simp only at h1 h2 h3
  have w1 : (Lit.int .u8 a).wf = true := by simp [Lit.wf, IntKind.min, IntKind.max, IntKind.signed, IntKind.bits]; omega
  have w2 : (Lit.int .u32 b).wf = true := by simp [Lit.wf, IntKind.min, IntKind.max, IntKind.signed, IntKind.bits]; omega
  have w3 : (Lit.int .u16 c).wf = true := by simp [Lit.wf, IntKind.min, IntKind.max, IntKind.signed, IntKind.bits]; omega
  have c2 : Try.prog.cellsOf 34 = 2 := by kernel_rfl
  have c5 : Try.prog.cellsOf 5 = 1 := by kernel_rfl
  have c31 : Try.prog.cellsOf 31 = 1 := by kernel_rfl
  have c32 : Try.prog.cellsOf 32 = 1 := by kernel_rfl
  have hsz : 2 < Try.prog.types.size := of_decide_eq_true (by kernel_rfl)
  obtain ⟨n, hn⟩ : ∃ n, Try.prog.types.size = n + 2 := ⟨Try.prog.types.size - 2, by omega⟩
  have h := show ∃ ls, Try.prog.keyLits (Try.prog.types.size + 1) kt (kv (a, b, c)).cells.toList = some ls from ⟨[.int .u8 a, .int .u32 b, .int .u16 c], by
    rw [hn]
    rcases hu with hu | hu <;>
    · simp [Program.keyLits, hu, hc, Try.underlying36, Try.underlying72, Try.underlying34, Try.underlying5, Try.underlying31, Try.underlying32, c2, c5, c31, c32, kv, Value.cells, w1, w2, w3]
      rw [if_pos]
      · rfl
      · intro i hi
        rcases i with _ | _ | i
        · simp
        · simp
        · omega⟩
  obtain ⟨ls, hl⟩ := h
  unfold keyOf
  rcases hu with hu | hu
  · rw [hu, Try.underlying36]
    simp only [ht, hfm, Bool.and_self, if_true, hl]
    exact ⟨_, rfl⟩
  · rw [hu, Try.underlying72]
    simp only [ht, hfm, Bool.and_self, if_true, hl]
    exact ⟨_, rfl⟩
theorem kt_key : KT 36 := ⟨keyed_key, fun k hk => keylits hk (by kernel_rfl) (by
  simp [kv, Value.formed, Try.underlying36]
  kernel_rfl) (by kernel_rfl) (Or.inl rfl)⟩
theorem kt_out : KT 72 := ⟨keyed_out, fun k hk => keylits hk (by kernel_rfl) (by
  simp [kv, Value.formed, Try.underlying72]
  kernel_rfl) (by kernel_rfl) (Or.inr rfl)⟩
variable {kt : TypeId}
/-- The entries of a map from keys are these. -/
structure MI (kt : TypeId) (S : Ky → Option Value) (es : Array MapEntry) (clock : Nat) : Prop where
  fit : Fit (H := Value) Try.prog kt RB es clock
  ent : ∀ e ∈ es.toList, ∃ k, KIn k ∧ e.key = kv k ∧ S k = some e.val
  all : ∀ k v, S k = some v → ∃ e ∈ es.toList, e.key = kv k
theorem MI.nil {S : Ky → Option Value} (h : ∀ k, S k = none) : MI kt S #[] 0 := ⟨⟨by simp, (stamped_iff _ _).2 (by simp), by simp⟩, by simp, fun k v hk => by rw [h k] at hk; cases hk⟩
theorem MI.congr {S S' : Ky → Option Value} {es : Array MapEntry} {clock : Nat} (h : MI kt S es clock) (e : ∀ k, S' k = S k) : MI kt S' es clock := by
  have : S' = S := funext e
  rw [this]
  exact h
theorem MI.nodup {S : Ky → Option Value} {es : Array MapEntry} {clock : Nat} (h : MI kt S es clock) : es.toList.Pairwise (fun x y => x.key ≠ y.key) := ((Go.MapKept.stamped_iff es clock).1 h.fit.stamped).2.2
theorem nodup_len' {α : Type} [DecidableEq α] : ∀ {l l' : List α}, l.Nodup → (∀ x ∈ l, x ∈ l') → l.length ≤ l'.length
  | [], _, _, _ => Nat.zero_le _
  | x :: l, l', h, hs => by
    obtain ⟨h1, h2⟩ := List.nodup_cons.1 h
    have hx : x ∈ l' := hs x (List.mem_cons_self ..)
    have := nodup_len' (l := l) (l' := l'.erase x) h2 fun y hy => by
      have hne : y ≠ x := fun e => h1 (e ▸ hy)
      exact (List.mem_erase_of_ne hne).2 (hs y (List.mem_cons_of_mem _ hy))
    rw [List.length_erase_of_mem hx] at this
    have hp := List.length_pos_of_mem hx
    simp only [List.length_cons]
    omega
theorem MI.le {S : Ky → Option Value} {es : Array MapEntry} {clock : Nat} (h : MI kt S es clock) {l : List Ky} (hl : ∀ k, S k ≠ none → k ∈ l) : es.size ≤ l.length := by
  classical
  have h1 : (es.toList.map (·.key)).Nodup := by
    unfold List.Nodup
    rw [List.pairwise_map]
    exact h.nodup
  have := nodup_len' (l' := l.map kv) h1 fun x hx => by
    obtain ⟨e, he, rfl⟩ := List.mem_map.1 hx
    obtain ⟨k, -, hk, hv⟩ := h.ent e he
    rw [hk]
    exact List.mem_map_of_mem (hl k (by rw [hv]; simp))
  simpa using this
theorem MI.size {S : Ky → Option Value} {es : Array MapEntry} {clock : Nat} (h : MI kt S es clock) {l : List Ky} (hn : l.Nodup) (hl : ∀ k, S k ≠ none ↔ k ∈ l) : es.size = l.length := by
  classical
  refine Nat.le_antisymm (h.le fun k hk => (hl k).1 hk) ?_
  have hn' : (l.map kv).Nodup := by
    unfold List.Nodup at hn ⊢
    rw [List.pairwise_map]
    exact hn.imp fun {a b} hab e => hab (kv_inj e)
  have := nodup_len' (l' := es.toList.map (·.key)) hn' fun x hx => by
    obtain ⟨k, hk, rfl⟩ := List.mem_map.1 hx
    have hS := (hl k).2 hk
    obtain ⟨v, hv⟩ := Option.ne_none_iff_exists'.1 hS
    obtain ⟨e, he, hke⟩ := h.all k v hv
    rw [← hke]
    exact List.mem_map_of_mem (f := MapEntry.key) he
  simpa using this
theorem MI.at_ {S : Ky → Option Value} {es : Array MapEntry} {clock : Nat} (h : MI kt S es clock) {e : MapEntry} (he : e ∈ es.toList) {k : Ky} (hk : e.key = kv k) : S k = some e.val := by
  obtain ⟨k', -, hk', hv⟩ := h.ent e he
  rw [hk'] at hk
  rw [← kv_inj hk]
  exact hv
/-- v, ok := m[k]. -/
theorem MI.look (hT : KT kt) {S : Ky → Option Value} {es : Array MapEntry} {clock : Nat} (h : MI kt S es clock) {w : World} {b : Nat} (hb : w.heap[b]? = some (.map es clock)) {k : Ky} (hk : KIn k) (c : Bool) {t e : TypeId} (ht : Try.prog.underlying t = some (.map kt e)) {z : Value} (hz : (zeroValue e).run Try.prog w = .ok z w) :
    (Instr.lookup t (.map (some b)) (kv k) c).run Try.prog w = .ok (if c then .tuple #[(S k).getD z, .bool (S k).isSome] else (S k).getD z) w := by
  obtain ⟨l, hl⟩ := hT.key _ hk
  rcases Go.Maps.fit_look c hT.keyed ht hz hb h.fit hl with ⟨hr, hn, -⟩ | ⟨e, y, he, hk', hr, -⟩
  · have hS : S k = none := by
      cases hS : S k with
      | none => rfl
      | some v =>
        obtain ⟨e, he, hke⟩ := h.all k v hS
        exact absurd hke (hn e he)
    rw [hr, hS]
    rfl
  · rw [hr, h.at_ he hk']
    rfl
theorem rg_int (hT : KT kt) {es : Array MapEntry} {clock : Nat} (F : Fit (H := Value) Try.prog kt RB es clock) {e : MapEntry} (he : e ∈ es.toList) : keyOf Try.prog kt e.key = some (rg Try.prog kt RB e).1 ∧ (rg Try.prog kt RB e).2 = .held e.val := by
  obtain ⟨y, hy⟩ := F.reads e he
  obtain ⟨z, hz, hv⟩ := rd_val hy
  rw [rg_of hy]
  refine ⟨rd_key hy, ?_⟩
  rw [hv]
  simp only [RB, Option.some.injEq] at hz
  rw [← hz]
theorem rg_int_same (hT : KT kt) {es es' : Array MapEntry} {c c' : Nat} (F : Fit (H := Value) Try.prog kt RB es c) (F' : Fit (H := Value) Try.prog kt RB es' c') {e e' : MapEntry} (he : e ∈ es.toList) (he' : e' ∈ es'.toList) (h : rg (H := Value) Try.prog kt RB e = rg Try.prog kt RB e') : e.key = e'.key ∧ e.val = e'.val := by
  obtain ⟨a1, a2⟩ := rg_int hT F he
  obtain ⟨b1, b2⟩ := rg_int hT F' he'
  rw [h] at a1 a2
  refine ⟨hT.keyed.inj a1 b1, ?_⟩
  rw [a2] at b2
  exact DataW.held.inj b2
def upd {β : Type} (S : Ky → Option β) (k : Ky) (v : Option β) : Ky → Option β := fun q => if q = k then v else S q
theorem upd_at {β : Type} (S : Ky → Option β) (k : Ky) (v : Option β) : upd S k v k = v := by simp [upd]
theorem upd_off {β : Type} (S : Ky → Option β) {k q : Ky} (v : Option β) (h : q ≠ k) : upd S k v q = S q := by simp [upd, h]
/-- m[k] = v. -/
theorem MI.store (hT : KT kt) {S : Ky → Option Value} {es : Array MapEntry} {clock : Nat} (h : MI kt S es clock) {w : World} {b : Nat} (hb : w.heap[b]? = some (.map es clock)) {k : Ky} (hk : KIn k) {t e : TypeId} (ht : Try.prog.underlying t = some (.map kt e)) (hroom : es.size < maxLen) (v : Value) :
    ∃ es' clock', (Instr.mapUpdate t (.map (some b)) (kv k) v).run Try.prog w = .ok () (Go.ChangeMaps.setBlock w b (.map es' clock')) ∧ MI kt (upd S k (some v)) es' clock' := by
  obtain ⟨l, hl⟩ := hT.key _ hk
  obtain ⟨es', clock', hr, F', hS, -, -, hw⟩ := Go.Maps.fit_store (R' := RB) hT.keyed ht hb h.fit hroom (val := v) (fun x _ _ z hz => hz) hl rfl
  refine ⟨es', clock', hr, F', fun e he => ?_, fun q u hq => ?_⟩
  · rcases hw e he with ⟨he0, hne⟩ | ⟨hke, hv⟩
    · obtain ⟨q, hq, hkq, hv⟩ := h.ent e he0
      refine ⟨q, hq, hkq, ?_⟩
      rw [upd_off _ _ fun e1 => hne (by rw [hkq, e1])]
      exact hv
    · exact ⟨k, hk, hke, by rw [upd_at, hv]⟩
  · by_cases hqk : q = k
    · subst hqk
      have hin : (l, DataW.held v) ∈ (es'.toList.map (rg Try.prog kt RB)).foldr DataW.insert [] := by
        rw [hS]
        exact Go.ChangeMaps.mem_insert_iff.2 (Or.inl rfl)
      obtain ⟨e, he, hre⟩ := List.mem_map.1 ((sorted_perm _).mem_iff.1 hin)
      obtain ⟨a1, -⟩ := rg_int hT F' he
      rw [hre] at a1
      exact ⟨e, he, hT.keyed.inj a1 hl⟩
    · rw [upd_off _ _ hqk] at hq
      obtain ⟨e, he, hke⟩ := h.all q u hq
      obtain ⟨a1, -⟩ := rg_int hT h.fit he
      have hin : rg (H := Value) Try.prog kt RB e ∈ (es'.toList.map (rg Try.prog kt RB)).foldr DataW.insert [] := by
        rw [hS]
        refine Go.ChangeMaps.mem_insert_iff.2 (Or.inr (List.mem_filter.2 ⟨(sorted_perm _).mem_iff.2 (List.mem_map_of_mem he), (Go.Maps.notKey_iff (hT.keyed.key hl)).2 fun e1 => hqk ?_⟩))
        rw [e1] at a1
        have := hT.keyed.inj a1 hl
        rw [hke] at this
        exact kv_inj this
      obtain ⟨e', he', hre⟩ := List.mem_map.1 ((sorted_perm _).mem_iff.1 hin)
      exact ⟨e', he', by rw [(rg_int_same hT F' h.fit he' he hre).1, hke]⟩
/-- delete(m, k). -/
theorem MI.drop (hT : KT kt) {S : Ky → Option Value} {es : Array MapEntry} {clock : Nat} (h : MI kt S es clock) {w : World} {b : Nat} (hb : w.heap[b]? = some (.map es clock)) {k : Ky} (hk : KIn k) {t e : TypeId} (ht : Try.prog.underlying t = some (.map kt e)) (ty : TypeId) :
    ∃ es', (Builtin.delete_ #[t, kt] ty #[.map (some b), kv k]).run Try.prog w = .ok (.tuple #[]) (Go.ChangeMaps.setBlock w b (.map es' clock)) ∧ MI kt (upd S k none) es' clock := by
  obtain ⟨l, hl⟩ := hT.key _ hk
  obtain ⟨es', hr, F', -, -, -, hw⟩ := fit_drop_who (ty := ty) hT.keyed ht hb h.fit hl
  refine ⟨es', hr, F', fun e he => ?_, fun q u hq => ?_⟩
  · obtain ⟨he0, hne⟩ := (hw e).1 he
    obtain ⟨q, hq, hkq, hv⟩ := h.ent e he0
    refine ⟨q, hq, hkq, ?_⟩
    rw [upd_off _ _ fun e1 => hne (by rw [hkq, e1])]
    exact hv
  · by_cases hqk : q = k
    · subst hqk
      rw [upd_at] at hq
      cases hq
    · rw [upd_off _ _ hqk] at hq
      obtain ⟨e, he, hke⟩ := h.all q u hq
      exact ⟨e, (hw e).2 ⟨he, fun e1 => hqk (by rw [hke] at e1; exact kv_inj e1)⟩, hke⟩
theorem MI.born {S : Ky → Option Value} {es : Array MapEntry} {clock : Nat} (h : MI kt S es clock) : (∀ x ∈ es.toList, x.born < clock) ∧ (es.toList.map (·.born)).Nodup := by
  have := (Go.MapKept.stamped_iff es clock).1 h.fit.stamped
  exact ⟨this.1, this.2.1⟩
/-- A walk over a map of which these have come out. -/
structure Itr (es : Array MapEntry) (seen : Array Nat) (vis : List Ky) : Prop where
  nodup : vis.Nodup
  came : ∀ k ∈ vis, ∃ e ∈ es.toList, e.key = kv k ∧ seen.contains e.born = true
  seen : ∀ e ∈ es.toList, seen.contains e.born = true → ∃ k ∈ vis, e.key = kv k
theorem Itr.nil (es : Array MapEntry) : Itr es #[] [] := ⟨List.nodup_nil, by simp, fun e _ h => by simp at h⟩
theorem Itr.next {S : Ky → Option Value} {es : Array MapEntry} {clock : Nat} (h : MI kt S es clock) {seen : Array Nat} {vis : List Ky} (hI : Itr es seen vis) {w : World} {r b since c0 : Nat} (hr : w.heap[r]? = some (.mapIter (some b) since seen c0)) (hb : w.heap[b]? = some (.map es clock)) (hs : clock = since) (hc : since ≤ c0) (ty : TypeId) :
    (((∀ k, S k ≠ none ↔ k ∈ vis) ∧ (Instr.next (.pointer (some ⟨r, 0, none⟩)) false ty).run Try.prog w = .ok (.tuple #[.bool false]) w) ∨
    ∃ k v w1 seen', KIn k ∧ S k = some v ∧ k ∉ vis ∧ (w1 = w ∨ w1 = w.drew) ∧ Itr es seen' (vis ++ [k]) ∧ (leftOf es seen').size < (leftOf es seen).size ∧ (Instr.next (.pointer (some ⟨r, 0, none⟩)) false ty).run Try.prog w = .ok (.tuple #[.bool true, kv k, v]) (Go.ChangeMaps.setBlock w1 r (.mapIter (some b) since seen' clock)) ∧
      ∀ V : World, V.heap[r]? = some (.mapIter (some b) since seen' clock) → V.heap[b]? = some (.map es clock) → (Instr.entry (.pointer (some ⟨r, 0, none⟩))).run Try.prog V = .ok (.tuple #[kv k, v]) V) := by
  subst hs
  have hborn := h.born
  rcases run_next_at (P := Try.prog) w ty r b clock c0 seen es clock hr hb hborn.1 hc with ⟨h0, hrun⟩ | ⟨e, he, w1, hal, hrun⟩
  · refine Or.inl ⟨fun k => ⟨fun hk => ?_, fun hk => ?_⟩, hrun⟩
    · obtain ⟨v, hv⟩ := Option.ne_none_iff_exists'.1 hk
      obtain ⟨e, he, hke⟩ := h.all k v hv
      obtain ⟨q, hq, hkq⟩ := hI.seen e he (all_seen es seen h0 e he)
      rw [hke] at hkq
      rw [kv_inj hkq]
      exact hq
    · obtain ⟨e, he, hke, -⟩ := hI.came k hk
      rw [h.at_ he hke]
      simp
  · obtain ⟨hem, hes⟩ := mem_left he
    obtain ⟨k, hk, hke, hv⟩ := h.ent e hem
    have hno : k ∉ vis := fun hkv => by
      obtain ⟨e', he', hke', hs'⟩ := hI.came k hkv
      have : e' = e := entry_eq_of_key h.nodup he' hem (by rw [hke', hke])
      rw [this, hes] at hs'
      cases hs'
    refine Or.inr ⟨k, e.val, w1, seen.push e.born, hk, hv, hno, hal, ⟨?_, fun q hq => ?_, fun e' he' hs' => ?_⟩, left_shrinks es seen e he, by rw [hrun, hke], fun V hV1 hV2 => ?_⟩
    · rw [List.nodup_append]
      exact ⟨hI.nodup, by simp, fun x hx y hy e1 => hno (by simp at hy; rw [← hy, ← e1]; exact hx)⟩
    · rcases List.mem_append.1 hq with hq | hq
      · obtain ⟨e', he', hke', hs'⟩ := hI.came q hq
        refine ⟨e', he', hke', ?_⟩
        rw [contains_push, hs']
        rfl
      · simp at hq
        subst hq
        refine ⟨e, hem, hke, ?_⟩
        rw [contains_push]
        simp
    · rw [contains_push] at hs'
      by_cases hb' : e'.born = e.born
      · have : e' = e := born_inj hborn.2 he' hem hb'
        subst this
        exact ⟨k, by simp, hke⟩
      · have hs2 : seen.contains e'.born = true := by
          rcases Bool.or_eq_true _ _ ▸ hs' with h1 | h1
          · exact h1
          · exact absurd (by simpa using h1) hb'
        obtain ⟨q, hq, hkq⟩ := hI.seen e' he' hs2
        exact ⟨q, by simp [hq], hkq⟩
    · have := run_entry_at (P := Try.prog) V r b clock seen es clock e hV1 hV2 hem hborn.2
      rw [this, hke]
end Ss
end Go.Proofs.Ytgeeijinhneoiaa
