/-
  Ports: the map of blocks: each entry holds the marks of its place, each mark's place has an entry.
-/
import Derived.Test.YtkbjiackjefkkaaDoorPpLow
import Derived.Maps.Keyed
import Derived.DeepKeys4
namespace Go.Proofs.YtkbjiackjefkkaaDoor
open Go.RowKit
open Sm
open Po
open Go.Maps (Keyed)
open Go.WideElems (Fit rg rd_key rd_val rg_of)
open Go.ChangeShapes Go.WideShapes Go.MapKept
set_option linter.unusedVariables false
set_option linter.unusedSimpArgs false
set_option maxRecDepth 20000

namespace Po
/-- A place as a key. -/
def plv (pr ip nb : Int) : Value := .agg #[.int .u8 pr, .int .u32 ip, .int .i64 nb]
theorem plv_inj {a b c a' b' c' : Int} (h : plv a b c = plv a' b' c') : a = a' ∧ b = b' ∧ c = c' := by
  unfold plv at h
  simp at h
  exact h
set_option maxRecDepth 100000 in
theorem keyed_pl : Keyed Tryd.prog 69 := Keyed.of_law (deep_law_laid (m := 2) (by kernel_rfl) (by omega) (of_decide_eq_true (by kernel_rfl)) (by kernel_rfl) (by kernel_rfl))
theorem key_pl {pr ip nb : Int} (h1 : 0 ≤ pr ∧ pr ≤ 255) (h2 : 0 ≤ ip ∧ ip ≤ 4294967295) (h3 : 0 ≤ nb ∧ nb ≤ 70000) : ∃ l, keyOf Tryd.prog 69 (plv pr ip nb) = some l := by
  have hk : Tryd.prog.keyType 69 = true := by kernel_rfl
  have hf : (plv pr ip nb).formed Tryd.prog 69 = true := by
    simp [plv, Value.formed, Tryd.underlying69]
    kernel_rfl
  have w1 : (Lit.int .u8 pr).wf = true := by simp [Lit.wf, IntKind.min, IntKind.max, IntKind.signed, IntKind.bits]; omega
  have w2 : (Lit.int .u32 ip).wf = true := by simp [Lit.wf, IntKind.min, IntKind.max, IntKind.signed, IntKind.bits]; omega
  have w3 : (Lit.int .i64 nb).wf = true := by simp [Lit.wf, IntKind.min, IntKind.max, IntKind.signed, IntKind.bits]; omega
  unfold keyOf
  rw [Tryd.underlying69]
  simp only [hk, hf, Bool.and_self, if_true]
  have c69 : Tryd.prog.cellsOf 69 = 3 := by kernel_rfl
  have c5 : Tryd.prog.cellsOf 5 = 1 := by kernel_rfl
  have c33 : Tryd.prog.cellsOf 33 = 1 := by kernel_rfl
  have c3 : Tryd.prog.cellsOf 3 = 1 := by kernel_rfl
  have hsz : 69 < Tryd.prog.types.size := of_decide_eq_true (by kernel_rfl)
  obtain ⟨n, hn⟩ : ∃ n, Tryd.prog.types.size = n + 1 := ⟨Tryd.prog.types.size - 1, by omega⟩
  rw [hn]
  have h := show ∃ ls, Tryd.prog.keyLits (n + 1 + 1) 69 (plv pr ip nb).cells.toList = some ls from ⟨[.int .u8 pr, .int .u32 ip, .int .i64 nb], by
    simp [Program.keyLits, Tryd.underlying69, Tryd.underlying5, Tryd.underlying33, Tryd.underlying3, c69, c5, c33, c3, plv, Value.cells, w1, w2, w3]⟩
  obtain ⟨ls, hl⟩ := h
  exact ⟨_, by rw [hl]; rfl⟩
/-- How an element reads: as the value that it is. -/
abbrev RB : Value → Option (DataW Value × List MemPlace) := fun v => some (.held v, [])
/-- Whether a port of an address is held. -/
def hld (xs : List Mk) (pr ip : Int) (p : Int) : Bool := decide ((pr, ip, p) ∈ xs)
/-- A block's words, by its place. -/
abbrev wdp (xs : List Mk) (pr ip nb : Int) : Nat → Nat := wds (hld xs pr ip) (nb * 1024)
def pkey (m : Mk) : Value := plv m.1 m.2.1 (m.2.2 / 1024)
/-- The entries of a map hold these marks. -/
structure MB (xs : List Mk) (es : Array MapEntry) (clock : Nat) : Prop where
  fit : Fit (H := Value) Tryd.prog 69 RB es clock
  ent : ∀ e ∈ es.toList, ∃ m ∈ xs, e.key = pkey m ∧ e.val = .agg (blv (wdp xs m.1 m.2.1 (m.2.2 / 1024)))
  all : ∀ m ∈ xs, ∃ e ∈ es.toList, e.key = pkey m
theorem MB.nil : MB [] #[] 0 := ⟨⟨by simp, (stamped_iff _ _).2 (by simp), by simp⟩, by simp, by simp⟩
theorem nodup_len {α : Type} [DecidableEq α] : ∀ {l l' : List α}, l.Nodup → (∀ x ∈ l, x ∈ l') → l.length ≤ l'.length
  | [], _, _, _ => Nat.zero_le _
  | x :: l, l', h, hs => by
    obtain ⟨h1, h2⟩ := List.nodup_cons.1 h
    have hx : x ∈ l' := hs x (List.mem_cons_self ..)
    have := nodup_len (l := l) (l' := l'.erase x) h2 fun y hy => by
      have hne : y ≠ x := fun e => h1 (e ▸ hy)
      exact (List.mem_erase_of_ne hne).2 (hs y (List.mem_cons_of_mem _ hy))
    rw [List.length_erase_of_mem hx] at this
    have hp := List.length_pos_of_mem hx
    simp only [List.length_cons]
    omega
theorem MB.size {xs : List Mk} {es : Array MapEntry} {clock : Nat} (h : MB xs es clock) : es.size ≤ xs.length := by
  classical
  have hn : es.toList.Pairwise (fun x y => x.key ≠ y.key) := ((Go.MapKept.stamped_iff es clock).1 h.fit.stamped).2.2
  have h1 : (es.toList.map (·.key)).Nodup := by
    unfold List.Nodup
    rw [List.pairwise_map]
    exact hn
  have := nodup_len (l' := xs.map pkey) h1 fun x hx => by
    obtain ⟨e, he, rfl⟩ := List.mem_map.1 hx
    obtain ⟨m, hm, hk, -⟩ := h.ent e he
    rw [hk]
    exact List.mem_map_of_mem hm
  simpa using this
theorem blv_congr {f g : Nat → Nat} (h : ∀ i, i < 16 → f i = g i) : blv f = blv g := by
  unfold blv
  rw [h 0 (by omega), h 1 (by omega), h 2 (by omega), h 3 (by omega), h 4 (by omega), h 5 (by omega), h 6 (by omega), h 7 (by omega), h 8 (by omega), h 9 (by omega), h 10 (by omega), h 11 (by omega), h 12 (by omega), h 13 (by omega), h 14 (by omega), h 15 (by omega)]
/-- What stands at a place. -/
theorem MB.look {xs : List Mk} {es : Array MapEntry} {clock : Nat} (h : MB xs es clock) {w : World} {b : Nat} (hb : w.heap[b]? = some (.map es clock)) {pr ip nb : Int} (h1 : 0 ≤ pr ∧ pr ≤ 255) (h2 : 0 ≤ ip ∧ ip ≤ 4294967295) (h3 : 0 ≤ nb ∧ nb ≤ 70000) :
    (Instr.lookup 56 (.map (some b)) (plv pr ip nb) false).run Tryd.prog w = .ok (.agg (blv (wdp xs pr ip nb))) w := by
  obtain ⟨l, hl⟩ := key_pl h1 h2 h3
  have hz : (zeroValue 67).run Tryd.prog w = .ok (.agg (blv fun _ => 0)) w := by kernel_rfl
  rcases Go.Maps.fit_look false keyed_pl Tryd.underlying56 hz hb h.fit hl with ⟨hr, hn, -⟩ | ⟨e, y, he, hk, hr, -⟩
  · rw [hr]
    have e0 : blv (fun _ => 0) = blv (wdp xs pr ip nb) := blv_congr fun i hi => by
      refine (mkw_zero.2 fun j hj => ?_).symm
      unfold hld
      rw [decide_eq_false_iff_not]
      intro hm
      obtain ⟨e, he, hk⟩ := h.all _ hm
      refine hn e he ?_
      rw [hk]
      unfold pkey
      simp only
      rw [show (nb * 1024 + (i : Int) * 64 + (j : Int)) / 1024 = nb by omega]
    rw [e0]
    rfl
  · rw [hr]
    obtain ⟨m, hm, hk', hv⟩ := h.ent e he
    rw [hk] at hk'
    obtain ⟨e1, e2, e3⟩ := plv_inj hk'
    rw [hv, ← e1, ← e2, ← e3]
    rfl
theorem rg_at {es : Array MapEntry} {clock : Nat} (F : Fit (H := Value) Tryd.prog 69 RB es clock) {e : MapEntry} (he : e ∈ es.toList) : keyOf Tryd.prog 69 e.key = some (rg Tryd.prog 69 RB e).1 ∧ (rg Tryd.prog 69 RB e).2 = .held e.val := by
  obtain ⟨y, hy⟩ := F.reads e he
  obtain ⟨z, hz, hv⟩ := rd_val hy
  rw [rg_of hy]
  refine ⟨rd_key hy, ?_⟩
  rw [hv]
  simp only [RB, Option.some.injEq] at hz
  rw [← hz]
theorem rg_same {es es' : Array MapEntry} {c c' : Nat} (F : Fit (H := Value) Tryd.prog 69 RB es c) (F' : Fit (H := Value) Tryd.prog 69 RB es' c') {e e' : MapEntry} (he : e ∈ es.toList) (he' : e' ∈ es'.toList) (h : rg (H := Value) Tryd.prog 69 RB e = rg Tryd.prog 69 RB e') : e.key = e'.key ∧ e.val = e'.val := by
  obtain ⟨a1, a2⟩ := rg_at F he
  obtain ⟨b1, b2⟩ := rg_at F' he'
  rw [h] at a1 a2
  refine ⟨keyed_pl.inj a1 b1, ?_⟩
  rw [a2] at b2
  exact DataW.held.inj b2
/-- xs' is xs with one mark turned. -/
def Trn (xs xs' : List Mk) (m : Mk) : Prop := ∀ q, q ∈ xs' ↔ if q = m then m ∉ xs else q ∈ xs
theorem Trn.off {xs xs' : List Mk} {m : Mk} (h : Trn xs xs' m) {q : Mk} (hq : q ≠ m) : q ∈ xs' ↔ q ∈ xs := by
  have := h q
  rwa [if_neg hq] at this
theorem Trn.words {xs xs' : List Mk} {m : Mk} (h : Trn xs xs' m) {pr ip nb : Int} (hne : plv pr ip nb ≠ pkey m) : blv (wdp xs' pr ip nb) = blv (wdp xs pr ip nb) := blv_congr fun i hi => mkw_congr fun j hj => by
  unfold hld
  rw [decide_eq_decide]
  refine h.off fun e => hne ?_
  rw [← e]
  unfold pkey
  simp only
  rw [show (nb * 1024 + (i : Int) * 64 + (j : Int)) / 1024 = nb by omega]
theorem xor_nat (f g : Nat → Bool) : mkw 64 f ^^^ mkw 64 g = mkw 64 (fun i => f i ^^ g i) := by
  refine eq_mkw (Nat.xor_lt_two_pow (mkw_lt 64 f) (mkw_lt 64 g)) fun i hi => ?_
  rw [Nat.testBit_xor, mkw_bit, mkw_bit]
  simp [hi]
theorem Trn.turned {xs xs' : List Mk} {pr ip : Int} {k : Nat} (h : Trn xs xs' (pr, ip, (k : Int))) : blv (flp (wdp xs pr ip ((k : Int) / 1024)) k) = blv (wdp xs' pr ip ((k : Int) / 1024)) := blv_congr fun i hi => by
  unfold flp
  split
  · rename_i he
    show mkw 64 _ ^^^ _ = mkw 64 _
    rw [one_mkw (k := k % 64) (by omega), xor_nat]
    refine mkw_congr fun j hj => ?_
    unfold hld
    by_cases hjk : j = k % 64
    · have e1 : (k : Int) / 1024 * 1024 + (i : Int) * 64 + (j : Int) = k := by omega
      rw [e1]
      have := h (pr, ip, (k : Int))
      rw [if_pos rfl] at this
      by_cases hm : (pr, ip, (k : Int)) ∈ xs <;> simp [hm, hjk, this]
    · have := h.off (q := (pr, ip, (k : Int) / 1024 * 1024 + (i : Int) * 64 + (j : Int))) (fun e => by simp only [Prod.mk.injEq, true_and] at e; omega)
      simp [hjk, this]
  · rename_i he
    refine mkw_congr fun j hj => ?_
    unfold hld
    rw [decide_eq_decide]
    exact (h.off (fun e => by simp only [Prod.mk.injEq, true_and] at e; omega)).symm
theorem MB.store {xs xs' : List Mk} {es : Array MapEntry} {clock : Nat} (h : MB xs es clock) {w : World} {b : Nat} (hb : w.heap[b]? = some (.map es clock)) {m m0 : Mk} (hT : Trn xs xs' m) (hm0 : m0 ∈ xs') (hk0 : pkey m0 = pkey m) (hroom : xs.length < maxLen)
    (h1 : 0 ≤ m.1 ∧ m.1 ≤ 255) (h2 : 0 ≤ m.2.1 ∧ m.2.1 ≤ 4294967295) (h3 : 0 ≤ m.2.2 ∧ m.2.2 ≤ 65535) :
    ∃ es' clock', (Instr.mapUpdate 56 (.map (some b)) (pkey m) (.agg (blv (wdp xs' m.1 m.2.1 (m.2.2 / 1024))))).run Tryd.prog w = .ok () (Go.ChangeMaps.setBlock w b (.map es' clock')) ∧ MB xs' es' clock' := by
  obtain ⟨l, hl⟩ := key_pl h1 h2 (nb := m.2.2 / 1024) (by omega)
  have hs := h.size
  obtain ⟨es', clock', hr, F', hS, -, -, hw⟩ := Go.Maps.fit_store (R' := RB) keyed_pl Tryd.underlying56 hb h.fit (by omega) (val := .agg (blv (wdp xs' m.1 m.2.1 (m.2.2 / 1024)))) (fun x _ _ z hz => hz) hl rfl
  refine ⟨es', clock', hr, F', fun e he => ?_, fun q hq => ?_⟩
  · rcases hw e he with ⟨he0, hne⟩ | ⟨hk, hv⟩
    · obtain ⟨q, hq, hk, hv⟩ := h.ent e he0
      have hqm : plv q.1 q.2.1 (q.2.2 / 1024) ≠ pkey m := fun e => hne (by rw [hk]; exact e)
      refine ⟨q, (hT.off fun e => hqm (by rw [e]; rfl)).2 hq, hk, ?_⟩
      rw [hv, hT.words hqm]
    · refine ⟨m0, hm0, by rw [hk, hk0]; rfl, ?_⟩
      obtain ⟨e1, e2, e3⟩ := plv_inj hk0
      rw [hv, e1, e2, e3]
  · by_cases hk : pkey q = pkey m
    · have hin : (l, DataW.held (.agg (blv (wdp xs' m.1 m.2.1 (m.2.2 / 1024))))) ∈ (es'.toList.map (rg Tryd.prog 69 RB)).foldr DataW.insert [] := by
        rw [hS]
        exact Go.ChangeMaps.mem_insert_iff.2 (Or.inl rfl)
      obtain ⟨e, he, hre⟩ := List.mem_map.1 ((sorted_perm _).mem_iff.1 hin)
      obtain ⟨a1, -⟩ := rg_at F' he
      rw [hre] at a1
      exact ⟨e, he, by rw [hk]; exact keyed_pl.inj a1 hl⟩
    · have hqx := (hT.off fun e => hk (by rw [e])).1 hq
      obtain ⟨e, he, hke⟩ := h.all q hqx
      obtain ⟨a1, -⟩ := rg_at h.fit he
      have hin : rg (H := Value) Tryd.prog 69 RB e ∈ (es'.toList.map (rg Tryd.prog 69 RB)).foldr DataW.insert [] := by
        rw [hS]
        refine Go.ChangeMaps.mem_insert_iff.2 (Or.inr (List.mem_filter.2 ⟨(sorted_perm _).mem_iff.2 (List.mem_map_of_mem he), (Go.Maps.notKey_iff (keyed_pl.key hl)).2 fun e1 => hk ?_⟩))
        rw [e1] at a1
        rw [← hke]
        exact keyed_pl.inj a1 hl
      obtain ⟨e', he', hre⟩ := List.mem_map.1 ((sorted_perm _).mem_iff.1 hin)
      exact ⟨e', he', by rw [(rg_same F' h.fit he' he hre).1, hke]⟩
theorem MB.drop {xs xs' : List Mk} {es : Array MapEntry} {clock : Nat} (h : MB xs es clock) {w : World} {b : Nat} (hb : w.heap[b]? = some (.map es clock)) {m : Mk} (hT : Trn xs xs' m) (hno : ∀ q ∈ xs', pkey q ≠ pkey m) (ty : TypeId)
    (h1 : 0 ≤ m.1 ∧ m.1 ≤ 255) (h2 : 0 ≤ m.2.1 ∧ m.2.1 ≤ 4294967295) (h3 : 0 ≤ m.2.2 ∧ m.2.2 ≤ 65535) :
    ∃ es', (Builtin.delete_ #[56, 69] ty #[.map (some b), pkey m]).run Tryd.prog w = .ok (.tuple #[]) (Go.ChangeMaps.setBlock w b (.map es' clock)) ∧ MB xs' es' clock := by
  obtain ⟨l, hl⟩ := key_pl h1 h2 (nb := m.2.2 / 1024) (by omega)
  obtain ⟨es', hr, F', -, hS, -⟩ := Go.Maps.fit_drop (ty := ty) keyed_pl Tryd.underlying56 hb h.fit hl
  refine ⟨es', hr, F', fun e' he' => ?_, fun q hq => ?_⟩
  · have hin : rg (H := Value) Tryd.prog 69 RB e' ∈ Go.ChangeMaps.delKey l ((es.toList.map (rg Tryd.prog 69 RB)).foldr DataW.insert []) := by
      rw [← hS]
      exact (sorted_perm _).mem_iff.2 (List.mem_map_of_mem he')
    obtain ⟨hi1, hi2⟩ := List.mem_filter.1 hin
    obtain ⟨e, he, hre⟩ := List.mem_map.1 ((sorted_perm _).mem_iff.1 hi1)
    obtain ⟨ek, ev⟩ := rg_same h.fit F' he he' hre
    obtain ⟨q, hq, hk, hv⟩ := h.ent e he
    have hne : pkey q ≠ pkey m := fun hh => by
      obtain ⟨a1, -⟩ := rg_at F' he'
      have := (Go.Maps.notKey_iff (keyed_pl.key hl)).1 hi2
      refine this ?_
      rw [← ek, hk, hh] at a1
      have hl' : keyOf Tryd.prog 69 (pkey m) = some l := hl
      rw [hl'] at a1
      exact (Option.some.inj a1).symm
    refine ⟨q, (hT.off fun e => hne (by rw [e])).2 hq, by rw [← ek, hk], ?_⟩
    rw [← ev, hv, hT.words hne]
  · have hk := hno q hq
    have hqx := (hT.off fun e => hk (by rw [e])).1 hq
    obtain ⟨e, he, hke⟩ := h.all q hqx
    obtain ⟨a1, -⟩ := rg_at h.fit he
    have hin : rg (H := Value) Tryd.prog 69 RB e ∈ (es'.toList.map (rg Tryd.prog 69 RB)).foldr DataW.insert [] := by
      rw [hS]
      refine List.mem_filter.2 ⟨(sorted_perm _).mem_iff.2 (List.mem_map_of_mem he), (Go.Maps.notKey_iff (keyed_pl.key hl)).2 fun e1 => hk ?_⟩
      rw [e1] at a1
      rw [← hke]
      exact keyed_pl.inj a1 hl
    obtain ⟨e', he', hre⟩ := List.mem_map.1 ((sorted_perm _).mem_iff.1 hin)
    exact ⟨e', he', by rw [(rg_same F' h.fit he' he hre).1, hke]⟩
end Po
end Go.Proofs.YtkbjiackjefkkaaDoor
