/-
  Sessions: lists of elements that lie somewhere: their first ones, what stands behind, two joined, one turned.
-/
import Derived.Test.YtgeeijinhneoiaaSsTab
namespace Go.Proofs.Ytgeeijinhneoiaa
open Go.RowKit
open Sm
open Po
open Wh
set_option linter.unusedVariables false
set_option linter.unusedSimpArgs false
set_option maxRecDepth 20000

namespace Ss
theorem fl_len {α : Type} {sz : Nat} : ∀ {xs : List (List α)}, (∀ x ∈ xs, x.length = sz) → xs.flatten.length = xs.length * sz
  | [], _ => by simp
  | x :: xs, h => by
    have := fl_len (xs := xs) fun y hy => h y (List.mem_cons_of_mem _ hy)
    rw [List.flatten_cons, List.length_append, this, h x (List.mem_cons_self ..), List.length_cons, Nat.succ_mul]
    omega
theorem fl_take {α : Type} {sz : Nat} : ∀ {xs : List (List α)} (k : Nat), (∀ x ∈ xs, x.length = sz) → (xs.take k).flatten = xs.flatten.take (k * sz)
  | xs, 0, _ => by simp
  | [], k + 1, _ => by simp
  | x :: xs, k + 1, h => by
    have e := h x (List.mem_cons_self ..)
    have e1 : x.take ((k + 1) * sz) = x := List.take_of_length_le (by rw [e, Nat.succ_mul]; omega)
    have e2 : (k + 1) * sz - x.length = k * sz := by rw [e, Nat.succ_mul]; omega
    rw [List.take_succ_cons, List.flatten_cons, List.flatten_cons, fl_take k fun y hy => h y (List.mem_cons_of_mem _ hy), List.take_append, e1, e2]
theorem fl_drop {α : Type} {sz : Nat} : ∀ {xs : List (List α)} (k : Nat), (∀ x ∈ xs, x.length = sz) → (xs.drop k).flatten = xs.flatten.drop (k * sz)
  | xs, 0, _ => by simp
  | [], k + 1, _ => by simp
  | x :: xs, k + 1, h => by
    have e := h x (List.mem_cons_self ..)
    have e1 : x.drop ((k + 1) * sz) = [] := List.drop_eq_nil_of_le (by rw [e, Nat.succ_mul]; omega)
    have e2 : (k + 1) * sz - x.length = k * sz := by rw [e, Nat.succ_mul]; omega
    rw [List.drop_succ_cons, List.flatten_cons, fl_drop k fun y hy => h y (List.mem_cons_of_mem _ hy), List.drop_append, e1, e2, List.nil_append]
section
variable {T : TypeId} {sz : Nat} {xs ys : List (List Value)} {a a2 : Option Addr} {cap c2 : Nat} {B L : List (Nat × Obj)} {w V : World}
theorem gf_ii (hx : ∀ x ∈ xs, x.length = sz) (h : SlF T sz (.slice a xs.length cap) xs.length xs.flatten B) {i : Nat} (hi : i ≤ xs.length) : SlF T sz (.slice a i i) i (xs.take i).flatten B := by
  obtain ⟨h1, a', cap', e, h3, h4, h5, h6⟩ := h
  simp only [Value.slice.injEq, true_and] at e
  obtain ⟨rfl, rfl⟩ := e
  refine ⟨by rw [fl_len fun x hxx => hx x (List.mem_of_mem_take hxx), List.length_take, Nat.min_eq_left hi], a, i, rfl, Nat.le_refl _, by omega, fun e => by have := h5 e; omega, ?_⟩
  by_cases h0 : i = 0
  · exact Or.inl h0
  · rcases h6 with h6 | ⟨g, off, cur, e1, e2, e3⟩
    · omega
    · refine Or.inr ⟨g, off, cur, e1, e2, ?_⟩
      rw [fl_take i hx, ← e3, List.take_take]
      congr 1
      exact (Nat.min_eq_left (Nat.mul_le_mul_right _ hi)).symm
theorem gf_from (hx : ∀ x ∈ xs, x.length = sz) (h : SlF T sz (.slice a xs.length cap) xs.length xs.flatten B) {k : Nat} (hk : k ≤ xs.length) : SlF T sz (.slice (if cap = k then a else a.map (·.add (k * sz))) (xs.length - k) (cap - k)) (xs.length - k) (xs.drop k).flatten B := by
  obtain ⟨h1, a', cap', e, h3, h4, h5, h6⟩ := h
  simp only [Value.slice.injEq, true_and] at e
  obtain ⟨rfl, rfl⟩ := e
  refine ⟨by rw [fl_len fun x hxx => hx x (List.mem_of_mem_drop hxx), List.length_drop], _, cap - k, rfl, by omega, by omega, fun e => ?_, ?_⟩
  · split at e
    · have := h5 e; omega
    · cases a with
      | none => have := h5 rfl; omega
      | some a => cases e
  · by_cases h0 : xs.length - k = 0
    · exact Or.inl h0
    · rcases h6 with h6 | ⟨g, off, cur, e1, e2, e3⟩
      · omega
      · refine Or.inr ⟨g, off + k * sz, cur, ?_, e2, ?_⟩
        · rw [if_neg (by omega), e1, Option.map_some, Addr.add_mid]
        · rw [fl_drop k hx, ← e3, List.drop_take, List.drop_drop]
          congr 1
          rw [Nat.sub_mul]
/-- Two lists joined, the first one full. -/
theorem gf_join {t ty : TypeId} {bytes : Nat} {z : Value} (ht : Try.prog.underlying t = some (.slice T)) (hi : (Try.prog.info? T).map (fun i => (i.zero, i.size, i.bytes)) = some (some z, sz, bytes)) (hzs : z.cells.size = sz) (hby : bytes ≤ 100) (hxs : ∀ x ∈ xs, x.length = sz) (hys : ∀ x ∈ ys, x.length = sz)
    (h : SlF T sz (.slice a xs.length xs.length) xs.length xs.flatten B) (h2 : SlF T sz (.slice a2 ys.length c2) ys.length ys.flatten B) (hM : Mem w V (B ++ L)) (hn : xs.length + ys.length ≤ 1000000) :
    ∃ qa qc V' B', (Builtin.append_ #[t, t] ty #[.slice a xs.length xs.length, .slice a2 ys.length c2]).run Try.prog V = .ok (.slice qa (xs ++ ys).length qc) V' ∧ Mem w V' (B' ++ L) ∧ SlF T sz (.slice qa (xs ++ ys).length qc) (xs ++ ys).length (xs ++ ys).flatten B' ∧ Below V.heap.size V V' ∧ (∀ q ∈ B, q ∈ B') := by
  by_cases h0 : ys.length = 0
  · obtain rfl : ys = [] := List.eq_nil_of_length_eq_zero h0
    have hh := h
    obtain ⟨i, hI, -⟩ := info_parts hi
    obtain ⟨-, a', cap', e, h3, h4, h5, -⟩ := h
    simp only [Value.slice.injEq, true_and] at e
    obtain ⟨rfl, rfl⟩ := e
    refine ⟨a, xs.length, V, B, ?_, hM, ?_, Below.refl _ _, fun q hq => hq⟩
    · rw [List.append_nil]
      exact run_append_zero V ht hI a a2 xs.length xs.length c2 (Nat.le_refl _) h5
    · rw [List.append_nil]
      exact hh
  · obtain ⟨b2, cap2, e, -, -, h5, h6⟩ := h2.read hM
    simp only [Value.slice.injEq, true_and] at e
    obtain ⟨rfl, rfl⟩ := e
    rcases h6 with h6 | ⟨g, off, rfl, hc⟩
    · omega
    have hmul : (xs.length + ys.length) * bytes ≤ 1000000 * 100 := Nat.mul_le_mul hn hby
    obtain ⟨g2, qc, cur, hr, hg, hs⟩ := slf_append (ty := ty) ht hi hzs h hM ⟨g, off, none⟩ ys.length c2 (by omega) ys.flatten (fl_len hys) (fun j u hj => by rw [Addr.add_mid]; exact hc j u hj) (by simp only [maxLen]; omega) (by omega)
    have el : (xs ++ ys).length = xs.length + ys.length := List.length_append
    refine ⟨some ⟨g2, 0, none⟩, qc, _, B ++ [(g2, .cells cur T (0, 0))], by rw [el]; exact hr, ?_, ?_, ((Below.refl _ _).drew).alloc (Nat.le_refl _) _, fun q hq => List.mem_append_left _ hq⟩
    · have := hM.drew.push g2 (.cells cur T) (by rw [hg]; rfl)
      refine this.perm ?_
      rw [List.append_assoc, List.append_assoc]
      exact List.Perm.append_left B List.perm_append_comm
    · rw [el, List.flatten_append]
      exact hs.mono fun q hq => List.mem_append_right _ hq
end
/-- s[:i:i], s[k:]. -/
theorem sslice_ii (V : World) (a : Option Addr) (n c i : Nat) (hi : i ≤ c) : (Instr.slice 28 (.slice a n c) none (some (.int .i64 i)) (some (.int .i64 i))).run Try.prog V = .ok (.slice a i i) V := by
  have hT : Try.prog.underlying 28 = some (.slice (Try.prog.elem 28)) := by kernel_rfl
  rw [run_slice_any V 28 a n c hT]
  have e : (Instr.sliceBounds true n c none (some (.int .i64 i)) (some (.int .i64 i))).run Try.prog V = .ok (0, i, i) V := by
    simp [Instr.sliceBounds, run_sliceBound, hi]
  rw [e]
  have hs : (sizeOf (Try.prog.elem 28)).run Try.prog V = .ok 9 V := by kernel_rfl
  simp only [Result.andThen_ok, hs, sliced]
  by_cases h0 : i = 0
  · subst h0; simp
  · rw [if_neg h0]
    cases a with
    | none => rfl
    | some a => simp [Addr.add]
theorem sslice_from (V : World) (a : Option Addr) (n c k : Nat) (hk : k ≤ n) : (Instr.slice 28 (.slice a n c) (some (.int .i64 k)) none none).run Try.prog V = .ok (.slice (if c = k then a else a.map (·.add (k * 9))) (n - k) (c - k)) V := by
  have hT : Try.prog.underlying 28 = some (.slice (Try.prog.elem 28)) := by kernel_rfl
  rw [run_slice_l V 28 a n c hT .i64 k (by omega) (by omega)]
  have hs : (sizeOf (Try.prog.elem 28)).run Try.prog V = .ok 9 V := by kernel_rfl
  simp only [Result.andThen_ok, hs, sliced, Int.toNat_natCast]
theorem infoSs : (Try.prog.info? 39).map (fun i => (i.zero, i.size, i.bytes)) = some (some (.agg #[.int .u8 0, .int .u32 0, .int .u16 0, .int .u32 0, .int .u16 0, .int .u32 0, .slice none 0 0, .int .i64 0, .int .u32 0]), 9, 64) := by kernel_rfl
end Ss
end Go.Proofs.Ytgeeijinhneoiaa
