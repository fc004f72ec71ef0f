/-
  DiskPlays: the loop that lays the statements' own store, as a piece of the function's own code.
-/
import Derived.Test.YtjabckgjnknhnaaDkPlayEnds
import Derived.Deep.CutBlock
namespace Go.Proofs.Ytjabckgjnknhnaa
open Go.RowKit
open Sm
set_option linter.unusedVariables false

/-- The block of this number within a code. -/
def blkG (k : Nat) : Code → Option Code
  | .seq a b => match blkG k a with
    | some c => some c
    | none => blkG k b
  | .cond _ a b => match blkG k a with
    | some c => some c
    | none => blkG k b
  | .block id c => if id = k then some (.block id c) else blkG k c
  | .loop c => blkG k c
  | _ => none

set_option maxRecDepth 20000 in
set_option maxHeartbeats 4000000 in
theorem grow_loop {w1 wc : World} {N m q p h : Nat} {hc : Array Value} {ks : List Bk} {X : Int} {s2 s7 : Value} {a : Act} (df : a.defers = []) (sz : a.tmps.size = 301)
    (g0 : a.tmps.getD 0 undef = .int .i64 (X - 1)) (g2 : a.tmps.getD 2 undef = s2) (g7 : a.tmps.getD 7 undef = s7) (g8 : a.tmps.getD 8 undef = .pointer (some ⟨q, 0, none⟩)) (g9 : a.tmps.getD 9 undef = .int .i64 0)
    (hG : Grow w1 wc p h m hc ks q (.slice none 0 0) 0) (hX : (N : Int) = max (X - 1) 1) (N4 : N ≤ 4) (m1 : m ≤ 199)
    (cd : Code) (hcd : blkG 0 (Try.f3.body.getD .skip) = some cd) (K' : Act → World → Prop) (R : Ending → World → Prop)
    (hK : ∀ a' w', a'.defers = [] → a'.tmps.size = 301 → a'.tmps.getD 2 undef = s2 → a'.tmps.getD 7 undef = s7 → a'.tmps.getD 8 undef = .pointer (some ⟨q, 0, none⟩) → (∃ v, Grow w1 w' p h m hc ks q v N) → K' a' w') : Code.wp Try.prog cd (Exit.then K' (bodyPost Try.prog Try.f3 R)) a wc := by
  conv at hcd => lhs; whnf
  injection hcd with hcd
  subst hcd
  obtain ⟨f, hf, ha⟩ := frame301 a df sz
  have x0 := (hf 0).symm.trans g0
  have x2 := (hf 2).symm.trans g2
  have x7 := (hf 7).symm.trans g7
  have x8 := (hf 8).symm.trans g8
  have x9 := (hf 9).symm.trans g9
  simp only [x0, x2, x7, x8, x9] at ha
  have HK : Hid (∀ a' w', a'.defers = [] → a'.tmps.size = 301 → a'.tmps.getD 2 undef = s2 → a'.tmps.getD 7 undef = s7 → a'.tmps.getD 8 undef = .pointer (some ⟨q, 0, none⟩) → (∃ v, Grow w1 w' p h m hc ks q v N) → K' a' w') := hK
  have HM : Hid (m ≤ 199 ∧ N ≤ 4) := ⟨m1, N4⟩
  have HE : Hid ((N : Int) = if X - 1 < 1 then (1 : Int) else X - 1) := by
    show _ = _
    split <;> omega
  clear hf x0 x2 x7 x8 x9 g0 g2 g7 g8 g9 df sz hK hX N4 m1
  subst ha
  go_upto_region 10 with fail
  refine wp_loop (fun a' w' => a'.defers = [] ∧ a'.tmps.size = 301 ∧ a'.tmps.getD 0 undef = .int .i64 (X - 1) ∧ a'.tmps.getD 2 undef = s2 ∧ a'.tmps.getD 7 undef = s7 ∧ a'.tmps.getD 8 undef = .pointer (some ⟨q, 0, none⟩) ∧
    ∃ i : Nat, i ≤ N ∧ a'.tmps.getD 9 undef = .int .i64 i ∧ ∃ v, Grow w1 w' p h m hc ks q v i) (fun a' _ => N - (intOf (a'.tmps.getD 9 undef)).toNat) ?atStart ?round
  case atStart => exact ⟨rfl, rfl, rfl, rfl, rfl, rfl, 0, Nat.zero_le _, rfl, _, hG⟩
  case round =>
    clear hG
    rintro a' wr ⟨hdf, hsz, y0, y2, y7, y8, i, hi, y9, v, hG⟩
    obtain ⟨f, hf, ha⟩ := frame301 a' hdf hsz
    rw [hf] at y0 y2 y7 y8 y9
    simp only [y0, y2, y7, y8, y9] at ha
    clear hf y0 y2 y7 y8 y9 hsz hdf
    subst ha
    by_cases hlt : i < N
    · have c0 := hG.box 0
      have c1 := hG.box 1
      simp at c0 c1
      have q0 : (i : Int) < (if X - 1 < 1 then (1 : Int) else X - 1) := by rw [← HE.out]; omega
      have mk := make_bytes m (by have := HM.out; omega)
      have hk : Mem wr (((wr.alloc (.cells (madeCells #[.int .u8 0] m) 5)).alloc (.cells #[.slice (some ⟨wr.heap.size, 0, none⟩) m m] 31)).drew) [(wr.heap.size, .cells (bs (nots m)) 5 (0, 0)), (wr.heap.size + 1, .cells #[.slice (some ⟨wr.heap.size, 0, none⟩) m m] 31 (0, 0))] := by
        rw [show bs (nots m) = madeCells #[.int .u8 0] m from (bs_made m).symm]
        exact (((Mem.nil wr).push1 rfl).push2 (by simp)).drew
      have olds : ∀ o, (wr.alloc o).cell? ⟨q, 0, none⟩ = some v := fun o => (((Below.refl _ wr).alloc (Nat.le_refl _) o).cell (p := ⟨q, 0, none⟩) (cell_lt c0)).trans c0
      have d0 := olds (.cells (madeCells #[.int .u8 0] m) 5)
      have d1 : ((wr.alloc (.cells (madeCells #[.int .u8 0] m) 5)).alloc (.cells #[.slice (some ⟨wr.heap.size, 0, none⟩) m m] 31)).cell? ⟨q, 0, none⟩ = some v := (((Below.refl _ _).alloc (Nat.le_refl _) _).cell (p := ⟨q, 0, none⟩) (cell_lt d0)).trans d0
      clear olds
      obtain ⟨v', W', hap, _, ⟨a', b', c', rfl⟩, cq, fq, hG2⟩ := hG.next (by have := HM.out; omega) hk 28
      have HG2 : Hid (Grow w1 (W'.setCell ⟨q, 0, none⟩ (.slice a' b' c')) p h m hc ks q (.slice a' b' c') (i + 1)) := hG2
      have i9 : (i : Int) ≤ 4 := by have := HM.out; omega
      clear hk hG hG2
      go_upto_region 12 with fail
      all_goals
        go_region_law (refine step_append_run rfl (.tmp 46) (.tmp 52) 28 28 rfl (by simp [Act.eval]) (by simp [Act.eval]) hap ?_)
        all_goals
          go_wp2
          all_goals exact ⟨⟨i + 1, by omega, by omega, _, HG2.out⟩, by simp only [intOf]; omega⟩
    · obtain rfl : i = N := by omega
      have q0 : ¬ (i : Int) < (if X - 1 < 1 then (1 : Int) else X - 1) := by rw [← HE.out]; omega
      have HG : Hid (Grow w1 wr p h m hc ks q v i) := hG
      clear hG
      go_wp2
      all_goals exact HK.out _ _ (by first | trivial | rfl) rfl rfl rfl rfl ⟨v, HG.out⟩
end Go.Proofs.Ytjabckgjnknhnaa
