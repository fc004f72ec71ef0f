/-
  Points: two are one; lychhelp.Points answers true of like lists.
-/
import Derived.Test.YtjalpbkfpjfigaaGreatRwFlow
import Derived.LoopN
import Derived.Laws.StructEq
namespace Go.Proofs.YtjalpbkfpjfigaaGreat
open Go.RowKit
open Sm
set_option linter.unusedVariables false
set_option maxRecDepth 20000

theorem pt_eq (a b c d : Int) (w : World) : (Op.equalIn 10000 ptT (.agg #[.int .u32 a, .int .u16 b]) (.agg #[.int .u32 c, .int .u16 d])).run Tryz.prog w = .ok (a == c && b == d) w := by
  have u3 := Tryz.underlying29
  have u5 := Tryz.underlying30
  rw [show (10000 : Nat) = 9999 + 1 from rfl, run_equalIn_agg w 9999 ptT _ _ (by kernel_rfl) (by kernel_rfl)]
  simp only [Program.fieldsOf, Tryz.underlying32]
  go_simp
  by_cases h1 : a = c <;> by_cases h2 : b = d <;> simp [h1, h2]
set_option maxHeartbeats 2000000 in
theorem hpoints_yes {w : World} {C D : Nat} {va vb : Value} {ps : List Pt} (ha : PtsV w C va ps) (hb : PtsV w D vb ps) :
    Calls Tryz.prog 50 #[va, vb] w fun e w' => e = .returned (.bool true) ∧ Below w.heap.size w w' := by
  have HB : Hid (∀ q, Below w.heap.size w (w.drewN q)) := fun q => below_drewN (Below.refl _ _) q
  have HB0 : Hid (Below w.heap.size w w) := Below.refl _ _
  rcases ha with ⟨rfl, rfl⟩ | ⟨g, s, d, rfl, rfl, hg, -⟩
  · rcases hb with ⟨-, rfl⟩ | ⟨g', s', d', e, -⟩
    · go_enter Tryz.func50, Tryz.ntmps50
      go_wp2_with fail
      refine wp_loop_rounds 1 ?_
      rw [rounds_succ]
      go_wp2_with fail
      go_ret
      exact ⟨rfl, HB0.out⟩
    · cases e
  · rcases hb with ⟨e, -⟩ | ⟨h, s', d', e, rfl, hh, -⟩
    · cases e
    · simp only [List.cons.injEq, and_true] at e
      obtain ⟨rfl, rfl⟩ := e
      have hM : ∀ (k : Nat) (cs : Array Value), w.heap[k]? = some (.cells cs ptT (0, 0)) → ∀ i, w.cell? ⟨k, i, none⟩ = cs[i]? := fun k cs hk i => by
        unfold World.cell?; simp only [hk] <;> rfl
      have ka := hM g _ hg
      have kb := hM h _ hh
      have q1 := pt_eq s.ip s.port s.ip s.port
      have q2 := pt_eq d.ip d.port d.ip d.port
      simp only [BEq.rfl, Bool.and_self] at q1 q2
      clear hM hg hh
      go_enter Tryz.func50, Tryz.ntmps50
      go_wp2_with fail
      refine wp_loop_rounds 3 ?_
      rw [rounds_succ]
      go_wp2_with fail
      go_quiet (fail)
      go_wp2_with fail
      rw [rounds_succ]
      go_wp2_with fail
      go_quiet (fail)
      go_wp2_with fail
      rw [rounds_succ]
      go_wp2_with fail
      go_ret
      exact ⟨rfl, HB.out _⟩
end Go.Proofs.YtjalpbkfpjfigaaGreat
