/-
  The walk of DiskBounds.
-/
import Derived.Test.YtjabckgjnknhnaaDkKnown
namespace Go.Proofs.Ytjabckgjnknhnaa
open Go.RowKit
open Sm
set_option linter.unusedVariables false

set_option maxRecDepth 20000 in
set_option maxHeartbeats 2000000 in
theorem bounds_core (x y : Int) (w : World) : Calls Try.prog 4 #[.int .i64 x, .int .i64 y] w fun e w' => e = .returned (.bool true) ∧ Below w.heap.size w w' := by
  have hk := dknown_any w
  have key : ∀ s : Int, (∀ w1, Calls Try.prog 8 #[.int .i64 x, .int .i64 s] w1 fun e W' => ∃ p, e = .returned (.pointer (some ⟨p, 0, none⟩)) ∧ ∃ n m : Nat, (n : Int) = bd x 1 64 ∧ (m : Int) = bd s 64 65536 ∧ Below w1.heap.size w1 W' ∧
      Calls Try.prog 9 #[.pointer (some ⟨p, 0, none⟩)] W' (fun e W'' => e = .returned (.int .i64 n) ∧ W' = W'') ∧ Calls Try.prog 10 #[.pointer (some ⟨p, 0, none⟩)] W' (fun e W'' => e = .returned (.int .i64 m) ∧ W' = W'')) := by
    intro s w1
    refine (dnew_any (Mem.nil w1) x s).mono ?_
    rintro e W' ⟨p, rfl, h, hc, ks, H, hB⟩
    refine ⟨p, rfl, ks.length, (bd s 64 65536).toNat, ?_, ?_, H.st.below, dblocks_any H, dsize_any H⟩
    · have := congrArg List.length hB
      rw [List.length_map, List.length_replicate] at this
      rw [this]
      have : 1 ≤ bd x 1 64 := by unfold bd; omega
      omega
    · have : 1 ≤ bd s 64 65536 := by unfold bd; omega
      omega
  have cases3 : (8 < x ∧ 100 < y) ∨ (8 < x ∧ y ≤ 100) ∨ x ≤ 8 := by omega
  rcases cases3 with ⟨hx, hy⟩ | ⟨hx, hy⟩ | hx
  all_goals
    go_enter Try.func4, Try.ntmps4
    go_wp2_with fail
    refine hk.mono ?_
    rintro e w1 ⟨rfl, hb1⟩
    clear hk
    go_wp2_with fail
    all_goals
      refine (key _ w1).mono ?_
      rintro e w2 ⟨p, rfl, n, m, hn, hm, hb2, hcb, hcs⟩
      have HN : Hid ((n : Int) = bd x 1 64) := hn
      have HM : Hid ((m : Int) = _) := hm
      have HB : Hid (Below w.heap.size w w2) := hb1.trans (hb2.mono hb1.size)
      clear hn hm hb2 key hb1
      go_wp2_with fail
      all_goals
        refine hcb.mono ?_
        rintro e w' ⟨rfl, rfl⟩
        go_wp2_with fail
        all_goals
          first
            | (exfalso; have q := HN.out; unfold bd at q; omega)
            | (refine hcs.mono ?_
               rintro e w' ⟨rfl, rfl⟩
               go_wp2
               all_goals go_ret
               all_goals exact ⟨by have q := HM.out; unfold bd at q; simp; omega, HB.out⟩)
end Go.Proofs.Ytjabckgjnknhnaa
