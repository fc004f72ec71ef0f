/-
  What the statements' helps answer on packets: lychref1.Get32, Put32, lychhelp.Ip.
-/
import Derived.Test.YtjalpbkfpjfigaaGreatLong
import Derived.Test.YtjalpbkfpjfigaaGreatIpRead
namespace Go.Proofs.YtjalpbkfpjfigaaGreat
open Go.RowKit
open Sm
set_option linter.unusedVariables false
set_option maxRecDepth 20000

set_option maxHeartbeats 2000000 in
theorem hip_yes {w : World} {B C : Nat} {v u : Value} {p : Pk} (hv : IpV w B v p) (hu : IpV w C u p) :
    Calls Tryz.prog 17 #[v, u] w fun e w' => e = .returned (.bool true) ∧ Below w.heap.size w w' := by
  obtain ⟨ao, co, bo, cb, rfl, h1, h2, -⟩ := hv
  obtain ⟨ao', co', bo', cb', rfl, h1', h2', -⟩ := hu
  obtain ⟨tos, ttl, proto, id, flags, off, src, dst, opts, body⟩ := p
  simp only at h1 h2 h1' h2' ⊢
  have hM : ∀ x y, Mem w ((w.alloc (.cells x ipT)).alloc (.cells y ipT)) [(w.heap.size, .cells x ipT), (w.heap.size + 1, .cells y ipT)] := fun x y => ((Mem.nil w).push w.heap.size _ rfl).push (w.heap.size + 1) _ (by simp)
  have HB : Hid (∀ x y, Below w.heap.size w ((w.alloc (.cells x ipT)).alloc (.cells y ipT))) := fun x y => (hM x y).below
  have k1 := fun x y => hbytes_yes ((hM x y).row h1) ((hM x y).row h1') opts.length opts.length rfl rfl co co'
  have k2 := fun x y => hbytes_yes ((hM x y).row h2) ((hM x y).row h2') body.length body.length rfl rfl cb cb'
  generalize opts.length = no at *
  generalize body.length = nb at *
  clear h1 h2 h1' h2' hM
  go_enter Tryz.func17, Tryz.ntmps17
  go_wp2_with fail
  refine (k1 _ _).mono ?_
  rintro e w' ⟨rfl, rfl⟩
  go_wp2_with fail
  refine (k2 _ _).mono ?_
  rintro e w' ⟨rfl, rfl⟩
  go_wp2
  go_ret
  exact ⟨rfl, HB.out _ _⟩
end Go.Proofs.YtjalpbkfpjfigaaGreat
