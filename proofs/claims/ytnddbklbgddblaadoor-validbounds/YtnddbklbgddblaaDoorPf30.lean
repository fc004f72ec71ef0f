/-
  What settings, a change, a list of tenants that come in are.
  Settings as bytes: the document's own OpenChange.
  Settings as bytes: the document's own Config and Change, at all settings and changes.
-/
import Derived.Test.YtnddbklbgddblaaDoorPf20
import Derived.Test.YtnddbklbgddblaaDoorPf29
import Derived.Test.YtnddbklbgddblaaDoorPf22
import Derived.Test.YtnddbklbgddblaaDoorPf27
namespace Go.Proofs.YtnddbklbgddblaaDoor
open Go.ChangeShapes Go.WideShapes Go.ChangeAt Go.RowKit Go.Joins
open Sm
open Cf
set_option linter.unusedVariables false
set_option maxRecDepth 100000

/-- A tenant's arrays are bytes. -/
structure TBy (t : Ten) : Prop where
  key : IsBytes t.key
  vmac : IsBytes t.vmac
  host : IsBytes t.host
/-- A tenant's numbers are as great as they may be. -/
structure TRg (t : Ten) : Prop where
  vni : 0 ≤ t.vni ∧ t.vni ≤ 4294967295
  vtep : 0 ≤ t.vtep ∧ t.vtep ≤ 4294967295
  lo : 0 ≤ t.lo ∧ t.lo ≤ 65535
  hi : 0 ≤ t.hi ∧ t.hi ≤ 65535
  filter : -9223372036854775808 ≤ t.filter ∧ t.filter ≤ 9223372036854775807
  sess : -9223372036854775808 ≤ t.sess ∧ t.sess ≤ 9223372036854775807
  queue : -9223372036854775808 ≤ t.queue ∧ t.queue ≤ 9223372036854775807
  rate : 0 ≤ t.rate ∧ t.rate ≤ 4294967295
  burst : 0 ≤ t.burst ∧ t.burst ≤ 4294967295
  pool : ∀ x ∈ t.pool, 0 ≤ x ∧ x ≤ 4294967295
  stat : ∀ x ∈ t.stat, (0 ≤ x.1 ∧ x.1 ≤ 4294967295) ∧ 0 ≤ x.2 ∧ x.2 ≤ 4294967295
  twi : ∀ x ∈ t.twi, (0 ≤ x.1 ∧ x.1 ≤ 4294967295) ∧ 0 ≤ x.2 ∧ x.2 ≤ 4294967295
section
variable {H : Type} {enc : TypeId × Value → H} {W : World} {base : Nat} {held : Bool}
/-- The numbers of settings. -/
structure CRg (c : Cgf) : Prop where
  ip : 0 ≤ c.ip ∧ c.ip ≤ 4294967295
  drain : 0 ≤ c.drain ∧ c.drain ≤ 4294967295
end
end Go.Proofs.YtnddbklbgddblaaDoor

namespace Go.Proofs.YtnddbklbgddblaaDoor
open Go.RowKit
open Sm
open Cf
set_option linter.unusedVariables false
set_option linter.unusedSimpArgs false
set_option maxRecDepth 20000

end Go.Proofs.YtnddbklbgddblaaDoor

namespace Go.Proofs.YtnddbklbgddblaaDoor
open Go.RowKit
open Sm
open Cf
set_option linter.unusedVariables false
set_option linter.unusedSimpArgs false
set_option maxRecDepth 20000

theorem tsv_at {V : World} {a : Option Addr} {n c : Nat} {zs : List Tv} (hr : Rw V 33 (.slice a n c) (zs.map zc)) (hz : ∀ z ∈ zs, TLen z.1 ∧ Rws V z) (i : Nat) (hi : i < zs.length) : ∃ b off x, a = some ⟨b, off, none⟩ ∧ V.rangeAt b (off + i * 33) x ∧ x.length = 33 ∧ x.toArray.all (·.oneCell') = true ∧ TV V (.agg x.toArray) ((zs.map Prod.fst).getD i ten0) := by
  obtain ⟨b, off, rfl, hc⟩ := rw_at hr i (by rw [List.length_map]; exact hi)
  obtain ⟨z, hx⟩ : ∃ z, zs[i]? = some z := ⟨_, List.getElem?_eq_getElem hi⟩
  have hzm := hz z (List.mem_of_getElem? hx)
  have ex : (zs.map zc).getD i [] = zc z := by simp [List.getD, hx]
  rw [ex] at hc
  have et : (zs.map Prod.fst).getD i ten0 = z.1 := by simp [List.getD, hx]
  rw [et]
  exact ⟨b, off, zc z, rfl, fun j u hj => hc j u hj, tc_len hzm.1 _ _ _, zc_one hzm.2, hzm.1, z.2.1, z.2.2.1, z.2.2.2, rfl, hzm.2⟩
theorem Ob.none {w W : World} {u : Value} {l : List Int} {K : List (Nat × Obj)} {n : Nat} (h : Ob w W u l K n) : Ob w W u l [] n := ⟨h.1.none, h.2⟩
end Go.Proofs.YtnddbklbgddblaaDoor

