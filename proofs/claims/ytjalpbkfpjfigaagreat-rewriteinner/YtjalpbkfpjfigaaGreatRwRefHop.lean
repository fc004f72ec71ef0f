/-
  What the document's own lychref8.Hop answers, whatever bytes it is handed.
-/
import Derived.Test.YtjalpbkfpjfigaaGreatRwHop
import Derived.Test.YtjalpbkfpjfigaaGreatRwFits
import Derived.Test.YtjalpbkfpjfigaaGreatIpRefBytes
import Derived.Test.YtjalpbkfpjfigaaGreatIpRefOk
namespace Go.Proofs.YtjalpbkfpjfigaaGreat
open Go.RowKit
open Sm
set_option linter.unusedVariables false
set_option maxRecDepth 20000

/-- The document's own Ip's answer written out. -/
theorem rip_seen {w : World} {a : Option Addr} {n c : Nat} {l : List Int} (hr : Row w a l) (hn : l.length = n) (hc : n ≤ c) :
    Calls Tryz.prog 44 #[.slice a n c] w fun r w' => ∃ ao co bo cb, r = .returned (.tuple #[.agg (ipB (ipRes l) (.slice ao (ipRes l).opts.length co) (.slice bo (ipRes l).body.length cb)), .int .i64 (ipErr l)]) ∧
      IpV w' w.heap.size (.agg (ipB (ipRes l) (.slice ao (ipRes l).opts.length co) (.slice bo (ipRes l).body.length cb))) (ipRes l) ∧ (ipRes l).body.length ≤ cb ∧ Below w.heap.size w w' := by
  refine (rip_cap hr hn hc).mono ?_
  rintro r w' ⟨v, rfl, ⟨hv, hcap⟩, hb⟩
  have hv' := hv
  obtain ⟨ao, co, bo, cb, rfl, -⟩ := hv
  exact ⟨ao, co, bo, cb, rfl, hv', hcap.le, hb⟩

end Go.Proofs.YtjalpbkfpjfigaaGreat
