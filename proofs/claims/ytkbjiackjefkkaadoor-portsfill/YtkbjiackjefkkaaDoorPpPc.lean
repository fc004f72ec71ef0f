/-
  Ports: the program's calls keep what is asked of them, wherever the table lies.
-/
import Derived.Test.YtkbjiackjefkkaaDoorPpTk
namespace Go.Proofs.YtkbjiackjefkkaaDoor
open Go.RowKit
open Sm
open Po
set_option linter.unusedVariables false
set_option linter.unusedSimpArgs false
set_option maxRecDepth 20000

namespace Po
theorem pc_any (w : World) (hT : TabAt 0 Lib.deBruijn64tab w) : PC w PSt where
  new := pnew_any
  take h hM hn _ _ hv hl hlb pr lo hi want h1 h2 h3 h4 := ptake_any hT h hM (by omega) hv (by omega) hlb pr lo hi want h1 h2 h3 h4
  hold h hM hn pr a b hm := phold_any h hM (by omega) pr a b hm
  free h hM hn pr a b hm := pfree_any h hM (by omega) pr a b hm
  held h hM hn pr a b hm := pheld_any h hM pr a b hm
  count h hM hn := pcount_any h hM
end Po
end Go.Proofs.YtkbjiackjefkkaaDoor
