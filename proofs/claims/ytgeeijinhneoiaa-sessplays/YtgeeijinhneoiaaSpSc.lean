/-
  Sessions, the program's own: all that the laws ask of the program's calls.
-/
import Derived.Test.YtgeeijinhneoiaaSpAll
import Derived.Test.YtgeeijinhneoiaaSpAllow
import Derived.Test.YtgeeijinhneoiaaSpStep
namespace Go.Proofs.Ytgeeijinhneoiaa
open Go.RowKit
open Sm
open Po
open Wh
set_option linter.unusedVariables false
set_option linter.unusedSimpArgs false
set_option maxRecDepth 20000

namespace Ss
theorem sc_any (w : World) : SC w PSs where
  new := fun W _ => new_any W
  add := fun h hM hl _ _ hs hsi hps most hmo => add_any h hM hl hs hsi hps most hmo
  find := fun h hM _ k hk => find_any h hM hk
  out := fun h hM _ pr q hpr hq => out_any h hM pr q hpr hq
  put := fun h hM hl _ _ hs hsi hps => put_any h hM hl hs hsi hps
  drop := fun h hM _ k hk => drop_any h hM hk
  all := fun h hM hl => all_any h hM hl
  len := fun h hM _ => (len_any h hM).mono fun e W' he => by
    obtain ⟨rfl, rfl⟩ := he
    exact ⟨rfl, _, h, hM⟩
  step := fun W _ pr st fl inb _ _ hfl => (step_any pr st fl inb hfl W).mono fun e W' he => by
    obtain ⟨rfl, rfl⟩ := he
    exact ⟨rfl, Below.refl _ _⟩
  life := fun W _ pr st _ _ => (life_any pr st W).mono fun e W' he => by
    obtain ⟨rfl, rfl⟩ := he
    exact ⟨rfl, Below.refl _ _⟩
  peer := fun W _ _ _ h _ hl q _ => peer_any h hl q
  allows := fun W _ _ _ h _ _ f q _ _ => allows_any h f q
end Ss
end Go.Proofs.Ytgeeijinhneoiaa
