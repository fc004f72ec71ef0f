/- Parts of the proof. -/
import Derived.Test.YtdigofgjhaakmaaGreatDoorL42
set_option linter.all false
set_option maxHeartbeats 40000000
set_option maxRecDepth 20000
open Go.Proofs.Tryz
namespace Go.Proofs.YtdigofgjhaakmaaGreatDoor
open Go.RowKit Sm Cf Df Va
section
variable {w W:World} {F:List (Nat×Obj)} {p h m N:Nat} {D:Dk} {all:List (List Int)} {ps pm:Nat} {ver:Int} {c:Cgf} {st:Option Cgf} {n:Nat} {x:Ac}
theorem jk7 (hx:AcW w x) (H:Bo w W F p h m N D all ps pm ver c st n) (a:∀ V,Below w.heap.size w V->Vs V) {k:Addr} (j:Gl w k) (g:LgA x) (d:n<=380) (i:4<=N) (f:256<=m) (b:ver<700000) :
 Calls prog 13 #[.pointer (some ⟨ps,0,none⟩),.pointer (some ⟨pm,0,none⟩),.agg (aC x).toArray,.int .i64 (room N m)] W (DoP w F p h m N D all ps pm ver c st n):=by
 by_cases h0:x.what=0
 ·exact jdn hx H h0 _
 ·by_cases h1:x.what=1\/x.what=2
  ·exact jdm hx H a g d h1 _
  ·by_cases h3:x.what=3
   ·exact jgs hx H h3 _
   ·by_cases h4:x.what=4\/x.what=5
    ·exact ja8 hx H a j d i f b h4
    ·by_cases h6:x.what=6
     ·exact jdo hx H h6 _
     ·exact ja7 hx H d ⟨h0,fun e=>h1 (Or.inl e),fun e=>h1 (Or.inr e),h3,fun e=>h4 (Or.inl e),fun e=>h4 (Or.inr e),h6⟩ _
end
end Go.Proofs.YtdigofgjhaakmaaGreatDoor
