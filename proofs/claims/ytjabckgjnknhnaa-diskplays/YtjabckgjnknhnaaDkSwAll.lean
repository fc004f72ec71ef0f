/-
  DiskPlays: the switch, whatever the act.
-/
import Derived.Test.YtjabckgjnknhnaaDkSwPower
import Derived.Test.YtjabckgjnknhnaaDkSwCut
import Derived.Test.YtjabckgjnknhnaaDkSwSpoilA
import Derived.Test.YtjabckgjnknhnaaDkSwSpoilB
import Derived.Test.YtjabckgjnknhnaaDkSwSpoilYes
import Derived.Test.YtjabckgjnknhnaaDkSwCopy
import Derived.Test.YtjabckgjnknhnaaDkSwWriteA
import Derived.Test.YtjabckgjnknhnaaDkSwWriteB
import Derived.Test.YtjabckgjnknhnaaDkSwWriteC
import Derived.Test.YtjabckgjnknhnaaDkSwWriteD
namespace Go.Proofs.Ytjabckgjnknhnaa
open Go.RowKit
open Sm
set_option linter.unusedVariables false

theorem sw_all {w1 wb : World} {N m q p h hm cm gx : Nat} {D M : Dk} {hc hcm : Array Value} {ks km : List Bk} {C : Ac} {t : Int} {s2 s10 : Value} {a : Act} (S : SwIn w1 wb N m q p h hm cm gx D M hc hcm ks km C t s2 s10 a)
    (cd : Code) (hcd : blk 4 (Try.f3.body.getD .skip) = some cd) (K' : Act → World → Prop) (Q : Exit → Act → World → Prop) (hK : ∀ a' w', Mt w1 N m q s2 s10 (.int .i64 t) a' w' → K' a' w') : Code.wp Try.prog cd (Exit.then K' Q) a wb := by
  by_cases n0 : C.what = 0
  · exact sw_write0 S n0 cd hcd K' Q hK
  by_cases n1 : C.what = 1
  · exact sw_write1 S n1 cd hcd K' Q hK
  by_cases n2 : C.what = 2
  · by_cases h5 : C.n.tmod 5 = 0
    · exact sw_write3 S n2 h5 cd hcd K' Q hK
    · exact sw_write2 S n2 h5 cd hcd K' Q hK
  by_cases n4 : C.what = 4
  · exact sw_cut S n4 cd hcd K' Q hK
  by_cases n5 : C.what = 5
  · exact sw_power S n5 cd hcd K' Q hK
  by_cases n6 : C.what = 6
  · by_cases t0 : t < 0
    · exact sw_spoil_a S n6 t0 cd hcd K' Q hK
    by_cases t1 : (N : Int) ≤ t
    · exact sw_spoil_b S n6 (by omega) t1 cd hcd K' Q hK
    by_cases m0 : C.n < 0
    · exact sw_spoil_c S n6 (by omega) (by omega) m0 cd hcd K' Q hK
    by_cases m1 : (m : Int) ≤ C.n
    · exact sw_spoil_d S n6 (by omega) (by omega) (by omega) m1 cd hcd K' Q hK
    exact sw_spoil_yes S n6 t.toNat C.n.toNat (by omega) (by omega) (by omega) (by omega) cd hcd K' Q hK
  by_cases n7 : C.what = 7
  · exact sw_copy S n7 cd hcd K' Q hK
  exact sw_none S n0 n1 n2 n4 n5 n6 n7 cd hcd K' Q hK
end Go.Proofs.Ytjabckgjnknhnaa
