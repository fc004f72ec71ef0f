/- Parts of the proof. -/
import Derived.Test.YtdigofgjhaakmaaGreatDoorC40
set_option linter.all false
set_option maxHeartbeats 40000000
set_option maxRecDepth 20000
open Go.Proofs.Tryz
namespace Go.Proofs.YtdigofgjhaakmaaGreatDoor
section
open Go.RowKit Sm Cf Df Va
section
variable {w W:World} {F:List (Nat×Obj)} {p h m N:Nat} {D:Dk} {all:List (List Int)} {ps pm:Nat} {ver:Int} {c:Cgf} {st:Option Cgf} {n:Nat} {x:Ac}
def DcF (w W:World) (F:List (Nat×Obj)) (pm:Nat) (ver:Int) (c:Cgf) (sm:Option Cgf) (P:World->List (Nat×Obj)->Prop):Prop :=
 ∃ L R,RmS w F pm ver c sm L/\Mem w W (L++R)/\∀ V L',Mem w V (L'++R)->P V L'
variable {P:World->List (Nat×Obj)->Prop}
theorem DcF.join (H:DcF w W F pm ver c st P) {V:World} (hb:Below W.heap.size W V):DcF w V F pm ver c st P:=by
 obtain ⟨L,R,d,b,a⟩:=H;exact ⟨L,R,d,b.after hb,a⟩
theorem DcF.end (H:DcF w W F pm ver c st P):∃ L,RmS w F pm ver c st L/\P W L:=by
 obtain ⟨L,R,d,b,a⟩:=H;exact ⟨L,d,a _ _ b⟩
theorem DcF.below (H:DcF w W F pm ver c st P):Below w.heap.size w W:=by
 obtain ⟨L,R,d,a,b⟩:=H;exact a.below
end
section
variable {w W:World} {F:List (Nat×Obj)} {p h m N:Nat} {D:Dk} {all:List (List Int)} {ps pm:Nat} {ver:Int} {c:Cgf} {st:Option Cgf} {n:Nat}
abbrev mZ:Array Value:=(mA 0 cfg0 nilV cfg0 nilV false).toArray
theorem jmc (X:World):(Instr.build 41 #[]).run prog X=.ok (.agg mZ) X:=by kernel_rfl
end
end
end Go.Proofs.YtdigofgjhaakmaaGreatDoor
