/-
  does: commit.
  Both stores, as the laws ask them.
-/
import Derived.Test.YtdigofgjhaakmaaGreatDoorW40
set_option linter.unusedVariables false
set_option linter.unusedSimpArgs false
set_option maxRecDepth 20000
set_option maxHeartbeats 40000000
namespace Go.Proofs.YtdigofgjhaakmaaGreatDoor
open Go.RowKit
open Sm
open Cf
open Df
open Va
section
variable {w W:World} {F:List (Nat×Obj)} {p h m N:Nat} {D:Dk} {all:List (List Int)} {ps pm:Nat} {ver:Int} {c:Cgf} {st:Option Cgf} {n:Nat} {x:Ac}
theorem TxD.frame {B:Int} {L:List (Nat×Obj)} (H:TxD w W p h m N B all ps ver c n L):∃ R,Mem w W (L++R)∧∀ W' L',Mem w W' (L'++R)→TxD w W' p h m N B all ps ver c n L':=by
 obtain ⟨pl,u,K,h1,h2⟩:=H
 obtain ⟨R,hM,hb⟩:=h1.frame
 have hp:∀ L,((bxS ps pl ver c u none true::(K++L))++R).Perm (L++(bxS ps pl ver c u none true::(K++R))):=by
  intro L
  classical
  rw [List.perm_iff_count]
  intro z
  simp only [List.count_append,List.count_cons]
  omega
 exact ⟨_,hM.perm (hp L),fun W' L' hM'=>⟨pl,u,K,hb _ _ (hM'.perm (hp L').symm),h2⟩⟩
def DcF (w W:World) (F:List (Nat×Obj)) (pm:Nat) (ver:Int) (c:Cgf) (sm:Option Cgf) (P:World→List (Nat×Obj)→Prop):Prop :=
 ∃ L R,RmS w F pm ver c sm L∧Mem w W (L++R)∧∀ V L',Mem w V (L'++R)→P V L'
variable {P:World→List (Nat×Obj)→Prop}
theorem DcF.join (H:DcF w W F pm ver c st P) {V:World} (hb:Below W.heap.size W V):DcF w V F pm ver c st P:=by
 obtain ⟨L,R,h1,h2,h3⟩:=H
 exact ⟨L,R,h1,h2.after hb,h3⟩
theorem DcF.below (H:DcF w W F pm ver c st P):Below w.heap.size w W:=by
 obtain ⟨L,R,h1,h2,h3⟩:=H
 exact h2.below
end
section
variable {w W:World} {F:List (Nat×Obj)} {p h m N:Nat} {D:Dk} {all:List (List Int)} {ps pm:Nat} {ver:Int} {c:Cgf} {st:Option Cgf} {n:Nat}
theorem ActsW.at_ {a:Option Addr} {k:Nat} {X:Nat→Ac} (h:ActsW w a k X) (hb:Below w.heap.size w W):ActsW W a k X:=by
 intro i hi
 obtain ⟨b,off,e,h1,h2,h3⟩:=h i hi
 refine ⟨b,off,e,fun j v hj=>?_,h2,⟨h3.what,h3.v,h3.kind,h3.nn,h3.len,Rws.at_ h3.rws hb,h3.tby,h3.trg,h3.tsv.at_ hb (Nat.le_refl _),h3.cin,h3.crg,h3.ten⟩⟩
 have h4:=h1 j v hj
 exact (hb.cell (p:=⟨b,off+i * 70+j,none⟩) (cell_lt h4)).trans h4
theorem Sd.base {B:Int} {L:List (Nat×Obj)} {w0:World} (H:Sd w0 W p h m N D B all L) (hb:Below w.heap.size w w0):Sd w W p h m N D B all L:=by
 obtain ⟨hc,ks',K,k1,k2,k3⟩:=H.at_
 have hM:=k1.st.mem
 exact ⟨hc,ks',K,⟨⟨⟨hb.trans (hM.below.mono hb.size),fun x hx=>Nat.le_trans hb.size (hM.low x hx),hM.at_,hM.apart⟩,k1.st.heads,k1.st.ok⟩,k1.pos,k1.top,k1.mlo,k1.mhi,k1.left,k1.pre⟩,k2,k3⟩
end
end Go.Proofs.YtdigofgjhaakmaaGreatDoor
