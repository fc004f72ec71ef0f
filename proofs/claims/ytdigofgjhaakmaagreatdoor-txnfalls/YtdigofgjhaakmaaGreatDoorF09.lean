/- Parts of the proof. -/
import Derived.Test.YtdigofgjhaakmaaGreatDoorF07
import Derived.Test.YtdigofgjhaakmaaGreatDoorF08
set_option linter.all false
set_option maxHeartbeats 40000000
set_option maxRecDepth 20000
open Go.Proofs.Tryz
open Go.IntKind renaming i64->a0,wrap_i64->a1,u64->a2
namespace Go.Proofs.YtdigofgjhaakmaaGreatDoor
variable {W':World} {L' K:List (Nat×Obj)}
section
open Go.RowKit Sm Cf
end
section
open Go.RowKit Sm
section
variable {w W:World} {p h m:Nat} {D:Dk} {hc:Array Value} {ks:List Bk} {L:List (Nat×Obj)}
theorem DkAt.on (H:DkAt w W p h m D hc ks L) (s:St w W' p (dkA h ks.length D) dkT h m hc ks L'):DkAt w W' p h m D hc ks L':=⟨s,H.pos,H.top,H.mlo,H.mhi,H.left,H.pre⟩
theorem DkAt.join (H:DkAt w W p h m D hc ks L) (k:Mem W W' K):DkAt w W' p h m D hc ks (K++L):=H.on (H.st.join k)
theorem j6h (H:DkAt w W p h m D hc ks L):Calls prog 49 #[.pointer (some ⟨p,0,none⟩)] W fun e W'=>e=.returned (.int .i64 (sbk ks.length))/\W=W':=by
 have hb:=j4h H;have c:=H.pos;have b:=H.top;have a:Hid ((((ks.length:Int)-1) / 2)=(sbk ks.length:Int)):=by show _=_;unfold sbk;omega
 generalize sbk ks.length=q at *;generalize ks.length=n at *;clear H;go_enter func49,ntmps49;go_wp2_with fail;refine hb.mono ?_;rintro e w' ⟨rfl,rfl⟩
 go_wp2
 go_ret;exact ⟨j28 a.out,rfl⟩
theorem j83 (H:DkAt w W p h m D hc ks L):Calls prog 48 #[.pointer (some ⟨p,0,none⟩)] W fun e W'=>e=.returned (.bool (decide (4<=ks.length) && decide (256<=m)))/\W=W':=by
 have hb:=j4h H;have hs:=yk H;generalize ks.length=n at *;clear H;by_cases h4:4<=n
 ·have a:(4:Int)<=n:=by omega
  go_enter func48,ntmps48;go_wp2_with fail;refine hb.mono ?_;rintro e w' ⟨rfl,rfl⟩;go_wp2_with fail;refine hs.mono ?_;rintro e w' ⟨rfl,rfl⟩
  go_wp2
  go_ret;refine ⟨?_,rfl⟩;have e:decide ((256:Int)<=m)=decide (256<=m):=by
   by_cases q:256<=m
   ·rw [decide_eq_true q,decide_eq_true (by omega)]
   ·rw [decide_eq_false q,decide_eq_false (by omega)]
  simp [h4,e]
 ·have a:¬(4:Int)<=n:=by omega
  go_enter func48,ntmps48;go_wp2_with fail;refine hb.mono ?_;rintro e w' ⟨rfl,rfl⟩
  go_wp2
  go_ret;exact ⟨by simp,rfl⟩
def room (n m:Nat):Nat:=if 4<=n/\256<=m then min (sbk n*(m-64)) 16384 else 0
theorem j49 (H:DkAt w W p h m D hc ks L):Calls prog 14 #[.pointer (some ⟨p,0,none⟩)] W fun e W'=>e=.returned (.int .i64 (room ks.length m))/\W=W':=by
 have a:=j83 H;have hb:=j6h H;have hs:=yk H;have i:=H.mhi;have j:=H.top;unfold room;by_cases hh:4<=ks.length/\256<=m
 ·rw [if_pos hh];rw [show (decide (4<=ks.length) && decide (256<=m))=true by simp [hh]] at a;have g:sbk ks.length<=31:=by unfold sbk;omega
  obtain ⟨-,k⟩:=hh;obtain ⟨x,hx⟩:∃ x:Nat,x=sbk ks.length*(m-64):=⟨_,rfl⟩;have d:(sbk ks.length:Int)*((m:Int)-64)=x:=by
   rw [hx,Int.natCast_mul,Int.natCast_sub (by omega)];rfl
  have c:x<=31*65536:=by rw [hx];exact Nat.mul_le_mul g (by omega)
  rw [<-hx];have f:a0.wrap (x:Int)=x:=by rw [a1];omega
  have b:a0.wrap ((m:Int)-64)=(m:Int)-64:=by rw [a1];omega
  generalize sbk ks.length=q at *;clear H hx;go_enter func14,ntmps14;go_wp2_with fail;refine a.mono ?_;rintro e w' ⟨rfl,rfl⟩;go_wp2_with fail;refine hb.mono ?_;rintro e w' ⟨rfl,rfl⟩;go_wp2_with fail;refine hs.mono ?_;rintro e w' ⟨rfl,rfl⟩
  go_wp2
  all_goals go_ret
  all_goals exact ⟨j28 (by omega),rfl⟩
 ·rw [if_neg hh];rw [show (decide (4<=ks.length) && decide (256<=m))=false by simp;omega] at a;clear H hb hs;go_enter func14,ntmps14;go_wp2_with fail;refine a.mono ?_;rintro e w' ⟨rfl,rfl⟩
  go_wp2
  go_ret;exact ⟨rfl,rfl⟩
end
theorem jd8 (W:World) (s:Nat) (h:s<=1):Calls prog 120 #[.int .i64 s] W fun e W'=>e=.returned (.int .i64 ((1-s:Nat):Int))/\W=W':=by
 go_enter func120,ntmps120
 go_wp2
 go_ret;exact ⟨j28 (by omega),rfl⟩
theorem j5a (W:World) (a b:Int):Calls prog 97 #[.int .u64 a,.int .u64 b] W fun e W'=>e=.returned (.bool (ltr a b))/\W=W':=by
 go_enter func97,ntmps97
 go_wp2
 go_ret;refine ⟨?_,rfl⟩;unfold ltr;rw [show a0.wrap (a2.wrap (a-b))=wrap64 (a2.wrap (a-b)) by unfold wrap64;exact a1 _];rfl
end
end Go.Proofs.YtdigofgjhaakmaaGreatDoor
