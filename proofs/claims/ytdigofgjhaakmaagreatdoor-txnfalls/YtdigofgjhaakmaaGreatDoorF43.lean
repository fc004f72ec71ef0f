/- Parts of the proof. -/
import Derived.Test.YtdigofgjhaakmaaGreatDoorF42
set_option linter.all false
set_option maxHeartbeats 40000000
set_option maxRecDepth 20000
open Go.Proofs.Tryz
open List renaming mem_toArray->a0,mem_append->a1
namespace Go.Proofs.YtdigofgjhaakmaaGreatDoor
variable {V:World} {L:List (Nat×Obj)} {ga:Addr} {e:Ending} {op:Bool} {B:Int}
section
open Go.RowKit Sm Cf Df Va
section
variable {w W:World} {F:List (Nat×Obj)} {p h m N:Nat} {D:Dk} {all:List (List Int)} {ps pm:Nat} {ver:Int} {c:Cgf} {st:Option Cgf} {n:Nat}
theorem jsj (H:Bo w W F p h m N D all ps pm ver c st n) (k q:Int) (b:k<=9223372036854775807):Calls prog 19 #[.pointer (some ⟨p,0,none⟩),.int .i64 k,.int .i64 q] W fun e V=>e=.returned (.tuple #[])/\Bo w V F p h m N ⟨D.dead,true,max k 0,dbd q 0 m⟩ all ps pm ver c st n:=by
 obtain ⟨o,l,j,L,i,pl,u,a,K,g,f⟩:=H;refine (jpz g k q b).mono ?_;rintro e V ⟨rfl,d⟩;exact ⟨rfl,o,l,j,L,i,pl,u,a,K,d,f⟩
def WasP (w:World) (F:List (Nat×Obj)) (g:Nat) (ver:Int) (c c1:Cgf):Prop :=
 ∃ (lc lt:List Value) (AC AT:Array Value),Hid (lc.toArray=AC)/\Hid (lt.toArray=AT)/\(prog.info? 39).map (·.size)=some lc.length/\(prog.info? 39).map (·.size)=some lt.length /\
  On w F (fun X=>(X.cell? ⟨g,0,none⟩=some (.int .u64 ver)/\X.rangeAt g 1 lc/\X.rangeAt g 30 lt)/\CV X (.agg AC) c/\CV X (.agg AT) c1)
theorem jqz {u d:Value} {t:Cgf} (i:u.oneCell'=true) (b:d.oneCell'=true):(mA ver c u t d op).toArray.all (·.oneCell')=true:=by
 have g:=zx c i;have f:=zx t b;rw [Array.all_eq_true'] at g f ⊢;intro v a;rw [a0,mA,List.mem_cons,a1,a1,List.mem_singleton] at a;rcases a with rfl|a|a|rfl
 ·rfl
 ·exact g v (a0.2 a)
 ·exact f v (a0.2 a)
 ·rfl
theorem Bo.copy (H:Bo w W F p h m N D all ps pm ver c st n):∃ (a:List Value) (A:Array Value) (K:List (Nat×Obj)),Hid (a.toArray=A)/\a.length=60/\A.size=60/\A.all (·.oneCell')=true/\W.rangeAt pm 0 a /\
 (∀ X,X=W.alloc (.cells A mT)->Bo w X ((W.heap.size,.cells A mT (0,0))::K) p h m N D all ps pm ver c st n)/\∀ c1,st=some c1->WasP w ((W.heap.size,.cells A mT (0,0))::K) W.heap.size ver c c1:=by
 obtain ⟨J,I,G,L,E,k⟩:=H;obtain ⟨u,t,b,K,o,M,d,f,z,y,l,k8⟩:=E.readAll (R:=[]) (by simpa using k.mem);have C:u.oneCell'=true:=(l.mem k.mem fun x hx=>o.keeps x hx).one;refine ⟨mA ver c u t b st.isSome,_,K,rfl,jg4 d f,by rw [List.size_toArray,jg4 d f],jqz C z,y,?_,?_⟩
 ·rintro X rfl;exact ⟨J,I,G,(W.heap.size,.cells (mA ver c u t b st.isSome).toArray mT (0,0))::L,o.more [(W.heap.size,.cells (mA ver c u t b st.isSome).toArray mT (0,0))],k.push ((Mem.nil W).push1 rfl)⟩
 ·intro c1 hs;obtain ⟨rfl,s⟩:=k8 c1 hs;refine ⟨cc c u,cc t b,_,_,rfl,rfl,by rw [je d];kernel_rfl,by rw [je f];kernel_rfl,fun X hb q=>?_⟩;have g:=q _ List.mem_cons_self;have r:Has X K:=fun x hx=>q x (List.mem_cons_of_mem _ hx);refine ⟨⟨by rw [cell_of g];rfl,fun j v i=>?_,fun j v i=>?_⟩,⟨d,u,rfl,l X hb r⟩,⟨f,b,rfl,s X hb r⟩⟩
  ·rw [cell_of g];exact mA_C j v i
  ·rw [cell_of g];exact mA_T d j v i
def CrP (w W:World) (F:List (Nat×Obj)) (p h m N:Nat) (ps:Nat) (ver:Int) (c c1:Cgf) (n:Nat) (allx:List (List Int)) (verx:Int) (cx:Cgf):Prop :=
 ∃ L,(∀ x∈F,x∈L)/\Rst allx verx cx/\(allx.length:Int)<=ver+1/\TxD w W p h m N (ver+1) allx ps ver c n L/\((verx=ver/\cx=c)\/(verx=ver+1/\cx=c1))
theorem TxD.lig (H:TxD w W p h m N B all ps ver c n L):Lig c:=by
 obtain ⟨pl,u,K,f,d,a,b⟩:=H;exact a
section
variable {c1:Cgf} {allx:List (List Int)} {verx:Int} {cx:Cgf}
theorem CrP.below (H:CrP w W F p h m N ps ver c c1 n allx verx cx):Below w.heap.size w W:=by
 obtain ⟨L,g,f,d,a,b⟩:=H;exact a.sd.memL.below
theorem CrP.join (H:CrP w W F p h m N ps ver c c1 n allx verx cx) (hb:Below W.heap.size W V):CrP w V F p h m N ps ver c c1 n allx verx cx:=by
 obtain ⟨L,g,f,d,b,a⟩:=H;exact ⟨L,g,f,d,b.join hb,a⟩
theorem CrP.on {P:World->Prop} (H:CrP w W F p h m N ps ver c c1 n allx verx cx) (a:On w F P):P W:=by
 obtain ⟨L,d,i,g,b,f⟩:=H;exact a.mem b.sd.memL d
theorem jow (H:CrP w W F p h m N ps ver c c1 n allx verx cx):Calls prog 21 #[.pointer (some ⟨p,0,none⟩)] W fun e b=>e=.returned (.bool true)/\W=b:=by
 obtain ⟨L,i,g,f,a,d⟩:=H;exact jf8 a.sd
theorem jks (H:CrP w W F p h m N ps ver c c1 n allx verx cx):Calls prog 22 #[.pointer (some ⟨ps,0,none⟩),.int .u64 0] W fun e b=>e=.returned (.int .i64 113)/\W=b:=by
 obtain ⟨L,i,g,f,a,d⟩:=H;exact ji3 a 0
theorem jkt (H:CrP w W F p h m N ps ver c c1 n allx verx cx):Calls prog 23 #[.pointer (some ⟨ps,0,none⟩)] W fun e b=>e=.returned (.int .i64 113)/\W=b:=by
 obtain ⟨L,i,g,f,a,d⟩:=H;exact ji4 a
theorem jov (H:CrP w W F p h m N ps ver c c1 n allx verx cx):Calls prog 18 #[.pointer (some ⟨ps,0,none⟩)] W fun e b=>e=.returned (.bool true)/\W=b:=by
 obtain ⟨L,i,g,f,a,d⟩:=H;exact jmo a
theorem jdv (H:CrP w W F p h m N ps ver c c1 n allx verx cx):Calls prog 15 #[.pointer (some ⟨ps,0,none⟩)] W fun e b=>e=.returned (.int .u64 ver)/\W=b:=by
 obtain ⟨L,i,g,f,a,d⟩:=H;exact jco a
theorem jh9 (H:CrP w W F p h m N ps ver c c1 n allx verx cx) (d:n<=900):Calls prog 17 #[.pointer (some ⟨ps,0,none⟩)] W fun e V=>∃ A:Array Value,e=.returned (.agg A)/\Below W.heap.size W V/\CV V (.agg A) c:=by
 obtain ⟨L,j,i,g,b,f⟩:=H;refine (jen b d).mono ?_;rintro e V ⟨v,rfl,hc⟩;have a:=hc.cv b.lig.cin.len;have hb:=hc.below;obtain ⟨A,rfl,-,-⟩:=a.row;exact ⟨A,rfl,hb,a⟩
theorem CrP.few (H:CrP w W F p h m N ps ver c c1 n allx verx cx):∀ t∈c.ten,TFew t:=by
 obtain ⟨L,g,f,d,a,b⟩:=H;exact j38 a.lig
def PwP (w W:World) (F:List (Nat×Obj)) (p h m N:Nat) (ver:Int) (c c1:Cgf) (allx:List (List Int)) (verx:Int) (cx:Cgf):Prop :=
 ∃ L,(∀ x∈F,x∈L)/\Rst allx verx cx/\(allx.length:Int)<=ver+1/\Sd w W p h m N ⟨false,false,0,0⟩ (ver+1) allx L/\((verx=ver/\cx=c)\/(verx=ver+1/\cx=c1))
theorem jkr (H:CrP w W F p h m N ps ver c c1 n allx verx cx):Calls prog 24 #[.pointer (some ⟨p,0,none⟩)] W fun e V=>e=.returned (.tuple #[])/\PwP w V F p h m N ver c c1 allx verx cx:=by
 obtain ⟨L,i,g,f,d,b⟩:=H;refine (jin d.sd).mono ?_;rintro e V ⟨rfl,a⟩;exact ⟨rfl,L,i,g,f,a,b⟩
def OpP (w W:World) (F:List (Nat×Obj)) (p h m N:Nat) (ps:Nat) (ver:Int) (c c1:Cgf) (verx:Int) (cx:Cgf):Prop :=
 ∃ L B allx,(∀ x∈F,x∈L)/\TxA w W p h m N ⟨false,false,0,0⟩ B allx ps verx cx none 20 L/\((verx=ver/\cx=c)\/(verx=ver+1/\cx=c1))
theorem jnj (H:PwP w W F p h m N ver c c1 allx verx cx) (g:Gl w ga) (f:4<=N) (d:256<=m) (q:0<=ver) (b:ver<700) :
 Calls prog 11 #[.pointer (some ⟨p,0,none⟩)] W fun e V=>∃ a,e=.returned (.tuple #[.pointer (some ⟨a,0,none⟩),.int .i64 0])/\OpP w V F p h m N a ver c c1 verx cx:=by
 obtain ⟨L,o,l,r,k,j⟩:=H;refine (j90 k g rfl f d (by omega) (by omega) (by omega) l (n:=20) (by omega)).mono ?_;rintro e V ⟨a,rfl,i,-⟩;exact ⟨a,rfl,L,_,allx,o,i,j⟩
theorem OpP.join (H:OpP w W F p h m N ps ver c c1 verx cx) (hb:Below W.heap.size W V):OpP w V F p h m N ps ver c c1 verx cx:=by
 obtain ⟨L,B,allx,d,b,a⟩:=H;exact ⟨L,B,allx,d,b.join hb,a⟩
theorem OpP.on {P:World->Prop} (H:OpP w W F p h m N ps ver c c1 verx cx) (a:On w F P):P W:=by
 obtain ⟨L,B,allx,d,b,f⟩:=H;exact a.mem b.mem d
theorem OpP.below (H:OpP w W F p h m N ps ver c c1 verx cx):Below w.heap.size w W:=by
 obtain ⟨L,B,allx,d,a,b⟩:=H;exact a.mem.below
theorem j2f (H:OpP w W F p h m N ps ver c c1 verx cx):Calls prog 15 #[.pointer (some ⟨ps,0,none⟩)] W fun e b=>e=.returned (.int .u64 verx)/\W=b:=by
 obtain ⟨L,B,allx,f,a,d⟩:=H;exact j25 a
theorem j7u (H:OpP w W F p h m N ps ver c c1 verx cx):Calls prog 17 #[.pointer (some ⟨ps,0,none⟩)] W fun e V=>∃ A:Array Value,e=.returned (.agg A)/\Below W.heap.size W V/\CV V (.agg A) cx/\∀ t∈cx.ten,TFew t:=by
 obtain ⟨L,B,allx,f,b,d⟩:=H;refine (j7f b (by omega)).mono ?_;rintro e V ⟨v,rfl,hc⟩;have a:=hc.cv b.lig.1.cin.len;have hb:=hc.below;obtain ⟨A,rfl,-,-⟩:=a.row;exact ⟨A,rfl,hb,a,j38 b.lig.1⟩
theorem jkl (H:DoP w F p h m N D all ps pm ver c st n e V) (i:(all.length:Int)=ver) :
 (∃ k g b a f d,e=.returned (.tuple #[.int .i64 k,.int .i64 k])/\(a=ver\/a=ver+1)/\Bo w V F p h m N g b ps pm a f d (n+1)) \/
 (e=.returned (.tuple #[.int .i64 (-1),.int .i64 0])/\∃ c1 allx verx cx,st=some c1/\CrP w V F p h m N ps ver c c1 (n+1) allx verx cx):=by
 rcases H with ⟨k,g,b,a,f,d,he,-,q2,q3⟩|⟨he,-,c1,L,hs,r1,r2,hF,hT⟩
 ·exact Or.inl ⟨k,g,b,a,f,d,he,q2,q3⟩
 ·refine Or.inr ⟨he,c1,?_⟩;rcases hT with hT|hT
  ·exact ⟨all,ver,c,hs,L,hF,r1,by omega,hT,Or.inl ⟨rfl,rfl⟩⟩
  ·exact ⟨_,ver+1,c1,hs,L,hF,r2,by simp;omega,hT,Or.inr ⟨rfl,rfl⟩⟩
end
end
section
variable {w W:World} {F:List (Nat×Obj)} {p h m N:Nat} {D:Dk} {all:List (List Int)} {ps pm:Nat} {ver:Int} {c:Cgf} {st:Option Cgf} {n:Nat} {x:Ac}
theorem jkk (hx:AcW w x) (H:Bo w W F p h m N D all ps pm ver c st n) (a:∀ V,Below w.heap.size w V->Vs V) (j:Gl w ga) (g:LgA x) (d:n<=380) (i:4<=N) (f:256<=m) (b:ver<700000) :
 Calls prog 13 #[.pointer (some ⟨ps,0,none⟩),.pointer (some ⟨pm,0,none⟩),.agg (aC x).toArray,.int .i64 (room N m)] W (DoP w F p h m N D all ps pm ver c st n):=by
 by_cases h0:x.what=0
 ·exact jdr hx H h0 _
 ·by_cases h1:x.what=1\/x.what=2
  ·exact jdq hx H a g d h1 _
  ·by_cases h3:x.what=3
   ·exact jh2 hx H h3 _
   ·by_cases h4:x.what=4\/x.what=5
    ·exact jaa hx H a j d i f b h4
    ·by_cases h6:x.what=6
     ·exact jds hx H h6 _
     ·exact ja9 hx H d ⟨h0,fun e=>h1 (Or.inl e),fun e=>h1 (Or.inr e),h3,fun e=>h4 (Or.inl e),fun e=>h4 (Or.inr e),h6⟩ _
end
end
end Go.Proofs.YtdigofgjhaakmaaGreatDoor
