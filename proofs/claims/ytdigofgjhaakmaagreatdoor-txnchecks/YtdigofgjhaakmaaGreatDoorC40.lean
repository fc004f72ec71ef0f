/- Parts of the proof. -/
import Derived.Test.YtdigofgjhaakmaaGreatDoorC39
set_option linter.all false
set_option maxHeartbeats 40000000
set_option maxRecDepth 20000
open Go.Proofs.Tryz
open List renaming mem_singleton->aa,getD->ab,perm_iff_count->ac,count_append->ad,count_cons->ae,mem_append_left->af,length_map->ag,mem_cons->ah,mem_append->ai,cons_append->aj,append_assoc->ak,not_mem_nil->al,length_append->am,length_cons->an,length_nil->ao,range->ap,getElem?_map->aq,getElem?_eq_getElem->ar,getElem?_eq_none->au,mem_toArray->av
open Or renaming inr->aw,inl->ax
open List.Perm renaming refl->ay
open Nat renaming min_le_left->az,le_refl->aA
namespace Go.Proofs.YtdigofgjhaakmaaGreatDoor
variable {C F' K':List (Nat×Obj)} {V w:World} {ga:Addr} {f ver k x:Int} {all:List (List Int)} {v:Value} {sp:Option Addr} {i g n' n:Nat} {o:Obj}
section
open Go.RowKit Sm Cf Df Va
def Trn (w:World) (K:List (Nat×Obj)) (n:Nat) (sp:Option Addr):Option Cgf->Prop
 | none=>sp=none
 | some c1=>∃ g u1,sp=some ⟨g,0,none⟩/\bxC g c1 u1∈K/\On w K (fun X=>TSV X u1 c1.ten)/\Lig c1/\c1.ten.length<=n
def TxA (w W:World) (p h m N:Nat) (D:Dk) (B:Int) (all:List (List Int)) (ps:Nat) (ver:Int) (c:Cgf) (st:Option Cgf) (n:Nat) (L:List (Nat×Obj)):Prop :=
 ∃ pl u sp K,Sy w W p h m N D pl B all (bxS ps pl ver c u sp false::(K++L))/\On w K (fun X=>TSV X u c.ten)/\Lig c/\c.ten.length<=n/\Trn w K n sp st
theorem Trn.more {K:List (Nat×Obj)} {st:Option Cgf} (h:Trn w K n sp st) (hs:∀ x∈K,x∈K') (j:n<=n'):Trn w K' n' sp st:=by
 cases st with
 | none=>exact h
 | some c1 =>
  obtain ⟨g,u1,e,d,b,a,l⟩:=h;exact ⟨g,u1,e,hs _ d,b.more hs,a,by omega⟩
theorem j8f {c:Cgf} (h:Lig c) {j:List Tv} (e:j.map Prod.fst=c.ten):∀ z∈j,TFew z.1/\Nf z.1:=by
 intro z l;have q:z.1∈c.ten:=by rw [<-e];exact List.mem_map_of_mem l
 obtain ⟨a,b,d,f⟩:=(h.ten _ q).2.2;exact ⟨⟨by omega,by omega,by omega⟩,by omega,by omega,by omega,by omega⟩
theorem jle {c1:Cgf} (h:Lig c1) {y:Chg} (a:TIn y.t/\TRg y.t/\Lgt y.t):Lig { c1 with ten:=app c1.ten [y] } :=
 ⟨⟨⟨h.cin.len.mac,h.cin.len.omac,h.cin.len.nmac,h.cin.len.key⟩,h.cin.mac,h.cin.omac,h.cin.nmac,h.cin.key⟩,⟨h.crg.ip,h.crg.drain⟩,fun t b=>by
  rcases jl7 b with hx|⟨h',hm,-,rfl⟩
  ·exact h.ten t hx
  ·rw [aa] at hm;subst hm;exact a⟩
theorem jhg {c1 b:Cgf} (h:Lig c1) (a:CIn b) (d:CRg b):Lig { b with ten:=c1.ten } :=
 ⟨⟨⟨a.len.mac,a.len.omac,a.len.nmac,a.len.key⟩,a.mac,a.omac,a.nmac,a.key⟩,⟨d.ip,d.drain⟩,h.ten⟩
theorem kn (l:List Int) (h:∀ x∈l,0<=x/\x<=255):j6 l:=by
 intro i;by_cases hi:i<l.length
 ·have:=h _ (List.getElem_mem hi);simpa [ab,hi] using this
 ·simp [ab,hi]
theorem lig0:Lig cfg0:=⟨⟨j1d,kn _ (by decide),kn _ (by decide),kn _ (by decide),kn _ (by decide)⟩,⟨by decide,by decide⟩,by simp [cfg0]⟩
section
variable {w W:World} {p h m N:Nat} {D:Dk} {B:Int} {all:List (List Int)} {ps:Nat} {ver:Int} {c:Cgf} {st:Option Cgf} {n:Nat} {L:List (Nat×Obj)}
theorem TxA.join (H:TxA w W p h m N D B all ps ver c st n L) (hb:Below W.heap.size W V):TxA w V p h m N D B all ps ver c st n L:=by
 obtain ⟨pl,u,sp,K,b,a⟩:=H;exact ⟨pl,u,sp,K,b.join (mem0 hb),a⟩
theorem TxA.push (H:TxA w W p h m N D B all ps ver c st n L) (k:Mem W V K'):TxA w V p h m N D B all ps ver c st n (K'++L):=by
 obtain ⟨pl,u,sp,K,d,b⟩:=H;refine ⟨pl,u,sp,K,?_,b⟩;obtain ⟨R,a,hb⟩:=d.frame;refine hb _ _ ((a.more k).perm ?_)
 classical
 rw [ac];intro z;simp only [ad,ae];omega
theorem TxA.frame (H:TxA w W p h m N D B all ps ver c st n L):∃ R,Mem w W (L++R)/\∀ d a,Mem w d (a++R)->TxA w d p h m N D B all ps ver c st n a:=by
 obtain ⟨pl,u,sp,K,q,l⟩:=H;obtain ⟨R,j,hb⟩:=q.frame;have e:∀ L,((bxS ps pl ver c u sp false::(K++L))++R).Perm (L++(bxS ps pl ver c u sp false::(K++R))):=by
  intro L
  classical
  rw [ac];intro z;simp only [ad,ae];omega
 exact ⟨_,j.perm (e L),fun d a b=>⟨pl,u,sp,K,hb _ _ (b.perm (e a).symm),l⟩⟩
theorem TxA.mem (H:TxA w W p h m N D B all ps ver c st n L):Mem w W L:=by
 obtain ⟨R,a,-⟩:=H.frame;exact ⟨a.below,fun x hx=>a.low x (af _ hx),fun x hx=>a.at_ x (af _ hx),(List.nodup_append.mp (by rw [<-List.map_append];exact a.apart)).1⟩
theorem TxA.lig (H:TxA w W p h m N D B all ps ver c st n L):Lig c/\c.ten.length<=n:=by
 obtain ⟨pl,u,sp,K,j,e,b,a,d⟩:=H;exact ⟨b,a⟩
theorem TxA.ligT {c1:Cgf} (H:TxA w W p h m N D B all ps ver c (some c1) n L):Lig c1/\c1.ten.length<=n:=by
 obtain ⟨pl,u,sp,K,s,r,q,l,g,u1,j,e,d,b,a⟩:=H;exact ⟨b,a⟩
theorem j1k (H:TxA w W p h m N D B all ps ver c st n L):Calls prog 15 #[.pointer (some ⟨ps,0,none⟩)] W fun e b=>e=.returned (.int .u64 ver)/\W=b:=by
 obtain ⟨pl,u,sp,K,a,d⟩:=H;exact j7j (bx1 a.mem)
theorem jcx (H:TxA w W p h m N D B all ps ver c st n L) (s:n<=900):Calls prog 17 #[.pointer (some ⟨ps,0,none⟩)] W fun e V=>∃ v,e=.returned v/\Cpd W c c.ten v V:=by
 obtain ⟨pl,u,sp,K,r,q,d,y,-⟩:=H;have b:=r.mem;have l:=q.mem b (by intro x hx;simp [hx]);obtain ⟨j,e,a⟩:=Df.TSV.zv l;have t:j.length=c.ten.length:=by rw [<-e,ag]
 have:=j77 (j9a b) d.cin.len a (fun z a=>(j8f d e z a).1) (by omega);rw [e] at this;exact this
theorem j9j (H:TxA w W p h m N D B all ps ver c none n L):Calls prog 22 #[.pointer (some ⟨ps,0,none⟩),.int .u64 ver] W fun e l=>e=.returned (.int .i64 0)/\TxA w l p h m N D B all ps ver c (some c) n L:=by
 obtain ⟨pl,u,sp,K,s,j,b,d,r⟩:=H;cases r;obtain ⟨R,q,hb⟩:=s.frame;refine (jii (L:=K++L++R) q b.cin.len).mono ?_;rintro e l ⟨g,rfl,a⟩;refine ⟨rfl,pl,u,_,bxC g c u::K,hb _ _ ?_,j.more (fun x hx=>by simp [hx]),b,d,g,u,rfl,by simp,j.more (fun x hx=>by simp [hx]),b,d⟩;exact a
theorem j7n (H:TxA w W p h m N D B all ps ver c st n L) {v:Int} (j:(st≠none/\k=110)\/(st=none/\v≠ver/\k=112)):Calls prog 22 #[.pointer (some ⟨ps,0,none⟩),.int .u64 v] W fun e s=>e=.returned (.int .i64 k)/\W=s:=by
 obtain ⟨pl,u,sp,K,r,y,q,t,l⟩:=H;have d:=r.mem;have e:bgc false sp v ver=k:=by
  rcases j with ⟨a,rfl⟩|⟨rfl,b,rfl⟩
  ·cases st with
   | none=>exact absurd rfl a
   | some c1=>obtain ⟨g,u1,rfl,-⟩:=l;rfl
  ·cases l;simp [bgc,b]
 have:=jij (v:=v) (bx1 d) (bx31 d q.cin.len) (bx32 d q.cin.len) (by rw [e];rcases j with ⟨-,rfl⟩|⟨-,-,rfl⟩<;>decide);rw [e] at this;exact this
theorem j7o (H:TxA w W p h m N D B all ps ver c none n L):Calls prog 23 #[.pointer (some ⟨ps,0,none⟩)] W fun e l=>e=.returned (.int .i64 111)/\W=l:=by
 obtain ⟨pl,u,sp,K,j,r,b,q,d⟩:=H;cases d;have a:=j.mem;exact jit (bx31 a b.cin.len) (bx32 a b.cin.len) (by decide)
theorem j42 {c1 a:Cgf} (H:TxA w W p h m N D B all ps ver c (some c1) n L) (r:CV W v a) (l:CIn a) (d:CRg a):Calls prog 26 #[.pointer (some ⟨ps,0,none⟩),v] W fun e E=>e=.returned (.int .i64 0)/\TxA w E p h m N D B all ps ver c (some { a with ten:=c1.ten }) n L:=by
 obtain ⟨pl,u,sp,K,O,M,z,J,g,u1,rfl,I,y,t,G⟩:=H;obtain ⟨j,u2,rfl,-⟩:=r;obtain ⟨R,s,hb⟩:=O.frame;have b:=(y.mem s (by intro x hx;simp [hx])).slice;refine (jbu (L:=K++L++R) s (by simp [I]) z.cin.len t.cin.len j b).mono ?_;rintro e E ⟨A,rfl,q⟩;exact ⟨rfl,pl,u,_,bxC A { a with ten:=c1.ten } u1::K,hb _ _ q,M.more (fun x hx=>by simp [hx]),z,J,A,u1,rfl,by simp,y.more (fun x hx=>by simp [hx]),jhg t l d,G⟩
theorem j7m (H:TxA w W p h m N D B all ps ver c none n L) (cl:Array Value):Calls prog 29 #[.pointer (some ⟨ps,0,none⟩),.agg cl] W fun e j=>e=.returned (.int .i64 111)/\Below W.heap.size W j:=by
 obtain ⟨pl,u,sp,K,d,q,b,l,a⟩:=H;cases a;exact jd1 d.mem b.cin.len (by decide) _
def stg (c1:Cgf) (y:Chg):Cgf:=if ftsB c1.ten y=true then { c1 with ten:=app c1.ten [y] } else c1
theorem j9i (O:Vs W) {c1:Cgf} (H:TxA w W p h m N D B all ps ver c (some c1) n L) (Q:n<=900) {y:Hv} (j:Rws W (yz y)) (l:TIn y.1.t/\TRg y.1.t/\Lgt y.1.t) (d:y.1.name.size<=1000000) :
 Calls prog 29 #[.pointer (some ⟨ps,0,none⟩),.agg (yc y).toArray] W fun e J=>e=.returned (.int .i64 (if ftsB c1.ten y.1=true then 0 else 90))/\TxA w J p h m N D B all ps ver c (some (stg c1 y.1)) (n+1) L:=by
 obtain ⟨pl,u,sp,K,I,G,r,U,g,u1,rfl,E,A,a,T⟩:=H;obtain ⟨R,s,hb⟩:=I.frame;obtain ⟨M,e,b⟩:=Df.TSV.zv (A.mem s (by intro x hx;simp [hx]));have S:M.length=c1.ten.length:=by rw [<-e,ag]
 obtain ⟨a1,a2,a3,Z⟩:=l.2.2;refine (jb4 O (L:=K++L++R) s (by simp [E]) r.cin.len a.cin.len b e (fun z b=>(j8f a e z b).2) (by omega) l.1.len j ⟨by omega,by omega,by omega,by omega⟩ d).mono ?_;rintro Y J (⟨hf,rfl,hbl⟩|⟨hf,rfl,g',u',B',C',hT,hM'⟩)
 ·rw [if_neg (by rw [hf];decide),stg,if_neg (by rw [hf];decide)];exact ⟨rfl,pl,u,_,K,I.join (mem0 hbl),G,r,by omega,g,u1,rfl,E,A,a,by omega⟩
 ·rw [if_pos hf,stg,if_pos hf];have P:On w (bxC g' { c1 with ten:=app c1.ten [y.1] } u'::(B'++C'++K)) (fun X=>TSV X u' (app c1.ten [y.1])):=jmw hT (by intro x hx;simp only [ah,ai] at hx ⊢;exact aw (ax hx));have q:=j4k c1.ten [y.1];simp only [List.length_singleton] at q;refine ⟨rfl,pl,u,_,bxC g' { c1 with ten:=app c1.ten [y.1] } u'::(B'++C'++K),hb _ _ ?_,G.more (fun x hx=>by simp [hx]),r,by omega,g',u',rfl,by simp,P,jle a l,by show (app c1.ten [y.1]).length<=n+1;omega⟩;refine hM'.perm ?_;simp only [aj,ak];exact ay _
theorem jcv {c1:Cgf} (H:TxA w W p h m N D B all ps ver c (some c1) n L) (t:n<=900):Calls prog 32 #[.pointer (some ⟨ps,0,none⟩)] W fun e V=>∃ v,e=.returned (.tuple #[v,.int .i64 0])/\Cpd W c1 c1.ten v V:=by
 obtain ⟨pl,u,sp,K,s,G,r,E,g,u1,rfl,q,l,d,A⟩:=H;have b:=s.mem;obtain ⟨j,e,a⟩:=Df.TSV.zv (l.mem b (by intro x hx;simp [hx]));have y:j.length=c1.ten.length:=by rw [<-e,ag]
 have:=jcz b (by simp [q]) r.cin.len d.cin.len a (fun z a=>(j8f d e z a).1) (by omega);rw [e] at this;exact this
theorem j64 (H:TxA w W p h m N D B all ps ver c none n L):Calls prog 32 #[.pointer (some ⟨ps,0,none⟩)] W fun e j=>e=.returned (.tuple #[.agg cz,.int .i64 111])/\Below W.heap.size W j:=by
 obtain ⟨pl,u,sp,K,d,q,b,l,a⟩:=H;cases a;exact jd0 d.mem b.cin.len (by decide)
end
def TxD (w W:World) (p h m N:Nat) (B:Int) (all:List (List Int)) (ps:Nat) (ver:Int) (c:Cgf) (n:Nat) (L:List (Nat×Obj)):Prop :=
 ∃ pl u K,Sd w W p h m N gone B all (bxS ps pl ver c u none true::(K++L))/\On w K (fun X=>TSV X u c.ten)/\Lig c/\c.ten.length<=n
theorem Rst.lig {c:Cgf} (h:Rst all ver c):Lig c/\c.ten.length<=16:=by
 rcases h with ⟨-,-,rfl⟩|⟨-,-,-,h,-⟩
 ·exact ⟨lig0,by decide⟩
 ·exact ⟨h.lig,h.len⟩
section
variable {w W:World} {p h m N:Nat} {D:Dk} {B:Int} {all:List (List Int)} {ps:Nat} {ver:Int} {c:Cgf} {st:Option Cgf} {n:Nat} {L:List (Nat×Obj)}
theorem jcw (H:Sd w W p h m N D B all L) (s:Gl w ga) (hd:D.dead=false) (q:4<=N) (r:256<=m) (t:B<=1000000) (j:0<=B) (b:all.length<=900) (d:Rst all ver c) (a:16<=n) :
 Calls prog 11 #[.pointer (some ⟨p,0,none⟩)] W fun e l=>∃ ps,e=.returned (.tuple #[.pointer (some ⟨ps,0,none⟩),.int .i64 0])/\TxA w l p h m N D B all ps ver c none n L/\Below W.heap.size W l:=by
 refine (jno H s hd q r t j b d).mono ?_;rintro e l ⟨ps,rfl,pl,u,K,A,z,y⟩;exact ⟨ps,rfl,⟨pl,u,none,K,A,z,d.lig.1,Nat.le_trans d.lig.2 a,rfl⟩,y⟩
def cmE (N m:Nat) (ver:Int) (c1:Cgf):Int:=if chk c1=0 then if room N m<(jz (ver+1) c1).length then 51 else 0 else chk c1
def CmR (w:World) (p h m N:Nat) (D:Dk) (B:Int) (all:List (List Int)) (ps:Nat) (ver:Int) (c c1:Cgf) (n:Nat) (L:List (Nat×Obj)) (k er:Int) (W':World):Prop :=
 (k=0/\er=cmE N m ver c1/\er≠0/\TxA w W' p h m N D B all ps ver c (some c1) n L) \/
 (k=ver+1/\er=0/\cmE N m ver c1=0/\∃ D',D'.dead=false/\(D.set=false->D'=D)/\Rst (all++[jz (ver+1) c1]) (ver+1) c1/\TxA w W' p h m N D' (B+1) (all++[jz (ver+1) c1]) ps (ver+1) c1 none n L) \/
 (k=0/\er=42/\cmE N m ver c1=0/\D.set=true/\Rst (all++[jz (ver+1) c1]) (ver+1) c1/\(TxD w W' p h m N (B+1) all ps ver c n L\/TxD w W' p h m N (B+1) (all++[jz (ver+1) c1]) ps ver c n L))
theorem j66 (J:Vs W) (U:Gl w ga) {c1:Cgf} (H:TxA w W p h m N D B all ps ver c (some c1) n L) (O:n<=900) (hd:D.dead=false) (P:4<=N) (Q:256<=m) (X:B<=800000) (s:0<=B) (r:all.length<=800000) (q:0<=ver) (l:ver<900000) :
 Calls prog 31 #[.pointer (some ⟨ps,0,none⟩)] W fun e I=>∃ k j,e=.returned (.tuple #[.int .u64 k,.int .i64 j])/\CmR w p h m N D B all ps ver c c1 n L k j I:=by
 have HH:=H;obtain ⟨pl,u,sp,K,G,E,y,A,g,u1,rfl,Z,z,t,Y⟩:=H;have T:=z.mem G.mem (by intro x hx;simp [hx]);have M:=room_le N m;have b:chk c1=0->(jz (ver+1) c1).length<=room N m->Rst (all++[jz (ver+1) c1]) (ver+1) c1:=fun e S=>aw ⟨by rw [List.getLast?_concat],by omega,by omega,jia t e,by omega⟩;have d:chk c1=0->(jz (ver+1) c1).length<=room N m->cmE N m ver c1=0:=fun e S=>by rw [cmE,if_pos e,if_neg (by omega)]
 refine (jc2 J U G (by simp [Z]) y.cin.len t T (by omega) hd P Q X s r q l).mono ?_;rintro e I ⟨k,j,rfl,hc⟩;refine ⟨k,j,rfl,?_⟩;rcases hc with ⟨rfl,a1,a2,a3,a4⟩|⟨a1,a2,rfl,rfl,D',a3,a4,a5⟩|⟨a1,a2,rfl,rfl,a3,a4,a5⟩
 ·exact ax ⟨rfl,a3,a1,HH.join a4⟩
 ·exact aw (ax ⟨rfl,rfl,d a1 a2,D',a3,a4,b a1 a2,pl,u1,none,K,a5,z,t,Y,rfl⟩)
 ·refine aw (aw ⟨rfl,rfl,d a1 a2,a3,b a1 a2,?_⟩);rcases a5 with a|a
  ·exact ax ⟨pl,u,K,a,E,y,A⟩
  ·exact aw ⟨pl,u,K,a,E,y,A⟩
end
def RmS (w:World) (F:List (Nat×Obj)) (pm:Nat) (ver:Int) (c:Cgf) (sm:Option Cgf) (L:List (Nat×Obj)):Prop :=
 ∃ t u ut K zs,(∀ x∈F,x∈K)/\L.Perm (bxM pm ver c u t ut sm.isSome::K)/\CLen c/\CLen t/\ut.oneCell'=true/\On w K (fun X=>ZV X u zs)/\zs.map Prod.fst=c.ten /\
  ∀ c1,sm=some c1->t=c1/\∃ zt,On w K (fun X=>ZV X ut zt)/\zt.map Prod.fst=c1.ten
theorem pcP (A B K R:List (Nat×Obj)) (x:Nat×Obj) (h:A.Perm (x::K)):(B++(A++R)).Perm (x::(K++(B++R))):=by
 have a:(B++(A++R)).Perm (A++(B++R)):=by
  rw [<-ak,<-ak];exact List.perm_append_comm.append_right R
 exact a.trans (h.append_right (B++R))
section
variable {w W:World} {pm:Nat} {ver:Int} {c c1:Cgf} {sm:Option Cgf} {F L R:List (Nat×Obj)}
theorem RmS.more (h:RmS w F pm ver c sm L) (C:List (Nat×Obj)):RmS w (C++F) pm ver c sm (C++L):=by
 obtain ⟨t,u,d,K,b,E,y,A,s,z,r,q,hs⟩:=h;refine ⟨t,u,d,K++C,b,fun x hx=>(ai.mp hx).elim (fun h=>by simp [h]) (fun h=>by simp [E x h]),?_,A,s,z,r.left,q,fun c1 G=>?_⟩
 ·have:=pcP L C K [] _ y;simpa using this
 ·obtain ⟨e,a,l,j⟩:=hs c1 G;exact ⟨e,a,l.left,j⟩
theorem RmS.less (h:RmS w F pm ver c sm L) (hs:∀ x∈F',x∈F):RmS w F' pm ver c sm L:=by
 obtain ⟨t,u,b,K,a,d,h⟩:=h;exact ⟨t,u,b,K,a,fun x hx=>d x (hs x hx),h⟩
theorem RmS.keeps (h:RmS w F pm ver c sm L):∀ x∈F,x∈L:=by
 obtain ⟨t,u,e,K,d,b,a,h⟩:=h;exact fun x hx=>a.symm.subset (List.mem_cons_of_mem _ (b x hx))
theorem jn9 (g:Nat):RmS w [] g 0 cfg0 none [bxM g 0 cfg0 nilV cfg0 nilV false] :=
 ⟨cfg0,nilV,nilV,[],[],by simp,ay _,j1d,j1d,rfl,fun X _ _=>⟨jn7 X 33,by simp⟩,rfl,fun c1 h=>by cases h⟩
theorem RmS.readT (h:RmS w F pm ver c (some c1) L) (r:Mem w W (L++R)):∃ u,W.rangeAt pm 30 (cc c1 u)/\CV W (.agg (cc c1 u).toArray) c1:=by
 obtain ⟨t,u,b,K,y,G,l,q,j,E,A,z,hs⟩:=h;have a:=r.perm (l.append_right R);obtain ⟨rfl,s,e,d⟩:=hs _ rfl;refine ⟨b,rmT a q,j,b,rfl,?_⟩;rw [<-d];exact (e.mem a (by intro x hx;simp [hx])).tsv
theorem jgj (h:RmS w F pm ver c none L) (G:Mem w W (L++R)):Calls prog 27 #[.pointer (some ⟨pm,0,none⟩),.int .u64 ver] W fun e s=>e=.returned (.int .i64 0)/\∃ y,RmS w F pm ver c (some c) y/\Mem w s (y++R):=by
 obtain ⟨t,u,H,K,q,E,A,j,z,I,d,r,-⟩:=h;have b:=G.perm (A.append_right R);have a:=((d.mem b (by intro x hx;simp [hx])).tsv).one;refine (jgl b j z a).mono ?_;rintro e s ⟨rfl,l⟩;exact ⟨rfl,_::K,⟨c,u,u,K,q,E,ay _,j,j,a,d,r,fun c1 h=>by cases h;exact ⟨rfl,q,d,r⟩⟩,l⟩
theorem jbb (h:RmS w F pm ver c (some c1) L) (P:Mem w W (L++R)) {j:Cgf} (S:CV W v j):Calls prog 28 #[.pointer (some ⟨pm,0,none⟩),v] W fun e r=>e=.returned (.int .i64 0)/\∃ s,RmS w F pm ver c (some { j with ten:=c1.ten }) s/\Mem w r (s++R):=by
 obtain ⟨t,u,A,K,z,O,J,q,I,M,H,G,hs⟩:=h;have b:=P.perm (J.append_right R);obtain ⟨rfl,y,l,E⟩:=hs _ rfl;obtain ⟨a,u2,rfl,Q⟩:=S;refine (jbe b q I ((l.mem b (by intro x hx;simp [hx])).tsv).slice a Q.one).mono ?_;rintro e r ⟨rfl,d⟩;exact ⟨rfl,_::K,⟨{ j with ten:=t.ten },u,A,K,z,O,ay _,q,⟨a.mac,a.omac,a.nmac,a.key⟩,M,H,G,fun T h=>by cases h;exact ⟨rfl,y,l,E⟩⟩,d⟩
theorem j7z (h:RmS w F pm ver c none L) (j:Mem w W (L++R)) (cl:Array Value):Calls prog 30 #[.pointer (some ⟨pm,0,none⟩),.agg cl] W fun e l=>e=.returned (.int .i64 111)/\Below W.heap.size W l:=by
 obtain ⟨t,u,r,K,q,A,b,d,a,z,y,s,-⟩:=h;exact j82 (j.perm (b.append_right R)) d a cl
theorem jgi (hv:Vs W) (h:RmS w F pm ver c (some c1) L) {y:Hv} (S:∀ x∈C,x∈F) (hC:On w C (fun X=>Rws X (yz y))) (hM:Mem w W (L++R)) (hm:c1.ten.length<=390) (j:TLen y.1.t) (J:y.1.name.size<=1000000) (I:y.1.t.name.size<=1000000) :
 Calls prog 30 #[.pointer (some ⟨pm,0,none⟩),.agg (yc y).toArray] W fun e Z=>e=.returned (.int .i64 (if ftsB c1.ten y.1=true then 0 else 90))/\∃ L',RmS w F pm ver c (some (stg c1 y.1)) L'/\Mem w Z (L'++R):=by
 obtain ⟨t,u,A,K,T,P,hp,O,d,ho,U,s,hs⟩:=h;have b:Mem w W (bxM pm ver c u t A true::(K++R)):=hM.perm (hp.append_right R);obtain ⟨rfl,q,E,r⟩:=hs _ rfl;have G:=E.mem b (by intro x hx;simp [hx]);have l:On w K (fun X=>Rws X (yz y)):=hC.more fun x hx=>P x (S x hx);have M:=l.mem b (by intro x hx;simp [hx]);have Y:q.length=t.ten.length:=by rw [<-r,ag]
 refine (jgk hv b O d G r (by omega) j M J I).mono ?_;rintro e Z (⟨hff,rfl,hbl⟩|⟨hff,rfl,ut',B,hsl,hD,hM'⟩)
 ·rw [if_neg (by rw [hff];decide),stg,if_neg (by rw [hff];decide)];exact ⟨rfl,bxM pm ver c u t A true::K,⟨t,u,A,K,T,P,ay _,O,d,ho,U,s,fun c3 h=>by cases h;exact ⟨rfl,q,E,r⟩⟩,b.after hbl⟩
 ·rw [if_pos hff,stg,if_pos hff];have H:On w (B++K) (fun X=>ZV X ut' (apz q [y])):=fun X hb Q=>by
   refine hD.zv (fun x hx=>Q x (by simp [hx])) fun z s=>?_;rcases j8a s with h1|⟨y',h1,rfl⟩
   ·exact (E X hb fun x hx=>Q x (by simp [hx])).each z h1
   ·rw [aa] at h1;subst h1;exact ⟨j,l X hb fun x hx=>Q x (by simp [hx])⟩
  have e2:(apz q [y]).map Prod.fst=app t.ten [y.1]:=by rw [j8z,r];rfl
  refine ⟨rfl,bxM pm ver c u { t with ten:=app t.ten [y.1] } ut' true::(B++K),⟨{ t with ten:=app t.ten [y.1] },u,ut',B++K,T,fun x hx=>by simp [P x hx],ay _,O,⟨d.mac,d.omac,d.nmac,d.key⟩,(by obtain ⟨a,k,m,rfl⟩:=hsl;rfl),U.more (fun x hx=>by simp [hx]),s,fun c3 h=>by cases h;exact ⟨rfl,_,H,e2⟩⟩,?_⟩;rw [aj,ak];exact hM'
end
end
section
open Go.RowKit Sm Cf Df Va
open La (adr j3t R32)
def sQ (i:Nat) (k:Int):Ten:=mkQ i (bits .and .u16 k 4 != 0) (bits .and .u16 k 128 != 0) (bits .and .u16 k 256 != 0) (qlo k) (qhi k) (Int.tmod k 3) (1+bits .and .i64 (k / 512) 7) (1+bits .and .i64 (k / 4096) 3) (bits .and .u32 (k / 16384) 3) (3+bits .and .u32 (k / 8192) 7)
theorem zm.is {t:Ten} (h:zm i k t):t=sQ i k:=by
 obtain ⟨z,hi,A,s,y,u,E,rfl,r⟩:=h;obtain ⟨q,l,j,e,d,b,a⟩:=r.is;rw [q,l,j,e,d,b,a];rfl
theorem jnj (h:R32 x):0<=x/\x<=4294967295:=⟨h.1,by have:=h.2;omega⟩
theorem j3s {a b c d:Int} (e:0<=a/\a<=255) (hb:0<=b/\b<=255) (hc:0<=c/\c<=255) (hd:0<=d/\d<=255):0<=adr a b c d/\adr a b c d<=4294967295:=jnj (j3t e hb hc hd)
theorem zm.lig {t:Ten} (h:zm i k t) (hi:i<17):TIn t/\TRg t/\Lgt t:=by
 have q:=zm.sq h hi;obtain ⟨j,a,l,b,e,d,s,rfl,r⟩:=h;obtain ⟨z,y,u⟩:=q.len;refine ⟨⟨⟨rfl,rfl,rfl⟩,kn _ ?_,kn _ ?_,kn _ ?_,?_,by omega,by omega,by omega⟩,⟨?_,?_,?_,?_,?_,?_,?_,?_,?_,?_,?_,?_⟩,?_,by omega,by omega,by omega⟩
 ·intro x hx;simp only [mkQ,ah,al,or_false] at hx;omega
 ·intro x hx;simp only [mkQ,ah,al,or_false] at hx;omega
 ·intro x hx;simp only [mkQ,ah,al,or_false] at hx;omega
 ·show (1:Nat)<=1000000;omega
 ·show 0<=100+(i:Int)/\100+(i:Int)<=4294967295;omega
 ·exact j3s (by omega) (by omega) (by omega) (by omega)
 ·show 0<=j/\j<=65535;have:=r.lo;have:=r.hi;omega
 ·show 0<=a/\a<=65535;have:=r.hi;omega
 ·show -9223372036854775808<=l/\l<=9223372036854775807;have:=r.fi;omega
 ·show -9223372036854775808<=b/\b<=9223372036854775807;have:=r.se;omega
 ·show -9223372036854775808<=e/\e<=9223372036854775807;have:=r.qu;omega
 ·show 0<=d/\d<=4294967295;have:=r.ra;omega
 ·show 0<=s/\s<=4294967295;have:=r.bu;omega
 ·intro x hx;rcases q.pool x hx with rfl|rfl<;>exact j3s (by omega) (by omega) (by omega) (by omega)
 ·intro x hx;rw [q.stat x hx];exact ⟨j3s (by omega) (by omega) (by omega) (by omega),j3s (by omega) (by omega) (by omega) (by omega)⟩
 ·intro x hx;rcases q.twi x hx with rfl|rfl<;>exact ⟨j3s (by omega) (by omega) (by omega) (by omega),j3s (by omega) (by omega) (by omega) (by omega)⟩
 ·show (1:Nat)<=300;omega
theorem jpn (f:Int) (ts:List Ten):CIn (sc f ts):=⟨⟨rfl,rfl,rfl,rfl⟩,kn [2,1,0,0,0,0] (by decide),kn [2,2,0,0,0,0] (by decide),kn [2,3,0,0,0,0] (by decide),kn [200,0,0,0,0,0,0,0] (by decide)⟩
theorem jpm (h:0<=f/\f<=7) (ts:List Ten):CRg (sc f ts):=⟨j3s (by omega) (by omega) (by omega) (by omega),by show 0<=f/\f<=4294967295;omega⟩
theorem jfz (t:Ten) (a:TLen t):(tenc t).length<=100+t.name.size+4*t.pool.length+8*t.stat.length+8*t.twi.length:=by
 have r:=yn (fun i=>be 4 (t.pool.getD i 0)) 4 (fun i=>by simp only [jq];omega) (min t.pool.length 255);have q:=yn (fun i=>spP.enc (t.stat.getD i (0,0))) 8 (fun i=>by simp only [j4u,am,jq];omega) (min t.stat.length 255);have l:=yn (fun i=>spP.enc (t.twi.getD i (0,0))) 8 (fun i=>by simp only [j4u,am,jq];omega) (min t.twi.length 255);have j:(nm t.name).length<=1+t.name.size:=by simp only [nm,an,List.length_take,j6a];omega
 have e:min t.pool.length 255<=t.pool.length:=az _ _;have d:min t.stat.length 255<=t.stat.length:=az _ _;have b:min t.twi.length 255<=t.twi.length:=az _ _;rw [jcp,j9e];simp only [am,jq,a.key,a.vmac,a.host,an,ao];omega
theorem jfb (f:Nat->List Int):(cat f 1).length=(f 0).length:=by rw [cat,cat,List.nil_append]
theorem jkn {t:Ten} (a:TLen t):(jz ver (sc f [t])).length<=200+t.name.size+4*t.pool.length+8*t.stat.length+8*t.twi.length:=by
 have h:=jfz t a;have e:=jfb (fun i=>tenc ((sc f [t]).ten.getD i ten0));have b:(sc f [t]).ten.getD 0 ten0=t:=rfl;rw [b] at e;rw [j86,jf8,jm2,am,show min (sc f [t]).ten.length 255=1 from rfl,e];simp only [am,jq,an,ao,Nat.reduceAdd];omega
theorem j69 (w:World) (a:Option Addr) (n cap:Nat) (l:Nat->Int) (s:∀ i,i<n->∃ b q,a=some ⟨b,q,none⟩/\w.cell? ⟨b,q+i,none⟩=some (.int .u16 (l i))/\0<=l i/\l i<=65535) (d:Int) (z:0<=d) (t:d<=255) :
 Calls prog 34 #[.slice a n cap,.int .u8 d] w fun e V=>∃ v,e=.returned v/\CV V v (sc (Int.tmod d 8) ((ap (min n 4)).map fun j=>sQ j (l j)))/\Below w.heap.size w V:=by
 refine (j7x w a n cap l s d z t).mono ?_;rintro e V ⟨f,r,u,B,K,rfl,rfl,H,G,I,E,A⟩;have J:r.map (fun y=>y.1.1)=(ap (min n 4)).map fun j=>sQ j (l j):=by
  apply List.ext_getElem?;intro j;rw [aq,aq,<-H];by_cases hj:j<r.length
  ·rw [ar hj,List.getElem?_range hj,Option.map_some,Option.map_some,zm.is (G j _ (ar hj))]
  ·rw [au (by omega),au (by simp;omega)];rfl
 refine ⟨_,rfl,?_,A.below⟩;rw [<-J];exact jq0 (C:=r.flatMap (·.2)) (jn3 _ _) rfl I (jpi E fun x hx=>hx) A
theorem jdb (w:World) (i:Nat) (hi:i<17) (k:Int) (b:0<=k) (a:k<=65535):Calls prog 35 #[.int .i64 (i:Int),.int .u16 k] w fun e V=>∃ z:Tv,e=.returned (tv z)/\z.1=sQ i k/\zm i k z.1/\Rws V z/\Below w.heap.size w V:=by
 refine (j43 w i hi k b a).mono ?_;rintro e V ⟨t,p,s,q,C,rfl,hs,j,d⟩;exact ⟨(t,p,s,q),rfl,zm.is hs,hs,(jcd (j.zb fun x hx=>hx) fun x hx=>d.at_ x hx).2,d.below⟩
theorem j1z (c:Cgf):jmm c c:=⟨rfl,rfl,rfl,rfl,rfl,rfl,rfl,fun i _=>⟨rfl,rfl,rfl,rfl,rfl,rfl,rfl,rfl,rfl,rfl,rfl,rfl,rfl,rfl,rfl,rfl⟩⟩
theorem jad {c:Cgf} (h:Lig c):∀ t∈c.ten,TFew t:=fun t e=>by
 obtain ⟨a,b,d,f⟩:=(h.ten t e).2.2;exact ⟨by omega,by omega,by omega⟩
theorem app_nil (y:Chg) (h:y.put=true):app [] [y]=[y.t]:=by
 show stp [] y=_;rw [stp,if_pos h];rfl
end
section
open Go.RowKit Sm Cf Df Va
theorem jmo {y:Hv} (e:y.2.1.oneCell'=true) (d:y.2.2.1.oneCell'=true) (b:y.2.2.2.oneCell'=true):(yc y).toArray.all (·.oneCell')=true:=by
 have h:=j1i y.1.t e d b;rw [Array.all_eq_true'] at h ⊢;intro v a;rw [av,jce,ah,ah] at a;rcases a with rfl|rfl|a
 ·rfl
 ·rfl
 ·exact h v (by rw [av];exact a)
theorem jq2:(prog.info? 48).map (·.size)=some (hz0:Array Value).size:=by kernel_rfl
section
variable {w W:World} {x:Ac}
end
def D0:Dk:=⟨false,false,0,0⟩
theorem jm1 {t:Ten} (b:f<=1000) (h:SQ 0 t):chk (sc f [t])=0:=ji9 b (by simp) (by intro j t' a;cases j with
 | zero=>simp at a;subst a;exact h
 | succ j=>simp at a)
theorem jow {N m:Nat} {t:Ten} (b:f<=1000) (a:TLen t) (h:SQ 0 t) (hr:300<=room N m):cmE N m ver (sc f [t])=0:=by
 have q:=jkn (ver:=ver+1) (f:=f) a;obtain ⟨j,e,d⟩:=h.len;have l:t.name.size=1:=by rw [h.name];rfl
 rw [cmE,if_pos (jm1 b h),if_neg (by omega)]
theorem jlo {ts:List Ten} {t:Ten} (h:SQ 0 t):ftsB ts ⟨true,⟨#[97]⟩,t⟩=true:=by
 unfold ftsB;rw [if_pos rfl,h.name];show (Ad.nam [97] && ((⟨#[97]⟩:ByteArray).toList==(⟨#[UInt8.ofNat (97+0 % 8)]⟩:ByteArray).toList))=true;decide +kernel
theorem jlg (hv:Vs w) (hG:Gl w ga):Calls prog 8 #[] w fun e V=>e=.returned (.bool true)/\Below w.heap.size w V:=by
 have CN:=jj0 (x:=8) (y:=2048) (n:=8) (m:=2048) rfl rfl w;have HV:Hid (∀ V,Below w.heap.size w V->Vs V):=fun V hV=>hv.below hV;have HG:Hid (Gl w ga):=hG;clear hv hG;go_enter func8,ntmps8;go_wp2_with fail;refine CN.mono ?_;rintro e V1 ⟨p,rfl,h,b2⟩;have CO:=jcw b2 HG.out rfl (by omega) (by omega) (by omega) (by omega) (by simp) (ver:=0) (c:=cfg0) (ax ⟨rfl,rfl,rfl⟩) (n:=20) (by omega);clear CN b2;go_wp2_with fail;refine CO.mono ?_;rintro e V2 ⟨ps,rfl,a,-⟩;have E:=j1k a;have CB:=j9j a;have hz0:((0:Int) != 0)=false:=rfl;clear CO a;go_wp2_with fail;refine E.mono ?_;rintro e _ ⟨rfl,rfl⟩;go_wp2_with fail;refine CB.mono ?_;rintro e V3 ⟨rfl,a⟩;have G:Hid (TxA w V3 p h 2048 8 ⟨false,false,0,0⟩ 0 [] ps 0 cfg0 (some cfg0) 20 []):=a;have CS:=j69 V3 none 0 0 (fun _=>0) (fun i hi=>absurd hi (by omega)) 3 (by omega) (by omega);clear E CB a;go_wp2_with fail;refine CS.mono ?_;rintro e V4 ⟨v,rfl,d,b1⟩;have CG:=j42 (G.out.join b1) d (jpn _ _) (jpm (by decide) _);obtain ⟨cl,t⟩:∃ cl,v=.agg cl:=by obtain ⟨-,u,e,-⟩:=d;exact ⟨_,e⟩
 subst t;clear CS G d b1;go_wp2_with fail;refine CG.mono ?_;rintro e V5 ⟨rfl,a⟩;have G:Hid (TxA w V5 p h 2048 8 ⟨false,false,0,0⟩ 0 [] ps 0 cfg0 (some (sc 3 [])) 20 []):=a;have CT:=jdb V5 0 (by omega) 3 (by omega) (by omega);clear CG a;go_wp2_with fail;refine CT.mono ?_;rintro e V6 ⟨z,rfl,a4,P,a3,b0⟩;have H:=(zm.lig P (by omega));have Q:=zm.sq P (by omega);have X:=G.out.join b0;have J:=j9i (y:=yP ⟨#[97]⟩ z) (HV.out V6 X.mem.below) X (by omega) a3 H (by show (1:Nat)<=1000000;omega);have S:ftsB (sc 3 []).ten (yP ⟨#[97]⟩ z).1=true:=jlo Q;have b3:stg (sc 3 []) (yP ⟨#[97]⟩ z).1=sc 3 [z.1]:=by
  rw [stg,if_pos S];show (⟨_,_,_,_,_,_,app [] [(yP ⟨#[97]⟩ z).1]⟩:Cgf)=_;rw [app_nil _ rfl];rfl
 rw [S,if_pos rfl,b3] at J;have I:=jfg ⟨#[97]⟩ z H.1.len V6;obtain ⟨Y,hY⟩:∃ Y,(yc (yP ⟨#[97]⟩ z)).toArray=Y:=⟨_,rfl⟩;rw [hY] at J I;have HZ:Hid (SQ 0 z.1/\TIn z.1/\z.1=sQ 0 3):=⟨Q,H.1,a4⟩;obtain ⟨A,a⟩:∃ A,tv z=.agg A:=⟨_,rfl⟩;rw [a] at I;rw [a];clear CT G X P a3 H Q S b3 b0 a4 hY a;go_wp2_with (refine z8 rfl 48 _ (by with_reducible rfl) I (by simp [Act.eval,Act.put]) ?_)
 refine J.mono ?_;rintro e V7 ⟨rfl,a⟩;have CC:=j66 (HV.out V7 a.mem.below) HG.out a (by omega) rfl (by omega) (by omega) (by omega) (by omega) (by simp) (by omega) (by omega);clear J a I;go_wp2_with fail;refine CC.mono ?_;rintro e V8 ⟨k,er,rfl,hc⟩;have a6:cmE 8 2048 0 (sc 3 [z.1])=0:=jow (by omega) HZ.out.2.1.len HZ.out.1 (by decide);rcases hc with ⟨-,a1,a2,-⟩|⟨rfl,rfl,-,D',hd1,hd2,hR,a⟩|⟨-,-,-,a1,-⟩
 ·exact absurd (a1.trans a6) a2
 ·have hD:=hd2 rfl;subst hD;have E:=j1k a;have b4:=jcx a (by omega);have G:Hid (TxA w V8 p h 2048 8 ⟨false,false,0,0⟩ (0+1) ([]++[jz (0+1) (sc 3 [z.1])]) ps (0+1) (sc 3 [z.1]) none (20+1) []):=a;have e1:((0:Int)+1)=1:=rfl;have w1:IntKind.i64.wrap (0+0)=0:=rfl;clear CC a6 a hR hd1 hd2;go_wp2_with fail;refine E.mono ?_;rintro e _ ⟨rfl,rfl⟩;go_wp2_with fail;refine b4.mono ?_;rintro e l ⟨v,rfl,T⟩;have a7:=T.below;have d:=T.cv (G.out.lig.1.cin.len);obtain ⟨b5,t⟩:∃ cl,v=.agg cl:=by obtain ⟨-,u,e,-⟩:=d;exact ⟨_,e⟩
  subst t;have a8:Below l.heap.size l (l.alloc (.cells #[.int .u16 3] 42)):=(Below.refl _ _).alloc (aA _) _;have a5:∀ i,i<1->∃ b a0,(some ⟨l.heap.size,0,none⟩:Option Addr)=some ⟨b,a0,none⟩/\(l.alloc (.cells #[.int .u16 3] 42)).cell? ⟨b,a0+i,none⟩=some (.int .u16 3)/\(0:Int)<=3/\(3:Int)<=65535:=by
   intro i hi;obtain rfl:i=0:=by omega
   exact ⟨l.heap.size,0,rfl,by rw [World.cell?_alloc_new];rfl,by omega,by omega⟩
  have CS:=j69 (l.alloc (.cells #[.int .u16 3] 42)) (some ⟨l.heap.size,0,none⟩) 1 1 (fun _=>3) a5 3 (by omega) (by omega);have s:Hid (CV l (.agg b5) (sc 3 [z.1])/\Below V8.heap.size V8 l/\Below l.heap.size l (l.alloc (.cells #[.int .u16 3] 42))):=⟨d,a7,a8⟩;clear E b4 T d a7 a8 a5;go_wp2_with fail;refine CS.mono ?_;rintro e Z ⟨v2,rfl,q,M⟩;have U:Below l.heap.size l Z:=s.out.2.2.trans (M.mono s.out.2.2.size);have a9:Below V8.heap.size V8 Z:=s.out.2.1.trans (U.mono s.out.2.1.size);have e3:(sc (Int.tmod 3 8) ((ap (min 1 4)).map fun j=>sQ j 3))=sc 3 [z.1]:=by rw [HZ.out.2.2];rfl
  rw [e3] at q;obtain ⟨b9,t⟩:∃ cl,v2=.agg cl:=by obtain ⟨-,u,e,-⟩:=q;exact ⟨_,e⟩
  subst t;have CH:=j3e (s.out.1.at_ U (aA _)) q (jad G.out.lig.1) (j1z _);have O:Hid (TxA w Z p h 2048 8 ⟨false,false,0,0⟩ (0+1) ([]++[jz (0+1) (sc 3 [z.1])]) ps (0+1) (sc 3 [z.1]) none (20+1) []):=G.out.join a9;clear CS q M U a9 e3 s G;go_wp2_with fail;refine CH.mono ?_;rintro e b6 ⟨rfl,K⟩;have r:=O.out.join K;have b8:=j7o r;have b7:=j7n r (v:=0) (k:=112) (aw ⟨rfl,by decide,rfl⟩);have HE:Hid (Below w.heap.size w b6):=r.mem.below;clear CH O K r;go_wp2_with fail;refine b8.mono ?_;rintro e _ ⟨rfl,rfl⟩;go_wp2_with fail;refine b7.mono ?_;rintro e _ ⟨rfl,rfl⟩;go_wp2_with fail;go_ret;exact ⟨rfl,HE.out⟩
 ·cases a1
def sgK (st:Option Cgf) (g:Chg):Int:=match st with
 | none=>111
 | some c1=>if ftsB c1.ten g=true then 0 else 90
def sgS (st:Option Cgf) (g:Chg):Option Cgf:=st.map fun c1=>stg c1 g
section
variable {w W:World} {p h m N:Nat} {D:Dk} {B:Int} {all:List (List Int)} {ps:Nat} {ver:Int} {c:Cgf} {st:Option Cgf} {n:Nat} {L:List (Nat×Obj)}
theorem TxA.grow (H:TxA w W p h m N D B all ps ver c st n L) (a:n<=n'):TxA w W p h m N D B all ps ver c st n' L:=by
 obtain ⟨pl,u,sp,K,j,e,d,l,b⟩:=H;exact ⟨pl,u,sp,K,j,e,d,by omega,b.more (fun x hx=>hx) a⟩
theorem j65 (l:Vs W) (H:TxA w W p h m N D B all ps ver c st n L) (q:n<=900) {y:Hv} (b:Rws W (yz y)) (j:TIn y.1.t/\TRg y.1.t/\Lgt y.1.t) (a:y.1.name.size<=1000000) :
 Calls prog 29 #[.pointer (some ⟨ps,0,none⟩),.agg (yc y).toArray] W fun e d=>e=.returned (.int .i64 (sgK st y.1))/\TxA w d p h m N D B all ps ver c (sgS st y.1) (n+1) L:=by
 cases st with
 | some c1=>exact j9i l H q b j a
 | none =>
  refine (j7m H _).mono ?_;rintro e d ⟨rfl,hb⟩;exact ⟨rfl,(H.join hb).grow (by omega)⟩
end
section
variable {w W:World} {F:List (Nat×Obj)} {pm:Nat} {ver:Int} {c:Cgf} {sm:Option Cgf} {L R:List (Nat×Obj)}
theorem j80 (s:Vs W) (h:RmS w F pm ver c sm L) {y:Hv} (l:∀ x∈C,x∈F) (z:On w C (fun X=>Rws X (yz y))) (j:Mem w W (L++R)) (u:∀ c1,sm=some c1->c1.ten.length<=390) (d:TLen y.1.t) (b:y.1.name.size<=1000000) (a:y.1.t.name.size<=1000000) :
 Calls prog 30 #[.pointer (some ⟨pm,0,none⟩),.agg (yc y).toArray] W fun e q=>e=.returned (.int .i64 (sgK sm y.1))/\∃ r,RmS w F pm ver c (sgS sm y.1) r/\Mem w q (r++R):=by
 cases sm with
 | some c1=>exact jgi s h l z j (u c1 rfl) d b a
 | none =>
  refine (j7z h j _).mono ?_;rintro e q ⟨rfl,hb⟩;exact ⟨rfl,L,h,j.after hb⟩
end
def Bo (w W:World) (F:List (Nat×Obj)) (p h m N:Nat) (D:Dk) (all:List (List Int)) (ps pm:Nat) (ver:Int) (c:Cgf) (st:Option Cgf) (n:Nat):Prop :=
 D.dead=false/\Rst all ver c/\(all.length:Int)=ver/\∃ L,RmS w F pm ver c st L/\TxA w W p h m N D ver all ps ver c st n L
section
variable {w W:World} {F:List (Nat×Obj)} {p h m N:Nat} {D:Dk} {all:List (List Int)} {ps pm:Nat} {ver:Int} {c:Cgf} {st:Option Cgf} {n:Nat}
theorem Bo.less (H:Bo w W F p h m N D all ps pm ver c st n) (hs:∀ x∈F',x∈F):Bo w W F' p h m N D all ps pm ver c st n:=by
 obtain ⟨j,e,d,L,b,a⟩:=H;exact ⟨j,e,d,L,b.less hs,a⟩
theorem Bo.join (H:Bo w W F p h m N D all ps pm ver c st n) (hb:Below W.heap.size W V):Bo w V F p h m N D all ps pm ver c st n:=by
 obtain ⟨j,e,d,L,b,a⟩:=H;exact ⟨j,e,d,L,b,a.join hb⟩
theorem Bo.push (H:Bo w W F p h m N D all ps pm ver c st n) (k:Mem W V C):Bo w V (C++F) p h m N D all ps pm ver c st n:=by
 obtain ⟨j,e,d,L,b,a⟩:=H;exact ⟨j,e,d,C++L,b.more C,a.push k⟩
theorem Bo.has (H:Bo w W F p h m N D all ps pm ver c st n):∀ x∈F,W.heap[x.1]?=some x.2:=by
 obtain ⟨j,e,d,L,b,a⟩:=H;exact fun x hx=>a.mem.at_ x (b.keeps x hx)
theorem Bo.below (H:Bo w W F p h m N D all ps pm ver c st n):Below w.heap.size w W:=by
 obtain ⟨j,e,d,L,b,a⟩:=H;exact a.mem.below
theorem Bo.lig {c1:Cgf} (H:Bo w W F p h m N D all ps pm ver c (some c1) n):Lig c1/\c1.ten.length<=n:=by
 obtain ⟨j,e,d,L,b,a⟩:=H;exact a.ligT
def BoH (w W:World) (F:List (Nat×Obj)) (p h m N:Nat) (D:Dk) (all:List (List Int)) (ps pm:Nat) (ver:Int) (c:Cgf) (st st':Option Cgf) (n:Nat):Prop :=
 D.dead=false/\Rst all ver c/\(all.length:Int)=ver/\∃ L,RmS w F pm ver c st L/\TxA w W p h m N D ver all ps ver c st' n L
theorem BoH.has {a:Option Cgf} (H:BoH w W F p h m N D all ps pm ver c st a n):∀ x∈F,W.heap[x.1]?=some x.2:=by
 obtain ⟨l,j,e,L,d,b⟩:=H;exact fun x hx=>b.mem.at_ x (d.keeps x hx)
theorem BoH.below {a:Option Cgf} (H:BoH w W F p h m N D all ps pm ver c st a n):Below w.heap.size w W:=by
 obtain ⟨l,j,e,L,d,b⟩:=H;exact b.mem.below
theorem jfl (j:Vs W) (H:Bo w W F p h m N D all ps pm ver c st n) (l:n<=900) {y:Hv} (b:Rws W (yz y)) (d:TIn y.1.t/\TRg y.1.t/\Lgt y.1.t) (a:y.1.name.size<=1000000) :
 Calls prog 29 #[.pointer (some ⟨ps,0,none⟩),.agg (yc y).toArray] W fun e V=>e=.returned (.int .i64 (sgK st y.1))/\BoH w V F p h m N D all ps pm ver c st (sgS st y.1) (n+1):=by
 obtain ⟨A,z,u,L,s,r⟩:=H;refine (j65 j r l b d a).mono ?_;rintro e V ⟨rfl,q⟩;exact ⟨rfl,A,z,u,L,s,q⟩
theorem jfk (l:Vs W) {y:Hv} (H:BoH w W (C++F) p h m N D all ps pm ver c st (sgS st y.1) n) (s:On w C (fun X=>Rws X (yz y))) (q:∀ c1,st=some c1->c1.ten.length<=390) (d:TLen y.1.t) (b:y.1.name.size<=1000000) (a:y.1.t.name.size<=1000000) :
 Calls prog 30 #[.pointer (some ⟨pm,0,none⟩),.agg (yc y).toArray] W fun e V=>e=.returned (.int .i64 (sgK st y.1))/\Bo w V F p h m N D all ps pm ver c (sgS st y.1) n:=by
 obtain ⟨I,G,E,L,A,z⟩:=H;obtain ⟨R,r,hb⟩:=z.frame;refine (j80 l A (fun x hx=>by simp [hx]) s r q d b a).mono ?_;rintro e V ⟨rfl,J,u,j⟩;exact ⟨rfl,I,G,E,J,u.less (fun x hx=>by simp [hx]),hb _ _ j⟩
end
section
variable {w W:World} {F:List (Nat×Obj)} {p h m N:Nat} {D:Dk} {all:List (List Int)} {ps pm:Nat} {ver:Int} {c:Cgf} {st:Option Cgf} {n:Nat} {x:Ac}
theorem Bo.at_ (H:Bo w W F p h m N D all ps pm ver c st n) (a:(g,o)∈F):W.heap[g]?=some o:=H.has (g,o) a
theorem BoH.at_ {a:Option Cgf} (H:BoH w W F p h m N D all ps pm ver c st a n) (b:(g,o)∈F):W.heap[g]?=some o:=H.has (g,o) b
theorem jhh {t:Ten} (h:Lgt t) (a:TLen t) (hb:TBy t):TIn t:=by
 obtain ⟨j,e,d,b⟩:=h;exact ⟨a,hb.key,hb.vmac,hb.host,by omega,by omega,by omega,by omega⟩
end
section
variable {w W:World} {F:List (Nat×Obj)} {p h m N:Nat} {D:Dk} {all:List (List Int)} {ps pm:Nat} {ver:Int} {c:Cgf} {st:Option Cgf} {n:Nat} {x:Ac}
end
end
end Go.Proofs.YtdigofgjhaakmaaGreatDoor
