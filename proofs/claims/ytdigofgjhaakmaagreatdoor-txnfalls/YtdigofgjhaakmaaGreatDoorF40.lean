/- Parts of the proof. -/
import Derived.Test.YtdigofgjhaakmaaGreatDoorF39
set_option linter.all false
set_option maxHeartbeats 40000000
set_option maxRecDepth 20000
open Go.Proofs.Tryz
open List renaming mem_singleton->aa,getD->ab,perm_iff_count->ac,count_append->ad,count_cons->ae,mem_append_left->af,nodup_append->ag,map_append->ah,length_map->ai,mem_cons->aj,mem_append->ak,cons_append->al,append_assoc->am,perm_append_comm->an,mem_cons_of_mem->ao,getElem?_toArray->ap,not_mem_nil->aq,length_append->ar,length_cons->au,length_nil->av,range->aw,getElem?_map->ax,getElem?_eq_getElem->ay,getElem?_eq_none->az,mem_toArray->aA,getElem?_cons_succ->aB,getElem?_append_right->aD,size_toArray->aE
open Or renaming inr->aF,inl->aG
open List.Perm renaming refl->aH
open Int renaming tmod->aI,tmod_eq_emod_of_nonneg->aJ
open Nat renaming min_le_left->aK,le_refl->aL
open Option renaming map_some->aM,some->aN
open Go.Act renaming eval->aO,put->aP
open Go.AllReadyH renaming cons->aQ,nil->aR
namespace Go.Proofs.YtdigofgjhaakmaaGreatDoor
variable {C F' K':List (Nat×Obj)} {v:Value} {V w w' W:World} {A:Array Value} {g n' i:Nat} {ga:Addr} {k f ver x:Int} {all:List (List Int)} {sp:Option Addr} {o:Obj} {e:Ending}
section
open Go.RowKit Sm Cf Df Va
def Trn (w:World) (K:List (Nat×Obj)) (n:Nat) (sp:Option Addr):Option Cgf->Prop
 | none=>sp=none
 | some c1=>∃ g u1,sp=some ⟨g,0,none⟩/\bxC g c1 u1∈K/\On w K (fun X=>TSV X u1 c1.ten)/\Lig c1/\c1.ten.length<=n
def TxA (w W:World) (p h m N:Nat) (D:Dk) (B:Int) (all:List (List Int)) (ps:Nat) (ver:Int) (c:Cgf) (st:Option Cgf) (n:Nat) (L:List (Nat×Obj)):Prop :=
 ∃ pl u sp K,Sy w W p h m N D pl B all (bxS ps pl ver c u sp false::(K++L))/\On w K (fun X=>TSV X u c.ten)/\Lig c/\c.ten.length<=n/\Trn w K n sp st
theorem Trn.more {K:List (Nat×Obj)} {n:Nat} {st:Option Cgf} (h:Trn w K n sp st) (hs:∀ x∈K,x∈K') (l:n<=n'):Trn w K' n' sp st:=by
 cases st with
 | none=>exact h
 | some c1 =>
  obtain ⟨g,u1,j,d,b,a,q⟩:=h;exact ⟨g,u1,j,hs _ d,b.more hs,a,by omega⟩
theorem j6i {c:Cgf} (h:Lig c) {j:List Tv} (e:j.map Prod.fst=c.ten):∀ z∈j,TFew z.1/\Nf z.1:=by
 intro z l;have q:z.1∈c.ten:=by rw [<-e];exact List.mem_map_of_mem l
 obtain ⟨a,b,d,f⟩:=(h.ten _ q).2.2;exact ⟨⟨by omega,by omega,by omega⟩,by omega,by omega,by omega,by omega⟩
theorem jo9 {c1:Cgf} (h:Lig c1) {y:Chg} (a:TIn y.t/\TRg y.t/\Lgt y.t):Lig { c1 with ten:=app c1.ten [y] } :=
 ⟨⟨⟨h.cin.len.mac,h.cin.len.omac,h.cin.len.nmac,h.cin.len.key⟩,h.cin.mac,h.cin.omac,h.cin.nmac,h.cin.key⟩,⟨h.crg.ip,h.crg.drain⟩,fun t b=>by
  rcases jo0 b with hx|⟨h',hm,-,rfl⟩
  ·exact h.ten t hx
  ·rw [aa] at hm;subst hm;exact a⟩
theorem jjt {c1 b:Cgf} (h:Lig c1) (a:CIn b) (d:CRg b):Lig { b with ten:=c1.ten } :=
 ⟨⟨⟨a.len.mac,a.len.omac,a.len.nmac,a.len.key⟩,a.mac,a.omac,a.nmac,a.key⟩,⟨d.ip,d.drain⟩,h.ten⟩
theorem ka (l:List Int) (h:∀ x∈l,0<=x/\x<=255):j6 l:=by
 intro i;by_cases hi:i<l.length
 ·have:=h _ (List.getElem_mem hi);simpa [ab,hi] using this
 ·simp [ab,hi]
theorem lig0:Lig cfg0:=⟨⟨yw,ka _ (by decide),ka _ (by decide),ka _ (by decide),ka _ (by decide)⟩,⟨by decide,by decide⟩,by simp [cfg0]⟩
section
variable {w W:World} {p h m N:Nat} {D:Dk} {B:Int} {all:List (List Int)} {ps:Nat} {ver:Int} {c:Cgf} {st:Option Cgf} {n:Nat} {L:List (Nat×Obj)}
theorem TxA.join (H:TxA w W p h m N D B all ps ver c st n L) (hb:Below W.heap.size W V):TxA w V p h m N D B all ps ver c st n L:=by
 obtain ⟨pl,u,sp,K,b,a⟩:=H;exact ⟨pl,u,sp,K,b.join (mem0 hb),a⟩
theorem TxA.push (H:TxA w W p h m N D B all ps ver c st n L) (k:Mem W V K'):TxA w V p h m N D B all ps ver c st n (K'++L):=by
 obtain ⟨pl,u,sp,K,d,b⟩:=H;refine ⟨pl,u,sp,K,?_,b⟩;obtain ⟨R,a,hb⟩:=d.frame;refine hb _ _ ((a.more k).perm ?_)
 classical
 rw [ac];intro z;simp only [ad,ae];omega
theorem TxA.frame (H:TxA w W p h m N D B all ps ver c st n L):∃ R,Mem w W (L++R)/\∀ d a,Mem w d (a++R)->TxA w d p h m N D B all ps ver c st n a:=by
 obtain ⟨pl,u,sp,K,r,q⟩:=H;obtain ⟨R,l,hb⟩:=r.frame;have j:∀ L,((bxS ps pl ver c u sp false::(K++L))++R).Perm (L++(bxS ps pl ver c u sp false::(K++R))):=by
  intro L
  classical
  rw [ac];intro z;simp only [ad,ae];omega
 exact ⟨_,l.perm (j L),fun d a b=>⟨pl,u,sp,K,hb _ _ (b.perm (j a).symm),q⟩⟩
theorem TxA.mem (H:TxA w W p h m N D B all ps ver c st n L):Mem w W L:=by
 obtain ⟨R,a,-⟩:=H.frame;exact ⟨a.below,fun x hx=>a.low x (af _ hx),fun x hx=>a.at_ x (af _ hx),(ag.mp (by rw [<-ah];exact a.apart)).1⟩
theorem TxA.sd (H:TxA w W p h m N D B all ps ver c st n L):Sd w W p h m N D B all L:=by
 obtain ⟨pl,u,sp,K,a,b⟩:=H;have:=a.sd;rw [show bxS ps pl ver c u sp false::(K++L)=(bxS ps pl ver c u sp false::K)++L from rfl] at this;exact this.sub
theorem TxA.lig (H:TxA w W p h m N D B all ps ver c st n L):Lig c/\c.ten.length<=n:=by
 obtain ⟨pl,u,sp,K,l,j,b,a,d⟩:=H;exact ⟨b,a⟩
theorem TxA.ligT {c1:Cgf} (H:TxA w W p h m N D B all ps ver c (some c1) n L):Lig c1/\c1.ten.length<=n:=by
 obtain ⟨pl,u,sp,K,t,s,r,q,g,u1,l,j,d,b,a⟩:=H;exact ⟨b,a⟩
theorem j25 (H:TxA w W p h m N D B all ps ver c st n L):Calls prog 15 #[.pointer (some ⟨ps,0,none⟩)] W fun e b=>e=.returned (.int .u64 ver)/\W=b:=by
 obtain ⟨pl,u,sp,K,a,d⟩:=H;exact j3j (bx1 a.mem)
theorem j7f (H:TxA w W p h m N D B all ps ver c st n L) (s:n<=900):Calls prog 17 #[.pointer (some ⟨ps,0,none⟩)] W fun e V=>∃ v,e=.returned v/\Cpd W c c.ten v V:=by
 obtain ⟨pl,u,sp,K,r,q,d,y,-⟩:=H;have b:=r.mem;have l:=q.mem b (by intro x hx;simp [hx]);obtain ⟨j,e,a⟩:=Df.TSV.zv l;have t:j.length=c.ten.length:=by rw [<-e,ai]
 have:=j2q (j5l b) d.cin.len a (fun z a=>(j6i d e z a).1) (by omega);rw [e] at this;exact this
theorem jaz (H:TxA w W p h m N D B all ps ver c none n L):Calls prog 22 #[.pointer (some ⟨ps,0,none⟩),.int .u64 ver] W fun e l=>e=.returned (.int .i64 0)/\TxA w l p h m N D B all ps ver c (some c) n L:=by
 obtain ⟨pl,u,sp,K,s,j,b,d,r⟩:=H;cases r;obtain ⟨R,q,hb⟩:=s.frame;refine (jl4 (L:=K++L++R) q b.cin.len).mono ?_;rintro e l ⟨g,rfl,a⟩;refine ⟨rfl,pl,u,_,bxC g c u::K,hb _ _ ?_,j.more (fun x hx=>by simp [hx]),b,d,g,u,rfl,by simp,j.more (fun x hx=>by simp [hx]),b,d⟩;exact a
theorem j17 (H:TxA w W p h m N D B all ps ver c st n L) {v:Int} (j:(st≠none/\k=110)\/(st=none/\v≠ver/\k=112)):Calls prog 22 #[.pointer (some ⟨ps,0,none⟩),.int .u64 v] W fun e s=>e=.returned (.int .i64 k)/\W=s:=by
 obtain ⟨pl,u,sp,K,r,y,q,t,l⟩:=H;have d:=r.mem;have e:bgc false sp v ver=k:=by
  rcases j with ⟨a,rfl⟩|⟨rfl,b,rfl⟩
  ·cases st with
   | none=>exact absurd rfl a
   | some c1=>obtain ⟨g,u1,rfl,-⟩:=l;rfl
  ·cases l;simp [bgc,b]
 have:=jca (v:=v) (bx1 d) (bx31 d q.cin.len) (bx32 d q.cin.len) (by rw [e];rcases j with ⟨-,rfl⟩|⟨-,-,rfl⟩<;>decide);rw [e] at this;exact this
theorem ji9 {c1:Cgf} (H:TxA w W p h m N D B all ps ver c (some c1) n L):Calls prog 23 #[.pointer (some ⟨ps,0,none⟩)] W fun e d=>e=.returned (.int .i64 0)/\TxA w d p h m N D B all ps ver c none n L:=by
 obtain ⟨pl,u,sp,K,r,q,b,l,g,u1,rfl,s⟩:=H;obtain ⟨R,j,hb⟩:=r.frame;refine (jle (L:=K++L++R) j b.cin.len).mono ?_;rintro e d ⟨rfl,a⟩;exact ⟨rfl,pl,u,_,K,hb _ _ a,q,b,l,rfl⟩
theorem j3o (H:TxA w W p h m N D B all ps ver c none n L):Calls prog 23 #[.pointer (some ⟨ps,0,none⟩)] W fun e l=>e=.returned (.int .i64 111)/\W=l:=by
 obtain ⟨pl,u,sp,K,j,r,b,q,d⟩:=H;cases d;have a:=j.mem;exact jcg (bx31 a b.cin.len) (bx32 a b.cin.len) (by decide)
theorem j52 {c1 a:Cgf} (H:TxA w W p h m N D B all ps ver c (some c1) n L) (r:CV W v a) (l:CIn a) (d:CRg a):Calls prog 26 #[.pointer (some ⟨ps,0,none⟩),v] W fun e G=>e=.returned (.int .i64 0)/\TxA w G p h m N D B all ps ver c (some { a with ten:=c1.ten }) n L:=by
 obtain ⟨pl,u,sp,K,P,O,z,M,g,u1,rfl,J,y,t,I⟩:=H;obtain ⟨j,u2,rfl,-⟩:=r;obtain ⟨R,s,hb⟩:=P.frame;have b:=(y.mem s (by intro x hx;simp [hx])).slice;refine (jdi (L:=K++L++R) s (by simp [J]) z.cin.len t.cin.len j b).mono ?_;rintro e G ⟨E,rfl,q⟩;exact ⟨rfl,pl,u,_,bxC E { a with ten:=c1.ten } u1::K,hb _ _ q,O.more (fun x hx=>by simp [hx]),z,M,E,u1,rfl,by simp,y.more (fun x hx=>by simp [hx]),jjt t l d,I⟩
theorem j5q (H:TxA w W p h m N D B all ps ver c none n L) {q:Cgf} (a:CV W v q):Calls prog 26 #[.pointer (some ⟨ps,0,none⟩),v] W fun e r=>e=.returned (.int .i64 111)/\Below W.heap.size W r:=by
 obtain ⟨pl,u,sp,K,l,t,j,s,d⟩:=H;cases d;obtain ⟨b,u2,rfl,-⟩:=a;exact jdj l.mem j.cin.len (by decide) _
theorem j8z (H:TxA w W p h m N D B all ps ver c none n L) (cl:Array Value):Calls prog 29 #[.pointer (some ⟨ps,0,none⟩),.agg cl] W fun e j=>e=.returned (.int .i64 111)/\Below W.heap.size W j:=by
 obtain ⟨pl,u,sp,K,d,q,b,l,a⟩:=H;cases a;exact jex d.mem b.cin.len (by decide) _
def stg (c1:Cgf) (y:Chg):Cgf:=if ftsB c1.ten y=true then { c1 with ten:=app c1.ten [y] } else c1
theorem jay (P:Vs W) {c1:Cgf} (H:TxA w W p h m N D B all ps ver c (some c1) n L) (S:n<=900) {y:Hv} (j:Rws W (yz y)) (l:TIn y.1.t/\TRg y.1.t/\Lgt y.1.t) (d:y.1.name.size<=1000000) :
 Calls prog 29 #[.pointer (some ⟨ps,0,none⟩),.agg (yc y).toArray] W fun e M=>e=.returned (.int .i64 (if ftsB c1.ten y.1=true then 0 else 90))/\TxA w M p h m N D B all ps ver c (some (stg c1 y.1)) (n+1) L:=by
 obtain ⟨pl,u,sp,K,J,I,r,Y,g,u1,rfl,G,E,a,U⟩:=H;obtain ⟨R,s,hb⟩:=J.frame;obtain ⟨O,e,b⟩:=Df.TSV.zv (E.mem s (by intro x hx;simp [hx]));have T:O.length=c1.ten.length:=by rw [<-e,ai]
 obtain ⟨a1,a2,a3,a4⟩:=l.2.2;refine (jcr P (L:=K++L++R) s (by simp [G]) r.cin.len a.cin.len b e (fun z b=>(j6i a e z b).2) (by omega) l.1.len j ⟨by omega,by omega,by omega,by omega⟩ d).mono ?_;rintro Z M (⟨hf,rfl,hbl⟩|⟨hf,rfl,g',u',B',C',hT,hM'⟩)
 ·rw [if_neg (by rw [hf];decide),stg,if_neg (by rw [hf];decide)];exact ⟨rfl,pl,u,_,K,J.join (mem0 hbl),I,r,by omega,g,u1,rfl,G,E,a,by omega⟩
 ·rw [if_pos hf,stg,if_pos hf];have Q:On w (bxC g' { c1 with ten:=app c1.ten [y.1] } u'::(B'++C'++K)) (fun X=>TSV X u' (app c1.ten [y.1])):=jpu hT (by intro x hx;simp only [aj,ak] at hx ⊢;exact aF (aG hx));have q:=j5i c1.ten [y.1];simp only [List.length_singleton] at q;refine ⟨rfl,pl,u,_,bxC g' { c1 with ten:=app c1.ten [y.1] } u'::(B'++C'++K),hb _ _ ?_,I.more (fun x hx=>by simp [hx]),r,by omega,g',u',rfl,by simp,Q,jo9 a l,by show (app c1.ten [y.1]).length<=n+1;omega⟩;refine hM'.perm ?_;simp only [al,am];exact aH _
theorem jet {c1:Cgf} (H:TxA w W p h m N D B all ps ver c (some c1) n L) (t:n<=900):Calls prog 32 #[.pointer (some ⟨ps,0,none⟩)] W fun e V=>∃ v,e=.returned (.tuple #[v,.int .i64 0])/\Cpd W c1 c1.ten v V:=by
 obtain ⟨pl,u,sp,K,s,I,r,G,g,u1,rfl,q,l,d,E⟩:=H;have b:=s.mem;obtain ⟨j,e,a⟩:=Df.TSV.zv (l.mem b (by intro x hx;simp [hx]));have y:j.length=c1.ten.length:=by rw [<-e,ai]
 have:=jev b (by simp [q]) r.cin.len d.cin.len a (fun z a=>(j6i d e z a).1) (by omega);rw [e] at this;exact this
theorem j7d (H:TxA w W p h m N D B all ps ver c none n L):Calls prog 32 #[.pointer (some ⟨ps,0,none⟩)] W fun e j=>e=.returned (.tuple #[.agg cz,.int .i64 111])/\Below W.heap.size W j:=by
 obtain ⟨pl,u,sp,K,d,q,b,l,a⟩:=H;cases a;exact jew d.mem b.cin.len (by decide)
theorem j7g (H:TxA w W p h m N D B all ps ver c none n L):Calls prog 31 #[.pointer (some ⟨ps,0,none⟩)] W fun e j=>e=.returned (.tuple #[.int .u64 0,.int .i64 111])/\W=j:=by
 obtain ⟨pl,u,sp,K,d,q,b,l,a⟩:=H;cases a;exact jhd d.mem b.cin.len (by decide)
end
def TxD (w W:World) (p h m N:Nat) (B:Int) (all:List (List Int)) (ps:Nat) (ver:Int) (c:Cgf) (n:Nat) (L:List (Nat×Obj)):Prop :=
 ∃ pl u K,Sd w W p h m N gone B all (bxS ps pl ver c u none true::(K++L))/\On w K (fun X=>TSV X u c.ten)/\Lig c/\c.ten.length<=n
theorem Rst.lig {c:Cgf} (h:Rst all ver c):Lig c/\c.ten.length<=16:=by
 rcases h with ⟨-,-,rfl⟩|⟨-,-,-,h,-⟩
 ·exact ⟨lig0,by decide⟩
 ·exact ⟨h.lig,h.len⟩
section
variable {w W:World} {p h m N:Nat} {D:Dk} {B:Int} {all:List (List Int)} {ps:Nat} {ver:Int} {c:Cgf} {st:Option Cgf} {n:Nat} {L:List (Nat×Obj)}
theorem j90 (H:Sd w W p h m N D B all L) (s:Gl w ga) (hd:D.dead=false) (q:4<=N) (r:256<=m) (t:B<=1000000) (j:0<=B) (b:all.length<=900) (d:Rst all ver c) {n:Nat} (a:16<=n) :
 Calls prog 11 #[.pointer (some ⟨p,0,none⟩)] W fun e l=>∃ ps,e=.returned (.tuple #[.pointer (some ⟨ps,0,none⟩),.int .i64 0])/\TxA w l p h m N D B all ps ver c none n L/\Below W.heap.size W l:=by
 refine (jqq H s hd q r t j b d).mono ?_;rintro e l ⟨ps,rfl,pl,u,K,E,z,y⟩;exact ⟨ps,rfl,⟨pl,u,none,K,E,z,d.lig.1,Nat.le_trans d.lig.2 a,rfl⟩,y⟩
def cmE (N m:Nat) (ver:Int) (c1:Cgf):Int:=if chk c1=0 then if room N m<(jt (ver+1) c1).length then 51 else 0 else chk c1
def CmR (w:World) (p h m N:Nat) (D:Dk) (B:Int) (all:List (List Int)) (ps:Nat) (ver:Int) (c c1:Cgf) (n:Nat) (L:List (Nat×Obj)) (k er:Int) (W':World):Prop :=
 (k=0/\er=cmE N m ver c1/\er≠0/\TxA w W' p h m N D B all ps ver c (some c1) n L) \/
 (k=ver+1/\er=0/\cmE N m ver c1=0/\∃ D',D'.dead=false/\(D.set=false->D'=D)/\Rst (all++[jt (ver+1) c1]) (ver+1) c1/\TxA w W' p h m N D' (B+1) (all++[jt (ver+1) c1]) ps (ver+1) c1 none n L) \/
 (k=0/\er=42/\cmE N m ver c1=0/\D.set=true/\Rst (all++[jt (ver+1) c1]) (ver+1) c1/\(TxD w W' p h m N (B+1) all ps ver c n L\/TxD w W' p h m N (B+1) (all++[jt (ver+1) c1]) ps ver c n L))
theorem j7h (M:Vs W) (X:Gl w ga) {c1:Cgf} (H:TxA w W p h m N D B all ps ver c (some c1) n L) (P:n<=900) (hd:D.dead=false) (Q:4<=N) (S:256<=m) (Y:B<=800000) (s:0<=B) (r:all.length<=800000) (q:0<=ver) (l:ver<900000) :
 Calls prog 31 #[.pointer (some ⟨ps,0,none⟩)] W fun e J=>∃ k j,e=.returned (.tuple #[.int .u64 k,.int .i64 j])/\CmR w p h m N D B all ps ver c c1 n L k j J:=by
 have HH:=H;obtain ⟨pl,u,sp,K,I,G,y,E,g,u1,rfl,h6,z,t,Z⟩:=H;have U:=z.mem I.mem (by intro x hx;simp [hx]);have O:=room_le N m;have b:chk c1=0->(jt (ver+1) c1).length<=room N m->Rst (all++[jt (ver+1) c1]) (ver+1) c1:=fun e T=>aF ⟨by rw [List.getLast?_concat],by omega,by omega,jkv t e,by omega⟩;have d:chk c1=0->(jt (ver+1) c1).length<=room N m->cmE N m ver c1=0:=fun e T=>by rw [cmE,if_pos e,if_neg (by omega)]
 refine (jdw M X I (by simp [h6]) y.cin.len t U (by omega) hd Q S Y s r q l).mono ?_;rintro e J ⟨k,j,rfl,hc⟩;refine ⟨k,j,rfl,?_⟩;rcases hc with ⟨rfl,a1,a2,a3,a4⟩|⟨a1,a2,rfl,rfl,D',a3,a4,a5⟩|⟨a1,a2,rfl,rfl,a3,a4,a5⟩
 ·exact aG ⟨rfl,a3,a1,HH.join a4⟩
 ·exact aF (aG ⟨rfl,rfl,d a1 a2,D',a3,a4,b a1 a2,pl,u1,none,K,a5,z,t,Z,rfl⟩)
 ·refine aF (aF ⟨rfl,rfl,d a1 a2,a3,b a1 a2,?_⟩);rcases a5 with a|a
  ·exact aG ⟨pl,u,K,a,G,y,E⟩
  ·exact aF ⟨pl,u,K,a,G,y,E⟩
theorem Sd.memL (H:Sd w W p h m N D B all L):Mem w W L:=by
 obtain ⟨R,a,-⟩:=H.frame;exact ⟨a.below,fun x hx=>a.low x (af _ hx),fun x hx=>a.at_ x (af _ hx),(ag.mp (by rw [<-ah];exact a.apart)).1⟩
theorem TxD.join (H:TxD w W p h m N B all ps ver c n L) (hb:Below W.heap.size W V):TxD w V p h m N B all ps ver c n L:=by
 obtain ⟨pl,u,K,b,a⟩:=H;exact ⟨pl,u,K,b.join (mem0 hb),a⟩
theorem TxD.sd (H:TxD w W p h m N B all ps ver c n L):Sd w W p h m N gone B all L:=by
 obtain ⟨pl,u,K,a,b⟩:=H;rw [show bxS ps pl ver c u none true::(K++L)=(bxS ps pl ver c u none true::K)++L from rfl] at a;exact a.sub
theorem ji3 (H:TxD w W p h m N B all ps ver c n L) (v:Int):Calls prog 22 #[.pointer (some ⟨ps,0,none⟩),.int .u64 v] W fun e j=>e=.returned (.int .i64 113)/\W=j:=by
 obtain ⟨pl,u,K,d,q,b,l⟩:=H;have a:=d.memL;exact jca (bx1 a) (bx31 a b.cin.len) (bx32 a b.cin.len) (by show (113:Int)≠0;decide)
theorem ji4 (H:TxD w W p h m N B all ps ver c n L):Calls prog 23 #[.pointer (some ⟨ps,0,none⟩)] W fun e j=>e=.returned (.int .i64 113)/\W=j:=by
 obtain ⟨pl,u,K,d,q,b,l⟩:=H;have a:=d.memL;exact jcg (bx31 a b.cin.len) (bx32 a b.cin.len) (by decide)
theorem jmo (H:TxD w W p h m N B all ps ver c n L):Calls prog 18 #[.pointer (some ⟨ps,0,none⟩)] W fun e d=>e=.returned (.bool true)/\W=d:=by
 obtain ⟨pl,u,K,b,l,a,j⟩:=H;exact jkj (bx32 b.memL a.cin.len)
theorem jco (H:TxD w W p h m N B all ps ver c n L):Calls prog 15 #[.pointer (some ⟨ps,0,none⟩)] W fun e b=>e=.returned (.int .u64 ver)/\W=b:=by
 obtain ⟨pl,u,K,a,l,j,d⟩:=H;exact j3j (bx1 a.memL)
theorem jen (H:TxD w W p h m N B all ps ver c n L) (s:n<=900):Calls prog 17 #[.pointer (some ⟨ps,0,none⟩)] W fun e V=>∃ v,e=.returned v/\Cpd W c c.ten v V:=by
 obtain ⟨pl,u,K,r,q,d,y⟩:=H;have b:=r.memL;have l:=q.mem b (by intro x hx;simp [hx]);obtain ⟨j,e,a⟩:=Df.TSV.zv l;have t:j.length=c.ten.length:=by rw [<-e,ai]
 have:=j2q (j5l b) d.cin.len a (fun z a=>(j6i d e z a).1) (by omega);rw [e] at this;exact this
end
def RmS (w:World) (F:List (Nat×Obj)) (pm:Nat) (ver:Int) (c:Cgf) (sm:Option Cgf) (L:List (Nat×Obj)):Prop :=
 ∃ t u ut K zs,(∀ x∈F,x∈K)/\L.Perm (bxM pm ver c u t ut sm.isSome::K)/\CLen c/\CLen t/\ut.oneCell'=true/\On w K (fun X=>ZV X u zs)/\zs.map Prod.fst=c.ten /\
  ∀ c1,sm=some c1->t=c1/\∃ zt,On w K (fun X=>ZV X ut zt)/\zt.map Prod.fst=c1.ten
theorem pcP (A B K R:List (Nat×Obj)) (x:Nat×Obj) (h:A.Perm (x::K)):(B++(A++R)).Perm (x::(K++(B++R))):=by
 have a:(B++(A++R)).Perm (A++(B++R)):=by
  rw [<-am,<-am];exact an.append_right R
 exact a.trans (h.append_right (B++R))
section
variable {w W:World} {pm:Nat} {ver:Int} {c c1:Cgf} {sm:Option Cgf} {F L R:List (Nat×Obj)}
theorem RmS.more (h:RmS w F pm ver c sm L) (C:List (Nat×Obj)):RmS w (C++F) pm ver c sm (C++L):=by
 obtain ⟨t,u,d,K,b,G,y,E,s,z,r,q,hs⟩:=h;refine ⟨t,u,d,K++C,b,fun x hx=>(ak.mp hx).elim (fun h=>by simp [h]) (fun h=>by simp [G x h]),?_,E,s,z,r.left,q,fun c1 H=>?_⟩
 ·have:=pcP L C K [] _ y;simpa using this
 ·obtain ⟨e,a,l,j⟩:=hs c1 H;exact ⟨e,a,l.left,j⟩
theorem RmS.less (h:RmS w F pm ver c sm L) (hs:∀ x∈F',x∈F):RmS w F' pm ver c sm L:=by
 obtain ⟨t,u,b,K,a,d,h⟩:=h;exact ⟨t,u,b,K,a,fun x hx=>d x (hs x hx),h⟩
theorem RmS.keeps (h:RmS w F pm ver c sm L):∀ x∈F,x∈L:=by
 obtain ⟨t,u,j,K,d,b,a,h⟩:=h;exact fun x hx=>a.symm.subset (ao _ (b x hx))
theorem jq9 (g:Nat):RmS w [] g 0 cfg0 none [bxM g 0 cfg0 nilV cfg0 nilV false] :=
 ⟨cfg0,nilV,nilV,[],[],by simp,aH _,yw,yw,rfl,fun X _ _=>⟨jbf X 33,by simp⟩,rfl,fun c1 h=>by cases h⟩
theorem RmS.read (h:RmS w F pm ver c sm L) (r:Mem w W (L++R)):∃ u,W.cell? ⟨pm,0,none⟩=some (.int .u64 ver)/\W.rangeAt pm 1 (cc c u)/\CV W (.agg (cc c u).toArray) c/\W.cell? ⟨pm,59,none⟩=some (.bool sm.isSome):=by
 obtain ⟨t,u,y,K,s,E,q,b,l,z,j,d,hs⟩:=h;have a:=r.perm (q.append_right R);refine ⟨u,rm0 a,rmC a,⟨b,u,rfl,?_⟩,rm59 a b l⟩;rw [<-d];exact (j.mem a (by intro x hx;simp [hx])).tsv
theorem RmS.readT (h:RmS w F pm ver c (some c1) L) (s:Mem w W (L++R)):∃ u,W.rangeAt pm 30 (cc c1 u)/\CV W (.agg (cc c1 u).toArray) c1:=by
 obtain ⟨t,u,b,K,z,I,q,r,l,H,G,E,hs⟩:=h;have a:=s.perm (q.append_right R);obtain ⟨rfl,y,j,d⟩:=hs _ rfl;refine ⟨b,rmT a r,l,b,rfl,?_⟩;rw [<-d];exact (j.mem a (by intro x hx;simp [hx])).tsv
theorem RmS.readAll (h:RmS w F pm ver c sm L) (J:Mem w W (L++R)):∃ u t a K',RmS w K' pm ver c sm L/\(∀ x∈F,x∈K')/\CLen c/\CLen t/\a.oneCell'=true/\W.rangeAt pm 0 (mA ver c u t a sm.isSome)/\On w K' (fun X=>TSV X u c.ten)/\∀ c1,sm=some c1->t=c1/\On w K' (fun X=>TSV X a c1.ten):=by
 obtain ⟨t,u,a,K,z,I,r,y,q,s,l,d,hs⟩:=h;have b:=J.perm (r.append_right R);refine ⟨u,t,a,K,⟨t,u,a,K,z,fun x hx=>hx,r,y,q,s,l,d,hs⟩,I,y,q,s,fun j x H=>?_,l.imp fun X h=>by rw [<-d];exact h.tsv,fun c1 M=>?_⟩
 ·rw [b.cell 0 rfl,Nat.zero_add,ap];exact H
 ·obtain ⟨e,O,G,E⟩:=hs c1 M;exact ⟨e,G.imp fun X h=>by rw [<-E];exact h.tsv⟩
theorem jit (h:RmS w F pm ver c none L) (H:Mem w W (L++R)):Calls prog 27 #[.pointer (some ⟨pm,0,none⟩),.int .u64 ver] W fun e s=>e=.returned (.int .i64 0)/\∃ y,RmS w F pm ver c (some c) y/\Mem w s (y++R):=by
 obtain ⟨t,u,I,K,q,G,E,j,z,J,d,r,-⟩:=h;have b:=H.perm (E.append_right R);have a:=((d.mem b (by intro x hx;simp [hx])).tsv).one;refine (jix b j z a).mono ?_;rintro e s ⟨rfl,l⟩;exact ⟨rfl,_::K,⟨c,u,u,K,q,G,aH _,j,j,a,d,r,fun c1 h=>by cases h;exact ⟨rfl,q,d,r⟩⟩,l⟩
theorem j3w (h:RmS w F pm ver c sm L) (s:Mem w W (L++R)) {v:Int} (r:(sm≠none/\k=110)\/(sm=none/\v≠ver/\k=112)):Calls prog 27 #[.pointer (some ⟨pm,0,none⟩),.int .u64 v] W fun e y=>e=.returned (.int .i64 k)/\W=y:=by
 obtain ⟨t,u,E,K,z,J,q,l,j,I,H,G,-⟩:=h;have d:=s.perm (q.append_right R);rcases r with ⟨a,rfl⟩|⟨rfl,b,rfl⟩
 ·cases sm with
  | none=>exact absurd rfl a
  | some c1=>exact j65 d l j v
 ·exact j9i d l j b
theorem jiu (h:RmS w F pm ver c (some c1) L) (G:Mem w W (L++R)):Calls prog 12 #[.pointer (some ⟨pm,0,none⟩)] W fun e j=>e=.returned (.int .i64 0)/\∃ l,RmS w F pm ver c none l/\Mem w j (l++R):=by
 obtain ⟨t,u,H,K,q,E,z,d,y,I,s,r,-⟩:=h;have a:=G.perm (z.append_right R);refine (jiy a d y).mono ?_;rintro e j ⟨rfl,b⟩;exact ⟨rfl,_::K,⟨cfg0,u,nilV,K,q,E,aH _,d,yw,rfl,s,r,fun c1 h=>by cases h⟩,b⟩
theorem j9d (h:RmS w F pm ver c none L) (j:Mem w W (L++R)):Calls prog 12 #[.pointer (some ⟨pm,0,none⟩)] W fun e l=>e=.returned (.int .i64 111)/\W=l:=by
 obtain ⟨t,u,r,K,q,E,b,d,a,z,y,s,-⟩:=h;exact j9j (j.perm (b.append_right R)) d a
theorem jcy (h:RmS w F pm ver c (some c1) L) (Q:Mem w W (L++R)) {j:Cgf} (T:CV W v j):Calls prog 28 #[.pointer (some ⟨pm,0,none⟩),v] W fun e r=>e=.returned (.int .i64 0)/\∃ s,RmS w F pm ver c (some { j with ten:=c1.ten }) s/\Mem w r (s++R):=by
 obtain ⟨t,u,E,K,z,P,M,q,J,O,I,H,hs⟩:=h;have b:=Q.perm (M.append_right R);obtain ⟨rfl,y,l,G⟩:=hs _ rfl;obtain ⟨a,u2,rfl,S⟩:=T;refine (jd1 b q J ((l.mem b (by intro x hx;simp [hx])).tsv).slice a S.one).mono ?_;rintro e r ⟨rfl,d⟩;exact ⟨rfl,_::K,⟨{ j with ten:=t.ten },u,E,K,z,P,aH _,q,⟨a.mac,a.omac,a.nmac,a.key⟩,O,I,H,fun U h=>by cases h;exact ⟨rfl,y,l,G⟩⟩,d⟩
theorem j62 (h:RmS w F pm ver c none L) (l:Mem w W (L++R)) {r:Cgf} (q:CV W v r):Calls prog 28 #[.pointer (some ⟨pm,0,none⟩),v] W fun e s=>e=.returned (.int .i64 111)/\Below W.heap.size W s:=by
 obtain ⟨t,u,z,K,y,I,b,j,a,H,G,E,-⟩:=h;obtain ⟨d,u2,rfl,-⟩:=q;exact j64 (l.perm (b.append_right R)) j a _
theorem j9a (h:RmS w F pm ver c none L) (j:Mem w W (L++R)) (cl:Array Value):Calls prog 30 #[.pointer (some ⟨pm,0,none⟩),.agg cl] W fun e l=>e=.returned (.int .i64 111)/\Below W.heap.size W l:=by
 obtain ⟨t,u,r,K,q,E,b,d,a,z,y,s,-⟩:=h;exact j9g (j.perm (b.append_right R)) d a cl
theorem jir (hv:Vs W) (h:RmS w F pm ver c (some c1) L) {y:Hv} (T:∀ x∈C,x∈F) (hC:On w C (fun X=>Rws X (yz y))) (hM:Mem w W (L++R)) (hm:c1.ten.length<=390) (j:TLen y.1.t) (M:y.1.name.size<=1000000) (J:y.1.t.name.size<=1000000) :
 Calls prog 30 #[.pointer (some ⟨pm,0,none⟩),.agg (yc y).toArray] W fun e W'=>e=.returned (.int .i64 (if ftsB c1.ten y.1=true then 0 else 90))/\∃ L',RmS w F pm ver c (some (stg c1 y.1)) L'/\Mem w W' (L'++R):=by
 obtain ⟨t,u,E,K,U,Q,hp,P,d,ho,Y,s,hs⟩:=h;have b:Mem w W (bxM pm ver c u t E true::(K++R)):=hM.perm (hp.append_right R);obtain ⟨rfl,q,G,r⟩:=hs _ rfl;have H:=G.mem b (by intro x hx;simp [hx]);have l:On w K (fun X=>Rws X (yz y)):=hC.more fun x hx=>Q x (T x hx);have O:=l.mem b (by intro x hx;simp [hx]);have Z:q.length=t.ten.length:=by rw [<-r,ai]
 refine (jiv hv b P d H r (by omega) j O M J).mono ?_;rintro e W' (⟨hff,rfl,hbl⟩|⟨hff,rfl,ut',B,hsl,hD,hM'⟩)
 ·rw [if_neg (by rw [hff];decide),stg,if_neg (by rw [hff];decide)];exact ⟨rfl,bxM pm ver c u t E true::K,⟨t,u,E,K,U,Q,aH _,P,d,ho,Y,s,fun c3 h=>by cases h;exact ⟨rfl,q,G,r⟩⟩,b.after hbl⟩
 ·rw [if_pos hff,stg,if_pos hff];have I:On w (B++K) (fun X=>ZV X ut' (apz q [y])):=fun X hb S=>by
   refine hD.zv (fun x hx=>S x (by simp [hx])) fun z s=>?_;rcases j9r s with h1|⟨y',h1,rfl⟩
   ·exact (G X hb fun x hx=>S x (by simp [hx])).each z h1
   ·rw [aa] at h1;subst h1;exact ⟨j,l X hb fun x hx=>S x (by simp [hx])⟩
  have e2:(apz q [y]).map Prod.fst=app t.ten [y.1]:=by rw [jaj,r];rfl
  refine ⟨rfl,bxM pm ver c u { t with ten:=app t.ten [y.1] } ut' true::(B++K),⟨{ t with ten:=app t.ten [y.1] },u,ut',B++K,U,fun x hx=>by simp [Q x hx],aH _,P,⟨d.mac,d.omac,d.nmac,d.key⟩,(by obtain ⟨a,k,m,rfl⟩:=hsl;rfl),Y.more (fun x hx=>by simp [hx]),s,fun c3 h=>by cases h;exact ⟨rfl,_,I,e2⟩⟩,?_⟩;rw [al,am];exact hM'
theorem jis (q:Vs W) (h:RmS w F pm ver c (some c1) L) (z:Mem w W (L++R)) (a:Lig c1) (P:c1.ten.length<=900):Calls prog 45 #[.pointer (some ⟨pm,0,none⟩)] W fun e E=>e=.returned (.int .i64 (chk c1))/\Below W.heap.size W E:=by
 obtain ⟨t,u,I,K,H,Q,s,y,r,O,M,J,hs⟩:=h;have b:=z.perm (s.append_right R);obtain ⟨rfl,G,l,j⟩:=hs _ rfl;have d:=(l.mem b (by intro x hx;simp [hx])).tsv;rw [j] at d;exact jiw q b y r d (by omega) (jhx a) fun x hx=>(a.ten x hx).2.1.vni.1
theorem j9c (h:RmS w F pm ver c none L) (j:Mem w W (L++R)):Calls prog 45 #[.pointer (some ⟨pm,0,none⟩)] W fun e l=>e=.returned (.int .i64 111)/\W=l:=by
 obtain ⟨t,u,r,K,q,E,b,d,a,z,y,s,-⟩:=h;exact j9h (j.perm (b.append_right R)) d a
theorem jna (h:RmS w F pm ver c (some c1) L) (I:Mem w W (L++R)) (z:0<=ver/\ver<1000000000):Calls prog 47 #[.pointer (some ⟨pm,0,none⟩)] W fun e l=>e=.returned (.tuple #[])/\∃ q,RmS w F pm (ver+1) c1 none q/\Mem w l (q++R):=by
 obtain ⟨t,u,s,K,J,H,E,G,j,P,O,M,hs⟩:=h;have a:=I.perm (E.append_right R);obtain ⟨rfl,r,d,y⟩:=hs _ rfl;refine (jnc a G j ((d.mem a (by intro x hx;simp [hx])).tsv).one z).mono ?_;rintro e l ⟨rfl,b⟩;exact ⟨rfl,_::K,⟨cfg0,s,nilV,K,r,H,aH _,j,yw,rfl,d,y,fun c1 h=>by cases h⟩,b⟩
end
end
section
open Go.RowKit Sm Cf Df Va
open La (adr j4p R32)
def sQ (i:Nat) (k:Int):Ten:=mkQ i (bits .and .u16 k 4 != 0) (bits .and .u16 k 128 != 0) (bits .and .u16 k 256 != 0) (qlo k) (qhi k) (aI k 3) (1+bits .and .i64 (k / 512) 7) (1+bits .and .i64 (k / 4096) 3) (bits .and .u32 (k / 16384) 3) (3+bits .and .u32 (k / 8192) 7)
theorem yn.is {t:Ten} (h:yn i k t):t=sQ i k:=by
 obtain ⟨E,hi,G,u,z,y,H,rfl,r⟩:=h;obtain ⟨s,q,l,j,d,b,a⟩:=r.is;rw [s,q,l,j,d,b,a];rfl
theorem jql (h:R32 x):0<=x/\x<=4294967295:=⟨h.1,by have:=h.2;omega⟩
theorem j4o {a b c d:Int} (j:0<=a/\a<=255) (hb:0<=b/\b<=255) (hc:0<=c/\c<=255) (hd:0<=d/\d<=255):0<=adr a b c d/\adr a b c d<=4294967295:=jql (j4p j hb hc hd)
theorem yn.lig {t:Ten} (h:yn i k t) (hi:i<17):TIn t/\TRg t/\Lgt t:=by
 have q:=yn.sq h hi;obtain ⟨l,a,s,b,j,d,u,rfl,r⟩:=h;obtain ⟨E,z,y⟩:=q.len;refine ⟨⟨⟨rfl,rfl,rfl⟩,ka _ ?_,ka _ ?_,ka _ ?_,?_,by omega,by omega,by omega⟩,⟨?_,?_,?_,?_,?_,?_,?_,?_,?_,?_,?_,?_⟩,?_,by omega,by omega,by omega⟩
 ·intro x hx;simp only [mkQ,aj,aq,or_false] at hx;omega
 ·intro x hx;simp only [mkQ,aj,aq,or_false] at hx;omega
 ·intro x hx;simp only [mkQ,aj,aq,or_false] at hx;omega
 ·show (1:Nat)<=1000000;omega
 ·show 0<=100+(i:Int)/\100+(i:Int)<=4294967295;omega
 ·exact j4o (by omega) (by omega) (by omega) (by omega)
 ·show 0<=l/\l<=65535;have:=r.lo;have:=r.hi;omega
 ·show 0<=a/\a<=65535;have:=r.hi;omega
 ·show -9223372036854775808<=s/\s<=9223372036854775807;have:=r.fi;omega
 ·show -9223372036854775808<=b/\b<=9223372036854775807;have:=r.se;omega
 ·show -9223372036854775808<=j/\j<=9223372036854775807;have:=r.qu;omega
 ·show 0<=d/\d<=4294967295;have:=r.ra;omega
 ·show 0<=u/\u<=4294967295;have:=r.bu;omega
 ·intro x hx;rcases q.pool x hx with rfl|rfl<;>exact j4o (by omega) (by omega) (by omega) (by omega)
 ·intro x hx;rw [q.stat x hx];exact ⟨j4o (by omega) (by omega) (by omega) (by omega),j4o (by omega) (by omega) (by omega) (by omega)⟩
 ·intro x hx;rcases q.twi x hx with rfl|rfl<;>exact ⟨j4o (by omega) (by omega) (by omega) (by omega),j4o (by omega) (by omega) (by omega) (by omega)⟩
 ·show (1:Nat)<=300;omega
theorem jq4 (f:Int) (ts:List Ten):CIn (sc f ts):=⟨⟨rfl,rfl,rfl,rfl⟩,ka [2,1,0,0,0,0] (by decide),ka [2,2,0,0,0,0] (by decide),ka [2,3,0,0,0,0] (by decide),ka [200,0,0,0,0,0,0,0] (by decide)⟩
theorem jq2 (h:0<=f/\f<=7) (ts:List Ten):CRg (sc f ts):=⟨j4o (by omega) (by omega) (by omega) (by omega),by show 0<=f/\f<=4294967295;omega⟩
theorem ji2 (t:Ten) (a:TLen t):(tenc t).length<=100+t.name.size+4*t.pool.length+8*t.stat.length+8*t.twi.length:=by
 have s:=zy (fun i=>be 4 (t.pool.getD i 0)) 4 (fun i=>by simp only [jr];omega) (min t.pool.length 255);have r:=zy (fun i=>spP.enc (t.stat.getD i (0,0))) 8 (fun i=>by simp only [j3r,ar,jr];omega) (min t.stat.length 255);have q:=zy (fun i=>spP.enc (t.twi.getD i (0,0))) 8 (fun i=>by simp only [j3r,ar,jr];omega) (min t.twi.length 255);have l:(nm t.name).length<=1+t.name.size:=by simp only [nm,au,List.length_take,j54];omega
 have j:min t.pool.length 255<=t.pool.length:=aK _ _;have d:min t.stat.length 255<=t.stat.length:=aK _ _;have b:min t.twi.length 255<=t.twi.length:=aK _ _;rw [j5p,j5o];simp only [ar,jr,a.key,a.vmac,a.host,au,av];omega
theorem jhh (f:Nat->List Int):(cat f 1).length=(f 0).length:=by rw [cat,cat,List.nil_append]
theorem jng {t:Ten} (a:TLen t):(jt ver (sc f [t])).length<=200+t.name.size+4*t.pool.length+8*t.stat.length+8*t.twi.length:=by
 have h:=ji2 t a;have e:=jhh (fun i=>tenc ((sc f [t]).ten.getD i ten0));have b:(sc f [t]).ten.getD 0 ten0=t:=rfl;rw [b] at e;rw [j9o,jae,j4j,ar,show min (sc f [t]).ten.length 255=1 from rfl,e];simp only [ar,jr,au,av,Nat.reduceAdd];omega
theorem j3u (w:World) (a:Option Addr) (n cap:Nat) (l:Nat->Int) (s:∀ i,i<n->∃ b q,a=some ⟨b,q,none⟩/\w.cell? ⟨b,q+i,none⟩=some (.int .u16 (l i))/\0<=l i/\l i<=65535) (d:Int) (z:0<=d) (t:d<=255) :
 Calls prog 34 #[.slice a n cap,.int .u8 d] w fun e V=>∃ v,e=.returned v/\CV V v (sc (aI d 8) ((aw (min n 4)).map fun j=>sQ j (l j)))/\Below w.heap.size w V:=by
 refine (j98 w a n cap l s d z t).mono ?_;rintro e V ⟨f,r,u,B,M,rfl,rfl,I,H,J,G,E⟩;have K:r.map (fun y=>y.1.1)=(aw (min n 4)).map fun j=>sQ j (l j):=by
  apply List.ext_getElem?;intro j;rw [ax,ax,<-I];by_cases hj:j<r.length
  ·rw [ay hj,List.getElem?_range hj,aM,aM,yn.is (H j _ (ay hj))]
  ·rw [az (by omega),az (by simp;omega)];rfl
 refine ⟨_,rfl,?_,E.below⟩;rw [<-K];exact jt6 (C:=r.flatMap (·.2)) (jq3 _ _) rfl J (jsp G fun x hx=>hx) E
theorem jf7 (w:World) (i:Nat) (hi:i<17) (k:Int) (b:0<=k) (a:k<=65535):Calls prog 35 #[.int .i64 (i:Int),.int .u16 k] w fun e V=>∃ z:Tv,e=.returned (tv z)/\z.1=sQ i k/\yn i k z.1/\Rws V z/\Below w.heap.size w V:=by
 refine (j26 w i hi k b a).mono ?_;rintro e V ⟨t,p,s,q,C,rfl,hs,j,d⟩;exact ⟨(t,p,s,q),rfl,yn.is hs,hs,(j78 (j.zb fun x hx=>hx) fun x hx=>d.at_ x hx).2,d.below⟩
theorem ym (c:Cgf):jpl c c:=⟨rfl,rfl,rfl,rfl,rfl,rfl,rfl,fun i _=>⟨rfl,rfl,rfl,rfl,rfl,rfl,rfl,rfl,rfl,rfl,rfl,rfl,rfl,rfl,rfl,rfl⟩⟩
theorem j38 {c:Cgf} (h:Lig c):∀ t∈c.ten,TFew t:=fun t j=>by
 obtain ⟨a,b,d,f⟩:=(h.ten t j).2.2;exact ⟨by omega,by omega,by omega⟩
theorem app_nil (y:Chg) (h:y.put=true):app [] [y]=[y.t]:=by
 show stp [] y=_;rw [stp,if_pos h];rfl
end
section
open Go.RowKit Sm Cf Df Va
theorem jcq {b:Array Oper} {o:Oper} {a:Act} {K:Act->World->Prop} {Q:Exit->Act->World->Prop} {E:Prop} (hw:Region.wanted o (yielded b a.tmps)=true) (ty:TypeId) (parts:Array (Nat×Operand)) (l:o.op=.build ty parts) {d:Array (Nat×Value)}
  (hr:(Instr.build ty d).run prog W=.ok v w') (j:(parts.map fun (i,x)=>(i,a.eval x))=d) (h:K (a.put o.dst v) w'):if Region.wanted o (yielded b a.tmps)=true then Oper.wp prog o a W K Q else E:=by
 rw [if_pos hw];subst j;unfold Oper.wp execOp;simp only [l,Sem.run_bind,hr,Result.andThen_ok,Sem.run_pure];exact h
abbrev acT:TypeId:=50
def Ac.n (x:Ac):Nat:=(x.nn % 4).toNat
def sNm (n:Nat):ByteArray:=⟨#[UInt8.ofNat (97+n % 8)]⟩
def Ac.chg (x:Ac):Chg:=if x.raw then x.y.1 else if x.kind % 8=7 then ⟨false,sNm x.n,ten0⟩ else ⟨true,sNm x.n,sQ x.n x.kind⟩
def Ac.cfg (x:Ac):Cgf:=if x.raw then x.c else sc (x.nn % 8) []
theorem je9 {y:Hv} (j:y.2.1.oneCell'=true) (d:y.2.2.1.oneCell'=true) (b:y.2.2.2.oneCell'=true):(yc y).toArray.all (·.oneCell')=true:=by
 have h:=j23 y.1.t j d b;rw [Array.all_eq_true'] at h ⊢;intro v a;rw [aA,jea,aj,aj] at a;rcases a with rfl|rfl|a
 ·rfl
 ·rfl
 ·exact h v (by rw [aA];exact a)
theorem j74:∀ (x:Ac),(aC x)[0]?=some (.int .i64 x.what)/\(aC x)[1]?=some (.bool x.good)/\(aC x)[2]?=some (.int .u64 x.v)/\(aC x)[3]?=some (.int .u16 x.kind)/\(aC x)[4]?=some (.int .u8 x.nn):=fun x=>⟨rfl,rfl,rfl,rfl,rfl⟩
theorem aC_y (x:Ac):∀ j v,(yc x.y)[j]?=some v->(aC x)[5+j]?=some v:=fun j v b=>by
 have a:=(List.getElem?_eq_some_iff.mp b).1;rw [show 5+j=j+1+1+1+1+1 by omega,aC];simp only [aB];have e:hc x.y.1 x.y.2.1 x.y.2.2.1 x.y.2.2.2=yc x.y:=rfl;rw [e,List.getElem?_append_left a];exact b
theorem jm4 {x:Ac} (a:TLen x.y.1.t):(aC x)[40]?=some (.bool x.raw):=by
 have h:(yc x.y).length=35:=j03 a;show (yc x.y++(.bool x.raw::cc x.c x.u))[35]?=_;rw [aD (by omega),h];rfl
theorem aC_c {x:Ac} (a:TLen x.y.1.t):∀ j v,(cc x.c x.u)[j]?=some v->(aC x)[41+j]?=some v:=fun j v b=>by
 have h:(yc x.y).length=35:=j03 a;rw [show 41+j=(36+j)+1+1+1+1+1 by omega,aC];simp only [aB];show (yc x.y++(.bool x.raw::cc x.c x.u))[36+j]?=_;rw [aD (by omega),h,show 36+j-35=j+1 by omega,aB];exact b
theorem jm5 {x:Ac} (a:TLen x.y.1.t) (hc:CLen x.c):(aC x).length=70:=by
 have h:(yc x.y).length=35:=j03 a;show (_::_::_::_::_::(yc x.y++(.bool x.raw::cc x.c x.u))).length=70;simp only [au,ar,h,je hc]
theorem jim (W:World) (i:Nat) (hi:i<17) (k:Int) (b:0<=k) (a:k<=65535):Calls prog 35 #[.int .i64 (i:Int),.int .u16 k] W fun e V=>∃ (z:Tv) (C:List (Nat×Obj)),e=.returned (tv z)/\z.1=sQ i k/\yn i k z.1/\ZB z C/\Mem W V C:=by
 refine (j26 W i hi k b a).mono ?_;rintro e V ⟨t,p,s,q,C,rfl,hs,d,j⟩;exact ⟨(t,p,s,q),C,rfl,yn.is hs,hs,d.zb fun x hx=>hx,j⟩
theorem jsq {z:Tv} (h:ZB z C):On w C (fun X=>Rws X z):=fun X _ a=>(j78 h fun x hx=>a x hx).2
def ChP (w W:World) (g:Chg) (e:Ending) (V:World):Prop:=∃ (y:Hv) (C:List (Nat×Obj)),e=.returned (.agg (yc y).toArray)/\y.1=g/\TLen g.t/\On w C (fun X=>Rws X (yz y))/\Mem W V C
theorem jkp {c:Cgf} (h:CV V v c) (d:c.ten=[]) (X:World):CV X v c:=by
 obtain ⟨j,u,rfl,t,b,hr,-⟩:=h;rw [d,List.map_eq_nil_iff] at b;subst b;obtain ⟨a,s,e,r,q,l,-⟩:=hr;exact ⟨j,u,rfl,[],by rw [d];rfl,⟨a,s,e,r,q,l,aG rfl⟩,by simp⟩
theorem joy:(prog.info? 48).map (·.size)=some (hz0:Array Value).size:=by kernel_rfl
theorem i70:(prog.info? acT).map (·.size)=some 70:=by kernel_rfl
section
variable {w W:World} {x:Ac}
theorem je6 (hx:AcW w x) (hb:Below w.heap.size w W):Calls prog 43 #[.agg (aC x).toArray] W (ChP w W x.chg):=by
 obtain ⟨a,U⟩:∃ g,W.heap.size=g:=⟨_,rfl⟩;obtain ⟨A,hA⟩:∃ A,(aC x).toArray=A:=⟨_,rfl⟩;have c9:Mem W (W.alloc (.cells A acT)) [(a,.cells A acT (0,0))]:=(Mem.nil W).push1 U.symm;have c7:Mem W ((W.alloc (.cells A acT)).alloc (.cells hz0 48)) [(a,.cells A acT (0,0)),(a+1,.cells hz0 48)]:=c9.push2 (by rw [<-U];show W.heap.size+1=(W.heap.push _).size;rw [Array.size_push]);have HL:Hid (Mem W ((W.alloc (.cells A acT)).alloc (.cells hz0 48)) [(a,.cells A acT (0,0)),(a+1,.cells hz0 48)]):=c7;have P:Hid (∀ j v X K,(aC x)[j]?=some v->Mem W X ((a,.cells A acT (0,0))::K)->X.cell? ⟨a,j,none⟩=some v):=fun j v X K hj u=>by
  rw [u.cell 0 rfl,<-hA,ap];exact hj
 have b1:x.n<4:=by unfold Ac.n;omega
 have c0:=hx.nn;have a2:=hx.kind;have e1:aI x.nn 4=(x.n:Int):=by rw [aJ c0.1];unfold Ac.n;omega
 have e2:x.nn % 4=(x.n:Int):=by unfold Ac.n;omega
 have e3:IntKind.i64.wrap (x.n:Int)=x.n:=qk (by omega) (by omega);have l:=jm4 hx.len (x:=x);obtain ⟨h0,h1,h2,h3,h4⟩:=j74 x;have a5:Hid (∀ X K,Mem W X ((a,.cells A acT (0,0))::K)->X.rangeAt a 5 (yc x.y)):=fun X K u j v hj=>P.out _ _ _ _ (aC_y x j v hj) u;have s:(prog.info? 48).map (·.size)=some (yc x.y).length:=by rw [show (yc x.y).length=35 from j03 hx.len];kernel_rfl
 have b5:Hid (On w [] (fun X=>Rws X (yz x.y))):=fun X hX _=>Rws.at_ hx.rws hX;have b0:(yc x.y).toArray.all (·.oneCell')=true:=je9 (km hx.rws.1) (km hx.rws.2.1) (km hx.rws.2.2);have a4:Hid (TLen x.y.1.t):=hx.len;have b6:Hid (∀ c,x.chg=c->x.chg=c):=fun c h=>h;obtain ⟨d,T⟩:∃ d,x.n=d:=⟨_,rfl⟩;have O:Hid (x.chg=if x.raw then x.y.1 else if x.kind % 8=7 then ⟨false,sNm d,ten0⟩ else ⟨true,sNm d,sQ d x.kind⟩):=by rw [<-T];rfl
 rw [T] at e1 e2 e3 b1;rw [hA];clear c9 c7 hx hb c0 hA T;cases hraw:x.raw
 ·rw [hraw] at l O;have b:Hid (x.chg=if x.kind % 8=7 then ⟨false,sNm d,ten0⟩ else ⟨true,sNm d,sQ d x.kind⟩):=O.out;clear O a5 s b5 b0 a4 hraw;have r1:aI x.kind 8=x.kind % 8:=aJ a2.1;generalize x.nn=q at *;generalize x.chg=cg at *;generalize x.kind=kd at *;by_cases h7:kd % 8=7
  ·rw [if_pos h7] at b;rw [h7] at r1;have CN:∀ X,Calls prog 36 #[.int .i64 (d:Int)] X fun e w'=>e=.returned (.string (sNm d))/\X=w':=fun X=>j19 X d (by omega);have b2:=jp9 (sNm d);have J:(yc (yN (sNm d))).toArray.all (·.oneCell')=true:=je9 rfl rfl rfl;have s:(prog.info? 48).map (·.size)=some (yc (yN (sNm d))).toArray.size:=by rw [aE,j03 (show TLen (yN (sNm d)).1.t from ⟨rfl,rfl,rfl⟩)];kernel_rfl
   have d8:Hid (∀ v:Array Value,(yc (yN (sNm d))).toArray=v->v=(yc (yN (sNm d))).toArray):=fun v h=>h.symm;obtain ⟨Y,M⟩:∃ Y,(yc (yN (sNm d))).toArray=Y:=⟨_,rfl⟩;have G:Hid ((yc (yN (sNm d))).toArray=Y):=M;rw [M] at b2 J s;clear M d8;generalize Q:sNm d=s0 at CN b2;have d1:Hid (sNm d=s0):=Q;clear Q;go_enter func43,ntmps43;go_upto_region 1 with fail;refine j5 (fun X=>Mem W X [(a,.cells A acT (0,0)),(a+1,.cells hz0 48)]) (by exact HL.out) ?_;intro V u
   try simp only [U]
   have b4:=P.out _ _ _ _ l u;have c4:=P.out _ _ _ _ h4 u;have c3:=P.out _ _ _ _ h3 u;have k2:=u.get 1 rfl;have I:=u.wrote 1 rfl (j8 V (a+1) _ Y _ k2);have HQ:Hid ((V.setRow (a+1) Y).heap[a+1]?=some (.cells Y 48)/\ChP w W cg (.returned (.agg Y)) (V.setRow (a+1) Y)):=by
    refine ⟨I.get 1 rfl,yN (sNm d),[],by rw [G.out],b.out.symm,by rw [b.out];exact ⟨rfl,rfl,rfl⟩,fun X _ _=>⟨jbf X 1,jbf X 2,jbf X 2⟩,I.sub.sub⟩
   have b7:((7:Int)==7)=true:=rfl;clear u I HL P h0 h1 h2 h3 h4 l b G b6;go_wp2_with fail;refine (CN _).mono ?_;rintro e _ ⟨rfl,rfl⟩;go_wp2_with (first|(refine yy rfl 48 _ (by with_reducible rfl) (b2 _) (by simp [aO,aP]) ?_)|(refine wpList_store_row rfl 48 (.tmp 2) (.tmp 18) (by with_reducible rfl) (a+1) Y (by first|rfl|simp [aO]) (by first|rfl|simp [aO]) 48 hz0 k2 s (aN.inj (s.symm.trans joy)).symm J ?_)|fail)
   refine bodyPost_ret (v:=.agg Y) ?_ rfl HQ.out.2;exact results_cell_row (p:=2) (ty:=48) rfl _ _ (a+1) 48 _ (0,0) _ rfl HQ.out.1 underlying48 rfl s
  ·rw [if_neg h7] at b;obtain ⟨r8,d5⟩:∃ r,kd % 8=r:=⟨_,rfl⟩;rw [d5] at r1 h7;have b7:(r8==7)=false:=by simp [h7]
   have CN:∀ X,Calls prog 36 #[.int .i64 (d:Int)] X fun e w'=>e=.returned (.string (sNm d))/\X=w':=fun X=>j19 X d (by omega);have CT:∀ X,Calls prog 35 #[.int .i64 (d:Int),.int .u16 kd] X fun e V=>∃ (z:Tv) (C:List (Nat×Obj)),e=.returned (tv z)/\z.1=sQ d kd/\yn d kd z.1/\ZB z C/\Mem X V C:=fun X=>jim X d (by omega) kd a2.1 a2.2;have d3:Hid (∀ (z:Tv) (X:World),TLen z.1->(Instr.build 48 #[(0,.bool true),(1,.string (sNm d)),(2,tv z)]).run prog X=.ok (.agg (yc (yP (sNm d) z)).toArray) X):=fun z X hl=>jhm (sNm d) z hl X;generalize Q:sNm d=s0 at CN d3;have d1:Hid (sNm d=s0):=Q;have c2:d<17:=by omega
   clear Q b1;go_enter func43,ntmps43;go_upto_region 1 with fail;refine j5 (fun X=>Mem W X [(a,.cells A acT (0,0)),(a+1,.cells hz0 48)]) (by exact HL.out) ?_;intro V u
   try simp only [U]
   have b4:=P.out _ _ _ _ l u;have c4:=P.out _ _ _ _ h4 u;have c3:=P.out _ _ _ _ h3 u;have HM:Hid (Mem W V [(a,.cells A acT (0,0)),(a+1,.cells hz0 48)]):=u;have d2:Hid (∀ X K,Mem W X ((a,.cells A acT (0,0))::K)->X.cell? ⟨a,3,none⟩=some (.int .u16 kd)):=fun X K h=>P.out _ _ _ _ h3 h;have HS:Hid (∀ X,Below V.heap.size V X->X.cell? ⟨a,3,none⟩=some (.int .u16 kd)):=fun X hX=>P.out _ _ _ _ h3 (u.after hX);clear u HL P h0 h1 h2 h3 h4 l b6;go_upto_region 6 with fail;clear b4 c4 c3;refine wp_region_held_drew (S:=fun X=>X.cell? ⟨a,3,none⟩=some (.int .u16 kd)) (by kernel_rfl) (HS.out _ (Below.refl _ _).drew) (fun E=>?_);refine tkq 0 rfl (v:=?_) (aG ⟨by rfl,?z1⟩) ?_
   case z1=>intro w H;(try dsimp only at H);go_simp;all_goals with_reducible rfl
   try simp only [sqx,aP]
   refine tkq 2 rfl (v:=?_) (aG ⟨by rfl,?z2⟩) ?_
   case z2=>intro w H;(try dsimp only at H);go_simp;all_goals with_reducible rfl
   try simp only [sqx,aP]
   refine tkq 3 rfl (v:=?_) (aG ⟨by rfl,?z3⟩) ?_
   case z3=>intro w H;(try dsimp only at H);go_simp;all_goals with_reducible rfl
   try simp only [sqx,aP]
   refine tkq 4 rfl (v:=?_) (aG ⟨by rfl,?z4⟩) ?_
   case z4=>intro w H;(try dsimp only at H);go_simp;all_goals with_reducible rfl
   try simp only [sqx,aP]
   refine wpAnyH_ready (rs:=[1]) (by kernel_rfl) (by simp) ?_;refine aQ rfl (fun K hK=>?_) aR;go_simp
   with_reducible refine (CN _).mono ?_
   rintro e _ ⟨rfl,rfl⟩
   try go_wp2_with fail
   refine hK.out _ _ (HS.out _ (Below.refl _ _).drew) (fun E=>?_);clear hK K
   try simp only [sqx,aP]
   refine wpAnyH_ready (rs:=[5]) (by kernel_rfl) (by simp) ?_;refine aQ rfl (fun K hK=>?_) aR;go_simp
   with_reducible refine (CT _).mono ?_
   rintro e V5 ⟨z,C,rfl,a9,b8,a7,a0⟩;have Z:=fun (X:World) (h:TLen z.1)=>d3.out z X h;obtain ⟨zA,a8⟩:∃ A,tv z=.agg A:=⟨_,rfl⟩;rw [a8] at Z;rw [a8]
   try go_wp2_with fail
   refine hK.out _ _ (HS.out _ (jo a0.below)) (fun E=>?_);clear hK K
   try simp only [sqx,aP]
   have a1:=yn.lig b8 c2;have Z:=fun X=>Z X a1.1.len;obtain ⟨Y,M⟩:∃ Y,(yc (yP s0 z)).toArray=Y:=⟨_,rfl⟩;rw [M] at Z;have G:Hid ((yc (yP s0 z)).toArray=Y):=M;have s:(prog.info? 48).map (·.size)=some Y.size:=by rw [<-M,aE,j03 (show TLen (yP s0 z).1.t from a1.1.len)];kernel_rfl
   have J:Y.all (·.oneCell')=true:=by
    rw [<-M];have hr:=(j78 a7 fun x hx=>a0.at_ x hx).2;exact je9 (km hr.1) (km hr.2.1) (km hr.2.2)
   have c5:=(HM.out.after ((Below.refl _ _).drew)).more a0;have b3:Mem W V5 ((a,.cells A acT (0,0))::(a+1,.cells hz0 48)::C):=c5.perm an;have k2:=b3.get 1 rfl;have a3:=b3.wrote 1 rfl (j8 V5 (a+1) _ Y _ k2);have d6:=HS.out _ (jo a0.below);have d7:Hid ((V5.setRow (a+1) Y).cell? ⟨a,3,none⟩=some (.int .u16 kd)):=d2.out _ _ a3;have HQ:Hid ((V5.setRow (a+1) Y).heap[a+1]?=some (.cells Y 48)/\ChP w W cg (.returned (.agg Y)) (V5.setRow (a+1) Y)):=by
    refine ⟨a3.get 1 rfl,yP s0 z,C,by rw [G.out],?_,by rw [b.out,<-a9];exact a1.1.len,jsq a7,a3.sub.sub⟩;rw [b.out,<-a9,d1.out];rfl
   clear c5 b3 a3 a9 b8 a7 a0 a1 M a8;refine wpAnyH_ready (rs:=[6]) (by kernel_rfl) (by simp) ?_;refine aQ rfl (fun K hK=>?_) aR;refine jcq rfl 48 _ rfl (Z _) (by simp [aO,aP]) ?_;refine hK.out _ _ d6 (fun E=>?_);clear hK K
   try simp only [sqx,aP]
   refine wpAnyH_ready (rs:=[7]) (by kernel_rfl) (by simp) ?_;refine aQ rfl (fun K hK=>?_) aR;refine j4s rfl 48 (.tmp 2) (.tmp 25) rfl (a+1) Y (by first|rfl|simp [aO]) (by first|rfl|simp [aO]) 48 hz0 k2 s (aN.inj (s.symm.trans joy)).symm J ?_;refine hK.out _ _ d7.out (fun E=>?_);clear hK K
   try simp only [sqx,aP]
   refine wpAnyH_done (by kernel_rfl) ?_ _;clear HM HS d2 b G;go_wp2_with fail;refine bodyPost_ret (v:=.agg Y) ?_ rfl HQ.out.2;exact results_cell_row (p:=2) (ty:=48) rfl _ _ (a+1) 48 _ (0,0) _ rfl HQ.out.1 underlying48 rfl s
 ·rw [hraw] at l O;have b:Hid (x.chg=x.y.1):=O.out;obtain ⟨Y,M⟩:∃ Y,(yc x.y).toArray=Y:=⟨_,rfl⟩;have G:Hid ((yc x.y).toArray=Y):=M;rw [M] at b0;have a6:(prog.info? 48).map (·.size)=some Y.size:=by rw [<-M,aE,j03 a4.out];kernel_rfl
  clear O e1 e2 e3 a2 h0 h1 h2 h3 h4 hraw b1 b6 M;generalize x.chg=cg at *;generalize b9:yc x.y=yl at a5 s G;have d0:Hid (yc x.y=yl):=b9;clear b9;go_enter func43,ntmps43;go_upto_region 1 with fail;refine j5 (fun X=>Mem W X [(a,.cells A acT (0,0)),(a+1,.cells hz0 48)]) (by exact HL.out) ?_;intro V u
  try simp only [U]
  have b4:=P.out _ _ _ _ l u;have d4:=a5.out _ _ u;have k2:=u.get 1 rfl;have I:=u.wrote 1 rfl (j8 V (a+1) _ Y _ k2);have HQ:Hid ((V.setRow (a+1) Y).heap[a+1]?=some (.cells Y 48)/\ChP w W cg (.returned (.agg Y)) (V.setRow (a+1) Y)):=by
   refine ⟨I.get 1 rfl,x.y,[],by rw [d0.out,G.out],b.out.symm,by rw [b.out];exact a4.out,b5.out,I.sub.sub⟩
  clear u I HL P l b d0 a5 b5 a4;go_wp2_with (first|(refine kz rfl 48 (.tmp 6) (by with_reducible rfl) a 5 (by simp [aO]) Y yl _ d4 G underlying48 rfl s ?_)|(refine wpList_store_row rfl 48 (.tmp 2) (.tmp 7) (by with_reducible rfl) (a+1) Y (by first|rfl|simp [aO]) (by first|rfl|simp [aO]) 48 hz0 k2 a6 (aN.inj (a6.symm.trans joy)).symm b0 ?_)|fail)
  refine bodyPost_ret (v:=.agg Y) ?_ rfl HQ.out.2;exact results_cell_row (p:=2) (ty:=48) rfl _ _ (a+1) 48 _ (0,0) _ rfl HQ.out.1 underlying48 rfl a6
theorem je5 (hx:AcW w x) (hb:Below w.heap.size w W):Calls prog 44 #[.agg (aC x).toArray] W fun e V=>∃ v,e=.returned v/\CV V v x.cfg/\Below W.heap.size W V:=by
 obtain ⟨a,E⟩:∃ g,W.heap.size=g:=⟨_,rfl⟩;obtain ⟨A,hA⟩:∃ A,(aC x).toArray=A:=⟨_,rfl⟩;have Q:Mem W (W.alloc (.cells A acT)) [(a,.cells A acT (0,0))]:=(Mem.nil W).push1 E.symm;have P:Mem W ((W.alloc (.cells A acT)).alloc (.cells cz 39)) [(a,.cells A acT (0,0)),(a+1,.cells cz 39)]:=Q.push2 (by rw [<-E];show W.heap.size+1=(W.heap.push _).size;rw [Array.size_push]);have HL:Hid (Mem W ((W.alloc (.cells A acT)).alloc (.cells cz 39)) [(a,.cells A acT (0,0)),(a+1,.cells cz 39)]):=P;have I:Hid (∀ j v X K,(aC x)[j]?=some v->Mem W X ((a,.cells A acT (0,0))::K)->X.cell? ⟨a,j,none⟩=some v):=fun j v X K hj r=>by
  rw [r.cell 0 rfl,<-hA,ap];exact hj
 have b:=jm4 hx.len (x:=x);obtain ⟨-,-,-,-,h4⟩:=j74 x;rw [hA];clear Q P hA;cases hraw:x.raw
 ·have z:=hx.nn;have CS:∀ X,Calls prog 34 #[.slice none 0 0,.int .u8 x.nn] X fun e V=>∃ v,e=.returned v/\CV V v (sc (aI x.nn 8) ((aw (min 0 4)).map fun j=>sQ j ((fun _=>0) j)))/\Below X.heap.size X V:=fun X=>j3u X none 0 0 (fun _=>0) (fun i hi=>absurd hi (by omega)) x.nn z.1 z.2;have e1:(sc (aI x.nn 8) ((aw (min 0 4)).map fun j=>sQ j ((fun _=>0) j)))=x.cfg:=by
   rw [Ac.cfg,hraw,if_neg (by decide),aJ z.1]
   first|done|rfl
  rw [e1] at CS;rw [hraw] at b;have HT:Hid (x.cfg.ten=[]):=by
   show x.cfg.ten=[];rw [Ac.cfg,hraw,if_neg (by decide)]
   first|done|rfl
  clear hx hb z hraw e1;generalize x.nn=q at *;generalize x.cfg=cg at *;go_enter func44,ntmps44;go_upto_region 1 with fail;refine j5 (fun X=>Mem W X [(a,.cells A acT (0,0)),(a+1,.cells cz 39)]) (by exact HL.out) ?_;intro V r
  try simp only [E]
  have a3:=I.out _ _ _ _ b r;have c4:=I.out _ _ _ _ h4 r;have HM:Hid (Mem W V [(a,.cells A acT (0,0)),(a+1,.cells cz 39)]):=r;clear r HL I b h4;go_wp2_with fail;refine (CS _).mono ?_;rintro e S ⟨v,rfl,G,O⟩;have HV:Hid (CV S v cg):=G;obtain ⟨Y,rfl,M,t⟩:=G.row;have l:(prog.info? 39).map (·.size)=some Y.size:=by rw [M];kernel_rfl
  have H:=HM.out.after O;have J:=H.get 1 rfl;have d:=H.wrote 1 rfl (j8 S (a+1) _ Y _ J);have Z:Hid ((S.setRow (a+1) Y).heap[a+1]?=some (.cells Y 39)/\CV (S.setRow (a+1) Y) (.agg Y) cg/\Below W.heap.size W (S.setRow (a+1) Y)):=⟨d.get 1 rfl,jkp HV.out HT.out _,d.below⟩;clear HM H d G O HV CS;go_wp2_with (first|(refine wpList_store_row rfl 39 (.tmp 2) (.tmp 9) (by with_reducible rfl) (a+1) Y (by first|rfl|simp [aO]) (by first|rfl|simp [aO]) 39 cz J l (aN.inj (l.symm.trans cz29)).symm t ?_)|fail)
  refine bodyPost_ret (v:=.agg Y) ?_ rfl ⟨_,rfl,Z.out.2⟩;exact results_cell_row (p:=2) (ty:=39) rfl _ _ (a+1) 39 _ (0,0) _ rfl Z.out.1 underlying39 rfl l
 ·have s:=hx.tsv;have y:=hx.cin;obtain ⟨Y,T,M,t,l,a1⟩:=ccA y.len s.one;have U:Hid (∀ X K,Mem W X ((a,.cells A acT (0,0))::K)->X.rangeAt a 41 (cc x.c x.u)):=fun X K r j v hj=>I.out _ _ _ _ (aC_c hx.len j v hj) r;have a0:Hid (∀ X,Below W.heap.size W X->CV X (.agg Y) x.cfg):=fun X hX=>by
   rw [<-T.out,Ac.cfg,hraw,if_pos rfl];exact ⟨y.len,x.u,rfl,s.at_ (hb.trans (hX.mono hb.size)) (aL _)⟩
  rw [hraw] at b;clear hx hb hraw s y h4;generalize cc x.c x.u=cl at *;generalize x.cfg=cg at *;go_enter func44,ntmps44;go_upto_region 1 with fail;refine j5 (fun X=>Mem W X [(a,.cells A acT (0,0)),(a+1,.cells cz 39)]) (by exact HL.out) ?_;intro V r
  try simp only [E]
  have a3:=I.out _ _ _ _ b r;have a2:=U.out _ _ r;have J:=r.get 1 rfl;have d:=r.wrote 1 rfl (j8 V (a+1) _ Y _ J);have Z:Hid ((V.setRow (a+1) Y).heap[a+1]?=some (.cells Y 39)/\CV (V.setRow (a+1) Y) (.agg Y) cg/\Below W.heap.size W (V.setRow (a+1) Y)):=⟨d.get 1 rfl,a0.out _ d.below,d.below⟩;clear r d HL I b U a0;go_wp2_with (first|(refine kz rfl 39 (.tmp 5) (by with_reducible rfl) a 41 (by simp [aO]) Y cl _ a2 T underlying39 rfl a1 ?_)|(refine wpList_store_row rfl 39 (.tmp 2) (.tmp 6) (by with_reducible rfl) (a+1) Y (by first|rfl|simp [aO]) (by first|rfl|simp [aO]) 39 cz J l (aN.inj (l.symm.trans cz29)).symm t ?_)|fail)
  refine bodyPost_ret (v:=.agg Y) ?_ rfl ⟨_,rfl,Z.out.2⟩;exact results_cell_row (p:=2) (ty:=39) rfl _ _ (a+1) 39 _ (0,0) _ rfl Z.out.1 underlying39 rfl l
end
def D0:Dk:=⟨false,false,0,0⟩
theorem joz {t:Ten} (b:f<=1000) (h:SQ 0 t):chk (sc f [t])=0:=jku b (by simp) (by intro j t' a;cases j with
 | zero=>simp at a;subst a;exact h
 | succ j=>simp at a)
theorem jry {N m:Nat} {t:Ten} (b:f<=1000) (a:TLen t) (h:SQ 0 t) (hr:300<=room N m):cmE N m ver (sc f [t])=0:=by
 have r:=jng (ver:=ver+1) (f:=f) a;obtain ⟨l,j,d⟩:=h.len;have q:t.name.size=1:=by rw [h.name];rfl
 rw [cmE,if_pos (joz b h),if_neg (by omega)]
theorem joj {ts:List Ten} {t:Ten} (h:SQ 0 t):ftsB ts ⟨true,⟨#[97]⟩,t⟩=true:=by
 unfold ftsB;rw [if_pos rfl,h.name];show (Ad.nam [97] && ((⟨#[97]⟩:ByteArray).toList==(⟨#[UInt8.ofNat (97+0 % 8)]⟩:ByteArray).toList))=true;decide +kernel
theorem job (hv:Vs w) (hG:Gl w ga):Calls prog 8 #[] w fun e V=>e=.returned (.bool true)/\Below w.heap.size w V:=by
 have CN:=jlk (x:=8) (y:=2048) (n:=8) (m:=2048) rfl rfl w;have HV:Hid (∀ V,Below w.heap.size w V->Vs V):=fun V hV=>hv.below hV;have HG:Hid (Gl w ga):=hG;clear hv hG;go_enter func8,ntmps8;go_wp2_with fail;refine CN.mono ?_;rintro e V1 ⟨p,rfl,h,b2⟩;have CO:=j90 b2 HG.out rfl (by omega) (by omega) (by omega) (by omega) (by simp) (ver:=0) (c:=cfg0) (aG ⟨rfl,rfl,rfl⟩) (n:=20) (by omega);clear CN b2;go_wp2_with fail;refine CO.mono ?_;rintro e V2 ⟨ps,rfl,a,-⟩;have E:=j25 a;have CB:=jaz a;have hz0:((0:Int) != 0)=false:=rfl;clear CO a;go_wp2_with fail;refine E.mono ?_;rintro e _ ⟨rfl,rfl⟩;go_wp2_with fail;refine CB.mono ?_;rintro e V3 ⟨rfl,a⟩;have G:Hid (TxA w V3 p h 2048 8 ⟨false,false,0,0⟩ 0 [] ps 0 cfg0 (some cfg0) 20 []):=a;have CS:=j3u V3 none 0 0 (fun _=>0) (fun i hi=>absurd hi (by omega)) 3 (by omega) (by omega);clear E CB a;go_wp2_with fail;refine CS.mono ?_;rintro e V4 ⟨v,rfl,d,b1⟩;have CG:=j52 (G.out.join b1) d (jq4 _ _) (jq2 (by decide) _);obtain ⟨cl,t⟩:∃ cl,v=.agg cl:=by obtain ⟨-,u,e,-⟩:=d;exact ⟨_,e⟩
 subst t;clear CS G d b1;go_wp2_with fail;refine CG.mono ?_;rintro e V5 ⟨rfl,a⟩;have G:Hid (TxA w V5 p h 2048 8 ⟨false,false,0,0⟩ 0 [] ps 0 cfg0 (some (sc 3 [])) 20 []):=a;have CT:=jf7 V5 0 (by omega) 3 (by omega) (by omega);clear CG a;go_wp2_with fail;refine CT.mono ?_;rintro e V6 ⟨z,rfl,a4,P,a3,b0⟩;have H:=(yn.lig P (by omega));have Q:=yn.sq P (by omega);have X:=G.out.join b0;have J:=jay (y:=yP ⟨#[97]⟩ z) (HV.out V6 X.mem.below) X (by omega) a3 H (by show (1:Nat)<=1000000;omega);have S:ftsB (sc 3 []).ten (yP ⟨#[97]⟩ z).1=true:=joj Q;have b3:stg (sc 3 []) (yP ⟨#[97]⟩ z).1=sc 3 [z.1]:=by
  rw [stg,if_pos S];show (⟨_,_,_,_,_,_,app [] [(yP ⟨#[97]⟩ z).1]⟩:Cgf)=_;rw [app_nil _ rfl];rfl
 rw [S,if_pos rfl,b3] at J;have I:=jhm ⟨#[97]⟩ z H.1.len V6;obtain ⟨Y,hY⟩:∃ Y,(yc (yP ⟨#[97]⟩ z)).toArray=Y:=⟨_,rfl⟩;rw [hY] at J I;have HZ:Hid (SQ 0 z.1/\TIn z.1/\z.1=sQ 0 3):=⟨Q,H.1,a4⟩;obtain ⟨A,a⟩:∃ A,tv z=.agg A:=⟨_,rfl⟩;rw [a] at I;rw [a];clear CT G X P a3 H Q S b3 b0 a4 hY a;go_wp2_with (refine yy rfl 48 _ (by with_reducible rfl) I (by simp [aO,aP]) ?_)
 refine J.mono ?_;rintro e V7 ⟨rfl,a⟩;have CC:=j7h (HV.out V7 a.mem.below) HG.out a (by omega) rfl (by omega) (by omega) (by omega) (by omega) (by simp) (by omega) (by omega);clear J a I;go_wp2_with fail;refine CC.mono ?_;rintro e V8 ⟨k,er,rfl,hc⟩;have a6:cmE 8 2048 0 (sc 3 [z.1])=0:=jry (by omega) HZ.out.2.1.len HZ.out.1 (by decide);rcases hc with ⟨-,a1,a2,-⟩|⟨rfl,rfl,-,D',hd1,hd2,hR,a⟩|⟨-,-,-,a1,-⟩
 ·exact absurd (a1.trans a6) a2
 ·have hD:=hd2 rfl;subst hD;have E:=j25 a;have b4:=j7f a (by omega);have G:Hid (TxA w V8 p h 2048 8 ⟨false,false,0,0⟩ (0+1) ([]++[jt (0+1) (sc 3 [z.1])]) ps (0+1) (sc 3 [z.1]) none (20+1) []):=a;have e1:((0:Int)+1)=1:=rfl;have w1:IntKind.i64.wrap (0+0)=0:=rfl;clear CC a6 a hR hd1 hd2;go_wp2_with fail;refine E.mono ?_;rintro e _ ⟨rfl,rfl⟩;go_wp2_with fail;refine b4.mono ?_;rintro e l ⟨v,rfl,T⟩;have a7:=T.below;have d:=T.cv (G.out.lig.1.cin.len);obtain ⟨b5,t⟩:∃ cl,v=.agg cl:=by obtain ⟨-,u,e,-⟩:=d;exact ⟨_,e⟩
  subst t;have a8:Below l.heap.size l (l.alloc (.cells #[.int .u16 3] 42)):=(Below.refl _ _).alloc (aL _) _;have a5:∀ i,i<1->∃ b a0,(some ⟨l.heap.size,0,none⟩:Option Addr)=some ⟨b,a0,none⟩/\(l.alloc (.cells #[.int .u16 3] 42)).cell? ⟨b,a0+i,none⟩=some (.int .u16 3)/\(0:Int)<=3/\(3:Int)<=65535:=by
   intro i hi;obtain rfl:i=0:=by omega
   exact ⟨l.heap.size,0,rfl,by rw [World.cell?_alloc_new];rfl,by omega,by omega⟩
  have CS:=j3u (l.alloc (.cells #[.int .u16 3] 42)) (some ⟨l.heap.size,0,none⟩) 1 1 (fun _=>3) a5 3 (by omega) (by omega);have s:Hid (CV l (.agg b5) (sc 3 [z.1])/\Below V8.heap.size V8 l/\Below l.heap.size l (l.alloc (.cells #[.int .u16 3] 42))):=⟨d,a7,a8⟩;clear E b4 T d a7 a8 a5;go_wp2_with fail;refine CS.mono ?_;rintro e Z ⟨v2,rfl,q,M⟩;have U:Below l.heap.size l Z:=s.out.2.2.trans (M.mono s.out.2.2.size);have a9:Below V8.heap.size V8 Z:=s.out.2.1.trans (U.mono s.out.2.1.size);have e3:(sc (aI 3 8) ((aw (min 1 4)).map fun j=>sQ j 3))=sc 3 [z.1]:=by rw [HZ.out.2.2];rfl
  rw [e3] at q;obtain ⟨b9,t⟩:∃ cl,v2=.agg cl:=by obtain ⟨-,u,e,-⟩:=q;exact ⟨_,e⟩
  subst t;have CH:=zq (s.out.1.at_ U (aL _)) q (j38 G.out.lig.1) (ym _);have O:Hid (TxA w Z p h 2048 8 ⟨false,false,0,0⟩ (0+1) ([]++[jt (0+1) (sc 3 [z.1])]) ps (0+1) (sc 3 [z.1]) none (20+1) []):=G.out.join a9;clear CS q M U a9 e3 s G;go_wp2_with fail;refine CH.mono ?_;rintro e b6 ⟨rfl,K⟩;have r:=O.out.join K;have b8:=j3o r;have b7:=j17 r (v:=0) (k:=112) (aF ⟨rfl,by decide,rfl⟩);have HE:Hid (Below w.heap.size w b6):=r.mem.below;clear CH O K r;go_wp2_with fail;refine b8.mono ?_;rintro e _ ⟨rfl,rfl⟩;go_wp2_with fail;refine b7.mono ?_;rintro e _ ⟨rfl,rfl⟩;go_wp2_with fail;go_ret;exact ⟨rfl,HE.out⟩
 ·cases a1
def bgK (st:Option Cgf) (v ver:Int):Int:=if st.isSome then 110 else if v=ver then 0 else 112
def bgS (st:Option Cgf) (v ver:Int) (c:Cgf):Option Cgf:=if st.isSome then st else if v=ver then some c else none
def sgK (st:Option Cgf) (g:Chg):Int:=match st with
 | none=>111
 | some c1=>if ftsB c1.ten g=true then 0 else 90
def sgS (st:Option Cgf) (g:Chg):Option Cgf:=st.map fun c1=>stg c1 g
def gtK (st:Option Cgf):Int:=if st.isSome then 0 else 111
def gtS (st:Option Cgf) (c2:Cgf):Option Cgf:=st.map fun c1=>{ c2 with ten:=c1.ten }
section
variable {w W:World} {p h m N:Nat} {D:Dk} {B:Int} {all:List (List Int)} {ps:Nat} {ver:Int} {c:Cgf} {st:Option Cgf} {n:Nat} {L:List (Nat×Obj)}
theorem TxA.grow (H:TxA w W p h m N D B all ps ver c st n L) (a:n<=n'):TxA w W p h m N D B all ps ver c st n' L:=by
 obtain ⟨pl,u,sp,K,l,j,d,q,b⟩:=H;exact ⟨pl,u,sp,K,l,j,d,by omega,b.more (fun x hx=>hx) a⟩
theorem j7i (H:TxA w W p h m N D B all ps ver c st n L) (v:Int):Calls prog 22 #[.pointer (some ⟨ps,0,none⟩),.int .u64 v] W fun e a=>e=.returned (.int .i64 (bgK st v ver))/\TxA w a p h m N D B all ps ver c (bgS st v ver c) n L:=by
 cases st with
 | some c1 =>
  refine (j17 H (v:=v) (aG ⟨by simp,rfl⟩)).mono ?_;rintro e _ ⟨rfl,rfl⟩;exact ⟨rfl,H⟩
 | none =>
  by_cases hv:v=ver
  ·subst hv;rw [show bgK none v v=0 by simp [bgK],show bgS none v v c=some c by simp [bgS]];exact jaz H
  ·rw [show bgK none v ver=112 by simp [bgK,hv],show bgS none v ver c=none by simp [bgS,hv]];refine (j17 H (v:=v) (aF ⟨rfl,hv,rfl⟩)).mono ?_;rintro e _ ⟨rfl,rfl⟩;exact ⟨rfl,H⟩
theorem j7e (l:Vs W) (H:TxA w W p h m N D B all ps ver c st n L) (q:n<=900) {y:Hv} (b:Rws W (yz y)) (j:TIn y.1.t/\TRg y.1.t/\Lgt y.1.t) (a:y.1.name.size<=1000000) :
 Calls prog 29 #[.pointer (some ⟨ps,0,none⟩),.agg (yc y).toArray] W fun e d=>e=.returned (.int .i64 (sgK st y.1))/\TxA w d p h m N D B all ps ver c (sgS st y.1) (n+1) L:=by
 cases st with
 | some c1=>exact jay l H q b j a
 | none =>
  refine (j8z H _).mono ?_;rintro e d ⟨rfl,hb⟩;exact ⟨rfl,(H.join hb).grow (by omega)⟩
theorem j4r (H:TxA w W p h m N D B all ps ver c st n L) {a:Cgf} (j:CV W v a) (d:CIn a) (b:CRg a) :
 Calls prog 26 #[.pointer (some ⟨ps,0,none⟩),v] W fun e l=>e=.returned (.int .i64 (gtK st))/\TxA w l p h m N D B all ps ver c (gtS st a) n L:=by
 cases st with
 | some c1=>exact j52 H j d b
 | none =>
  refine (j5q H j).mono ?_;rintro e l ⟨rfl,hb⟩;exact ⟨rfl,H.join hb⟩
theorem j7j (H:TxA w W p h m N D B all ps ver c st n L) :
 Calls prog 23 #[.pointer (some ⟨ps,0,none⟩)] W fun e a=>e=.returned (.int .i64 (gtK st))/\TxA w a p h m N D B all ps ver c none n L:=by
 cases st with
 | some c1=>exact ji9 H
 | none =>
  refine (j3o H).mono ?_;rintro e _ ⟨rfl,rfl⟩;exact ⟨rfl,H⟩
end
section
variable {w W:World} {F:List (Nat×Obj)} {pm:Nat} {ver:Int} {c:Cgf} {sm:Option Cgf} {L R:List (Nat×Obj)}
theorem j7m (h:RmS w F pm ver c sm L) (a:Mem w W (L++R)) (v:Int):Calls prog 27 #[.pointer (some ⟨pm,0,none⟩),.int .u64 v] W fun e d=>e=.returned (.int .i64 (bgK sm v ver))/\∃ b,RmS w F pm ver c (bgS sm v ver c) b/\Mem w d (b++R):=by
 cases sm with
 | some c1 =>
  refine (j3w h a (v:=v) (aG ⟨by simp,rfl⟩)).mono ?_;rintro e _ ⟨rfl,rfl⟩;exact ⟨rfl,L,h,a⟩
 | none =>
  by_cases hv:v=ver
  ·subst hv;rw [show bgK none v v=0 by simp [bgK],show bgS none v v c=some c by simp [bgS]];exact jit h a
  ·rw [show bgK none v ver=112 by simp [bgK,hv],show bgS none v ver c=none by simp [bgS,hv]];refine (j3w h a (v:=v) (aF ⟨rfl,hv,rfl⟩)).mono ?_;rintro e _ ⟨rfl,rfl⟩;exact ⟨rfl,L,h,a⟩
theorem j9b (s:Vs W) (h:RmS w F pm ver c sm L) {y:Hv} (l:∀ x∈C,x∈F) (z:On w C (fun X=>Rws X (yz y))) (j:Mem w W (L++R)) (u:∀ c1,sm=some c1->c1.ten.length<=390) (d:TLen y.1.t) (b:y.1.name.size<=1000000) (a:y.1.t.name.size<=1000000) :
 Calls prog 30 #[.pointer (some ⟨pm,0,none⟩),.agg (yc y).toArray] W fun e q=>e=.returned (.int .i64 (sgK sm y.1))/\∃ r,RmS w F pm ver c (sgS sm y.1) r/\Mem w q (r++R):=by
 cases sm with
 | some c1=>exact jir s h l z j (u c1 rfl) d b a
 | none =>
  refine (j9a h j _).mono ?_;rintro e q ⟨rfl,hb⟩;exact ⟨rfl,L,h,j.after hb⟩
theorem j4u (h:RmS w F pm ver c sm L) (a:Mem w W (L++R)) {d:Cgf} (b:CV W v d) :
 Calls prog 28 #[.pointer (some ⟨pm,0,none⟩),v] W fun e j=>e=.returned (.int .i64 (gtK sm))/\∃ l,RmS w F pm ver c (gtS sm d) l/\Mem w j (l++R):=by
 cases sm with
 | some c1=>exact jcy h a b
 | none =>
  refine (j62 h a b).mono ?_;rintro e j ⟨rfl,hb⟩;exact ⟨rfl,L,h,a.after hb⟩
theorem j7n (h:RmS w F pm ver c sm L) (a:Mem w W (L++R)) :
 Calls prog 12 #[.pointer (some ⟨pm,0,none⟩)] W fun e d=>e=.returned (.int .i64 (gtK sm))/\∃ b,RmS w F pm ver c none b/\Mem w d (b++R):=by
 cases sm with
 | some c1=>exact jiu h a
 | none =>
  refine (j9d h a).mono ?_;rintro e _ ⟨rfl,rfl⟩;exact ⟨rfl,L,h,a⟩
end
def Bo (w W:World) (F:List (Nat×Obj)) (p h m N:Nat) (D:Dk) (all:List (List Int)) (ps pm:Nat) (ver:Int) (c:Cgf) (st:Option Cgf) (n:Nat):Prop :=
 D.dead=false/\Rst all ver c/\(all.length:Int)=ver/\∃ L,RmS w F pm ver c st L/\TxA w W p h m N D ver all ps ver c st n L
section
variable {w W:World} {F:List (Nat×Obj)} {p h m N:Nat} {D:Dk} {all:List (List Int)} {ps pm:Nat} {ver:Int} {c:Cgf} {st:Option Cgf} {n:Nat}
theorem Bo.less (H:Bo w W F p h m N D all ps pm ver c st n) (hs:∀ x∈F',x∈F):Bo w W F' p h m N D all ps pm ver c st n:=by
 obtain ⟨l,j,d,L,b,a⟩:=H;exact ⟨l,j,d,L,b.less hs,a⟩
theorem Bo.grow (H:Bo w W F p h m N D all ps pm ver c st n) (a:n<=n'):Bo w W F p h m N D all ps pm ver c st n':=by
 obtain ⟨q,l,j,L,d,b⟩:=H;exact ⟨q,l,j,L,d,b.grow a⟩
theorem Bo.join (H:Bo w W F p h m N D all ps pm ver c st n) (hb:Below W.heap.size W V):Bo w V F p h m N D all ps pm ver c st n:=by
 obtain ⟨l,j,d,L,b,a⟩:=H;exact ⟨l,j,d,L,b,a.join hb⟩
theorem Bo.push (H:Bo w W F p h m N D all ps pm ver c st n) (k:Mem W V C):Bo w V (C++F) p h m N D all ps pm ver c st n:=by
 obtain ⟨l,j,d,L,b,a⟩:=H;exact ⟨l,j,d,C++L,b.more C,a.push k⟩
theorem Bo.has (H:Bo w W F p h m N D all ps pm ver c st n):∀ x∈F,W.heap[x.1]?=some x.2:=by
 obtain ⟨l,j,d,L,b,a⟩:=H;exact fun x hx=>a.mem.at_ x (b.keeps x hx)
theorem Bo.below (H:Bo w W F p h m N D all ps pm ver c st n):Below w.heap.size w W:=by
 obtain ⟨l,j,d,L,b,a⟩:=H;exact a.mem.below
theorem Bo.lig {c1:Cgf} (H:Bo w W F p h m N D all ps pm ver c (some c1) n):Lig c1/\c1.ten.length<=n:=by
 obtain ⟨l,j,d,L,b,a⟩:=H;exact a.ligT
theorem Bo.v0 (H:Bo w W F p h m N D all ps pm ver c st n):0<=ver:=by
 obtain ⟨l,j,d,L,b,a⟩:=H;omega
theorem Bo.read (H:Bo w W F p h m N D all ps pm ver c st n):∃ u,W.cell? ⟨pm,0,none⟩=some (.int .u64 ver)/\W.rangeAt pm 1 (cc c u)/\CV W (.agg (cc c u).toArray) c/\W.cell? ⟨pm,59,none⟩=some (.bool st.isSome):=by
 obtain ⟨l,j,d,L,b,a⟩:=H;exact b.read (R:=[]) (by simpa using a.mem)
theorem Bo.readT {c1:Cgf} (H:Bo w W F p h m N D all ps pm ver c (some c1) n):∃ u,W.rangeAt pm 30 (cc c1 u)/\CV W (.agg (cc c1 u).toArray) c1:=by
 obtain ⟨l,j,d,L,b,a⟩:=H;exact b.readT (R:=[]) (by simpa using a.mem)
theorem jc9 (H:Bo w W F p h m N D all ps pm ver c st n) (v:Int):Calls prog 22 #[.pointer (some ⟨ps,0,none⟩),.int .u64 v] W fun e V=>e=.returned (.int .i64 (bgK st v ver)) /\
 Calls prog 27 #[.pointer (some ⟨pm,0,none⟩),.int .u64 v] V fun e b=>e=.returned (.int .i64 (bgK st v ver))/\Bo w b F p h m N D all ps pm ver c (bgS st v ver c) n:=by
 obtain ⟨u,t,s,L,r,q⟩:=H;refine (j7i q v).mono ?_;rintro e V ⟨rfl,l⟩;obtain ⟨R,d,hb⟩:=l.frame;refine ⟨rfl,(j7m r d v).mono ?_⟩;rintro e b ⟨rfl,y,j,a⟩;exact ⟨rfl,u,t,s,y,j,hb _ _ a⟩
theorem jl3 (H:Bo w W F p h m N D all ps pm ver c st n):Calls prog 23 #[.pointer (some ⟨ps,0,none⟩)] W fun e V=>e=.returned (.int .i64 (gtK st)) /\
 Calls prog 12 #[.pointer (some ⟨pm,0,none⟩)] V fun e b=>e=.returned (.int .i64 (gtK st))/\Bo w b F p h m N D all ps pm ver c none n:=by
 obtain ⟨u,t,s,L,r,q⟩:=H;refine (j7j q).mono ?_;rintro e V ⟨rfl,l⟩;obtain ⟨R,d,hb⟩:=l.frame;refine ⟨rfl,(j7n r d).mono ?_⟩;rintro e b ⟨rfl,y,j,a⟩;exact ⟨rfl,u,t,s,y,j,hb _ _ a⟩
def BoH (w W:World) (F:List (Nat×Obj)) (p h m N:Nat) (D:Dk) (all:List (List Int)) (ps pm:Nat) (ver:Int) (c:Cgf) (st st':Option Cgf) (n:Nat):Prop :=
 D.dead=false/\Rst all ver c/\(all.length:Int)=ver/\∃ L,RmS w F pm ver c st L/\TxA w W p h m N D ver all ps ver c st' n L
theorem BoH.push {a:Option Cgf} (H:BoH w W F p h m N D all ps pm ver c st a n) (k:Mem W V C):BoH w V (C++F) p h m N D all ps pm ver c st a n:=by
 obtain ⟨q,l,j,L,d,b⟩:=H;exact ⟨q,l,j,C++L,d.more C,b.push k⟩
theorem BoH.join {a:Option Cgf} (H:BoH w W F p h m N D all ps pm ver c st a n) (hb:Below W.heap.size W V):BoH w V F p h m N D all ps pm ver c st a n:=by
 obtain ⟨q,l,j,L,d,b⟩:=H;exact ⟨q,l,j,L,d,b.join hb⟩
theorem BoH.has {a:Option Cgf} (H:BoH w W F p h m N D all ps pm ver c st a n):∀ x∈F,W.heap[x.1]?=some x.2:=by
 obtain ⟨q,l,j,L,d,b⟩:=H;exact fun x hx=>b.mem.at_ x (d.keeps x hx)
theorem BoH.below {a:Option Cgf} (H:BoH w W F p h m N D all ps pm ver c st a n):Below w.heap.size w W:=by
 obtain ⟨q,l,j,L,d,b⟩:=H;exact b.mem.below
theorem j8r (j:Vs W) (H:Bo w W F p h m N D all ps pm ver c st n) (l:n<=900) {y:Hv} (b:Rws W (yz y)) (d:TIn y.1.t/\TRg y.1.t/\Lgt y.1.t) (a:y.1.name.size<=1000000) :
 Calls prog 29 #[.pointer (some ⟨ps,0,none⟩),.agg (yc y).toArray] W fun e V=>e=.returned (.int .i64 (sgK st y.1))/\BoH w V F p h m N D all ps pm ver c st (sgS st y.1) (n+1):=by
 obtain ⟨E,z,u,L,s,r⟩:=H;refine (j7e j r l b d a).mono ?_;rintro e V ⟨rfl,q⟩;exact ⟨rfl,E,z,u,L,s,q⟩
theorem j8q (l:Vs W) {y:Hv} (H:BoH w W (C++F) p h m N D all ps pm ver c st (sgS st y.1) n) (s:On w C (fun X=>Rws X (yz y))) (q:∀ c1,st=some c1->c1.ten.length<=390) (d:TLen y.1.t) (b:y.1.name.size<=1000000) (a:y.1.t.name.size<=1000000) :
 Calls prog 30 #[.pointer (some ⟨pm,0,none⟩),.agg (yc y).toArray] W fun e V=>e=.returned (.int .i64 (sgK st y.1))/\Bo w V F p h m N D all ps pm ver c (sgS st y.1) n:=by
 obtain ⟨J,I,G,L,E,z⟩:=H;obtain ⟨R,r,hb⟩:=z.frame;refine (j9b l E (fun x hx=>by simp [hx]) s r q d b a).mono ?_;rintro e V ⟨rfl,K,u,j⟩;exact ⟨rfl,J,I,G,K,u.less (fun x hx=>by simp [hx]),hb _ _ j⟩
theorem jl2 (H:Bo w W F p h m N D all ps pm ver c st n) {a:Cgf} (j:CV W v a) (d:CIn a) (b:CRg a) :
 Calls prog 26 #[.pointer (some ⟨ps,0,none⟩),v] W fun e V=>e=.returned (.int .i64 (gtK st))/\BoH w V F p h m N D all ps pm ver c st (gtS st a) n:=by
 obtain ⟨u,t,s,L,r,q⟩:=H;refine (j4r q j d b).mono ?_;rintro e V ⟨rfl,l⟩;exact ⟨rfl,u,t,s,L,r,l⟩
theorem jl1 {d:Cgf} (H:BoH w W F p h m N D all ps pm ver c st (gtS st d) n) (a:CV W v d) :
 Calls prog 28 #[.pointer (some ⟨pm,0,none⟩),v] W fun e V=>e=.returned (.int .i64 (gtK st))/\Bo w V F p h m N D all ps pm ver c (gtS st d) n:=by
 obtain ⟨u,t,s,L,r,q⟩:=H;obtain ⟨R,j,hb⟩:=q.frame;refine (j4u r j a).mono ?_;rintro e V ⟨rfl,y,l,b⟩;exact ⟨rfl,u,t,s,y,l,hb _ _ b⟩
end
def DoP (w:World) (F:List (Nat×Obj)) (p h m N:Nat) (D:Dk) (all:List (List Int)) (ps pm:Nat) (ver:Int) (c:Cgf) (st:Option Cgf) (n:Nat) (e:Ending) (V:World):Prop :=
 (∃ k D' all' ver' c' st',e=.returned (.tuple #[.int .i64 k,.int .i64 k])/\(D.set=false->D'=D)/\(ver'=ver\/ver'=ver+1)/\Bo w V F p h m N D' all' ps pm ver' c' st' (n+1)) \/
 (e=.returned (.tuple #[.int .i64 (-1),.int .i64 0])/\D.set=true/\∃ c1 L,st=some c1/\Rst all ver c/\Rst (all++[jt (ver+1) c1]) (ver+1) c1/\(∀ x∈F,x∈L)/\(TxD w V p h m N (ver+1) all ps ver c (n+1) L\/TxD w V p h m N (ver+1) (all++[jt (ver+1) c1]) ps ver c (n+1) L))
section
variable {w W:World} {F:List (Nat×Obj)} {p h m N:Nat} {D:Dk} {all:List (List Int)} {ps pm:Nat} {ver:Int} {c:Cgf} {st:Option Cgf} {n:Nat} {x:Ac}
theorem DoP.ok {a:Option Cgf} (b:e=.returned (.tuple #[.int .i64 k,.int .i64 k])) (H:Bo w V F p h m N D all ps pm ver c a (n+1)):DoP w F p h m N D all ps pm ver c st n e V :=
 aG ⟨k,D,all,ver,c,a,b,fun _=>rfl,aG rfl,H⟩
theorem j2j (d:(aC x).toArray=A):∀ (j:Nat) (v:Value) (X:World),(aC x)[j]?=some v->X.heap[g]?=some (.cells A acT (0,0))->X.cell? ⟨g,j,none⟩=some v:=fun j v X a b=>by
 rw [cell_of b,<-d,ap];exact a
theorem Bo.box (H:Bo w W F p h m N D all ps pm ver c st n) (a:W.heap.size=g):Bo w (W.alloc (.cells A acT)) ((g,.cells A acT (0,0))::F) p h m N D all ps pm ver c st n :=
 H.push ((Mem.nil W).push1 a.symm)
theorem Bo.at_ (H:Bo w W F p h m N D all ps pm ver c st n) (a:(g,o)∈F):W.heap[g]?=some o:=H.has (g,o) a
theorem BoH.at_ {a:Option Cgf} (H:BoH w W F p h m N D all ps pm ver c st a n) (b:(g,o)∈F):W.heap[g]?=some o:=H.has (g,o) b
theorem Bo.unbox {o:Nat×Obj} (H:Bo w W (o::F) p h m N D all ps pm ver c st n):Bo w W F p h m N D all ps pm ver c st n:=H.less fun x hx=>ao _ hx
theorem jmn:TIn ten0/\TRg ten0/\Lgt ten0:=by
 refine ⟨⟨⟨rfl,rfl,rfl⟩,ka _ (by decide),ka _ (by decide),ka _ (by decide),by decide,by decide,by decide,by decide⟩,⟨?_,?_,?_,?_,?_,?_,?_,?_,?_,?_,?_,?_⟩,by decide,by decide,by decide,by decide⟩<;>first|decide|simp [ten0]
theorem jju {t:Ten} (h:Lgt t) (a:TLen t) (hb:TBy t):TIn t:=by
 obtain ⟨l,j,d,b⟩:=h;exact ⟨a,hb.key,hb.vmac,hb.host,by omega,by omega,by omega,by omega⟩
theorem jil (i:Nat) (k:Int) (a:0<=k) (b:k<=65535):yn i k (sQ i k):=by
 have s:=j02 (k:=.u16) 16 (by decide) (fun n a b=>zr n a (by omega)) 3 (by decide) 7 (k / 8) (by decide) (by omega) (by omega);have r:=j02 (k:=.i64) 63 (by decide) (fun n a b=>wrap64 (by omega) (by omega)) 3 (by decide) 7 (k / 512) (by decide) (by omega) (by omega);have q:=j02 (k:=.i64) 63 (by decide) (fun n a b=>wrap64 (by omega) (by omega)) 2 (by decide) 3 (k / 4096) (by decide) (by omega) (by omega);have l:=j02 (k:=.u32) 32 (by decide) (fun n a b=>jg n a (by omega)) 2 (by decide) 3 (k / 16384) (by decide) (by omega) (by omega);have j:=j02 (k:=.u32) 32 (by decide) (fun n a b=>jg n a (by omega)) 3 (by decide) 7 (k / 8192) (by decide) (by omega) (by omega);have d:aI k 3=k % 3:=aJ a;refine ⟨qlo k,qhi k,aI k 3,_,_,_,_,rfl,⟨⟨rfl,rfl,rfl,rfl,rfl,rfl,rfl⟩,?_,?_,by omega,by omega,by omega,by omega,by omega⟩⟩
 ·unfold qlo qhi;split<;>omega
 ·unfold qhi;split<;>omega
theorem js1 (hx:AcW w x) (a:LgA x):(TIn x.chg.t/\TRg x.chg.t/\Lgt x.chg.t)/\x.chg.name.size<=1000000/\x.chg.t.name.size<=1000000:=by
 have d:(sNm x.n).size=1:=rfl;unfold Ac.chg;split
 ·have l:=a.2.1;have j:=a.1.1;exact ⟨⟨jju a.1 hx.len hx.tby,hx.trg,a.1⟩,by omega,by omega⟩
 ·split
  ·exact ⟨jmn,by show (1:Nat)<=1000000;omega,by show (0:Nat)<=1000000;omega⟩
  ·have b:=yn.lig (jil x.n x.kind hx.kind.1 hx.kind.2) (show x.n<17 by have:=hx.nn;unfold Ac.n;omega);exact ⟨b,by show (1:Nat)<=1000000;omega,by show (1:Nat)<=1000000;omega⟩
theorem js2 (hx:AcW w x):CIn x.cfg/\CRg x.cfg:=by
 unfold Ac.cfg;split
 ·exact ⟨hx.cin,hx.crg⟩
 ·exact ⟨jq4 _ _,jq2 (by have:=hx.nn;omega) _⟩
end
end
end Go.Proofs.YtdigofgjhaakmaaGreatDoor
