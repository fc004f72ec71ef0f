/- Parts of the proof. -/
import Derived.Test.YtdigofgjhaakmaaGreatDoorC14
set_option linter.all false
set_option maxHeartbeats 40000000
set_option maxRecDepth 20000
open Go.Proofs.Tryz
open List renaming mem_cons_of_mem->aa,mem_append_right->ab,replicate->ac,getElem?_eq_getElem->ad,getD->ae,length_map->af,append_assoc->ag,length_replicate->ah
open Go.IntKind renaming i64->ai,wrap_i64->aj
open Nat renaming le_refl->ak,zero_add->al
open Or renaming inr->am,inl->an
namespace Go.Proofs.YtdigofgjhaakmaaGreatDoor
variable {L:List (Nat×Obj)} {xs:List Value} {T:TypeId} {v:Value} {a:Option Addr} {w:World}
section
open Go.RowKit Sm Cf
def jfy (t:Ten):List Int:=cat (fun i=>(tsp.getD i sp0).enc t) 13
theorem j9e (t:Ten):jfy t=(((((((((((([]++nm t.name)++be 4 t.vni)++t.key)++be 4 t.vtep)++t.vmac)++t.host)++be 2 t.lo)++be 2 t.hi)++be 1 t.filter)++be 2 t.sess)++be 2 t.queue)++be 4 t.rate)++be 4 t.burst:=rfl
theorem jcp (t:Ten):tenc t=(((jfy t++[((min t.pool.length 255:Nat):Int),((min t.stat.length 255:Nat):Int),((min t.twi.length 255:Nat):Int)])++cat (fun i=>be 4 (t.pool.getD i 0)) (min t.pool.length 255))++cat (fun i=>spP.enc (t.stat.getD i (0,0))) (min t.stat.length 255))++cat (fun i=>spP.enc (t.twi.getD i (0,0))) (min t.twi.length 255):=by
 have:jfy t++[((min t.pool.length 255:Nat):Int),((min t.stat.length 255:Nat):Int),((min t.twi.length 255:Nat):Int)]=((jfy t++[((min t.pool.length 255:Nat):Int)])++[((min t.stat.length 255:Nat):Int)])++[((min t.twi.length 255:Nat):Int)]:=by simp
 rw [this];rfl
end
section
open Go.RowKit Sm
def j0o (w:World) (p h m:Nat) (L:List (Nat×Obj)) (a:Option Addr) (r:List Int):Prop :=
 ∀ W' D' hc' ks' L',DkAt w W' p h m D' hc' ks' L'->(∀ x∈L,x∈L')->Row W' a r
def gone:Dk:=⟨true,false,0,0⟩
def went (D:Dk):Dk:=if D.set then ⟨false,true,D.left-1,D.pre⟩ else ⟨false,false,D.left,D.pre⟩
theorem j61 (D:Dk):(went D).dead=false:=by unfold went;split<;>rfl
theorem j9d {D:Dk} (hd:D.dead=false) (h:D.set=false):went D=D:=by
 obtain ⟨d,s,l,q⟩:=D;simp only at h hd;subst h;subst hd;rfl
section
variable {w W:World} {p h m:Nat} {D:Dk} {hc:Array Value} {ks:List Bk} {L:List (Nat×Obj)}
theorem DkAt.has (H:DkAt w W p h m D hc ks L) {x:Nat×Obj} (hx:x∈L):W.heap[x.1]?=some x.2:=H.st.mem.at_ x (aa _ (aa _ (ab _ hx)))
structure WrAt (w W:World) (p h m:Nat) (D0:Dk) (hc:Array Value) (bl:List (List Int)) (L:List (Nat×Obj)) (e:En) (k:Nat) (D:Dk) (ks:List Bk) (K:List (Nat×Obj)):Prop where
 at_:DkAt w W p h m D hc ks (K++L)
 live:D.dead=false
 off:D0.set=false->D=D0
 rows:ks.map Bk.b=qo m e bl k
structure WrEnd (w W:World) (p h m:Nat) (D0:Dk) (hc:Array Value) (bl:List (List Int)) (L:List (Nat×Obj)) (e:En) (err:Int) (D:Dk) (ks:List Bk) (K:List (Nat×Obj)):Prop where
 at_:DkAt w W p h m D hc ks (K++L)
 ok:(err=0/\D.dead=false/\(D0.set=false->D=D0)/\ks.map Bk.b=qo m e bl (npc (m-64) e.r.length))\/(err=42/\D=gone/\D0.set=true/\Left m e bl (ks.map Bk.b))
theorem jcf (H:DkAt w W p h m D hc ks L) (hd:D.dead=false) (e:En) (he:EnOk ks.length m e) {k cap:Nat} (hk:e.r.length=k) (d5:k<=cap) (f2:(a=none/\cap=0)\/∃ b e7,a=some ⟨b,e7,none⟩) (hB:j0o w p h m L a e.r) :
  Calls prog 86 #[.pointer (some ⟨p,0,none⟩),.agg (enA e.s e.t e.c (.slice a k cap))] W fun ev Y=>∃ d6,ev=.returned (.int .i64 d6)/\∃ B d K,WrEnd w Y p h m D hc (ks.map Bk.b) L e d6 B d K:=by
 have hA:Mem W (W.alloc (.cells (enA e.s e.t e.c (.slice a k cap)) enT)) [(W.heap.size,.cells (enA e.s e.t e.c (.slice a k cap)) enT (0,0))]:=(Mem.nil W).push1 rfl;have H1:=H.join hA;have hn:=j1y he;have f4:=he.m0;have g7:=he.m1;have g4:=he.s;have kE:∀ j,(W.alloc (.cells (enA e.s e.t e.c (.slice a k cap)) enT)).cell? ⟨W.heap.size,j,none⟩=(enA e.s e.t e.c (.slice a k cap))[j]?:=hA.cell 0 rfl;have k0:=kE 0;have k1:=kE 1;have k2:=kE 2;have k3:=kE 3;generalize g3:W.alloc (.cells (enA e.s e.t e.c (.slice a k cap)) enT)=w1 at *;simp at k0 k1 k2 k3;obtain ⟨M,hM⟩:∃ M,M=m-64:=⟨_,rfl⟩;have g9:(m:Int)-64=(M:Int):=by omega
 have g8:ai.wrap (M:Int)=M:=by rw [aj];omega
 have g5:e.r.length<=31*65536:=Nat.le_trans he.len (Nat.mul_le_mul hn.2.2.1 (by omega));have b6:=jbj (W:=w1.drew) e hk d5 f2 (most:=M) (by omega) (by omega) (by omega) (by rw [hM,<-hk];omega);have d3:=j5c (H1.on H1.st.drew);have d2:=yi (H1.on H1.st.drew);have hy:(e.s:Int)*(sbk ks.length:Int)=((e.s*sbk ks.length:Nat):Int):=by rw [Int.natCast_mul]
 have f1:e.s*sbk ks.length<ks.length:=by have:=j1l he.s he.n0 (show 0<sbk ks.length by omega);simpa using this
 have d1:=H.top;obtain ⟨n,hN⟩:∃ n,n=npc M k:=⟨_,rfl⟩;rw [<-hN] at b6;rw [hM,<-hk] at hN;have d8:Hid (Calls prog 121 #[.agg (enA e.s e.t e.c (.slice a k cap)),.int .i64 M] w1.drew _):=b6;have e1:Hid (Calls prog 49 #[.pointer (some ⟨p,0,none⟩)] w1.drew _):=d3;have a3:Hid (Calls prog 50 #[.pointer (some ⟨p,0,none⟩)] w1.drew _):=d2;generalize c5:e.s*sbk ks.length=y at *;generalize c7:sbk ks.length=x at *;have HH:Hid (DkAt w w1 p h m D hc ks ([(W.heap.size,.cells (enA e.s e.t e.c (.slice a k cap)) enT (0,0))]++L)):=H1;have HY:Hid (e.s*sbk ks.length=y):=by rw [c7];exact c5
 have b3:w1.drew.cell? ⟨W.heap.size,0,none⟩=some (.int .i64 e.s):=k0;have c4:w1.drew.cell? ⟨W.heap.size,1,none⟩=some (.int .u64 e.t):=k1;have c3:w1.drew.cell? ⟨W.heap.size,2,none⟩=some (.int .i64 e.c):=k2;have c2:w1.drew.cell? ⟨W.heap.size,3,none⟩=some (.slice a k cap):=k3;have a1:W.heap.size<w1.drew.heap.size:=j9 b3;have b0:Hid (M=m-64):=hM;have N:Hid (n=npc (m-64) e.r.length):=hN;have g2:ai.wrap (y:Int)=y:=by rw [aj];omega
 clear b6 d3 d2 H1 hA kE c5 c7 hM hN;go_enter func86,ntmps86;go_upto_region 1 with fail
 go_region_held3 (fun w'=>w'.cell? ⟨W.heap.size,0,none⟩=some (.int .i64 e.s)/\w'.cell? ⟨W.heap.size,1,none⟩=some (.int .u64 e.t)/\w'.cell? ⟨W.heap.size,2,none⟩=some (.int .i64 e.c)/\w'.cell? ⟨W.heap.size,3,none⟩=some (.slice a k cap))
  (first|go_keep|assumption|exact ⟨(q5.old a1).trans b3,(q5.old a1).trans c4,(q5.old a1).trans c3,(q5.old a1).trans c2⟩)
  (first
   | (go_at_call 49;with_reducible refine e1.out.mono ?_;rintro G w3 ⟨rfl,rfl⟩)
   | (go_at_call 50;with_reducible refine a3.out.mono ?_;rintro G w3 ⟨rfl,rfl⟩)
   | (go_at_call 121;with_reducible refine d8.out.mono ?_;rintro G S ⟨o,rfl,xs,d0,c9,l,b1,K5,q5⟩))
 have H5:DkAt w S p h m D hc ks (((o,.cells l pcT (0,0))::K5)++([(W.heap.size,.cells (enA e.s e.t e.c (.slice a k cap)) enT (0,0))]++L)):=(HH.out.on HH.out.st.drew).join q5;have a0:=yi H5;have b7:=zh m (by omega) S;have a9:Mem S (S.alloc (.cells (madeCells #[.int .u8 0] m) 5)) [(S.heap.size,.cells (bs (ac m 0)) 5)]:=by rw [<-j8w];exact (Mem.nil S).push1 rfl
 have H6:=H5.join a9;have a5:Row (S.alloc (.cells (madeCells #[.int .u8 0] m) 5)) (some ⟨S.heap.size,0,none⟩) (ac m 0):=a9.own 0 rfl (zj m 0 (by omega)) (by simp;omega);obtain ⟨kk,C⟩:∃ kk,ks[y]?=some kk:=⟨_,ad f1⟩;have I:(ks.map Bk.b).getD y []=kk.b:=by simp [ae,C]
 have c0:Hid (xs.length=n/\(∀ j x,xs[j]?=some x->Part a e.r x.1 (lspc e M j).b/\(lspc e M j).b.length<=x.2)/\l.toList=pcL e M 0 xs):=⟨d0,c9,b1⟩;have e4:Hid (0<=D.pre/\D.pre<=m):=H.pre;have HE:Hid (EnOk ks.length m e):=he;clear d0 c9 b1 H5 HH q5 d8 e1 a3 b3 c4 c3 c2 a1 k0 k1 k2 k3;by_cases hcut:D.set=true/\D.left=0
 ·have hW:=j4e H6 a5 (ak m) (by simp) y C hd hcut.1 hcut.2;have d9:Hid (D.set=true):=hcut.1;have f7:Hid ((ks.map Bk.b).getD y []=kk.b):=I;clear I;clear H6 a5 a9 C hcut hd hB he H;generalize S.alloc (.cells (madeCells #[.int .u8 0] m) 5)=w6 at b7 hW;go_wp2_with fail;refine a0.mono ?_;rintro G w3 ⟨rfl,rfl⟩;go_wp2_with fail;refine hW.mono ?_;rintro G w7 ⟨rfl,d,H7,J⟩;have a4:Hid (∃ B d K,WrEnd w w7 p h m D hc (ks.map Bk.b) L e 42 B d K):=by
   refine ⟨gone,d,[(S.heap.size,.cells (bs (ac m 0)) 5)]++(((o,.cells l pcT (0,0))::K5)++[(W.heap.size,.cells (enA e.s e.t e.c (.slice a k cap)) enT (0,0))]),⟨?_,am ⟨rfl,rfl,d9.out,?_⟩⟩⟩
   ·have e9:([(S.heap.size,Obj.cells (bs (ac m 0)) 5)]++(((o,.cells l pcT (0,0))::K5)++([(W.heap.size,.cells (enA e.s e.t e.c (.slice a k cap)) enT (0,0))]++L)))=([(S.heap.size,.cells (bs (ac m 0)) 5)]++(((o,.cells l pcT (0,0))::K5)++[(W.heap.size,.cells (enA e.s e.t e.c (.slice a k cap)) enT (0,0))]))++L:=by simp
    rw [<-e9];exact H7
   ·rw [J,<-f7.out,<-HY.out];have h9:=Left.blank (m:=m) (e:=e) (bl:=ks.map Bk.b) D.pre.toNat (by have:=e4.out;omega);rw [af] at h9;exact h9
  clear H7 J hW
  go_wp2
  go_ret;exact ⟨42,rfl,a4.out⟩
 ·have a2:D.set=false\/D.left≠0:=by
   cases hD:D.set
   ·exact an rfl
   ·exact am fun e0=>hcut ⟨hD,e0⟩
  have hW:=j72 (cap:=m) H6 a5 (by simp) y C hd a2;clear H6 a5 a9 C hcut a2 I;generalize S.alloc (.cells (madeCells #[.int .u8 0] m) 5)=w6 at b7 hW;go_wp2_with fail;refine a0.mono ?_;rintro G w3 ⟨rfl,rfl⟩;go_wp2_with fail;refine hW.mono ?_;rintro G w7 ⟨rfl,f0,H7,J⟩;have H0:∃ B d K,WrAt w w7 p h m D hc (ks.map Bk.b) ((o,.cells l pcT (0,0))::L) e 0 B d K:=by
   refine ⟨went D,f0,[(S.heap.size,.cells (bs (ac m 0)) 5)]++(K5++[(W.heap.size,.cells (enA e.s e.t e.c (.slice a k cap)) enT (0,0))]),⟨?_,j61 D,fun h0=>j9d hd h0,?_⟩⟩
   ·refine H7.on (H7.st.perm ?_);have e9:∀ (A K5 R L:List (Nat×Obj)) (P:Nat×Obj),(A++((P::K5)++(R++L))).Perm ((A++(K5++R))++(P::L)):=by
     intro A K5 R L P;rw [ag];refine List.Perm.append_left A ?_;rw [List.cons_append];have:(K5++R)++P::L=(K5++R)++P::L:=rfl;refine List.Perm.trans ?_ List.perm_middle.symm;rw [ag]
    exact e9 _ _ _ _ _
   ·rw [J,qo,af,HY.out]
  have d7:Hid (∃ B d K,WrAt w w7 p h m D hc (ks.map Bk.b) ((o,.cells l pcT (0,0))::L) e 0 B d K):=H0;have e6:Hid (j0o w p h m L a e.r):=hB;have f9:Hid (ks.length<=64):=d1;have f3:0<n:=by rw [N.out];exact hn.1
  have f8:n<=31:=by rw [N.out];omega
  have f5:Hid (∀ j,j<n->y+j<ks.length):=fun j hj=>by
   have:=j1l HE.out.s HE.out.n0 (show j<sbk ks.length by have:=N.out;have:=(j1y HE.out).2.1;omega);rw [HY.out] at this;exact this
  clear H7 J hW H0 hB a0 b7 H he hd;go_wp2_with fail
  go_loopw [8] (fun u wr=>∃ j:Nat,u=.int .i64 ((j:Int)-1)/\j<=n/\∃ B d K,WrAt w wr p h m D hc (ks.map Bk.b) ((o,.cells l pcT (0,0))::L) e (n-j) B d K) (fun u _=>(intOf u+1).toNat)
  case atStart=>exact ⟨n,rfl,ak _,by rw [Nat.sub_self];exact d7.out⟩
  case round =>
   obtain ⟨j,rfl,hj,B,d,K,E⟩:=hrel;clear d7;by_cases hj0:j=0
   ·subst hj0;have a4:Hid (∃ B d K,WrEnd w wr p h m D hc (ks.map Bk.b) L e 0 B d K):=by
     refine ⟨B,d,K++[(o,.cells l pcT (0,0))],⟨?_,an ⟨rfl,E.live,E.off,?_⟩⟩⟩
     ·rw [ag];exact E.at_
     ·have:=E.rows;rw [Nat.sub_zero,N.out] at this;exact this
    clear E
    go_wp2
    go_ret;exact ⟨0,rfl,a4.out⟩
   ·obtain ⟨i,rfl⟩:∃ i,j=i+1:=⟨j-1,by omega⟩;rw [show (((i+1:Nat):Int)-1)=(i:Int) by omega];have b8:i<n:=by omega
    obtain ⟨⟨xa,xc⟩,hx⟩:∃ x,xs[i]?=some x:=⟨_,ad (by rw [c0.out.1];exact b8)⟩;obtain ⟨Q,b5⟩:=c0.out.2.1 i _ hx;have a6:npc M e.r.length=n:=by rw [b0.out,N.out]
    obtain ⟨kb,I⟩:∃ kb,(lspc e M i).b.length=kb:=⟨_,rfl⟩;have HS:Hid (∀ V:World,V.heap[o]?=some (.cells l pcT (0,0))->V.cell? ⟨o,i*5,none⟩=some (.int .u64 e.t)/\V.cell? ⟨o,i*5+1,none⟩=some (.int .i64 e.c)/\V.cell? ⟨o,i*5+2,none⟩=some (.int .i64 i)/\V.cell? ⟨o,i*5+3,none⟩=some (.int .i64 n)/\V.cell? ⟨o,i*5+4,none⟩=some (.slice xa kb xc)):=by
     intro V hV;have hq:∀ f,f<5->V.cell? ⟨o,i*5+f,none⟩=(pcQ e M i (xa,xc))[f]?:=by
      intro f hf;rw [cell_of hV,<-Array.getElem?_toList,c0.out.2.2,jku e M xs i f _ hx hf 0,al]
     refine ⟨?_,?_,?_,?_,?_⟩
     ·have:=hq 0 (by omega);simpa [pcQ] using this
     ·have:=hq 1 (by omega);simpa [pcQ] using this
     ·have:=hq 2 (by omega);simpa [pcQ] using this
     ·have:=hq 3 (by omega);rw [this];simp [pcQ,a6]
     ·have:=hq 4 (by omega);rw [this];simp [pcQ,I]
    have a7:wr.heap[o]?=some (.cells l pcT (0,0)):=E.at_.has (x:=(o,.cells l pcT (0,0))) (by simp);have a8:wr.drew.heap[o]?=some (.cells l pcT (0,0)):=a7;have d4:o<wr.drew.heap.size:=(Array.getElem?_eq_some_iff.mp a8).1;have e2:Hid (∀ V K,Mem wr.drew V K->V.cell? ⟨o,i*5,none⟩=some (.int .u64 e.t)/\V.cell? ⟨o,i*5+1,none⟩=some (.int .i64 e.c)/\V.cell? ⟨o,i*5+2,none⟩=some (.int .i64 i)/\V.cell? ⟨o,i*5+3,none⟩=some (.int .i64 n)/\V.cell? ⟨o,i*5+4,none⟩=some (.slice xa kb xc)):=fun V K hV=>HS.out V (by rw [hV.below.block o d4];exact a8);obtain ⟨j0,j1,j2,j3,j4⟩:=HS.out wr a7;have Z:DkAt w wr.drew p h m B hc d (K++((o,.cells l pcT (0,0))::L)):=E.at_.on E.at_.st.drew;have a3:Hid (Calls prog 50 #[.pointer (some ⟨p,0,none⟩)] wr.drew fun e Y=>e=.returned (.int .i64 m)/\wr.drew=Y):=yi Z;have F:PcOk m (lspc e M i):=by rw [b0.out];exact jd7 HE.out i (by rw [<-N.out];exact b8)
    have e5:Hid (Calls prog 123 #[.agg (pcA e.t e.c i n (.slice xa kb xc)),.int .i64 m] wr.drew fun G Y=>∃ g,G=.returned (.slice (some ⟨g,0,none⟩) m m)/\∃ K,Mem wr.drew Y ((g,.cells (bs (frm m (lspc e M i))) 5)::K)):=by
     have h9:=jbv F f4 (a:=xa) (cap:=xc) I (by rw [<-I];exact b5) (Q _ (e6.out _ _ _ _ _ Z (fun q hq=>by simp [hq])));have e9:pcA (lspc e M i).t (lspc e M i).c (lspc e M i).i (lspc e M i).n (.slice xa kb xc)=pcA e.t e.c i n (.slice xa kb xc):=by simp only [lspc,a6]
     rw [e9] at h9;exact h9
    obtain ⟨z,hz⟩:∃ z,z=y+i:=⟨_,rfl⟩;have b4:z<d.length:=by
     have h9:=f5.out i b8;have h8:d.length=ks.length:=by have:=congrArg List.length E.rows;rw [jl,af,af] at this;exact this
     omega
    have g1:(y:Int)+i=(z:Int):=by omega
    have g0:ai.wrap (z:Int)=z:=by have:=E.at_.top;rw [aj];omega
    obtain ⟨kk,C⟩:∃ kk,d[z]?=some kk:=⟨_,ad b4⟩;have U:(frm m (lspc e M i)).length=m:=j0j F.len;have f6:Hid (qo m e (ks.map Bk.b) (n-i)=(d.map Bk.b).set z (frm m (lspc e M i))):=by
     show _=_;rw [show n-i=(n-(i+1))+1 by omega,qo,<-E.rows,af,HY.out,<-N.out,show n-1-(n-(i+1))=i by omega,<-b0.out,hz]
    have q0:(0:Int)<=(i:Int):=by omega
    have qn:(i:Int)<(n:Int):=by omega
    by_cases hcut:B.set=true/\B.left=0
    ·have c1:Hid (∀ w6 K6 X,Mem wr.drew w6 ((X,.cells (bs (frm m (lspc e M i))) 5)::K6)->Calls prog 122 #[.pointer (some ⟨p,0,none⟩),.int .i64 z,.slice (some ⟨X,0,none⟩) m m] w6 fun G Y=>G=.returned (.int .i64 42)/\Y.heap[o]?=some (.cells l pcT (0,0))/\∃ B d K,WrEnd w Y p h m D hc (ks.map Bk.b) L e 42 B d K):=by
      intro w6 K6 X h6;have H6:=Z.join h6;refine (j4e H6 (h6.own 0 rfl (j6v F.bytes) (by rw [U];omega)) (ak m) U z C E.live hcut.1 hcut.2).mono ?_;rintro G Y ⟨rfl,b2,H7,J⟩;refine ⟨rfl,H7.has (x:=(o,.cells l pcT (0,0))) (by simp),gone,b2,((X,.cells (bs (frm m (lspc e M i))) 5)::K6)++(K++[(o,.cells l pcT (0,0))]),⟨?_,am ⟨rfl,rfl,?_,?_⟩⟩⟩
      ·have e9:((X,Obj.cells (bs (frm m (lspc e M i))) 5)::K6)++(K++((o,.cells l pcT (0,0))::L))=(((X,.cells (bs (frm m (lspc e M i))) 5)::K6)++(K++[(o,.cells l pcT (0,0))]))++L:=by simp
       rw [<-e9];exact H7
      ·cases hD:D.set
       ·have:=E.off hD;rw [this,hD] at hcut;simp at hcut
       ·rfl
      ·have h9:=Left.mid (m:=m) (e:=e) (bl:=ks.map Bk.b) (n-(i+1)) B.pre.toNat (by rw [<-N.out];omega) (by have:=E.at_.pre;omega);rw [af,HY.out,<-N.out,show n-1-(n-(i+1))=i by omega,<-b0.out,<-hz,<-E.rows] at h9;rw [J];have e8:(d.map Bk.b).getD z []=kk.b:=by simp [ae,C]
       rw [e8] at h9;exact h9
     clear E Z Q b5 hx F a7 a8 hcut C b4 hz U a6 I e6;go_upto_region 8 with fail
     go_region_held3 (fun w'=>w'.cell? ⟨o,i*5,none⟩=some (.int .u64 e.t)/\w'.cell? ⟨o,i*5+1,none⟩=some (.int .i64 e.c)/\w'.cell? ⟨o,i*5+2,none⟩=some (.int .i64 i)/\w'.cell? ⟨o,i*5+3,none⟩=some (.int .i64 n)/\w'.cell? ⟨o,i*5+4,none⟩=some (.slice xa kb xc))
      (first|go_keep|assumption|exact e2.out _ _ q6|exact HS.out _ b9)
      (first
       | (go_at_call 50;with_reducible refine a3.out.mono ?_;rintro G w3 ⟨rfl,rfl⟩)
       | (go_at_call 123;with_reducible refine e5.out.mono ?_;rintro G w6 ⟨X,rfl,K6,q6⟩)
       | (go_at_call 122;with_reducible refine (c1.out _ _ _ q6).mono ?_;rintro G w7 ⟨rfl,b9,O⟩))
     go_wp2
     go_ret;exact ⟨42,rfl,O⟩
    ·have a2:B.set=false\/B.left≠0:=by
      cases hD:B.set
      ·exact an rfl
      ·exact am fun e0=>hcut ⟨hD,e0⟩
     have c1:Hid (∀ w6 K6 X,Mem wr.drew w6 ((X,.cells (bs (frm m (lspc e M i))) 5)::K6)->Calls prog 122 #[.pointer (some ⟨p,0,none⟩),.int .i64 z,.slice (some ⟨X,0,none⟩) m m] w6 fun G Y=>G=.returned (.int .i64 0)/\Y.heap[o]?=some (.cells l pcT (0,0))/\∃ B d K,WrAt w Y p h m D hc (ks.map Bk.b) ((o,.cells l pcT (0,0))::L) e (n-i) B d K):=by
      intro w6 K6 X h6;have H6:=Z.join h6;refine (j72 (cap:=m) H6 (h6.own 0 rfl (j6v F.bytes) (by rw [U];omega)) U z C E.live a2).mono ?_;rintro G Y ⟨rfl,b2,H7,J⟩;refine ⟨rfl,H7.has (x:=(o,.cells l pcT (0,0))) (by simp),went B,b2,((X,.cells (bs (frm m (lspc e M i))) 5)::K6)++K,⟨?_,j61 B,fun h0=>?_,?_⟩⟩
      ·rw [ag];exact H7
      ·have:=E.off h0;rw [this] at E ⊢;exact j9d E.live h0
      ·rw [J,f6.out]
     clear E Z Q b5 hx F a7 a8 hcut C b4 hz U a6 I a2;go_upto_region 8 with fail
     go_region_held3 (fun w'=>w'.cell? ⟨o,i*5,none⟩=some (.int .u64 e.t)/\w'.cell? ⟨o,i*5+1,none⟩=some (.int .i64 e.c)/\w'.cell? ⟨o,i*5+2,none⟩=some (.int .i64 i)/\w'.cell? ⟨o,i*5+3,none⟩=some (.int .i64 n)/\w'.cell? ⟨o,i*5+4,none⟩=some (.slice xa kb xc))
      (first|go_keep|assumption|exact e2.out _ _ q6|exact HS.out _ b9)
      (first
       | (go_at_call 50;with_reducible refine a3.out.mono ?_;rintro G w3 ⟨rfl,rfl⟩)
       | (go_at_call 123;with_reducible refine e5.out.mono ?_;rintro G w6 ⟨X,rfl,K6,q6⟩)
       | (go_at_call 122;with_reducible refine (c1.out _ _ _ q6).mono ?_;rintro G w7 ⟨rfl,b9,O⟩))
     go_wp2_with fail;go_roundw
     case rel=>exact ⟨i,rfl,by omega,O⟩
     case measure=>simp [intOf]
end
end
section
open Go.RowKit Sm Cf
def j5l (bo bi:Nat):Fv:=⟨222,223,224,#[.pointer (some ⟨bo,0,none⟩),.pointer (some ⟨bi,0,none⟩)],#[.pointer (some ⟨bo,0,none⟩),.pointer (some ⟨bi,0,none⟩)],#[.pointer (some ⟨bo,0,none⟩),.pointer (some ⟨bi,0,none⟩)]⟩
def kj:Sp Cgf:=⟨fun c=>cat (fun i=>tenc (c.ten.getD i ten0)) (min c.ten.length 255),fun l c=>(sq (itd ten0 spT) 0 c.ten.length l c.ten).map (fun q=>({ c with ten:=q.1 },q.2)),fun _ _=>false⟩
theorem pick {α:Type}:∀ (l:List α) (i:Nat),i<l.length->∃ A z B,l=A++z::B/\A.length=i
 | z::l,0,_=>⟨[],z,l,rfl,rfl⟩
 | y::l,i+1,h=>by
  obtain ⟨A,z,B,e,b⟩:=pick l i (by simpa using h);exact ⟨y::A,z,B,by rw [e];rfl,by simp [b]⟩
theorem jen (bo R U:Nat) (k:Fv) (I:Fd w L IT JT k spT)
  (mo:(bo,.cells #[.func (.func U) #[] #[]] 233)∈L) (mi:(R,.cells k.cells.toArray 246)∈L)
  (eo:Ent U) (ho:∀ V g s,Calls prog U #[.pointer (some ⟨g,s,none⟩)] V fun e S=>e=.returned (.pointer (some ⟨g,s+28,none⟩))/\V=S) :
  Fw w L IC JC (j5l bo R) kj:=by
 have ci:∀ K,Sub L K->∀ V,Mem w V K->V.cell? ⟨R,0,none⟩=some (.func (.func k.kw) #[] k.cw)/\V.cell? ⟨R,1,none⟩=some (.func (.func k.kr) #[] k.cr)/\V.cell? ⟨R,2,none⟩=some (.func (.func k.ks) #[] k.cs) :=
  fun K C V o=>⟨by rw [j8 o (C _ mi)];rfl,by rw [j8 o (C _ mi)];rfl,by rw [j8 o (C _ mi)];rfl⟩
 refine ⟨enters_of func222 (by kernel_rfl) rfl,enters_of func223 (by kernel_rfl) rfl,?_,?_⟩
 ·rintro K C x ⟨sv,t⟩ g s hx v l V hO hb;have h0:=hx V hO.mem;have r:(t.map zc).length=x.ten.length:=by rw [af,<-h0.2.2.1,af]
  have:=jo6 hO bo R U k.kw k.kr k.ks k.cw k.cr k.cs ⟨g,s,none⟩ ⟨g,s+28,none⟩ sv (t.map zc) ?hx (fun V o=>by rw [j8 o (C _ mo)];rfl) (ci K C) eo (fun V=>ho V g s) I.ew
   (fun V o=>(hx V o).cell 28 (cget (hx V o).1.len (by rintro ip a b c d f g a1 b1 c1 d1 f1 g1 a2 b2 c2 d2 f2 g2 k1 k2 k3 k4 k5 k6 k7 k8 dr te rfl;rfl))) (fun V o=>(hx V o).2.2.2.1) (fun i=>tenc (x.ten.getD i ten0)) ?hw (by rw [r];exact hb)
  case hx =>
   intro q hq;obtain ⟨z,F,rfl⟩:=List.mem_map.mp hq;have E:=h0.2.2.2.2 z F;exact ⟨ji E.1.len _ _ _,jiu E.2⟩
  case hw =>
   intro i hi ge v l V o Z;rw [r] at hi;have a6:i<t.length:=by rw [af] at r;omega
   obtain ⟨z,F⟩:∃ z,t[i]?=some z:=⟨_,ad a6⟩;have a0:z∈t:=List.mem_of_getElem? F;have ez:(t.map zc).getD i []=zc z:=by simp [ae,F]
   have ed:x.ten.getD i ten0=z.1:=by rw [<-h0.2.2.1];simp [ae,F]
   rw [ez] at o;simp only [ed] at Z ⊢;refine (I.wr _ (C.cons _) z.1 z.2 ge 0 (fun V o=>?_) v l V o Z).mono ?_
   ·obtain ⟨E,h2⟩:=(hx V o.sub).2.2.2.2 z a0;refine ⟨E,fun j u hj=>?_,h2⟩;rw [al,o.cell 0 rfl,List.getElem?_toArray];exact hj
   ·rintro e S ⟨v',E,h2⟩;exact ⟨v',E,h2.drop⟩
  rw [r] at this;exact this
 ·intro K C x g T H post a l c V hj hS;obtain ⟨a5,hb,M,sa,sc,a3,y,Q,P,a7,X⟩:=jeb x g T H post V K hj;have:=joa (σ:=List Ten) (w:=w) (L:=M) (J:=fun G V=>G.length=x.ten.length/\IMT w hb M V G) ?st (fun G V h=>by obtain ⟨-,t,-,-,h⟩:=h;exact h.dropA) bo R U k.kw k.kr k.ks k.cw k.cr k.cs ⟨g,H.length,none⟩ ⟨g,H.length+28,none⟩ sa x.ten.length sc a5 hb a3
   (fun V o=>by rw [j8 o (y _ (C _ mo))];rfl) (ci M (C.trans y)) eo (fun V=>ho V g H.length) I.er (itd ten0 spT) ?hr x.ten l a c V ⟨rfl,a7⟩ hS P
  case st =>
   rintro G V S ⟨E,t,h2,h3,h4⟩ hB;exact ⟨E,t,h2,h3,h4.after hB⟩
  case hr =>
   rintro i hi G l a c V ⟨E,t,rfl,h3,h4⟩ hS;rw [af] at E;obtain ⟨A,z,B,rfl,hA⟩:=pick t i (by omega);have ed:((A++z::B).map Prod.fst).getD i ten0=z.1:=by
    subst hA;simp [ae]
   have es:∀ q:Ten,∀ n:Nat×Nat×Nat,((A++z::B).map Prod.fst).set i q=(A++(q,n)::B).map Prod.fst:=by
    intro q n;subst hA;simp [List.set_append_right]
   have N:∀ z∈A,tok z:=fun z F=>h3 z (List.mem_append_left _ F);have a4:(A.flatMap tcs).length=i*33:=by rw [jcq N,hA]
   have ft:∀ u:Tz,(A++u::B).flatMap tcs=A.flatMap tcs++(tcs u++B.flatMap tcs):=fun u=>by simp
   have fb:∀ u:Tz,((A++u::B).flatMap tbs++M).Perm (lb u.2.1 33 (ux u.1.pool)++(lb u.2.2.1 122 (px u.1.stat)++(lb u.2.2.2 122 (px u.1.twi)++(A.flatMap tbs++(B.flatMap tbs++M))))):=by
    intro u
    classical
    rw [List.perm_iff_count];intro q;simp only [List.flatMap_append,List.flatMap_cons,tbs,List.count_append];omega
   rw [j63 (by simp),ft] at h4;have F:=h3 z (by simp);have hJ:JT w z.1 hb 46 (A.flatMap tcs) (B.flatMap tcs) V (A.flatMap tbs++(B.flatMap tbs++M)):=⟨F.1,F.2,z.2.1,z.2.2.1,z.2.2.2,h4.perm ((fb z).cons _)⟩;have:=I.rd (A.flatMap tbs++(B.flatMap tbs++M)) (((C.trans y).app _).app _) z.1 hb 46 (A.flatMap tcs) (B.flatMap tcs) a l c V hJ hS;rw [a4] at this;refine this.mono ?_;intro e S hR;refine hR.mono (fun q=>((A++z::B).map Prod.fst).set i q) (by simp only [itd,ed]) (fun h=>h.dropA.dropA) (fun q hq=>⟨by rw [List.length_set,af];exact E,?_⟩);obtain ⟨j1,j2,hp,hs,Y,j3⟩:=hq;refine ⟨A++(q,hp,hs,Y)::B,(es q _).symm,fun u O=>?_,?_⟩
   ·rcases List.mem_append.mp O with O|O
    ·exact N u O
    ·rcases List.mem_cons.mp O with rfl|O
     ·exact ⟨j1,j2⟩
     ·exact h3 u (ab _ (aa _ O))
   ·rw [j63 (by simp),ft];exact j3.perm ((fb (q,hp,hs,Y)).symm.cons _)
  refine this.mono ?_;intro e S hR;exact hR.mono (fun G=>{ x with ten:=G }) rfl (Q S) (fun G hy=>X G S hy.1 hy.2)
theorem jdv {W:World} (h:Mem w W L) (b:Nat) (k:Fv) :
  Calls prog 159 #[.func (.func b) #[] #[],k.val] W fun e t=>∃ o q,e=.returned (j5l o q).val/\Mem w t ((o,.cells #[.func (.func b) #[] #[]] 233)::(q,.cells k.cells.toArray 246)::L):=by
 obtain ⟨f,d,c,j,i,g⟩:=k;have l:Mem w ((W.alloc (.cells #[.func (.func b) #[] #[]] 233)).alloc (.cells #[.func (.func f) #[] j,.func (.func d) #[] i,.func (.func c) #[] g] 246)) ((W.heap.size,.cells #[.func (.func b) #[] #[]] 233)::(W.heap.size+1,.cells #[.func (.func f) #[] j,.func (.func d) #[] i,.func (.func c) #[] g] 246)::L):=by
  have s:=(h.push W.heap.size (.cells #[.func (.func b) #[] #[]] 233) rfl).push (W.heap.size+1) (.cells #[.func (.func f) #[] j,.func (.func d) #[] i,.func (.func c) #[] g] 246) (by simp);refine s.perm ?_;rw [ag];exact List.perm_append_comm
 have r:∀ (n:Fn) (first cap:Array Value) (w:World),(Instr.makeFunc n first cap).run prog w=.ok (.func n first cap) w:=fun _ _ _ _=>rfl;have u:Hid (Mem w ((W.alloc (.cells #[.func (.func b) #[] #[]] 233)).alloc (.cells #[.func (.func f) #[] j,.func (.func d) #[] i,.func (.func c) #[] g] 246)) ((W.heap.size,.cells #[.func (.func b) #[] #[]] 233)::(W.heap.size+1,.cells #[.func (.func f) #[] j,.func (.func d) #[] i,.func (.func c) #[] g] 246)::L)):=l;clear l h;simp only [Fv.val];go_enter func159,ntmps159;go_wp2_with fail;refine bodyPost_ret (v:=(j5l W.heap.size (W.heap.size+1)).val) ?_ rfl ⟨_,_,rfl,u.out.after ((Below.refl _ _).alloc (ak _) _)⟩;exact results_cell_row (p:=4) (ty:=189) rfl _ _ (W.heap.size+1+1) 189 _ (0,0) _ rfl (jm _ _ _ _) underlying189 rfl (by kernel_rfl)
theorem jdj (y z:Int×Int):RB spP.dec (spP.enc y) z (num (be 4 y.1),num (be 4 y.2)):=by
 obtain ⟨c,h,e⟩:=jb5 (dec:=fun i=>([spA,spB].getD i sp0).dec) (enc:=fun i=>([spA,spB].getD i sp0).enc y)
  (Inv:=fun k x=>x=(if 0<k then num (be 4 y.1) else z.1,if 1<k then num (be 4 y.2) else z.2)) 2 0 z (fun k _ b x hx=>by
   subst hx
   match k,b with
   | 0,_=>exact ⟨_,(ym 4 _ _ y _:RB spA.dec (spA.enc y) _ _),rfl⟩
   | 1,_=>exact ⟨_,(ym 4 _ _ y _:RB spB.dec (spB.enc y) _ _),rfl⟩) rfl
 subst e;rw [<-j20] at h;exact h
theorem rb_u (y z:Int):RB spU.dec (spU.enc y) z (num (be 4 y)):=ym 4 id (fun _ y=>y) y z
def tcut (t:Ten):Ten:=⟨strOfNums ((sb t.name).take 255),num (be 4 t.vni),t.key,num (be 4 t.vtep),t.vmac,t.host,(t.pool.take 255).map (fun v=>num (be 4 v)),num (be 2 t.lo),num (be 2 t.hi),num (be 1 t.filter),
 (t.stat.take 255).map (fun v=>(num (be 4 v.1),num (be 4 v.2))),(t.twi.take 255).map (fun v=>(num (be 4 v.1),num (be 4 v.2))),num (be 2 t.sess),num (be 2 t.queue),num (be 4 t.rate),num (be 4 t.burst)⟩
def stt (t:Ten) (k:Nat):Ten:=⟨if 0<k then (tcut t).name else ten0.name,if 1<k then (tcut t).vni else ten0.vni,if 2<k then t.key else ten0.key,if 3<k then (tcut t).vtep else ten0.vtep,if 4<k then t.vmac else ten0.vmac,if 5<k then t.host else ten0.host,
 if 16<k then (tcut t).pool else if 13<k then ac (min t.pool.length 255) 0 else [],if 6<k then (tcut t).lo else ten0.lo,if 7<k then (tcut t).hi else ten0.hi,if 8<k then (tcut t).filter else ten0.filter,
 if 17<k then (tcut t).stat else if 14<k then ac (min t.stat.length 255) (0,0) else [],if 18<k then (tcut t).twi else if 15<k then ac (min t.twi.length 255) (0,0) else [],
 if 9<k then (tcut t).sess else ten0.sess,if 10<k then (tcut t).queue else ten0.queue,if 11<k then (tcut t).rate else ten0.rate,if 12<k then (tcut t).burst else ten0.burst⟩
theorem j7v (x:Ten) (m:Nat) (h:x.pool=[]):j12 x m={ x with pool:=ac m 0 }:=by
 unfold j12;split
 ·rename_i e;subst e;cases x;simp only at h;subst h;rfl
 ·rfl
theorem j7u (x:Ten) (m:Nat) (h:x.stat=[]):j11 x m={ x with stat:=ac m (0,0) }:=by
 unfold j11;split
 ·rename_i e;subst e;cases x;simp only at h;subst h;rfl
 ·rfl
theorem jb8 (x:Ten) (m:Nat) (h:x.twi=[]):j2w x m={ x with twi:=ac m (0,0) }:=by
 unfold j2w;split
 ·rename_i e;subst e;cases x;simp only at h;subst h;rfl
 ·rfl
theorem jjx (t:Ten) (b:TLen t):RB spT.dec (spT.enc t) ten0 (tcut t):=by
 obtain ⟨d,h,e⟩:=jb5 (dec:=fun i=>(tsp.getD i sp0).dec) (enc:=fun i=>(tsp.getD i sp0).enc t) (Inv:=fun k x=>x=stt t k) 19 0 ten0 (fun k _ c x hx=>by
   subst hx
   match k,c with
   | 0,_=>exact ⟨_,(jni _ _ t _ (j6a _):RB j9o.dec (j9o.enc t) _ _),rfl⟩
   | 1,_=>exact ⟨_,(ym 4 _ _ t _:RB jga.dec (jga.enc t) _ _),rfl⟩
   | 2,_=>exact ⟨_,(j2z 8 _ _ t _ b.key:RB jgb.dec (jgb.enc t) _ _),rfl⟩
   | 3,_=>exact ⟨_,(ym 4 _ _ t _:RB j9k.dec (j9k.enc t) _ _),rfl⟩
   | 4,_=>exact ⟨_,(j2z 6 _ _ t _ b.vmac:RB j0w.dec (j0w.enc t) _ _),rfl⟩
   | 5,_=>exact ⟨_,(j2z 6 _ _ t _ b.host:RB j9p.dec (j9p.enc t) _ _),rfl⟩
   | 6,_=>exact ⟨_,(ym 2 _ _ t _:RB spLo.dec (spLo.enc t) _ _),rfl⟩
   | 7,_=>exact ⟨_,(ym 2 _ _ t _:RB spHi.dec (spHi.enc t) _ _),rfl⟩
   | 8,_=>exact ⟨_,(ym 1 _ _ t _:RB j24.dec (j24.enc t) _ _),rfl⟩
   | 9,_=>exact ⟨_,(ym 2 _ _ t _:RB j9l.dec (j9l.enc t) _ _),rfl⟩
   | 10,_=>exact ⟨_,(ym 2 _ _ t _:RB j4s.dec (j4s.enc t) _ _),rfl⟩
   | 11,_=>exact ⟨_,(ym 4 _ _ t _:RB j9m.dec (j9m.enc t) _ _),rfl⟩
   | 12,_=>exact ⟨_,(ym 4 _ _ t _:RB j4x.dec (j4x.enc t) _ _),rfl⟩
   | 13,_=>exact ⟨_,(ja0 _ _ t _:RB j9n.dec (j9n.enc t) _ _),j7v _ _ rfl⟩
   | 14,_=>exact ⟨_,(ja0 _ _ t _:RB j0y.dec (j0y.enc t) _ _),j7u _ _ rfl⟩
   | 15,_=>exact ⟨_,(ja0 _ _ t _:RB j23.dec (j23.enc t) _ _),jb8 _ _ rfl⟩
   | 16,_=>exact ⟨_,(jdk 0 spU _ rb_u _ _ t _ (ah ..):RB j4t.dec (j4t.enc t) _ _),rfl⟩
   | 17,_=>exact ⟨_,(jdk (0,0) spP _ jdj _ _ t _ (ah ..):RB j0d.dec (j0d.enc t) _ _),rfl⟩
   | 18,_=>exact ⟨_,(jdk (0,0) spP _ jdj _ _ t _ (ah ..):RB j0x.dec (j0x.enc t) _ _),rfl⟩
   | n+19,h=>exact absurd (show n+19<0+19 from h) (by omega)) rfl
 subst e;rw [<-j20] at h;exact h
def OwB (T:TypeId) (sz:Nat) (v:Value) (n:Nat) (xs:List Value) (B:List (Nat×Obj)):Prop :=
 xs.length=n*sz/\((v=.slice none 0 0/\n=0/\B=[])\/∃ g cap cur,v=.slice (some ⟨g,0,none⟩) n cap/\B=[(g,.cells cur T (0,0))]/\n<=cap/\cap<=maxLen/\cur.size=cap*sz/\cur.toList.take (n*sz)=xs)
theorem OwB.nil (T:TypeId) (sz:Nat):OwB T sz (.slice none 0 0) 0 [] []:=⟨by simp,an ⟨rfl,rfl,rfl⟩⟩
theorem OwB.ow {V:World} {sz n:Nat} {B:List (Nat×Obj)} (h:OwB T sz v n xs B) (b:Mem w V (B++L)):Ow w V T sz v n xs L:=by
 obtain ⟨d,c⟩:=h;refine ⟨d,?_⟩;rcases c with ⟨rfl,e,rfl⟩|⟨g,cap,cur,rfl,rfl,r⟩
 ·exact an ⟨rfl,e,b⟩
 ·exact am ⟨g,cap,cur,rfl,b,r⟩
theorem Ow.owb {V:World} {sz n:Nat} (h:Ow w V T sz v n xs L):∃ B,OwB T sz v n xs B/\Mem w V (B++L):=by
 obtain ⟨b,c⟩:=h;rcases c with ⟨rfl,e,hM⟩|⟨g,cap,cur,rfl,hM,r⟩
 ·exact ⟨[],⟨b,an ⟨rfl,e,rfl⟩⟩,hM⟩
 ·exact ⟨[(g,.cells cur T (0,0))],⟨b,am ⟨g,cap,cur,rfl,rfl,r⟩⟩,hM⟩
theorem jdl (acc:List (Int×Int)) (x:Int×Int):(px (acc++[x])).flatten=(px acc).flatten++[.int .u32 x.1,.int .u32 x.2]:=by simp [px]
theorem jjm (acc:List Int) (x:Int):(ux (acc++[x])).flatten=(ux acc).flatten++[.int .u32 x]:=by simp [ux]
theorem jar (b c j:Nat):(Addr.mk b c none).add j=⟨b,c+j,none⟩:=Addr.add_mid b c j
def j97 (t z:Ten):Prop:=sb t.name=sb z.name/\t.vni=z.vni/\t.key=z.key/\t.vtep=z.vtep/\t.vmac=z.vmac/\t.host=z.host/\t.pool=z.pool/\t.lo=z.lo/\t.hi=z.hi/\t.filter=z.filter/\t.stat=z.stat/\t.twi=z.twi/\t.sess=z.sess/\t.queue=z.queue/\t.rate=z.rate/\t.burst=z.burst
end
end Go.Proofs.YtdigofgjhaakmaaGreatDoor
