/- Parts of the proof. -/
import Derived.Test.YtdigofgjhaakmaaGreatDoorF19
set_option linter.all false
set_option maxHeartbeats 40000000
set_option maxRecDepth 20000
open Go.Proofs.Tryz
open List renaming length_map->aa,replicate->ab,getD_eq_getElem?_getD->ac,getElem?_eq_getElem->ad,getElem_mem->ae,getElem?_eq_none->af,getD->ag,getElem?_set->ah,length_replicate->ai,getElem?_map->aj,getElem?_take->ak,map_cons->al,take_of_length_le->am,mem_map->an
open Nat renaming le_refl->ao,zero_le->ap
open Go.Act renaming eval->aq,put->ar
open Option renaming getD_some->au
open Or renaming inl->av
namespace Go.Proofs.YtdigofgjhaakmaaGreatDoor
variable {w V:World} {v u va vb:Value} {C B:List (Nat×Obj)} {T:TypeId} {sz o:Nat}
open Go.RowKit Sm Cf
theorem TSV.parts {ts:List Ten} (h:TSV w v ts):∃ d sc,v=.slice d ts.length sc/\ts.length<=sc/\sc<=9223372036854775807/\∀ i,i<ts.length->∃ b a x,d=some ⟨b,a,none⟩/\x.length=33/\x.toArray.all (·.oneCell')=true/\∀ V,Below w.heap.size w V->V.rangeAt b (a+i*33) x/\TV V (.agg x.toArray) (ts.getD i ten0):=by
 obtain ⟨m,r,hr,y⟩:=h;have c:(m.map zc).length=ts.length:=by rw [aa,<-r,aa]
 have k:=hr;obtain ⟨d,sc,rfl,f,hb,-⟩:=k;rw [c] at hr f ⊢;refine ⟨d,sc,rfl,f,hb,fun i hi=>?_⟩;have l:i<m.length:=by rw [aa] at c;omega
 obtain ⟨b,a,x,I,H,G,F,t⟩:=jeh hr y i l;rw [r] at t;refine ⟨b,a,x,I,G,F,fun V g=>⟨fun j u z=>?_,?_⟩⟩
 ·have h:=H j u z;rw [g.cell (p:=⟨b,a+i*33+j,none⟩) (j9 h)];exact h
 ·obtain ⟨f,p,s,q,e,E,D,A⟩:=t;exact ⟨f,p,s,q,e,E.below j1g g (ao _),D.below zj g (ao _),A.below zj g (ao _)⟩
def Lgts (ts:List Ten) (m:Nat):Prop:=ts.length<=m/\∀ i,i<ts.length->Lgt (ts.getD i ten0)
instance (ts:List Ten) (m:Nat):Decidable (Lgts ts m):=by unfold Lgts;infer_instance
theorem jd9 {ts:List Ten} (h:TSV w v ts) (m:Nat) (Q:m<=1000) :
  Calls prog 25 #[v,.int .i64 m] w fun e w'=>e=.returned (.bool (decide (Lgts ts m)))/\Below w.heap.size w w':=by
 obtain ⟨G,sc,rfl,I,K,hx⟩:=h.parts;clear h;obtain ⟨R,y⟩:∃ R,decide (Lgts ts m)=R:=⟨_,rfl⟩;rw [y];have D:Hid (∀ i,i<ts.length->¬Lgt (ts.getD i ten0)->R=false):=by
  intro i hi H;rw [<-y];exact decide_eq_false (fun h=>H (h.2 i hi))
 have s:Hid ((∀ i,i<ts.length->i<m->Lgt (ts.getD i ten0))->R=decide (((ts.length:Nat):Int)<=(m:Int))):=by
  intro h;rw [<-y];by_cases hl:ts.length<=m
  ·rw [decide_eq_true (show Lgts ts m from ⟨hl,fun i hi=>h i hi (by omega)⟩),decide_eq_true (by omega)]
  ·rw [decide_eq_false (show ¬Lgts ts m from fun h=>hl h.1),decide_eq_false (by omega)]
 have O:Hid (∀ i,i<ts.length->∃ b c x,G=some ⟨b,c,none⟩/\x.length=33/\x.toArray.all (·.oneCell')=true/\∀ V,Below w.heap.size w V->V.rangeAt b (c+i*33) x/\TV V (.agg x.toArray) (ts.getD i ten0)):=hx;have P:Hid (Below w.heap.size w w):=Below.refl _ _;clear y hx;generalize ts.length=N at *;go_enter func25,ntmps25;go_wp2_with fail
 go_loopw [5] (fun u5 w'=>∃ i:Nat,i<=N/\i<=m/\u5=.int .i64 i/\Hid ((∀ j,j<i->Lgt (ts.getD j ten0))/\Below w.heap.size w w')) (fun u5 w'=>N-(intOf u5).toNat)
 case atStart=>exact ⟨0,ap _,ap _,rfl,fun j t=>absurd t (by omega),P.out⟩
 case round =>
  obtain ⟨i,hi,J,rfl,a⟩:=hrel;by_cases hlt:i<N
  ·have M:(i:Int)<N:=by omega
   by_cases hlm:i<m
   ·have L:(i:Int)<m:=by omega
    obtain ⟨b,c,x,rfl,p,q,F⟩:=O.out i hlt;obtain ⟨f,r⟩:=F _ a.out.2;have l:=j82 r;have g:(prog.info? 46).map (·.size)=some x.length:=by rw [p];kernel_rfl
    clear F r q p;by_cases q1:Lgt (ts.getD i ten0)
    ·rw [decide_eq_true q1] at l;go_wp2_with (refine wpList_load_mid rfl 46 (.tmp 19) (by with_reducible rfl) b (c+i*33) (by simp [aq]) x _ f underlying46 rfl g ?_)
     refine l.mono ?_;rintro e A ⟨rfl,d⟩;have E:Hid ((∀ j,j<i+1->Lgt (ts.getD j ten0))/\Below w.heap.size w A):=⟨fun j t=>by
      rcases Nat.lt_or_ge j i with h|h
      ·exact a.out.1 j h
      ·obtain rfl:j=i:=by omega
       exact q1,a.out.2.trans (d.mono a.out.2.size)⟩
     clear l f a d q1;go_wp2_with fail;go_roundw
     case rel=>exact ⟨i+1,by omega,by omega,by go_num,E⟩
     case measure=>simp [intOf];omega
    ·rw [decide_eq_false q1] at l;obtain rfl:=D.out i hlt q1;go_wp2_with (refine wpList_load_mid rfl 46 (.tmp 19) (by with_reducible rfl) b (c+i*33) (by simp [aq]) x _ f underlying46 rfl g ?_)
     refine l.mono ?_;rintro e A ⟨rfl,d⟩;have E:Hid (Below w.heap.size w A):=a.out.2.trans (d.mono a.out.2.size);clear l f a d q1;go_wp2_with fail;go_ret;exact ⟨rfl,E.out⟩
   ·have L:¬((i:Int)<m):=by omega
    have k:=s.out (fun j t z=>a.out.1 j (by omega));subst k;go_wp2_with fail;go_ret;exact ⟨rfl,a.out.2⟩
  ·have M:¬((i:Int)<N):=by omega
   have k:=s.out (fun j t z=>a.out.1 j (by omega));subst k;go_wp2_with fail;go_ret;exact ⟨rfl,a.out.2⟩
def ccut (c:Cgf):Cgf:=⟨num (be 4 c.ip),c.mac,c.omac,c.nmac,c.key,num (be 4 c.drain),(c.ten.take 255).map tcut⟩
def sct (c:Cgf) (k:Nat):Cgf:=⟨if 0<k then (ccut c).ip else 0,if 1<k then c.mac else cfg0.mac,if 2<k then c.omac else cfg0.omac,if 3<k then c.nmac else cfg0.nmac,if 4<k then c.key else cfg0.key,if 5<k then (ccut c).drain else 0,
 if 7<k then (ccut c).ten else if 6<k then ab (min c.ten.length 255) ten0 else []⟩
theorem jcw (x:Cgf) (m:Nat) (h:x.ten=[]):j3t x m={ x with ten:=ab m ten0 }:=by
 unfold j3t;split
 ·rename_i e;subst e;cases x;simp only at h;subst h;rfl
 ·rfl
theorem jni (c x:Cgf) (q:∀ t∈c.ten,TLen t) (hx:x.ten=ab (min c.ten.length 255) ten0):RB qf.dec (qf.enc c) x { x with ten:=(c.ten.take 255).map tcut }:=by
 have hd:∀ i,TLen (c.ten.getD i ten0):=by
  intro i;by_cases h:i<c.ten.length
  ·rw [ac,ad h,au];exact q _ (ae _)
  ·rw [ac,af (by omega),Option.getD_none];exact j1h
 obtain ⟨d,⟨y,j⟩,G,s,-⟩:=jcs (dec:=itd ten0 spT) (enc:=fun i=>tenc (c.ten.getD i ten0)) (Inv:=fun k d=>d.length=min c.ten.length 255/\(∀ i,i<k->d[i]?=some (tcut (c.ten.getD i ten0)))/\∀ i,k<=i->i<min c.ten.length 255->d[i]?=some ten0) (min c.ten.length 255) 0 x.ten
  (fun k _ F xs ⟨A,z,p⟩=>by
   have m:xs.getD k ten0=ten0:=by rw [ag,p k (ao _) (by omega)];rfl
   obtain ⟨E,D⟩:=jmm (c.ten.getD k ten0) (hd k);refine ⟨xs.set k (tcut (c.ten.getD k ten0)),⟨fun r=>by simp only [itd,m];rw [show tenc (c.ten.getD k ten0)=spT.enc (c.ten.getD k ten0) from rfl,E];rfl,fun l a b=>by simp only [itd,m];rw [D l a b];rfl⟩,by rw [List.length_set];exact A,fun i hi=>?_,fun i hi j=>?_⟩
   ·rw [ah];by_cases e:k=i
    ·subst e;rw [if_pos rfl,if_pos (by omega)]
    ·rw [if_neg e];exact z i (by omega)
   ·rw [ah,if_neg (by omega)];exact p i (by omega) j) ⟨by rw [hx,ai],fun i hi=>by omega,fun i _ hi=>by rw [hx,List.getElem?_replicate,if_pos hi]⟩
 have g:d=(c.ten.take 255).map tcut:=by
  apply List.ext_getElem?;intro i;rw [aj,ak];by_cases hi:i<min c.ten.length 255
  ·rw [s i (by omega),if_pos (by omega),ag,ad (by omega)];rfl
  ·rw [af (by omega)];split
   ·rw [af (by omega)];rfl
   ·rfl
 subst g;have f:x.ten.length=min c.ten.length 255:=by rw [hx,ai]
 refine ⟨fun r=>?_,fun l a b=>?_⟩
 ·simp only [qf];rw [f,j2r,y];rfl
 ·simp only [qf] at a b ⊢;rw [j2r] at a b;rw [f,j l a b];rfl
theorem jp0 (c:Cgf) (a:CLen c) (b:∀ t∈c.ten,TLen t):RB spC.dec (spC.enc c) cfg0 (ccut c):=by
 obtain ⟨f,h,e⟩:=jcs (dec:=fun i=>(csp.getD i sp0).dec) (enc:=fun i=>(csp.getD i sp0).enc c) (Inv:=fun k x=>x=sct c k) 8 0 cfg0 (fun k _ d x hx=>by
   subst hx
   match k,d with
   | 0,_=>exact ⟨_,(zw 4 _ _ c _:RB jii.dec (jii.enc c) _ _),rfl⟩
   | 1,_=>exact ⟨_,(j3x 6 _ _ c _ a.mac:RB jba.dec (jba.enc c) _ _),rfl⟩
   | 2,_=>exact ⟨_,(j3x 6 _ _ c _ a.omac:RB jb9.dec (jb9.enc c) _ _),rfl⟩
   | 3,_=>exact ⟨_,(j3x 6 _ _ c _ a.nmac:RB j5x.dec (j5x.enc c) _ _),rfl⟩
   | 4,_=>exact ⟨_,(j3x 8 _ _ c _ a.key:RB jbb.dec (jbb.enc c) _ _),rfl⟩
   | 5,_=>exact ⟨_,(zw 4 _ _ c _:RB j2x.dec (j2x.enc c) _ _),rfl⟩
   | 6,_=>exact ⟨_,(jbk _ _ c _:RB jbc.dec (jbc.enc c) _ _),jcw _ _ rfl⟩
   | 7,_=>exact ⟨_,(jni c _ b rfl:RB qf.dec (qf.enc c) _ _),rfl⟩
   | n+8,h=>exact absurd (show n+8<0+8 from h) (by omega)) rfl
 subst e;rw [<-j2r] at h;exact h
theorem j8m (c:Cgf) (b:CLen c) (a:∀ t∈c.ten,TLen t):cdec (cenc c)=some (ccut c):=by
 have:=(jp0 c b a).1 [];rw [List.append_nil] at this;unfold cdec;rw [show spC.dec (cenc c) cfg0=spC.dec (spC.enc c) cfg0 from rfl,this]
theorem zm (x:Int) (h:0<=x/\x<=4294967295):num (be 4 x)=x:=by
 simp [be,num];omega
theorem j68 (x:Int) (h:0<=x/\x<=65535):num (be 2 x)=x:=by
 simp [be,num];omega
theorem jnw (x:Int) (h:0<=x/\x<=255):num (be 1 x)=x:=by
 simp [be,num];omega
theorem j46 {α:Type} {f:α->α} {l:List α} (h:∀ x∈l,f x=x):l.map f=l:=by
 induction l with
 | nil=>rfl
 | cons a l ih=>rw [al,h a (by simp),ih (fun x hx=>h x (List.mem_cons_of_mem _ hx))]
theorem jip (t:Ten) (b:Fit t) (hr:TRg t):jaq t (tcut t):=by
 obtain ⟨k,j,i,h,g,f,e,d,c,a⟩:=b;have hs:(sb t.name).take 255=sb t.name:=am (by rw [j54];exact k);refine ⟨?_,(zm _ hr.vni).symm,rfl,(zm _ hr.vtep).symm,rfl,rfl,?_,(j68 _ hr.lo).symm,(j68 _ hr.hi).symm,(jnw _ ⟨g,f⟩).symm,?_,?_,(j68 _ ⟨e,d⟩).symm,(j68 _ ⟨c,a⟩).symm,(zm _ hr.rate).symm,(zm _ hr.burst).symm⟩
 ·show sb t.name=sb (strOfNums ((sb t.name).take 255));rw [hs,jq5 (jbd _)]
 ·show t.pool=(t.pool.take 255).map (fun v=>num (be 4 v));rw [am j,j46 (fun x hx=>zm x (hr.pool x hx))]
 ·show t.stat=(t.stat.take 255).map (fun v=>(num (be 4 v.1),num (be 4 v.2)));rw [am i,j46 (fun x hx=>by rw [zm _ (hr.stat x hx).1,zm _ (hr.stat x hx).2])]
 ·show t.twi=(t.twi.take 255).map (fun v=>(num (be 4 v.1),num (be 4 v.2)));rw [am h,j46 (fun x hx=>by rw [zm _ (hr.twi x hx).1,zm _ (hr.twi x hx).2])]
def jhy (a b:List Ten):Prop:=a.length=b.length/\∀ i,i<a.length->jaq (a.getD i ten0) (b.getD i ten0)
def jpl (a b:Cgf):Prop:=a.ip=b.ip/\a.mac=b.mac/\a.omac=b.omac/\a.nmac=b.nmac/\a.key=b.key/\a.drain=b.drain/\jhy a.ten b.ten
theorem jh8 (c:Cgf) (hr:CRg c) (d:c.ten.length<=255) (a:∀ t∈c.ten,Fit t/\TRg t):jpl c (ccut c):=by
 refine ⟨(zm _ hr.ip).symm,rfl,rfl,rfl,rfl,(zm _ hr.drain).symm,?_⟩;show jhy c.ten ((c.ten.take 255).map tcut);rw [am d];refine ⟨by simp,fun i hi=>?_⟩;have b:=ae hi;rw [ac,ad hi,au,ac,aj,ad hi,Option.map_some,au];exact jip _ (a _ b).1 (a _ b).2
theorem j66 {xs:List (List Value)} (hx:∀ x∈xs,x.length=sz) (h:OwB T sz v xs.length xs.flatten B) (d:∀ p∈B,V.heap[p.1]?=some p.2):Rw V sz v xs:=by
 rcases h.2 with ⟨rfl,e,rfl⟩|⟨g,cap,cur,rfl,rfl,h1,h2,h3,h4⟩
 ·have:xs=[]:=List.eq_nil_of_length_eq_zero e;subst this;exact ⟨none,0,rfl,ao _,by omega,fun _=>rfl,av rfl⟩
 ·have c:=d _ (List.mem_cons_self ..);refine ⟨some ⟨g,0,none⟩,cap,rfl,h1,by simpa [maxLen] using h2,nofun,Or.inr ⟨g,0,rfl,fun i hi j u b=>?_⟩⟩;have a:=j2h xs i j u hx b;rw [<-h4] at a;have hc:V.cell? ⟨g,0+i*sz+j,none⟩=cur[0+i*sz+j]?:=by
   unfold World.cell?;simp [c]
  rw [hc,Nat.zero_add];rw [ak] at a;split at a
  ·rw [<-Array.getElem?_toList];exact a
  ·cases a
def TFew (t:Ten):Prop:=t.pool.length<=1000000/\t.stat.length<=1000000/\t.twi.length<=1000000
theorem j9z {t z:Ten} (ha:TV w va t) (hb:TV w vb z) (hf:TFew t) (h:jaq t z) :
  Calls prog 67 #[va,vb] w fun e w'=>e=.returned (.bool true)/\Below w.heap.size w w':=by
 obtain ⟨hp,hs,hq⟩:=hf;obtain ⟨hl,p,s,q,rfl,Y,X,W⟩:=ha;obtain ⟨m,p',s',q',rfl,l,k,j⟩:=hb;have CN:=fun V (i:Below w.heap.size w V)=>jjd p p' t.pool z.pool (Y.at_ j1g i) (l.at_ j1g i) hp;have CP:=fun V (i:Below w.heap.size w V)=>j7s s s' t.stat z.stat (X.at_ zj i) (k.at_ zj i) hs;have CQ:=fun V (i:Below w.heap.size w V)=>j7s q q' t.twi z.twi (W.at_ zj i) (j.at_ zj i) hq;obtain ⟨pa,pc,rfl,-⟩:=Y;obtain ⟨sa,sc,rfl,-⟩:=X;obtain ⟨qa,qc,rfl,-⟩:=W;obtain ⟨c3,c0,rfl,-⟩:=l;obtain ⟨b0,a9,rfl,-⟩:=k;obtain ⟨b7,b6,rfl,-⟩:=j;generalize (ux t.pool).length=pn at *;generalize (px t.stat).length=sn at *;generalize (px t.twi).length=qn at *;generalize (ux z.pool).length=b9 at *;generalize (px z.stat).length=a7 at *;generalize (px z.twi).length=b5 at *;obtain ⟨n,vn,key,vt,vm,ho,po,lo,hi,fi,st,tw,se,qu,ra,bu⟩:=t;obtain ⟨n',a3,Z,a0,a4,c5,b8,c4,c7,d3,a6,a5,a8,b4,b3,e0⟩:=z;obtain ⟨h1,h2,h3⟩:=hl;obtain ⟨a,b,c,d,f,g,x,y,rfl⟩:=kt h1;obtain ⟨a1,b1,c1,d1,f1,g1,rfl⟩:=six6 h2;obtain ⟨a2,b2,c2,d2,f2,g2,rfl⟩:=six6 h3;obtain ⟨U,I,r⟩:=m;obtain ⟨a',b',c',d',f',g',x',y',rfl⟩:=kt U;obtain ⟨e4,e2,d9,d7,d5,d0,rfl⟩:=six6 I;obtain ⟨e3,e1,d8,d6,d4,c9,rfl⟩:=six6 r;simp only at CN CP CQ;obtain ⟨S,R,Q,P,O,N,M,L,K,J,H,G,F,E,D,A⟩:=h;exact jt1 S R Q P O N M L K J H G F E D A CN CP CQ
theorem j88 {j G:List Ten} (J:TSV w va j) (hb:TSV w vb G) (H:∀ t∈j,TFew t) (h:jhy j G) :
  Calls prog 37 #[va,vb] w fun e w'=>e=.returned (.bool true)/\Below w.heap.size w w':=by
 obtain ⟨X,sc,rfl,a0,a1,hx⟩:=J.parts;obtain ⟨W,U,rfl,r,I,A⟩:=hb.parts;have s:∀ i,i<j.length->TFew (j.getD i ten0):=fun i hi=>by
  rw [ac,ad hi,au];exact H _ (ae _)
 obtain ⟨q,hs⟩:=h;rw [<-q] at A r ⊢;have HX:Hid (∀ i,i<j.length->∃ b d x l c y,X=some ⟨b,d,none⟩/\W=some ⟨l,c,none⟩/\x.length=33/\y.length=33/\∀ V,Below w.heap.size w V->(V.rangeAt b (d+i*33) x/\V.rangeAt l (c+i*33) y)/\Calls prog 67 #[.agg x.toArray,.agg y.toArray] V fun e V'=>e=.returned (.bool true)/\Below V.heap.size V V'):=by
  intro i hi;obtain ⟨b,d,x,e1,e2,-,O⟩:=hx i hi;obtain ⟨l,c,y,f1,f2,-,M⟩:=A i hi;exact ⟨b,d,x,l,c,y,e1,f1,e2,f2,fun V g=>⟨⟨(O V g).1,(M V g).1⟩,j9z (O V g).2 (M V g).2 (s i hi) (hs i hi)⟩⟩
 have Q:Hid (Below w.heap.size w w):=Below.refl _ _;clear J hb hx A H s hs q;generalize j.length=N at *;go_enter func37,ntmps37;go_wp2_with fail
 go_loopw [5] (fun u5 w'=>∃ i:Nat,i<=N/\u5=.int .i64 i/\Hid (Below w.heap.size w w')) (fun u5 w'=>N-(intOf u5).toNat)
 case atStart=>exact ⟨0,ap _,rfl,Q⟩
 case round =>
  obtain ⟨i,hi,rfl,E⟩:=hrel;clear Q;by_cases hlt:i<N
  ·have h1:(i:Int)<N:=by omega
   obtain ⟨b,d,x,l,c,y,rfl,rfl,p,m,g⟩:=HX.out i hlt;have i1:(prog.info? 46).map (·.size)=some x.length:=by rw [p];kernel_rfl
   have Z:(prog.info? 46).map (·.size)=some y.length:=by rw [m];kernel_rfl
   have hd:Below w.heap.size w wr.drew:=E.out.drew;obtain ⟨Y,R⟩:=g _ hd;have D:Hid (∀ V,Below w.heap.size w V->V.rangeAt b (d+i*33) x/\V.rangeAt l (c+i*33) y):=fun V h=>(g V h).1;have P:Hid (Below w.heap.size w wr.drew):=hd;clear g hd p m E;go_upto_region 6 with fail;refine wp_region_held_drew (S:=fun V=>V.rangeAt b (d+i*33) x/\V.rangeAt l (c+i*33) y) (by kernel_rfl) Y (fun k=>?_);refine tkq 0 rfl (v:=?_) (av ⟨by rfl,?qy0⟩) ?_
   case qy0=>intro w a;(try dsimp only at a);go_simp;all_goals with_reducible rfl
   try simp only [sqx,ar]
   refine tkq 1 rfl (v:=?_) (av ⟨by rfl,?qy1⟩) ?_
   case qy1=>intro w a;(try dsimp only at a);go_simp;all_goals with_reducible rfl
   try simp only [sqx,ar]
   refine tkq 2 rfl (v:=?_) (av ⟨by rfl,?qy2⟩) ?_
   case qy2=>intro w a;(try dsimp only at a);go_simp;all_goals with_reducible rfl
   try simp only [sqx,ar]
   refine tkq 3 rfl (v:=_) (yieldsIf_load_mid (by rfl) _ _ rfl _ _ rfl _ _ ?qs3 underlying46 rfl i1) ?_
   case qs3 =>
    intro w a
    (try dsimp only at a)
    go_split_ands
    assumption
   try simp only [sqx,ar]
   refine tkq 4 rfl (v:=?_) (av ⟨by rfl,?qy4⟩) ?_
   case qy4=>intro w a;(try dsimp only at a);go_simp;all_goals with_reducible rfl
   try simp only [sqx,ar]
   refine tkq 5 rfl (v:=?_) (av ⟨by rfl,?qy5⟩) ?_
   case qy5=>intro w a;(try dsimp only at a);go_simp;all_goals with_reducible rfl
   try simp only [sqx,ar]
   refine tkq 6 rfl (v:=?_) (av ⟨by rfl,?qy6⟩) ?_
   case qy6=>intro w a;(try dsimp only at a);go_simp;all_goals with_reducible rfl
   try simp only [sqx,ar]
   refine tkq 7 rfl (v:=_) (yieldsIf_load_mid (by rfl) _ _ rfl _ _ rfl _ _ ?qs7 underlying46 rfl Z) ?_
   case qs7 =>
    intro w a
    (try dsimp only at a)
    go_split_ands
    assumption
   try simp only [sqx,ar]
   refine wpAnyH_ready (rs:=[8]) (by kernel_rfl) (by simp) ?_;refine AllReadyH.cons rfl (fun K L=>?_) AllReadyH.nil;go_simp
   with_reducible refine (R).mono ?_
   rintro e W1 ⟨rfl,z⟩;have f:=P.out.trans (z.mono P.out.size)
   try go_wp2_with fail
   refine L.out _ _ (D.out _ f) (fun k=>?_);clear L K
   try simp only [sqx,ar]
   refine tkq 9 rfl (v:=?_) (av ⟨by rfl,?qy9⟩) ?_
   case qy9=>intro w a;(try dsimp only at a);go_simp;all_goals with_reducible rfl
   try simp only [sqx,ar]
   refine wpAnyH_done (by kernel_rfl) ?_ _;have F:Hid (Below w.heap.size w W1):=f;clear z f R;go_wp2_with fail;go_roundw
   case rel=>exact ⟨i+1,by omega,by go_num,F⟩
   case measure=>simp [intOf];omega
  ·have h1:¬((i:Int)<N):=by omega
   obtain rfl:i=N:=by omega
   go_wp2_with fail;go_ret;exact ⟨rfl,E.out⟩
theorem TSV.slice {ts:List Ten} (h:TSV w v ts):∃ a n c,v=.slice a n c:=by
 obtain ⟨b,-,⟨a,c,e,-⟩,-⟩:=h;exact ⟨a,_,c,e⟩
theorem zq {a b:Cgf} (ha:CV w va a) (hb:CV w vb b) (q:∀ t∈a.ten,TFew t) (h:jpl a b) :
  Calls prog 16 #[va,vb] w fun e w'=>e=.returned (.bool true)/\Below w.heap.size w w':=by
 obtain ⟨hl,u,rfl,k⟩:=ha;obtain ⟨p,u',rfl,i⟩:=hb;obtain ⟨ip,a4,om,z,key,dr,te⟩:=a;obtain ⟨a5,A,a3,m,D,a6,a0⟩:=b;obtain ⟨rfl,rfl,rfl,rfl,rfl,rfl,j⟩:=h;simp only at k i q j;obtain ⟨P,O,N,M⟩:=hl;obtain ⟨a,b,c,d,f,g,rfl⟩:=six6 P;obtain ⟨a1,b1,Z,X,U,R,rfl⟩:=six6 O;obtain ⟨a2,b2,Y,W,S,Q,rfl⟩:=six6 N;obtain ⟨K,J,I,H,G,F,E,k8,rfl⟩:=kt M;obtain ⟨sa,sn,sc,rfl⟩:=k.slice;obtain ⟨ta,tn,l,rfl⟩:=i.slice;have CT:Hid (∀ V,Below w.heap.size w V->Calls prog 37 #[.slice sa sn sc,.slice ta tn l] V fun e V'=>e=.returned (.bool true)/\Below V.heap.size V V'):=fun V L=>j88 (k.at_ L (ao _)) (i.at_ L (ao _)) q j;have e1:∀ V,(Op.equalIn 10000 35 (.agg #[.int .u8 a,.int .u8 b,.int .u8 c,.int .u8 d,.int .u8 f,.int .u8 g]) (.agg #[.int .u8 a,.int .u8 b,.int .u8 c,.int .u8 d,.int .u8 f,.int .u8 g])).run prog V=.ok true V:=fun V=>by rw [j47];rw [decide_eq_true rfl]
 have e2:∀ V,(Op.equalIn 10000 35 (.agg #[.int .u8 a1,.int .u8 b1,.int .u8 Z,.int .u8 X,.int .u8 U,.int .u8 R]) (.agg #[.int .u8 a1,.int .u8 b1,.int .u8 Z,.int .u8 X,.int .u8 U,.int .u8 R])).run prog V=.ok true V:=fun V=>by rw [j47];rw [decide_eq_true rfl]
 have e3:∀ V,(Op.equalIn 10000 35 (.agg #[.int .u8 a2,.int .u8 b2,.int .u8 Y,.int .u8 W,.int .u8 S,.int .u8 Q]) (.agg #[.int .u8 a2,.int .u8 b2,.int .u8 Y,.int .u8 W,.int .u8 S,.int .u8 Q])).run prog V=.ok true V:=fun V=>by rw [j47];rw [decide_eq_true rfl]
 have e4:∀ V,(Op.equalIn 10000 36 (.agg #[.int .u8 K,.int .u8 J,.int .u8 I,.int .u8 H,.int .u8 G,.int .u8 F,.int .u8 E,.int .u8 k8]) (.agg #[.int .u8 K,.int .u8 J,.int .u8 I,.int .u8 H,.int .u8 G,.int .u8 F,.int .u8 E,.int .u8 k8])).run prog V=.ok true V:=fun V=>by rw [jls];rw [decide_eq_true rfl]
 have s:Hid (∀ y x,Below w.heap.size w ((w.alloc y).alloc x)):=fun y x=>((Below.refl _ _).alloc (ao _) _).alloc (by simp) _;simp only [cc,al,List.map_nil,List.cons_append,List.nil_append];clear k i q j P O N M p;go_enter func16,ntmps16;go_wp2_with fail;refine (CT.out _ (s.out _ _)).mono ?_;rintro e V ⟨rfl,hb⟩;have r:Hid (Below w.heap.size w V):=(s.out _ _).trans (hb.mono (s.out _ _).size);clear hb;go_wp2_with fail;go_ret;exact ⟨rfl,r.out⟩
def ZB (z:Tv) (C:List (Nat×Obj)):Prop:=TLen z.1/\∃ B1 B2 B3,(∀ x∈B3++(B2++B1),x∈C)/\OwB 33 1 z.2.1 z.1.pool.length (ux z.1.pool).flatten B1/\OwB 122 2 z.2.2.1 z.1.stat.length (px z.1.stat).flatten B2/\OwB 122 2 z.2.2.2 z.1.twi.length (px z.1.twi).flatten B3
def TsB (u:Value) (ts:List Ten) (B C:List (Nat×Obj)):Prop:=∃ zs:List Tv,zs.map Prod.fst=ts/\OwB 46 33 u zs.length (zs.map zc).flatten B/\∀ z∈zs,ZB z C
theorem ZB.more {z:Tv} {D:List (Nat×Obj)} (h:ZB z C) (hs:∀ x∈C,x∈D):ZB z D:=by
 obtain ⟨c,f,e,d,b,a⟩:=h;exact ⟨c,f,e,d,fun x hx=>hs x (b x hx),a⟩
theorem j78 {z:Tv} (h:ZB z C) (a:∀ x∈C,V.heap[x.1]?=some x.2):TLen z.1/\Rws V z:=by
 obtain ⟨b,i,g,f,hs,e,d,c⟩:=h;refine ⟨b,j66 (fun x hx=>?_) (by simpa [ux] using e) (fun x hx=>a x (hs x (by simp [hx]))),j66 (fun x hx=>?_) (by simpa [px] using d) (fun x hx=>a x (hs x (by simp [hx]))),j66 (fun x hx=>?_) (by simpa [px] using c) (fun x hx=>a x (hs x (by simp [hx])))⟩
 ·simp only [ux,an] at hx;obtain ⟨y,-,rfl⟩:=hx;rfl
 ·simp only [px,an] at hx;obtain ⟨y,-,rfl⟩:=hx;rfl
 ·simp only [px,an] at hx;obtain ⟨y,-,rfl⟩:=hx;rfl
theorem j8y {ts:List Ten} (h:TsB u ts B C) (b:∀ x∈B++C,V.heap[x.1]?=some x.2):TSV V u ts:=by
 obtain ⟨d,e,f,c⟩:=h;refine ⟨d,e,j66 (fun x hx=>?_) (by rw [aa];exact f) (fun x hx=>b x (by simp [hx])),fun z a=>j78 (c z a) (fun x hx=>b x (by simp [hx]))⟩;obtain ⟨z,a,rfl⟩:=an.mp hx;exact ji (c z a).1 _ _ _
theorem jou {c:Cgf} (b:CLen c) (h:TsB u c.ten B C) (a:Mem w V (B++C)):CVs w.heap.size V (.agg (cc c u).toArray) c:=by
 intro e g f hb d;exact ⟨b,u,rfl,j8y h (fun x hx=>(d _ (a.low x hx) (a.lt hx)).trans (a.at_ x hx))⟩
theorem jar {z:Tv} (h:ZB z C):∀ u∈zc z,u.oneCell'=true:=by
 obtain ⟨e,i,g,f,hs,d,c,b⟩:=h;have:=j3n z.1 (j01 d) (j01 c) (j01 b);intro u a;rw [Array.all_eq_true_iff_forall_mem] at this;exact this u (by simpa [zc] using a)
theorem js4 {t t':Cgf} {p p':Value} (h:CLen t) (e:∀ x a b c d f g M K I G D z L J H F A y s r q m l k j k8 E i,
  t=⟨x,[a,b,c,d,f,g],[M,K,I,G,D,z],[L,J,H,F,A,y],[s,r,q,m,l,k,j,k8],E,i⟩->(cc t p).set o v=cc t' p'):(cc t p).toArray.setIfInBounds o v=(cc t' p').toArray:=by
 rw [List.setIfInBounds_toArray,cset h e]
theorem js3 (t:Cgf) (u e:Value) (h:CLen t):(cc t u).toArray.setIfInBounds 28 e=(cc t e).toArray :=
 js4 h (by rintro s a b c d f g L J H F A y K I G E z x r q p m l k j k8 D i rfl;rfl)
theorem jhf {t:Cgf} (h:CLen t) (u:Value):(cc t u).toArray[28]?=some u:=by
 obtain ⟨F,r,q,p,k,K,m⟩:=t;obtain ⟨l,j,i,e⟩:=h;obtain ⟨a,b,c,d,f,g,rfl⟩:=six6 l;obtain ⟨S,Q,O,M,J,H,rfl⟩:=six6 j;obtain ⟨R,P,N,L,I,G,rfl⟩:=six6 i;obtain ⟨E,D,A,z,y,x,s,k8,rfl⟩:=kt e;rfl
theorem j4l (z:Tv) (i:TLen z.1) (V:World):(Instr.buildSlice 37 1 #[(0,.agg (zc z).toArray)]).run prog V=.ok (.slice (some ⟨V.heap.size,0,none⟩) 1 1) (V.alloc (.cells (zc z).toArray 46)):=by
 obtain ⟨⟨n,r,key,m,t,I,G,H,hi,L,st,A,D,F,E,S⟩,p,s,q⟩:=z;obtain ⟨l,k,j⟩:=i;obtain ⟨a,b,c,d,f,g,x,y,rfl⟩:=kt l;obtain ⟨Y,W,R,P,N,K,rfl⟩:=six6 k;obtain ⟨X,U,Q,O,M,J,rfl⟩:=six6 j;obtain ⟨os,e,h⟩:=V;kernel_rfl
theorem j20 {b:Array Oper} {rest:List Oper} {o:Oper} {a:Act} {w':World} {Q:Exit->Act->World->Prop} (hw:Region.wanted o (yielded b a.tmps)=true) (ty:TypeId) (n:Nat) (parts:Array (Nat×Operand)) (e:o.op=.buildSlice ty n parts) {c:Array (Nat×Value)}
  (hr:(Instr.buildSlice ty n c).run prog w=.ok v w') (d:(parts.map fun (i,x)=>(i,a.eval x))=c) (h:wpList prog b Q rest (a.put o.dst v) w'):wpList prog b Q (o::rest) a w :=
 yq hw fun _ f=>by
  subst d;unfold Oper.wp execOp;simp only [e,Sem.run_bind,hr,Result.andThen_ok,Sem.run_pure];exact f _ _ h
end Go.Proofs.YtdigofgjhaakmaaGreatDoor
