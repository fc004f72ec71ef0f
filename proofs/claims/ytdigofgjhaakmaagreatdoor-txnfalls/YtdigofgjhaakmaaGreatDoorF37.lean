/- Parts of the proof. -/
import Derived.Test.YtdigofgjhaakmaaGreatDoorF36
set_option linter.all false
set_option maxHeartbeats 40000000
set_option maxRecDepth 20000
open Go.Proofs.Tryz
open List renaming length_map->aa,perm_iff_count->ab,count_append->ac,count_cons->ae,count_nil->af,map_append->ag,length_append->ah,getElem?_append_left->ai,getElem?_append_right->aj,getElem?_eq_none->ak,getElem?_map->al,mem_of_getElem?->am
open Go.RowKit.Below renaming refl->an
open Nat renaming le_refl->ao,zero_add->ap,zero_le->aq,lt_or_ge->ar,eq_zero_or_pos->au
open Go.IntKind renaming u32->av,i64->aw,u64->ax
open Go.Act renaming eval->ay,put->az
open Or renaming inl->aA
open Go.AllReadyH renaming cons->aB,nil->aD
namespace Go.Proofs.YtdigofgjhaakmaaGreatDoor
variable {u v:Value} {bl:List (List Int)} {Y C':List (Nat×Obj)} {w V:World} {r:List Int} {A:Array Value} {gc g4:Nat} {ver:Int}
section
open Go.RowKit La Ad Va
open Sm (j6)
abbrev Ty:=Tv×List (Nat×Obj)
def Cx (w V:World) (gc g4:Nat) (c:Cgf) (u:Value):Prop:=∃ (ys:List Ty) (B:List (Nat×Obj)),ys.map (fun y=>y.1.1)=c.ten/\OwB 46 33 u ys.length (ys.map (fun y=>zc y.1)).flatten B/\(∀ y∈ys,ZX y.1 y.2)/\CLen c/\Mem w V ((gc,.cells (cc c u).toArray 39)::(g4,.cells cz 39)::(B++ys.flatMap (·.2)))
theorem Cx.after {a:World} {c:Cgf} (h:Cx w V gc g4 c u) (hb:Below V.heap.size V a):Cx w a gc g4 c u:=by
 obtain ⟨b,B,i,g,f,e,d⟩:=h;exact ⟨b,B,i,g,f,e,d.after hb⟩
theorem Cx.below {c:Cgf} (h:Cx w V gc g4 c u):Below w.heap.size w V:=by
 obtain ⟨b,B,g,f,e,d,a⟩:=h;exact a.below
theorem Cx.cell {c:Cgf} (h:Cx w V gc g4 c u):V.cell? ⟨gc,28,none⟩=some u:=by
 obtain ⟨d,B,g,f,e,b,a⟩:=h;exact (a.cell 0 rfl 28).trans (jhf b u)
theorem Cx.sl {c:Cgf} (h:Cx w V gc g4 c u):∃ a m d,u=.slice a m d:=by
 obtain ⟨e,B,j,b,i,g,f⟩:=h;exact js b
theorem jh7 {X k:World} {c:Cgf} {t:Ten} {p s q:Value} (h:Cx w X gc g4 c u) (Z:c.ten.length<=900000) (J:ZX (t,p,s,q) C') (H:Mem X k C') (M:(tc t p s q).toArray=A) (x:A.all (·.oneCell')=true) :
  ∃ d g,(Builtin.append_ #[37,37] 37 #[u,.slice (some ⟨k.heap.size,0,none⟩) 1 1]).run prog (k.alloc (.cells A 46))=.ok d g/\(∃ a m c,d=.slice a m c)/\(∃ v0,g.cell? ⟨gc,28,none⟩=some v0)/\(∀ j,g.frozen? ⟨gc,j,none⟩=false)/\Below w.heap.size w g/\Below w.heap.size w (g.setCell ⟨gc,28,none⟩ d) /\
   Cx w (g.setCell ⟨gc,28,none⟩ d) gc g4 { c with ten:=c.ten++[t] } d:=by
 obtain ⟨D,B,N,U,E,b,T⟩:=h;have R:=J.1;have P:D.length=c.ten.length:=by rw [<-N,aa]
 have G:=(T.join H).after ((an k.heap.size k).alloc (ao _) (.cells A 46));have o:∀ v∈tc t p s q,v.oneCell'=true:=by
  rw [<-M,Array.all_eq_true_iff_forall_mem] at x;intro v Q;exact x v (by simpa using Q)
 obtain ⟨d,g,O,l,F,C⟩:=mem_append (t:=37) (ty:=37) underlying37 j87 (by kernel_rfl) (by omega) (K:=(gc,.cells (cc c u).toArray 39)::(g4,.cells cz 39)::(D.flatMap (·.2)++C')) (G.perm (by
  classical
  rw [ab];intro z;simp only [ac,ae,af];omega)) U ⟨k.heap.size,0,none⟩ (tc t p s q) (ji R _ _ _) (fun j u S=>by
   rw [jcd,ap,World.cell?_alloc_new,<-M];simpa using S) o (by omega) (by omega)
 have f:Mem w g ((gc,.cells (cc c u).toArray 39)::(g4,.cells cz 39)::(O++(D.flatMap (·.2)++C'))):=F.perm (by
  classical
  rw [ab];intro z;simp only [ac,ae,af];omega)
 have I:=f.set 0 rfl 28 d;rw [List.set_cons_zero,js3 c _ d b] at I;refine ⟨d,g,l,js C,⟨_,(f.cell 0 rfl 28).trans (jhf b _)⟩,f.free 0 rfl,f.below,I.below,D++[((t,p,s,q),C')],O,?_,?_,?_,⟨b.mac,b.omac,b.nmac,b.key⟩,?_⟩
 ·rw [ag,N];rfl
 ·rw [ah,ag,List.flatten_append];simpa [zc] using C
 ·intro y i;rcases List.mem_append.1 i with i|i
  ·exact E y i
  ·rw [List.mem_singleton] at i;subst i;exact J
 ·have e:[((t,p,s,q),C')].flatMap (fun y:Ty=>y.2)=C':=by simp
  rw [List.flatMap_append,e];exact I
def ScD (d:Int) (n:Nat) (ks:Nat->Int) (w:World) (e:Ending) (V:World):Prop:=∃ (f:Int) (ys:List Ty) (u:Value) (B:List (Nat×Obj)),(0<=f/\f<=7)/\f=Int.tmod d 8/\e=.returned (.agg (cc ⟨adr 10 9 0 200,[2,1,0,0,0,0],[2,2,0,0,0,0],[2,3,0,0,0,0],[200,0,0,0,0,0,0,0],f,ys.map (fun y=>y.1.1)⟩ u).toArray)/\ys.length=n/\(∀ j y,ys[j]?=some y->yn j (ks j) y.1.1)/\OwB 46 33 u ys.length (ys.map (fun y=>zc y.1)).flatten B/\(∀ y∈ys,ZX y.1 y.2)/\Mem w V (B++ys.flatMap (·.2))
theorem j98 (w:World) (a:Option Addr) (n cap:Nat) (I:Nat->Int) (b7:∀ i,i<n->∃ b o,a=some ⟨b,o,none⟩/\w.cell? ⟨b,o+i,none⟩=some (.int .u16 (I i))/\0<=I i/\I i<=65535) (d:Int) (c9:0<=d) (d5:d<=255) :
  Calls prog 34 #[.slice a n cap,.int .u8 d] w (ScD d (min n 4) I w):=by
 obtain ⟨g4,a8⟩:∃ g4,w.heap.size=g4:=⟨_,rfl⟩;obtain ⟨f,hf⟩:∃ x:Int,Int.tmod d 8=x:=⟨_,rfl⟩;have b8:0<=f/\f<=7:=by rw [<-hf,Int.tmod_eq_emod_of_nonneg c9];omega
 obtain ⟨P,b1⟩:∃ x:Int,adr 10 9 0 200=x:=⟨_,rfl⟩;have A1:∀ X,Calls prog 66 #[.int .u8 10,.int .u8 9,.int .u8 0,.int .u8 200] X fun e w'=>e=.returned (.int .u32 P)/\X=w':=fun X=>by rw [<-b1];exact yx X 10 9 0 200 (by omega) (by omega) (by omega) (by omega)
 have e5:av.wrap f=f:=jg _ (by omega) (by omega);have d2:Hid ((cc ⟨P,[2,1,0,0,0,0],[2,2,0,0,0,0],[2,3,0,0,0,0],[200,0,0,0,0,0,0,0],f,[]⟩ nilV).toArray=(cc ⟨P,[2,1,0,0,0,0],[2,2,0,0,0,0],[2,3,0,0,0,0],[200,0,0,0,0,0,0,0],f,[]⟩ nilV).toArray):=rfl;obtain ⟨B0,a3⟩:∃ B0,(cc ⟨P,[2,1,0,0,0,0],[2,2,0,0,0,0],[2,3,0,0,0,0],[200,0,0,0,0,0,0,0],f,[]⟩ nilV).toArray=B0:=⟨_,rfl⟩;have b6:Hid ((cc ⟨P,[2,1,0,0,0,0],[2,2,0,0,0,0],[2,3,0,0,0,0],[200,0,0,0,0,0,0,0],f,[]⟩ nilV).toArray=B0):=a3;have R:B0.size=29:=by rw [<-a3];rfl
 have M:B0.all (·.oneCell')=true:=by rw [<-a3];exact zx _ rfl
 have Q:(prog.info? 39).map (·.size)=some B0.size:=by rw [R];kernel_rfl
 have c0:Mem w (w.alloc (.cells cz 39)) [(g4,.cells cz 39)]:=(Mem.nil w).push1 a8.symm;obtain ⟨N,hN⟩:∃ N,min n 4=N:=⟨_,rfl⟩;rw [hN];have HN:Hid (N<=n/\N<=4/\(N=n\/N=4)):=by rw [<-hN];exact ⟨by omega,by omega,by omega⟩
 have HK:Hid (∀ i,i<n->∃ b o,a=some ⟨b,o,none⟩/\0<=I i/\I i<=65535/\∀ X,Below w.heap.size w X->X.cell? ⟨b,o+i,none⟩=some (.int .u16 (I i))):=by
  intro i hi;obtain ⟨b,o,e,hc,h0,h1⟩:=b7 i hi;exact ⟨b,o,e,h0,h1,fun X hb=>(hb.cell (jp1 hc)).trans hc⟩
 have HV:Hid (adr 10 9 0 200=P/\0<=f/\f<=7):=⟨b1,b8⟩;have HF:Hid (f=Int.tmod d 8):=hf.symm;clear a3 d2 b8 b1 b7 hN;go_enter func34,ntmps34;go_upto_region 1 with fail;refine j5 (fun X=>Mem w X [(g4,Obj.cells cz 39)]) (by exact c0) ?_;intro V0 hM
 try simp only [a8]
 clear c0 a8;obtain ⟨gc,U⟩:∃ gc,V0.heap.size=gc:=⟨_,rfl⟩;have T:(V0.alloc (.cells cz 39)).heap[gc]?=some (.cells cz 39):=by rw [<-U];exact heap_alloc_new _ _
 have e9:(V0.alloc (.cells cz 39)).setRow gc B0=V0.alloc (.cells B0 39):=by
  rw [<-U];exact World.setRow_alloc_new V0 cz B0 39
 have HP:Hid (Cx w ((V0.alloc (.cells cz 39)).setRow gc B0) gc g4 ⟨P,[2,1,0,0,0,0],[2,2,0,0,0,0],[2,3,0,0,0,0],[200,0,0,0,0,0,0,0],f,[]⟩ nilV):=by
  rw [e9];refine ⟨[],[],rfl,OwB.nil _ _,by simp,⟨rfl,rfl,rfl,rfl⟩,?_⟩;rw [b6.out];exact hM.front _ U.symm
 clear e9 hM;go_wp2_with fail;refine (A1 _).mono ?_;rintro e _ ⟨rfl,rfl⟩;clear A1;go_upto_region 2 with (refine wpList_store_row rfl 39 (.tmp 5) (.tmp 15) (by with_reducible rfl) gc B0 (by simp [ay];try exact U) (by rw [<-b6.out];rfl) 39 cz T Q (by rw [R];rfl) M ?_)
 refine j5 (fun X=>Cx w X gc g4 ⟨P,[2,1,0,0,0,0],[2,2,0,0,0,0],[2,3,0,0,0,0],[200,0,0,0,0,0,0,0],f,[]⟩ nilV) (by exact HP.out) ?_;intro V1 hR
 try simp only [U]
 have H0:Hid (∃ ts u,ts.length=0/\(∀ j t,ts[j]?=some t->yn j (I j) t)/\Cx w V1 gc g4 ⟨P,[2,1,0,0,0,0],[2,2,0,0,0,0],[2,3,0,0,0,0],[200,0,0,0,0,0,0,0],f,ts⟩ u):=⟨[],nilV,rfl,by simp,hR⟩;clear HP U T R M Q b6 hR;go_wp2_with fail
 go_loopw [6] (fun v w'=>∃ i:Nat,i<=N/\v=.int .i64 i/\Hid (∃ ts u,ts.length=i/\(∀ j t,ts[j]?=some t->yn j (I j) t)/\Cx w w' gc g4 ⟨P,[2,1,0,0,0,0],[2,2,0,0,0,0],[2,3,0,0,0,0],[200,0,0,0,0,0,0,0],f,ts⟩ u)) (fun v w'=>N-(intOf v).toNat)
 case atStart=>exact ⟨0,aq _,rfl,H0⟩
 case round =>
  obtain ⟨i,hi,rfl,HR⟩:=hrel;clear H0;obtain ⟨ts,u,a1,a2,hC⟩:=HR.out;obtain ⟨pa,pm,pc,rfl⟩:=hC.sl;have b2:=HN.out;by_cases hlt:i<N
  ·have h1:(i:Int)<n:=by omega
   have h2:(i:Int)<4:=by omega
   have e7:aw.wrap ((i:Int)+1)=(i:Int)+1:=wrap64 (by omega) (by omega);obtain ⟨b,o,rfl,a6,T,a5⟩:=HK.out i (by omega);obtain ⟨kk,a4⟩:∃ kk,I i=kk:=⟨_,rfl⟩;rw [a4] at a6 T a5;have CT:∀ X,Calls prog 35 #[.int .i64 (i:Int),.int .u16 kk] X (StQ i kk X):=fun X=>j26 X i (by omega) kk a6 T;have z:Hid (∀ X,Below w.heap.size w X->X.cell? ⟨b,o+i,none⟩=some (.int .u16 kk)):=a5;have c1:Hid (kk=I i):=a4.symm;have HC:Hid (Cx w wr.drew gc g4 ⟨P,[2,1,0,0,0,0],[2,2,0,0,0,0],[2,3,0,0,0,0],[200,0,0,0,0,0,0,0],f,ts⟩ (.slice pa pm pc)):=hC.after ((an _ _).drew);have H:Hid (ts.length=i/\i<N/\N<=4/\∀ j t,ts[j]?=some t->yn j (I j) t):=⟨a1,hlt,b2.2.1,a2⟩;have p0:=HC.out.cell;have c7:=z.out _ HC.out.below;have d3:=z.out _ hC.below;have d4:(0:Int)<=i:=by omega
   clear a5 hC HR a1 a2 b2 a4 a6 T;go_upto_region 5 with fail;refine wp_region_held_drew (S:=fun X=>X.cell? ⟨b,o+i,none⟩=some (.int .u16 kk)) (by kernel_rfl) c7 (fun g=>?_);refine tkq 0 rfl (v:=?_) (aA ⟨by rfl,?qay0⟩) ?_
   case qay0=>intro w k;(try dsimp only at k);go_simp;all_goals with_reducible rfl
   try simp only [sqx,az]
   refine tkq 2 rfl (v:=?_) (aA ⟨by rfl,?qay2⟩) ?_
   case qay2=>intro w k;(try dsimp only at k);go_simp;all_goals with_reducible rfl
   try simp only [sqx,az]
   refine tkq 3 rfl (v:=?_) (aA ⟨by rfl,?qay3⟩) ?_
   case qay3=>intro w k;(try dsimp only at k);go_simp;all_goals with_reducible rfl
   try simp only [sqx,az]
   refine tkq 4 rfl (v:=?_) (aA ⟨by rfl,?qay4⟩) ?_
   case qay4=>intro w k;(try dsimp only at k);go_simp;all_goals with_reducible rfl
   try simp only [sqx,az]
   refine tkq 5 rfl (v:=?_) (aA ⟨by rfl,?qay5⟩) ?_
   case qay5=>intro w k;(try dsimp only at k);go_simp;all_goals with_reducible rfl
   try simp only [sqx,az]
   refine tkq 6 rfl (v:=?_) (aA ⟨by rfl,?qay6⟩) ?_
   case qay6=>intro w k;(try dsimp only at k);go_simp;all_goals with_reducible rfl
   try simp only [sqx,az]
   refine wpAnyH_ready (rs:=[1,7]) (by kernel_rfl) (by simp) ?_;refine aB rfl (fun l h=>?_) (aB rfl (fun l h=>?_) aD)
   ·go_simp;refine h.out _ _ (by assumption) (fun g=>?_);clear h l
    try simp only [sqx,az]
    refine wpAnyH_ready (rs:=[7]) (by kernel_rfl) (by simp) ?_;refine aB rfl (fun l h=>?_) aD;go_simp
    with_reducible refine (CT _).mono ?_
    rintro e V2 ⟨t,p,s,q,C',rfl,hS,D,F⟩;have hl:=D.1;have hz:=D.zb (C:=C') (fun x hx=>hx);obtain ⟨A,G⟩:∃ A,(tc t p s q).toArray=A:=⟨_,rfl⟩;rw [G];have J:=j4l (t,p,s,q) hl;rw [show (zc (t,p,s,q)).toArray=A from G] at J;have O:=J V2;have Z:A.all (·.oneCell')=true:=by rw [<-G];exact all_oneCell_toArray (jar hz)
    have b4:=HC.out.below.trans (F.below.mono (Below.size HC.out.below));have m:=HC.out.after F.below;have p1:=m.cell;have p2:=(m.after ((an V2.heap.size V2).alloc (ao _) (.cells A 46))).cell;have c5:=z.out _ m.below;have c4:=z.out _ (m.after ((an V2.heap.size V2).alloc (ao _) (.cells A 46))).below;obtain ⟨v4,V4,K,⟨qa,qm,qc,rfl⟩,⟨v0,d0⟩,fr4,b0,a9,hH⟩:=jh7 HC.out (by show ts.length<=_;have:=H.out;omega) D F G Z;have c3:=z.out _ b0;have c2:=z.out _ a9;have HH:Hid (∃ ts u,ts.length=i+1/\(∀ j t,ts[j]?=some t->yn j (I j) t)/\Cx w (V4.setCell ⟨gc,28,none⟩ (.slice qa qm qc)) gc g4 ⟨P,[2,1,0,0,0,0],[2,2,0,0,0,0],[2,3,0,0,0,0],[200,0,0,0,0,0,0,0],f,ts⟩ u):=by
     refine ⟨ts++[t],_,by rw [ah,H.out.1];rfl,fun j t' E=>?_,hH⟩;rcases ar j ts.length with hjl|hjl
     ·rw [ai hjl] at E;exact H.out.2.2.2 j t' E
     ·rw [aj hjl] at E;have a7:j-ts.length=0:=by
       rcases au (j-ts.length) with h0|h0
       ·exact h0
       ·rw [ak (by simp;omega)] at E;cases E
      rw [a7] at E;have ej:j=i:=by have:=H.out.1;omega
      simp at E;subst E;rw [ej];exact c1.out ▸ hS
    clear hH F hz hS Z G hl J b4 m D
    try go_wp2_with fail
    refine h.out _ _ (by assumption) (fun g=>?_);clear h l
    try simp only [sqx,az]
    refine wpAnyH_ready (rs:=[8]) (by kernel_rfl) (by simp) ?_;refine aB rfl (fun l h=>?_) aD;refine j5t rfl 37 1 _ rfl O (by simp [ay]) ?_;refine h.out _ _ (by assumption) (fun g=>?_);clear h l
    try simp only [sqx,az]
    refine wpAnyH_ready (rs:=[9]) (by kernel_rfl) (by simp) ?_;refine aB rfl (fun l h=>?_) aD;refine jd rfl (.tmp 27) (.tmp 34) 37 37 rfl (by simp [ay]) (by simp [ay]) K ?_;refine h.out _ _ (by assumption) (fun g=>?_);clear h l
    try simp only [sqx,az]
    refine tkq 10 rfl (v:=?_) (aA ⟨by rfl,?qbzy10⟩) ?_
    case qbzy10=>intro w k;(try dsimp only at k);go_simp;all_goals with_reducible rfl
    try simp only [sqx,az]
    refine wpAnyH_ready (rs:=[11]) (by kernel_rfl) (by simp) ?_;refine aB rfl (fun l h=>?_) aD;go_simp;refine h.out _ _ (by assumption) (fun g=>?_);clear h l
    try simp only [sqx,az]
    refine wpAnyH_done (by kernel_rfl) ?_ _;go_wp2_with fail;go_roundw
    case rel=>exact ⟨i+1,by omega,by go_num,HH⟩
    case measure=>simp [intOf];omega
   ·go_simp
    with_reducible refine (CT _).mono ?_
    rintro e V2 ⟨t,p,s,q,C',rfl,hS,D,F⟩;have hl:=D.1;have hz:=D.zb (C:=C') (fun x hx=>hx);obtain ⟨A,G⟩:∃ A,(tc t p s q).toArray=A:=⟨_,rfl⟩;rw [G];have J:=j4l (t,p,s,q) hl;rw [show (zc (t,p,s,q)).toArray=A from G] at J;have O:=J V2;have Z:A.all (·.oneCell')=true:=by rw [<-G];exact all_oneCell_toArray (jar hz)
    have b4:=HC.out.below.trans (F.below.mono (Below.size HC.out.below));have m:=HC.out.after F.below;have p1:=m.cell;have p2:=(m.after ((an V2.heap.size V2).alloc (ao _) (.cells A 46))).cell;have c5:=z.out _ m.below;have c4:=z.out _ (m.after ((an V2.heap.size V2).alloc (ao _) (.cells A 46))).below;obtain ⟨v4,V4,K,⟨qa,qm,qc,rfl⟩,⟨v0,d0⟩,fr4,b0,a9,hH⟩:=jh7 HC.out (by show ts.length<=_;have:=H.out;omega) D F G Z;have c3:=z.out _ b0;have c2:=z.out _ a9;have HH:Hid (∃ ts u,ts.length=i+1/\(∀ j t,ts[j]?=some t->yn j (I j) t)/\Cx w (V4.setCell ⟨gc,28,none⟩ (.slice qa qm qc)) gc g4 ⟨P,[2,1,0,0,0,0],[2,2,0,0,0,0],[2,3,0,0,0,0],[200,0,0,0,0,0,0,0],f,ts⟩ u):=by
     refine ⟨ts++[t],_,by rw [ah,H.out.1];rfl,fun j t' E=>?_,hH⟩;rcases ar j ts.length with hjl|hjl
     ·rw [ai hjl] at E;exact H.out.2.2.2 j t' E
     ·rw [aj hjl] at E;have a7:j-ts.length=0:=by
       rcases au (j-ts.length) with h0|h0
       ·exact h0
       ·rw [ak (by simp;omega)] at E;cases E
      rw [a7] at E;have ej:j=i:=by have:=H.out.1;omega
      simp at E;subst E;rw [ej];exact c1.out ▸ hS
    clear hH F hz hS Z G hl J b4 m D
    try go_wp2_with fail
    refine h.out _ _ (by assumption) (fun g=>?_);clear h l
    try simp only [sqx,az]
    refine wpAnyH_ready (rs:=[1,8]) (by kernel_rfl) (by simp) ?_;refine aB rfl (fun l h=>?_) (aB rfl (fun l h=>?_) aD)
    ·go_simp;refine h.out _ _ (by assumption) (fun g=>?_);clear h l
     try simp only [sqx,az]
     refine wpAnyH_ready (rs:=[8]) (by kernel_rfl) (by simp) ?_;refine aB rfl (fun l h=>?_) aD;refine j5t rfl 37 1 _ rfl O (by simp [ay]) ?_;refine h.out _ _ (by assumption) (fun g=>?_);clear h l
     try simp only [sqx,az]
     refine wpAnyH_ready (rs:=[9]) (by kernel_rfl) (by simp) ?_;refine aB rfl (fun l h=>?_) aD;refine jd rfl (.tmp 27) (.tmp 34) 37 37 rfl (by simp [ay]) (by simp [ay]) K ?_;refine h.out _ _ (by assumption) (fun g=>?_);clear h l
     try simp only [sqx,az]
     refine tkq 10 rfl (v:=?_) (aA ⟨by rfl,?qczy10⟩) ?_
     case qczy10=>intro w k;(try dsimp only at k);go_simp;all_goals with_reducible rfl
     try simp only [sqx,az]
     refine wpAnyH_ready (rs:=[11]) (by kernel_rfl) (by simp) ?_;refine aB rfl (fun l h=>?_) aD;go_simp;refine h.out _ _ (by assumption) (fun g=>?_);clear h l
     try simp only [sqx,az]
     refine wpAnyH_done (by kernel_rfl) ?_ _;go_wp2_with fail;go_roundw
     case rel=>exact ⟨i+1,by omega,by go_num,HH⟩
     case measure=>simp [intOf];omega
    ·refine j5t rfl 37 1 _ rfl O (by simp [ay]) ?_;refine h.out _ _ (by assumption) (fun g=>?_);clear h l
     try simp only [sqx,az]
     refine wpAnyH_ready (rs:=[1]) (by kernel_rfl) (by simp) ?_;refine aB rfl (fun l h=>?_) aD;go_simp;refine h.out _ _ (by assumption) (fun g=>?_);clear h l
     try simp only [sqx,az]
     refine wpAnyH_ready (rs:=[9]) (by kernel_rfl) (by simp) ?_;refine aB rfl (fun l h=>?_) aD;refine jd rfl (.tmp 27) (.tmp 34) 37 37 rfl (by simp [ay]) (by simp [ay]) K ?_;refine h.out _ _ (by assumption) (fun g=>?_);clear h l
     try simp only [sqx,az]
     refine tkq 10 rfl (v:=?_) (aA ⟨by rfl,?qdzy10⟩) ?_
     case qdzy10=>intro w k;(try dsimp only at k);go_simp;all_goals with_reducible rfl
     try simp only [sqx,az]
     refine wpAnyH_ready (rs:=[11]) (by kernel_rfl) (by simp) ?_;refine aB rfl (fun l h=>?_) aD;go_simp;refine h.out _ _ (by assumption) (fun g=>?_);clear h l
     try simp only [sqx,az]
     refine wpAnyH_done (by kernel_rfl) ?_ _;go_wp2_with fail;go_roundw
     case rel=>exact ⟨i+1,by omega,by go_num,HH⟩
     case measure=>simp [intOf];omega
  ·obtain rfl:i=N:=by omega
   obtain ⟨ys,B,ez,hB,hz,b9,hM⟩:=hC;obtain ⟨A,G⟩:∃ A,(cc ⟨P,[2,1,0,0,0,0],[2,2,0,0,0,0],[2,3,0,0,0,0],[200,0,0,0,0,0,0,0],f,ts⟩ (.slice pa pm pc)).toArray=A:=⟨_,rfl⟩;rw [G] at hM;have R:A.size=29:=by rw [<-G,List.size_toArray];exact je b9 _
   have M:A.all (·.oneCell')=true:=by rw [<-G];exact zx _ rfl
   have Q:(prog.info? 39).map (·.size)=some A.size:=by rw [R];kernel_rfl
   have k4:=hM.get 0 rfl;have k5:=hM.get 1 rfl;have b3:=hM.wrote 1 rfl (j8 wr g4 _ A _ k5);have HQ:Hid ((wr.setRow g4 A).heap[g4]?=some (.cells A 39)/\ScD d i I w (.returned (.agg A)) (wr.setRow g4 A)):=by
    refine ⟨b3.get 1 rfl,f,ys,_,B,HV.out.2,HF.out,?_,?_,?_,hB,hz,b3.sub.sub⟩
    ·have b5:ys.map (fun y=>y.1.1)=ts:=ez;rw [<-G,b5,HV.out.1]
    ·have:=congrArg List.length ez;rw [aa] at this;rw [this];exact a1
    ·intro j y E;apply a2 j;have b5:ys.map (fun y=>y.1.1)=ts:=ez;rw [<-b5,al,E];rfl
   have d1:(((i:Int)<n)/\¬((i:Int)<4))\/¬((i:Int)<n):=by omega
   clear HR hM b3 hB hz ez a2 a1 b9 G HK b2 HN;rcases d1 with ⟨h1,h2⟩|h1
   all_goals
    go_wp2_with (first|(refine wpList_load_row rfl 39 (.tmp 5) (by with_reducible rfl) gc (by first|rfl|simp [ay]) 39 A (0,0) _ k4 underlying39 rfl Q ?_)|(refine wpList_store_row rfl 39 (.tmp 4) (.tmp 37) (by with_reducible rfl) g4 A (by first|rfl|simp [ay]) (by first|rfl|simp [ay]) 39 cz k5 Q (by rw [R];rfl) M ?_))
    refine bodyPost_ret (v:=.agg A) ?_ rfl HQ.out.2;exact results_cell_row (p:=4) (ty:=39) rfl _ _ g4 39 _ (0,0) _ rfl HQ.out.1 underlying39 rfl Q
end
section
open Go.RowKit Sm Cf Df Va
theorem j7 {P:Program} {e:Array Oper} {S:World->Prop} {op:Oper} {a:Act} (hw:Region.wanted op (yielded e a.tmps)=true) (ty:TypeId) (x:Operand) (g:op.op=.load ty x)
 (b o:Nat) (hx:a.eval x=.pointer (some ⟨b,o,none⟩)) (A:Array Value) (cs:List Value) (d:TypeDesc) (h:∀ w,S w->w.rangeAt b o cs) (i:Hid (cs.toArray=A))
 (f:P.underlying ty=some d) (hd:d.isRow=true) (hi:(P.info? ty).map (·.size)=some cs.length):YieldsIf P e S op (.agg A) a:=by
 obtain rfl:=i.out;exact yieldsIf_load_mid hw ty x g b o hx cs d h f hd hi
theorem j1z {X:World} (h:Below V.drew.heap.size V.drew X):Below V.heap.size V X:=((an V.heap.size V).drew).trans h
section
variable {ver:Int} {c t:Cgf} {u ut:Value} {op:Bool} {w W:World} {pm:Nat} {L:List (Nat×Obj)}
theorem jnc (m:Mem w W (bxM pm ver c u t ut true::L)) (G:CLen c) (d:CLen t) (E:ut.oneCell'=true) (R:0<=ver/\ver<1000000000) :
 Calls prog 47 #[.pointer (some ⟨pm,0,none⟩)] W fun e O=>e=.returned (.tuple #[])/\Mem w O (bxM pm (ver+1) t ut cfg0 nilV false::L):=by
 obtain ⟨A,B,I,x,D,s⟩:=ccA d E;have k:=m.after ((an W.heap.size W).drew);have g:Hid (Mem w W.drew (bxM pm ver c u t ut true::L)):=k;have f:W.drew.rangeAt pm 30 (cc t ut):=rmT k G;have p:Hid (∀ (v:Int) (X:World),Mem w X (bxM pm v c u t ut true::L)->Hid (Mem w (X.setCells pm 1 A.toList) (bxM pm v t ut t ut true::L))):=fun v X h=>by
  rw [<-B.out];exact rmSC h G d ut
 have o:Hid (∀ (c:Cgf) (u:Value) (X:World),Mem w X (bxM pm ver c u t ut true::L)->Hid (Mem w (X.setCell ⟨pm,0,none⟩ (.int .u64 (ver+1))) (bxM pm (ver+1) c u t ut true::L))):=fun c u X h=>rmV h (ver+1);have U:ax.wrap (ver+1)=ver+1:=by rw [qj];omega
 have T:(ver+1) % 18446744073709551616=ver+1:=by omega
 clear m k;generalize y:cc t ut=cl at B s f;go_enter func47,ntmps47;go_upto_region 0 with fail
 go_cut [] from 2 (fun w'=>Hid (Mem w w' (bxM pm (ver+1) t ut t ut true::L)))
 case first =>
  subst y;refine wp_region_held_drew (S:=fun X=>X.rangeAt pm 30 (cc t ut)) (by kernel_rfl) f (fun b=>?_);refine tkq 0 rfl (v:=?_) (aA ⟨by rfl,?qy0⟩) ?_
  case qy0=>intro w a;(try dsimp only at a);go_simp;all_goals with_reducible rfl
  try simp only [sqx,az]
  refine tkq 1 rfl (v:=?_) (aA ⟨by rfl,?qy1⟩) ?_
  case qy1=>intro w a;(try dsimp only at a);go_simp;all_goals with_reducible rfl
  try simp only [sqx,az]
  refine tkq 2 rfl (v:=?_) (aA ⟨by rfl,?qy2⟩) ?_
  case qy2=>intro w a;(try dsimp only at a);go_simp;all_goals with_reducible rfl
  try simp only [sqx,az]
  refine tkq 3 rfl (v:=?_) (aA ⟨by rfl,?qy3⟩) ?_
  case qy3=>intro w a;(try dsimp only at a);go_simp;all_goals with_reducible rfl
  try simp only [sqx,az]
  refine tkq 4 rfl (v:=?_) (aA ⟨by rfl,?qy4⟩) ?_
  case qy4=>intro w a;(try dsimp only at a);go_simp;all_goals with_reducible rfl
  try simp only [sqx,az]
  refine tkq 5 rfl (v:=.agg A) (j7 (by rfl) _ _ rfl _ _ rfl A (cc t ut) _ (fun _ h=>h) B underlying39 rfl s) ?_
  try simp only [sqx,az]
  refine tkq 6 rfl (v:=?_) (aA ⟨by rfl,?qby6⟩) ?_
  case qby6=>intro w a;(try dsimp only at a);go_simp;all_goals with_reducible rfl
  try simp only [sqx,az]
  refine tkq 7 rfl (v:=?_) (aA ⟨by rfl,?qby7⟩) ?_
  case qby7=>intro w a;(try dsimp only at a);go_simp;all_goals with_reducible rfl
  try simp only [sqx,az]
  refine tkq 8 rfl (v:=?_) (aA ⟨by rfl,?qby8⟩) ?_
  case qby8=>intro w a;(try dsimp only at a);go_simp;all_goals with_reducible rfl
  try simp only [sqx,az]
  refine wpAnyH_ready (rs:=[9]) (by kernel_rfl) (by simp) ?_;refine aB rfl (fun K j=>?_) aD;have H:=rm0 g.out;go_simp;refine j.out _ _ f (fun b=>?_);clear j K H
  try simp only [sqx,az]
  refine tkq 10 rfl (v:=?_) (aA ⟨by rfl,?qcy10⟩) ?_
  case qcy10=>intro w a;(try dsimp only at a);go_simp;all_goals with_reducible rfl
  try simp only [sqx,az]
  refine tkq 11 rfl (v:=?_) (aA ⟨by rfl,?qcy11⟩) ?_
  case qcy11=>intro w a;(try dsimp only at a);go_simp;all_goals with_reducible rfl
  try simp only [sqx,az]
  refine tkq 12 rfl (v:=?_) (aA ⟨by rfl,?qcy12⟩) ?_
  case qcy12=>intro w a;(try dsimp only at a);go_simp;all_goals with_reducible rfl
  try simp only [sqx,az]
  refine wpAnyH_ready (rs:=[13]) (by kernel_rfl) (by simp) ?_;refine aB rfl (fun K j=>?_) aD;refine j4t rfl 39 (.tmp 14) (.tmp 7) rfl pm 1 A (by first|rfl|simp [ay]) (by first|rfl|simp [ay]) (rmth g.out G d (by omega)) D x ?_;have i:=p.out _ _ g.out;refine j.out _ _ (rmT i.out d) (fun b=>?_);clear j K
  try simp only [sqx,az]
  refine tkq 14 rfl (v:=?_) (aA ⟨by rfl,?qdy14⟩) ?_
  case qdy14=>intro w a;(try dsimp only at a);go_simp;all_goals with_reducible rfl
  try simp only [sqx,az]
  refine tkq 15 rfl (v:=?_) (aA ⟨by rfl,?qdy15⟩) ?_
  case qdy15=>intro w a;(try dsimp only at a);go_simp;all_goals with_reducible rfl
  try simp only [sqx,az]
  refine wpAnyH_ready (rs:=[16]) (by kernel_rfl) (by simp) ?_;refine aB rfl (fun K j=>?_) aD;have H:=rm0 i.out;have M:=i.out.free 0 rfl 0;go_simp;have z:=o.out _ _ _ i.out;refine j.out _ _ (rmT z.out d) (fun b=>?_);clear j K H M
  try simp only [sqx,az]
  refine wpAnyH_done (by kernel_rfl) ?_ _;have Q:=z;clear p o f B g;go_wp2_with fail;go_meet
  case rel=>exact Q
 case rest =>
  have m:=hcut.out;clear hcut p o f B g y;have J:=m.free 0 rfl 59;have N:=rm59 m d d;have l:=rmO m d d false;have F:(wc.setCell ⟨pm,59,none⟩ (.bool false)).there pm 30 (cz:Array Value).size:=rmth l d d (by decide);have P:Hid (Mem w ((wc.setCell ⟨pm,59,none⟩ (.bool false)).setCells pm 30 (cz:Array Value).toList) (bxM pm (ver+1) t ut cfg0 nilV false::L)):=rmST l d d yw nilV;have C:=cz29;have q:=cz1;clear m l;go_wp2_with (first|(refine wpList_store_mid rfl 39 (.tmp 23) (.tmp 19) (by with_reducible rfl) pm 30 cz (by first|rfl|simp [ay]) (by first|rfl|simp [ay]) F C q ?_)|fail)
  go_end0
  exact ⟨rfl,P.out⟩
end
theorem jqc {v:Int} (p:0<=v/\v<18446744073709551616) (w:World) :
 Calls prog 72 #[.slice none 0 0,.int .u64 v,.int .i64 8] w fun e w'=>∃ u,e=.returned u/\Out w w' u (be 8 v) []:=by
 have g:Hid (Out w w (.slice none 0 0) [] []):=Out.nil (Mem.nil w);go_enter func72,ntmps72;go_wp2_with fail
 go_loopw [0,7] (fun u0 u7 w'=>∃ (i:Nat) (x:Int),i<=8/\x=7-i/\u7=.int .i64 x/\Hid (Out w w' u0 ((be 8 v).take i) [])) (fun u0 u7 w'=>(intOf u7+1).toNat)
 case atStart=>exact ⟨0,7,aq _,rfl,rfl,by simpa using g⟩
 case round =>
  obtain ⟨i,x,hi,hx,rfl,f⟩:=hrel;clear g;by_cases hlt:i<8
  ·obtain ⟨k,rfl⟩:∃ k:Nat,x=k:=⟨7-i,by omega⟩;have l:8-1-i=k:=by omega
   have q:(0:Int)<=(k:Int):=by omega
   have C:aw.wrap (8*(k:Int))=8*(k:Int):=qk (by omega) (by omega);have B:¬(8*(k:Int)<0):=by omega
   have z:aw.wrap ((k:Int)-1)=(k:Int)-1:=qk (by omega) (by omega);have d:(be 8 v).take (i+1)=(be 8 v).take i++[v / 2 ^ (8*k) % 256]:=by rw [jag 8 v i hlt,l,pow8]
   have a:((be 8 v).take i).length+1<=1000000000:=by rw [List.length_take,jr];omega
   obtain ⟨m,o,hr,b⟩:=j1b f.out (v / 2 ^ (8*k) % 256) (ya _) a 86;rw [<-d] at b;have y:min (8*k) 64=8*k:=by omega
   have s:8*k<=64:=by omega
   have j:Hid (i+1<=8/\(k:Int)-1=7-((i+1:Nat):Int)/\Out w o m ((be 8 v).take (i+1)) []):=⟨by omega,by omega,b⟩;clear d a f l b hx hi hlt;go_wp2_with (at_builtin;refine wpList_append_run (.tmp 14) (.tmp 20) 86 86 (by with_reducible rfl) hr rfl rfl (by simp [ay]) (by simp [ay]) ?_)
   go_roundw
   case rel=>exact ⟨i+1,(k:Int)-1,j.out.1,j.out.2.1,by go_num,j.out.2.2⟩
   case measure=>first|(simp [intOf];done)|(simp [intOf];omega)
  ·obtain rfl:i=8:=by omega
   obtain rfl:x=-1:=by omega
   have h:=f.out;rw [List.take_of_length_le (by rw [jr];omega)] at h;have g:Hid (Out w wr u0 (be 8 v) []):=h;clear f h hx;go_wp2_with fail;go_ret;exact ⟨_,rfl,g.out⟩
theorem jqb {c:Cgf} (h:CV w (.agg (cc c u).toArray) c) (hi:CIn c) (D:∀ t∈c.ten,TIn t) (o:c.ten.length<=1000000) (hu:u.oneCell'=true) (hv:0<=ver/\ver<18446744073709551616) :
 Calls prog 46 #[.int .u64 ver,.agg (cc c u).toArray] w fun e w'=>∃ a cap,e=.returned (.slice a (jt ver c).length cap)/\Below w.heap.size w w':=by
 obtain ⟨g,F⟩:∃ g,w.heap.size=g:=⟨_,rfl⟩;have N:=jc5 c hi.len (fun t h=>(D t h).len);have a4:=j4k c hi.len (fun t h=>(D t h).len);obtain ⟨A,l,a1,O,a0,m⟩:=ccA hi.len hu;have s:Mem w (w.alloc (.cells A 39)) [(g,.cells A 39)]:=(Mem.nil w).push1 F.symm;have Q:Hid (Mem w (w.alloc (.cells A 39)) [(g,.cells A 39)]):=s;have C:Hid (∀ V,Below w.heap.size w V->Calls prog 73 #[.agg A] V fun e w'=>∃ u,e=.returned u/\Ob V w' u (cenc c) [] 1500000):=fun V hV=>by
  rw [<-l.out];exact j9n (h.at_ hV (ao _)) hi D o
 rw [l.out];clear h hi D s;generalize G:cc c u=cl at l m;go_enter func46,ntmps46;go_upto_region 1 with fail;refine j5 (fun X=>Mem w X [(g,.cells A 39)]) (by exact Q.out) ?_;intro z y
 try simp only [F]
 clear Q F G;have T:Hid (Below w.heap.size w z):=y.below;have B:Hid (∀ X,Below z.heap.size z X->X.rangeAt g 0 cl):=fun X I j x hj=>by
  rw [(y.after I).cell 0 rfl,<-l.out,List.getElem?_toArray,ap];exact hj
 have R:Hid (∀ X,Below z.heap.size z X->Calls prog 73 #[.agg A] X fun e w'=>∃ u,e=.returned u/\Ob X w' u (cenc c) [] 1500000):=fun X I=>C.out X (y.below.trans (I.mono y.below.size));have M:=B.out _ ((an _ _).drew);clear y C;refine wp_region_held_drew (S:=fun X=>X.rangeAt g 0 cl) (by kernel_rfl) M (fun b=>?_);refine tkq 0 rfl (v:=?_) (aA ⟨by rfl,?qy0⟩) ?_
 case qy0=>intro w k;(try dsimp only at k);go_simp;all_goals with_reducible rfl
 try simp only [sqx,az]
 refine tkq 2 rfl (v:=.agg A) (j7 (by rfl) _ _ rfl _ _ rfl A cl _ (fun _ h=>h) l underlying39 rfl m) ?_
 try simp only [sqx,az]
 refine wpAnyH_ready (rs:=[1]) (by kernel_rfl) (by simp) ?_;refine aB rfl (fun K f=>?_) aD;go_simp
 with_reducible refine (jqc hv _).mono ?_
 rintro e V1 ⟨v1,rfl,q⟩
 try go_wp2_with fail
 have d:=q.mem.below;refine f.out _ _ (B.out _ (j1z d)) (fun b=>?_);clear f K
 try simp only [sqx,az]
 refine wpAnyH_ready (rs:=[3]) (by kernel_rfl) (by simp) ?_;refine aB rfl (fun K f=>?_) aD;go_simp
 with_reducible refine (R.out _ (j1z d)).mono ?_
 rintro e V2 ⟨v2,rfl,p⟩
 try go_wp2_with fail
 have hb2:=p.1.mem.below;obtain ⟨P,Z,rfl,i⟩:=p.1.sl (by omega);obtain ⟨J,rfl⟩:∃ ad,P=some ad:=by
  cases P with
  | none=>have:=i.nil rfl;have:=i.le;omega
  | some ad=>exact ⟨ad,rfl⟩
 obtain ⟨v3,V3,k1,E⟩:=qq (q.after hb2) J (cenc c).length Z (cenc c) rfl i.row (by rw [jr];omega) 86;refine f.out _ _ (B.out _ ((j1z d).trans (hb2.mono (j1z d).size))) (fun b=>?_);clear f K
 try simp only [sqx,az]
 refine wpAnyH_ready (rs:=[4]) (by kernel_rfl) (by simp) ?_;refine aB rfl (fun K f=>?_) aD;refine jd rfl (.tmp 6) (.tmp 8) 86 86 rfl (by first|rfl|simp [ay]) (by first|rfl|simp [ay]) k1 ?_;have H:Below w.heap.size w V3:=T.out.trans ((Below.drew (an _ _) |>.trans E.mem.below).mono T.out.size);refine f.out _ _ (B.out _ (j1z E.mem.below)) (fun b=>?_);clear f K
 try simp only [sqx,az]
 refine tkq 5 rfl (v:=?_) (aA ⟨by rfl,?qey5⟩) ?_
 case qey5=>intro w k;(try dsimp only at k);go_simp;all_goals with_reducible rfl
 try simp only [sqx,az]
 refine wpAnyH_done (by kernel_rfl) ?_ _;obtain ⟨a3,U,rfl,-⟩:=E.sl (by rw [ah,jr];omega);clear R B l;go_wp2_with fail;go_ret;refine ⟨a3,U,?_,H⟩;rw [jt];rfl
end
section
open Go.RowKit Sm Cf
theorem jqa (h:RS v bl Y) (hr:bl.getLast?=some r) (p:Has V Y) (s:r.length<=100000000) :
 ∃ d n cap ad,v=.slice (some ⟨d,0,none⟩) (n+1) cap/\n+1<=cap/\V.cell? ⟨d,n,none⟩=some (.slice ad r.length r.length)/\Sl V ad r r.length:=by
 rcases h with ⟨_,e,_⟩|⟨d,cap,hc,ks,rfl,h0,h1,h2,h3,h4,h5,rfl⟩
 ·rw [e] at hr;simp at hr
 ·obtain ⟨n,o⟩:∃ n,bl.length=n+1:=⟨bl.length-1,by omega⟩;have hi:bl[n]?=some r:=by rw [List.getLast?_eq_getElem?,o] at hr;exact hr
  have m:=(List.getElem?_eq_some_iff.mp hi).1;rw [<-h5,al] at hi;obtain ⟨k,j,a⟩:=Option.map_eq_some_iff.mp hi;have b:=h4 k (am j);have e:=congrArg (fun l=>l[n]?) h3;simp only [al,j,Option.map_some,List.getElem?_take,if_pos m,Array.getElem?_toList] at e;have q:=p (k.g,.cells k.cur 5) (List.mem_cons_of_mem _ (List.mem_map.mpr ⟨k,am j,rfl⟩));refine ⟨d,n,cap,some ⟨k.g,0,none⟩,by rw [o],by omega,?_,?_⟩
  ·rw [cell_of (p (d,.cells hc 86) (by simp)),e,Bk.hdB,b.2,a]
  ·have i:=b.1;rw [a] at i;have f:(Bk.mk k.g k.cap k.cur r).Ok r.length:=by rw [<-a] at i ⊢;exact i
   exact ⟨jfc f q (by omega),ao _,by omega,nofun⟩
theorem jjw (w:World):Calls prog 42 #[.slice none 0 0] w fun e V=>e=.returned (.tuple #[.agg s0A,.int .i64 0])/\Below w.heap.size w V:=by
 obtain ⟨g,f⟩:∃ g,w.heap.size=g:=⟨_,rfl⟩;have d:Mem w (w.alloc (.cells s0A stS)) [(g,.cells s0A stS (0,0))]:=(Mem.nil w).push1 f.symm;have a:(prog.info? stS).map (·.size)=some s0A.size:=by kernel_rfl
 go_enter func42,ntmps42;go_upto_region 1 with fail;refine j5 (fun X=>Mem w X [(g,.cells s0A stS (0,0))]) (by exact d) ?_;intro i h
 try simp only [f]
 clear d f;have j:=h.get 0 rfl;have b:=h.wrote 0 rfl (j8 i g _ s0A _ j);have k:Hid ((i.setRow g s0A).heap[g]?=some (.cells s0A stS (0,0))/\Below w.heap.size w (i.setRow g s0A)):=⟨b.get 0 rfl,b.below⟩;clear h b;go_wp2_with (refine wpList_store_row rfl stS (.tmp 2) (.tmp 7) (by with_reducible rfl) g s0A (by first|rfl|simp [ay]) (by first|rfl|simp [ay]) stS s0A j a rfl jf9 ?_)
 refine bodyPost_ret (v:=.tuple #[.agg s0A,.int .i64 0]) ?_ rfl ⟨rfl,k.out.2⟩;exact jx (p:=2) (q:=3) (ty:=stS) rfl _ _ g _ rfl (run_loadVar_row _ _ stS stS _ (0,0) _ k.out.1 underlying96 rfl a)
theorem jgg (h:RS v bl Y) (I:∀ x∈Y,w.heap[x.1]?=some x.2) (hr:bl.getLast?=some r) (R:r.length<=100000000) (a5:bl.length<=1000) (h8:8<=r.length) {c:Cgf} (hd:cdec (r.drop 8)=some c) :
 Calls prog 42 #[v] w (RdP w (num (r.take 8)) c):=by
 obtain ⟨g,H⟩:∃ g,w.heap.size=g:=⟨_,rfl⟩;have f:Mem w (w.alloc (.cells s0A stS)) [(g,.cells s0A stS (0,0))]:=(Mem.nil w).push1 H.symm;have D:∀ x∈Y,x.1<w.heap.size:=fun x hx=>(Array.getElem?_eq_some_iff.mp (I x hx)).1;have Z:∀ V,Below w.heap.size w V->Has V Y:=fun V hV x hx=>(hV.block x.1 (D x hx)).trans (I x hx);obtain ⟨a0,c0,Q⟩:=h.shape;obtain ⟨S,n,cap,ad,e,hc,b,hs⟩:=jqa h hr (Z _ f.below) R;have a1:n+1<=1000:=by
  rw [Q] at e;simp only [Value.slice.injEq] at e;omega
 have C:=jqi hs rfl h8 hd;subst e;clear Q h Z I D hs hr;have M:Hid (Mem w (w.alloc (.cells s0A stS)) [(g,.cells s0A stS (0,0))]):=f;have a4:((n:Int)+1==0)=false:=by rw [beq_eq_false_iff_ne];omega
 have a3:aw.wrap ((n:Int)+1-1)=n:=by rw [qk (by omega) (by omega)];omega
 have a2:(n:Int)<(n:Int)+1:=by omega
 obtain ⟨i,z⟩:∃ k,r.length=k:=⟨_,rfl⟩;rw [z] at b C;obtain ⟨N,T⟩:∃ N,num (r.take 8)=N:=⟨_,rfl⟩;rw [T] at C ⊢;have HL:Hid (Mem w (w.alloc (.cells s0A stS)) [(g,.cells s0A stS (0,0))]/\(w.alloc (.cells s0A stS)).cell? ⟨S,n,none⟩=some (.slice ad i i)/\Calls prog 71 #[.slice ad i i] (w.alloc (.cells s0A stS)) (RdP (w.alloc (.cells s0A stS)) N c)):=⟨f,b,C⟩;clear f M b C T z R;go_enter func42,ntmps42;go_upto_region 1 with fail;refine j5 (fun X=>Mem w X [(g,.cells s0A stS (0,0))]/\X.cell? ⟨S,n,none⟩=some (.slice ad i i)/\Calls prog 71 #[.slice ad i i] X (RdP X N c)) (by exact HL.out) ?_;rintro J ⟨U,b,C⟩
 try simp only [H]
 clear HL H;have O:Hid (Mem w J [(g,.cells s0A stS (0,0))]):=U;clear U;go_wp2_with fail;refine C.mono ?_;rintro e V ⟨u,K,rfl,d,j⟩;have o:Mem w V ((g,.cells s0A stS (0,0))::K):=(O.out.more d).perm List.perm_append_comm;have P:=o.get 0 rfl;obtain ⟨A,F⟩:∃ A,(Value.int .u64 N::cc c u).toArray=A:=⟨_,rfl⟩;have l:=j J (ao _) V d.below (fun x hx=>d.at_ x hx);have E:=l.1;have hu:u.oneCell'=true:=by
  obtain ⟨u',e,h'⟩:=l.2;have:u=u':=by
   have e2:=congrArg (fun v=>match v with | .agg a=>a[28]? | _=>none) e;simp only [j50 E,Option.some.injEq] at e2;exact e2
  rw [this];exact h'.one
 have y:A.size=30:=by rw [<-F];simp [je E]
 have B:A.all (·.oneCell')=true:=by rw [<-F];exact j53 N hu
 have s:(prog.info? stS).map (·.size)=some A.size:=by rw [y];kernel_rfl
 have z30:s0A.size=A.size:=by rw [y];rfl
 have m:=o.wrote 0 rfl (j8 V g _ A _ P);have G:w.heap.size<=J.heap.size:=O.out.below.size;have HQ:Hid ((V.setRow g A).heap[g]?=some (.cells A stS (0,0))/\RdP w N c (.returned (.tuple #[.agg A,.int .i64 0])) (V.setRow g A)) :=
  ⟨m.get 0 rfl,u,K,by rw [F],m.sub,fun w1 h1=>j w1 (Nat.le_trans h1 G)⟩
 rw [F];clear d o m j l O F C b;go_wp2_with (refine wpList_store_row rfl stS (.tmp 2) (.tmp 15) (by with_reducible rfl) g A (by first|rfl|simp [ay]) (by first|rfl|simp [ay]) stS s0A P s z30 B ?_)
 refine bodyPost_ret (v:=.tuple #[.agg A,.int .i64 0]) ?_ rfl HQ.out.2;exact jx (p:=2) (q:=3) (ty:=stS) rfl _ _ g _ rfl (run_loadVar_row _ _ stS stS _ (0,0) _ HQ.out.1 underlying96 rfl s)
end
end Go.Proofs.YtdigofgjhaakmaaGreatDoor
