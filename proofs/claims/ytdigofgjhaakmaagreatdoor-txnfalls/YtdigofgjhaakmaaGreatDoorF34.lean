/- Parts of the proof. -/
import Derived.Test.YtdigofgjhaakmaaGreatDoorF33
set_option linter.all false
set_option maxHeartbeats 40000000
set_option maxRecDepth 20000
open Go.Proofs.Tryz
open UInt8 renaming ofNat->aa
open Int renaming tmod->ab,tmod_eq_emod_of_nonneg->ac
open Or renaming inr->ad,inl->ae
open Go.IntKind renaming i64->af,u8->ag,u32->ah,u16->ai
open List renaming size_toArray->aj,nil_append->ak,append_nil->al,mem_of_mem_take->am,length_take->an,getElem_mem->ao,getElem?_cons_succ->ap,take_length->aq,getElem?_eq_some_iff->ar,getElem?_toArray->au,getElem?_append_left->av,getElem?_append_right->aw,set_append_right->ax,set_cons_zero->ay
open Go.Act renaming eval->az,put->aA
open Go.RowKit.Below renaming refl->aB
open Go.AllReadyH renaming cons->aD,nil->aE
open Go.Value renaming slice->aF,bool->aG,int->aH
namespace Go.Proofs.YtdigofgjhaakmaaGreatDoor
variable {w:World} {u u2:Value} {v:Int}
section
open Go.RowKit La Ad
open Sm (j6)
namespace Va
def mkQ (i:Nat) (p2 st tw:Bool) (lo hi fi se qu ra bu:Int):Ten :=
 ⟨⟨#[aa (97+i % 8)]⟩,100+(i:Int),[(i:Int)+1,0,0,0,0,0,0,0],adr 10 9 0 ((i:Int)+1),[2,9,(i:Int),0,0,0],[2,7,(i:Int),0,0,0],
  if p2 then [adr 5 5 i 1,adr 5 5 i 2] else [adr 5 5 i 1],lo,hi,fi,if st then [(adr 10 0 0 9,adr 5 6 i 9)] else [],if tw then [(adr 192 168 0 5,adr 8 8 8 8),(adr 192 168 0 6,adr 5 5 i 1)] else [],se,qu,ra,bu⟩
def qlo (k:Int):Int:=if (bits .and .u16 k 64 != 0)=true then 1020 else 1024
def qhi (k:Int):Int:=if (bits .and .u16 k 64 != 0)=true then 1030 else 1024+bits .and .u16 (k / 8) 7
structure SRq (k lo hi fi se qu ra bu:Int):Prop where
 is:lo=qlo k/\hi=qhi k/\fi=ab k 3/\se=1+bits .and .i64 (k / 512) 7/\qu=1+bits .and .i64 (k / 4096) 3/\ra=bits .and .u32 (k / 16384) 3/\bu=3+bits .and .u32 (k / 8192) 7
 lo:1<=lo/\lo<=hi
 hi:0<=hi/\hi<=9999
 fi:0<=fi/\fi<=2
 se:1<=se/\se<=8
 qu:1<=qu/\qu<=4
 ra:0<=ra/\ra<=3
 bu:3<=bu/\bu<=10
def yn (i:Nat) (k:Int) (t:Ten):Prop:=∃ lo hi fi se qu ra bu,t=mkQ i (bits .and .u16 k 4 != 0) (bits .and .u16 k 128 != 0) (bits .and .u16 k 256 != 0) lo hi fi se qu ra bu/\SRq k lo hi fi se qu ra bu
end Va
open Va
def ZX (z:Tv) (L:List (Nat×Obj)):Prop:=TLen z.1/\∃ B1 B2 B3,L=B1++(B2++B3)/\OwB 33 1 z.2.1 z.1.pool.length (ux z.1.pool).flatten B1/\OwB 122 2 z.2.2.1 z.1.stat.length (px z.1.stat).flatten B2/\OwB 122 2 z.2.2.2 z.1.twi.length (px z.1.twi).flatten B3
theorem ZX.zb {z:Tv} {L C:List (Nat×Obj)} (h:ZX z L) (hs:∀ x∈L,x∈C):ZB z C:=by
 obtain ⟨e,i,g,f,rfl,d,b,a⟩:=h;refine ⟨e,i,g,f,fun x hx=>hs x ?_,d,b,a⟩;simp only [List.mem_append] at hx ⊢;rcases hx with h|h|h
 ·exact ad (ad h)
 ·exact ad (ae h)
 ·exact ae h
def StQ (i:Nat) (k:Int) (w:World) (e:Ending) (V:World):Prop:=∃ t p s q C,e=.returned (.agg (tc t p s q).toArray)/\yn i k t/\ZX (t,p,s,q) C/\Mem w V C
theorem j19 (w:World) (i:Nat) (h:i<17):Calls prog 36 #[.int .i64 (i:Int)] w fun e w'=>e=.returned (.string ⟨#[aa (97+i % 8)]⟩)/\w=w':=by
 obtain ⟨m,b⟩:∃ m,i % 8=m:=⟨_,rfl⟩;have d:m<8:=by omega
 rw [b];have a:∀ W,(Instr.slice 9 (.string ⟨#[97,98,99,100,101,102,103,104]⟩) (some (.int .i64 (m:Int))) (some (.int .i64 ((m:Int)+1))) none).run prog W=.ok (.string ⟨#[aa (97+m)]⟩) W:=by
  intro W;rw [run_slice_string W 9 _ .i64 .i64 (m:Int) ((m:Int)+1) underlying9 (by omega) (by omega) (by show ((m:Int)+1)<=((8:Nat):Int);omega)];have e:(⟨#[97,98,99,100,101,102,103,104]⟩:ByteArray).extract (m:Int).toNat ((m:Int)+1).toNat=⟨#[aa (97+m)]⟩:=by
   have:m=0\/m=1\/m=2\/m=3\/m=4\/m=5\/m=6\/m=7:=by omega
   rcases this with rfl|rfl|rfl|rfl|rfl|rfl|rfl|rfl<;>rfl
  rw [e]
 have f:(i:Int) % 8=m:=by omega
 have j:af.wrap ((m:Int)+1)=(m:Int)+1:=wrap64 (by omega) (by omega);have g:ab (i:Int) 8=m:=by rw [ac (by omega)];exact f
 generalize (⟨#[aa (97+m)]⟩:ByteArray)=T at a ⊢;clear h b;go_enter func36,ntmps36
 go_wp2
 go_ret;exact ⟨rfl,rfl⟩
theorem j26 (w:World) (i:Nat) (hi:i<17) (k:Int) (c4:0<=k) (R:k<=65535):Calls prog 35 #[.int .i64 (i:Int),.int .u16 k] w (StQ i k w):=by
 obtain ⟨l,c5⟩:∃ l,w.heap.size=l:=⟨_,rfl⟩;obtain ⟨s0,b1⟩:∃ s:ByteArray,(⟨#[aa (97+i % 8)]⟩:ByteArray)=s:=⟨_,rfl⟩;obtain ⟨n1,c2⟩:∃ n:Int,100+(i:Int)=n:=⟨_,rfl⟩;obtain ⟨n2,c1⟩:∃ n:Int,(i:Int)+1=n:=⟨_,rfl⟩;obtain ⟨f,hf⟩:∃ n:Int,ab k 3=n:=⟨_,rfl⟩;have f2:0<=f/\f<=2:=by rw [<-hf,ac c4];omega
 obtain ⟨a1,c7⟩:∃ n:Int,adr 10 9 0 n2=n:=⟨_,rfl⟩;have i0:∀ X,Calls prog 36 #[.int .i64 (i:Int)] X fun e w'=>e=.returned (.string s0)/\X=w':=fun X=>by rw [<-b1];exact j19 X i hi
 have A1:∀ X,Calls prog 66 #[.int .u8 10,.int .u8 9,.int .u8 0,.int .u8 n2] X fun e w'=>e=.returned (.int .u32 a1)/\X=w':=fun X=>by rw [<-c7];exact yx X 10 9 0 _ (by omega) (by omega) (by omega) (by omega)
 have A2:∀ X,Calls prog 66 #[.int .u8 5,.int .u8 5,.int .u8 (i:Int),.int .u8 1] X fun e w'=>e=.returned (.int .u32 (adr 5 5 i 1))/\X=w':=fun X=>yx X 5 5 _ 1 (by omega) (by omega) (by omega) (by omega);have A3:∀ X,Calls prog 66 #[.int .u8 5,.int .u8 5,.int .u8 (i:Int),.int .u8 2] X fun e w'=>e=.returned (.int .u32 (adr 5 5 i 2))/\X=w':=fun X=>yx X 5 5 _ 2 (by omega) (by omega) (by omega) (by omega);have A4:∀ X,Calls prog 66 #[.int .u8 10,.int .u8 0,.int .u8 0,.int .u8 9] X fun e w'=>e=.returned (.int .u32 (adr 10 0 0 9))/\X=w':=fun X=>yx X 10 0 0 9 (by omega) (by omega) (by omega) (by omega);have A5:∀ X,Calls prog 66 #[.int .u8 5,.int .u8 6,.int .u8 (i:Int),.int .u8 9] X fun e w'=>e=.returned (.int .u32 (adr 5 6 i 9))/\X=w':=fun X=>yx X 5 6 _ 9 (by omega) (by omega) (by omega) (by omega);have A6:∀ X,Calls prog 66 #[.int .u8 192,.int .u8 168,.int .u8 0,.int .u8 5] X fun e w'=>e=.returned (.int .u32 (adr 192 168 0 5))/\X=w':=fun X=>yx X 192 168 0 5 (by omega) (by omega) (by omega) (by omega);have A7:∀ X,Calls prog 66 #[.int .u8 8,.int .u8 8,.int .u8 8,.int .u8 8] X fun e w'=>e=.returned (.int .u32 (adr 8 8 8 8))/\X=w':=fun X=>yx X 8 8 8 8 (by omega) (by omega) (by omega) (by omega);have A8:∀ X,Calls prog 66 #[.int .u8 192,.int .u8 168,.int .u8 0,.int .u8 6] X fun e w'=>e=.returned (.int .u32 (adr 192 168 0 6))/\X=w':=fun X=>yx X 192 168 0 6 (by omega) (by omega) (by omega) (by omega);have e1:ag.wrap (i:Int)=i:=j3i _ (by omega) (by omega);have e2:ah.wrap (i:Int)=i:=jg _ (by omega) (by omega);have e3:ah.wrap (100+(i:Int))=n1:=by rw [<-c2];exact jg _ (by omega) (by omega)
 have e4:ag.wrap ((i:Int)+1)=n2:=by rw [<-c1];exact j3i _ (by omega) (by omega)
 have e5:af.wrap f=f:=wrap64 (by omega) (by omega);obtain ⟨E,a2⟩:∃ E:Ten,({ ten0 with name:=s0,vni:=n1,key:=[n2,0,0,0,0,0,0,0],vtep:=a1,vmac:=[2,9,(i:Int),0,0,0],host:=[2,7,(i:Int),0,0,0],filter:=f }:Ten)=E:=⟨_,rfl⟩;obtain ⟨N,d5⟩:∃ N,(tc { ten0 with name:=s0,vni:=n1,key:=[n2,0,0,0,0,0,0,0],vtep:=a1,vmac:=[2,9,(i:Int),0,0,0],host:=[2,7,(i:Int),0,0,0],filter:=f } nilV nilV nilV).toArray=N:=⟨_,rfl⟩;have a4:(tc E nilV nilV nilV).toArray=N:=by rw [<-a2];exact d5
 have c3:TLen E:=by rw [<-a2];exact ⟨rfl,rfl,rfl⟩
 have F:N.size=33:=by rw [<-a4,aj];exact ji c3 _ _ _
 have D:N.all (·.oneCell')=true:=by rw [<-a4];exact j3n _ rfl rfl rfl
 have K:(prog.info? 46).map (·.size)=some N.size:=by rw [F];kernel_rfl
 have I:Hid (({ ten0 with name:=s0,vni:=n1,key:=[n2,0,0,0,0,0,0,0],vtep:=a1,vmac:=[2,9,(i:Int),0,0,0],host:=[2,7,(i:Int),0,0,0],filter:=f }:Ten)=E/\TLen E/\(tc E nilV nilV nilV).toArray=N):=⟨a2,c3,a4⟩;have f7:Mem w (w.alloc (.cells tz 46)) [(l,.cells tz 46)]:=(Mem.nil w).push1 c5.symm;have C:Hid (i<17/\0<=k/\k<=65535):=⟨hi,c4,R⟩;have h9:Hid ((tc { ten0 with name:=s0,vni:=n1,key:=[n2,0,0,0,0,0,0,0],vtep:=a1,vmac:=[2,9,(i:Int),0,0,0],host:=[2,7,(i:Int),0,0,0],filter:=f } nilV nilV nilV).toArray=N):=d5;have HV:Hid ((⟨#[aa (97+i % 8)]⟩:ByteArray)=s0/\100+(i:Int)=n1/\(i:Int)+1=n2/\adr 10 9 0 n2=a1/\0<=f/\f<=2):=⟨b1,c2,c1,c7,f2⟩;have HF:Hid (f=ab k 3):=hf.symm;clear a2 a4 c3 hi c4 R b1 c2 c1 c7 f2 d5;go_enter func35,ntmps35;go_upto_region 1 with fail;refine j5 (fun X=>Mem w X [(l,Obj.cells tz 46)]) (by exact f7) ?_;intro V0 hM
 try simp only [c5]
 clear f7 c5;have CN:=i0 V0;obtain ⟨d,M⟩:∃ d,V0.heap.size=d:=⟨_,rfl⟩;have R:(V0.alloc (.cells tz 46)).heap[d]?=some (.cells tz 46):=by rw [<-M];exact heap_alloc_new _ _
 have e9:(V0.alloc (.cells tz 46)).setRow d N=V0.alloc (.cells N 46):=by
  rw [<-M];exact World.setRow_alloc_new V0 tz N 46
 have HP:Hid (Tb w ((V0.alloc (.cells tz 46)).setRow d N) d l E):=by
  rw [e9];refine ⟨[(d,.cells ([]++(tc E nilV nilV nilV++[])).toArray 46)],⟨I.out.2.1,nilV,nilV,nilV,[],[],[],?_,?_,?_,rfl⟩,?_⟩
  ·rw [<-I.out.1];exact OwB.nil _ _
  ·rw [<-I.out.1];exact OwB.nil _ _
  ·rw [<-I.out.1];exact OwB.nil _ _
  ·simp only [ak,al];rw [I.out.2.2];exact hM.front _ M.symm
 clear e9 hM i0;go_wp2_with fail;refine CN.mono ?_;rintro e _ ⟨rfl,rfl⟩;clear CN;go_wp2_with fail;refine (A1 _).mono ?_;rintro e _ ⟨rfl,rfl⟩;clear A1;go_upto_region 3 with (refine wpList_store_row rfl 46 (.tmp 6) (.tmp 27) (by with_reducible rfl) d N (by simp [az];try exact M) (by rw [<-h9.out];rfl) 46 tz R K (by rw [F];rfl) D ?_)
 refine j5 (fun X=>Tb w X d l E) (by exact HP.out) ?_;intro V1 y
 try simp only [M]
 clear HP M R F D K h9;obtain ⟨⟨v1,m2⟩,i7,f6⟩:=jms y (adr 5 5 i 1) (gs:=V1.heap.size) rfl;have h4:Hid (Tb w ((V1.alloc (.cells #[.int .u32 (adr 5 5 i 1)] 33)).setCell ⟨d,23,none⟩ (.slice (some ⟨V1.heap.size,0,none⟩) 1 1)) d l { E with pool:=[adr 5 5 i 1] }):=f6;clear f6 y;go_wp2_with fail;refine (A2 _).mono ?_;rintro e _ ⟨rfl,rfl⟩;go_upto_region 4 with fail;refine j5 (fun X=>Tb w X d l { E with pool:=[adr 5 5 i 1] }) (by exact h4.out) ?_;intro V2 y;have HR:Hid (Tb w V2 d l { E with pool:=[adr 5 5 i 1] }):=y;clear h4 y m2 i7;obtain ⟨b4,f5⟩:∃ b,bits .and .u16 k 4=b:=⟨_,rfl⟩;go_upto_if 34 with fail
 go_cut [] from 7 (fun w'=>∃ p2:Bool,p2=(b4 != 0)/\Hid (Tb w w' d l { E with pool:=if p2 then [adr 5 5 i 1,adr 5 5 i 2] else [adr 5 5 i 1] }))
 case first =>
  by_cases hz:b4=0
  ·have j:(b4 != 0)=false:=by simp [hz]
   go_wp2_with fail;go_meet
   case rel=>exact ⟨false,j.symm,HR⟩
  ·have j:(b4 != 0)=true:=by simp [hz]
   have hd:=HR.out.after ((aB _ _).drew);obtain ⟨pa,pm,pc,p0,p2,v4,V4,Q,⟨qa,qm,qc,rfl⟩,⟨v0,n3⟩,fr4,hH⟩:=jmt hd (by show ([adr 5 5 i 1]:List Int).length<=_;simp) (adr 5 5 i 2);have HH:Hid (Tb w (V4.setCell ⟨d,23,none⟩ (.slice qa qm qc)) d l { E with pool:=[adr 5 5 i 1,adr 5 5 i 2] }):=hH qa qm qc rfl;have p3:(V2.alloc (.cells #[.int .u32 (adr 5 5 i 2)] 33)).cell? ⟨d,23,none⟩=some (.slice pa pm pc):=p2;clear hH hd HR;go_upto_region 5 with fail;refine wp_region_held_drew (S:=fun _=>True) (by kernel_rfl) trivial (fun a=>?_);refine tkq 0 rfl (v:=?_) (ae ⟨by rfl,?qay0⟩) ?_
   case qay0=>intro w B;(try dsimp only at B);go_simp;all_goals with_reducible rfl
   try simp only [sqx,aA]
   refine tkq 2 rfl (v:=?_) (ae ⟨by rfl,?qay2⟩) ?_
   case qay2=>intro w B;(try dsimp only at B);go_simp;all_goals with_reducible rfl
   try simp only [sqx,aA]
   refine wpAnyH_ready (rs:=[1,3]) (by kernel_rfl) (by simp) ?_;refine aD rfl (fun m g=>?_) (aD rfl (fun m g=>?_) aE)
   ·go_simp;refine g.out _ _ trivial (fun a=>?_);clear g m
    try simp only [sqx,aA]
    refine wpAnyH_ready (rs:=[3]) (by kernel_rfl) (by simp) ?_;refine aD rfl (fun m g=>?_) aE;go_simp
    with_reducible refine (A3 _).mono ?_
    rintro e _ ⟨rfl,rfl⟩
    try go_wp2_with fail
    refine g.out _ _ trivial (fun a=>?_);clear g m
    try simp only [sqx,aA]
    refine wpAnyH_ready (rs:=[4]) (by kernel_rfl) (by simp) ?_;refine aD rfl (fun m g=>?_) aE;go_simp;refine g.out _ _ trivial (fun a=>?_);clear g m
    try simp only [sqx,aA]
    refine wpAnyH_ready (rs:=[5]) (by kernel_rfl) (by simp) ?_;refine aD rfl (fun m g=>?_) aE;refine jd rfl (.tmp 36) (.tmp 39) 43 43 rfl (by simp [az]) (by simp [az]) Q ?_;refine g.out _ _ trivial (fun a=>?_);clear g m
    try simp only [sqx,aA]
    refine tkq 6 rfl (v:=?_) (ae ⟨by rfl,?qbzy6⟩) ?_
    case qbzy6=>intro w B;(try dsimp only at B);go_simp;all_goals with_reducible rfl
    try simp only [sqx,aA]
    refine wpAnyH_ready (rs:=[7]) (by kernel_rfl) (by simp) ?_;refine aD rfl (fun m g=>?_) aE;go_simp;refine g.out _ _ trivial (fun a=>?_);clear g m
    try simp only [sqx,aA]
    refine wpAnyH_done (by kernel_rfl) ?_ _;go_wp2_with fail;go_meet
    case rel=>exact ⟨true,j.symm,HH⟩
   ·go_simp
    with_reducible refine (A3 _).mono ?_
    rintro e _ ⟨rfl,rfl⟩
    try go_wp2_with fail
    refine g.out _ _ trivial (fun a=>?_);clear g m
    try simp only [sqx,aA]
    refine wpAnyH_ready (rs:=[1,4]) (by kernel_rfl) (by simp) ?_;refine aD rfl (fun m g=>?_) (aD rfl (fun m g=>?_) aE)
    ·go_simp;refine g.out _ _ trivial (fun a=>?_);clear g m
     try simp only [sqx,aA]
     refine wpAnyH_ready (rs:=[4]) (by kernel_rfl) (by simp) ?_;refine aD rfl (fun m g=>?_) aE;go_simp;refine g.out _ _ trivial (fun a=>?_);clear g m
     try simp only [sqx,aA]
     refine wpAnyH_ready (rs:=[5]) (by kernel_rfl) (by simp) ?_;refine aD rfl (fun m g=>?_) aE;refine jd rfl (.tmp 36) (.tmp 39) 43 43 rfl (by simp [az]) (by simp [az]) Q ?_;refine g.out _ _ trivial (fun a=>?_);clear g m
     try simp only [sqx,aA]
     refine tkq 6 rfl (v:=?_) (ae ⟨by rfl,?qczy6⟩) ?_
     case qczy6=>intro w B;(try dsimp only at B);go_simp;all_goals with_reducible rfl
     try simp only [sqx,aA]
     refine wpAnyH_ready (rs:=[7]) (by kernel_rfl) (by simp) ?_;refine aD rfl (fun m g=>?_) aE;go_simp;refine g.out _ _ trivial (fun a=>?_);clear g m
     try simp only [sqx,aA]
     refine wpAnyH_done (by kernel_rfl) ?_ _;go_wp2_with fail;go_meet
     case rel=>exact ⟨true,j.symm,HH⟩
    ·go_simp;refine g.out _ _ trivial (fun a=>?_);clear g m
     try simp only [sqx,aA]
     refine wpAnyH_ready (rs:=[1]) (by kernel_rfl) (by simp) ?_;refine aD rfl (fun m g=>?_) aE;go_simp;refine g.out _ _ trivial (fun a=>?_);clear g m
     try simp only [sqx,aA]
     refine wpAnyH_ready (rs:=[5]) (by kernel_rfl) (by simp) ?_;refine aD rfl (fun m g=>?_) aE;refine jd rfl (.tmp 36) (.tmp 39) 43 43 rfl (by simp [az]) (by simp [az]) Q ?_;refine g.out _ _ trivial (fun a=>?_);clear g m
     try simp only [sqx,aA]
     refine tkq 6 rfl (v:=?_) (ae ⟨by rfl,?qdzy6⟩) ?_
     case qdzy6=>intro w B;(try dsimp only at B);go_simp;all_goals with_reducible rfl
     try simp only [sqx,aA]
     refine wpAnyH_ready (rs:=[7]) (by kernel_rfl) (by simp) ?_;refine aD rfl (fun m g=>?_) aE;go_simp;refine g.out _ _ trivial (fun a=>?_);clear g m
     try simp only [sqx,aA]
     refine wpAnyH_done (by kernel_rfl) ?_ _;go_wp2_with fail;go_meet
     case rel=>exact ⟨true,j.symm,HH⟩
 case rest =>
  obtain ⟨p2,f1,d8⟩:=hcut;have h7:Hid (p2=(bits .and .u16 k 4 != 0)):=by rw [f5];exact f1
  clear HR f5 f1;obtain ⟨T2,d3⟩:∃ T2:Ten,{ E with pool:=if p2 then [adr 5 5 i 1,adr 5 5 i 2] else [adr 5 5 i 1] }=T2:=⟨_,rfl⟩;rw [d3] at d8;have h2:Hid ({ E with pool:=if p2 then [adr 5 5 i 1,adr 5 5 i 2] else [adr 5 5 i 1] }=T2):=d3;obtain ⟨r1,b2⟩:∃ r,bits .and .u16 (k / 8) 7=r:=⟨_,rfl⟩;have a6:=j02 (k:=.u16) 16 (by decide) (fun n h0 H=>zr n h0 (by omega)) 3 (by decide) 7 (k / 8) (by decide) (by have:=C.out;omega) (by have:=C.out;omega);rw [b2] at a6;obtain ⟨H,a0⟩:∃ h,1024+r1=h:=⟨_,rfl⟩;have e6:ai.wrap (1024+r1)=H:=by rw [<-a0];exact zr _ (by omega) (by omega)
  obtain ⟨⟨i2,g1⟩,f9,o⟩:=j2o d8.out (fun L G=>jlg G 1024);obtain ⟨⟨i1,g0⟩,f8,U⟩:=j2o o (fun L G=>jlh G H);have x:Hid (Tb w ((wc.setCell ⟨d,24,none⟩ (.int .u16 1024)).setCell ⟨d,25,none⟩ (.int .u16 H)) d l { T2 with lo:=1024,hi:=H }):=U;have a5:Hid (1024<=H/\H<=9999):=by rw [<-a0];exact ⟨by omega,by omega⟩
  have h8:Hid (H=1024+bits .and .u16 (k / 8) 7):=by rw [b2];exact a0.symm
  clear o U d8 d3 a0 a6;go_upto_region 7 with fail;refine j5 (fun X=>Tb w X d l { T2 with lo:=1024,hi:=H }) (by exact x.out) ?_;intro V3 y;have HR:Hid (Tb w V3 d l { T2 with lo:=1024,hi:=H }):=y;clear x y g1 g0 f9 f8 e6 b2;obtain ⟨b6,T⟩:∃ b,bits .and .u16 k 64=b:=⟨_,rfl⟩;go_upto_if 50 with fail
  go_cut [] from 7 (fun w'=>∃ lo hi:Int,(1<=lo/\lo<=hi)/\(0<=hi/\hi<=9999)/\(lo=qlo k/\hi=qhi k)/\Hid (Tb w w' d l { T2 with lo:=lo,hi:=hi }))
  case first =>
   by_cases hz:b6=0
   ·have j:(b6 != 0)=false:=by simp [hz]
    go_wp2_with fail;go_meet
    case rel=>exact ⟨1024,H,⟨by omega,a5.out.1⟩,⟨by have:=a5.out;omega,a5.out.2⟩,⟨by rw [qlo,T,j];rfl,by rw [qhi,T,j];exact h8.out⟩,HR⟩
   ·have j:(b6 != 0)=true:=by simp [hz]
    obtain ⟨⟨i2,g1⟩,f9,o⟩:=j2o HR.out (fun L G=>jlg G 1020);obtain ⟨⟨i1,g0⟩,f8,U⟩:=j2o o (fun L G=>jlh G 1030);have x:Hid (Tb w ((V3.setCell ⟨d,24,none⟩ (.int .u16 1020)).setCell ⟨d,25,none⟩ (.int .u16 1030)) d l { T2 with lo:=1020,hi:=1030 }):=U;clear o U HR;go_wp2_with fail;go_meet
    case rel=>exact ⟨1020,1030,by omega,by omega,⟨by rw [qlo,T,j];rfl,by rw [qhi,T,j];rfl⟩,x⟩
  case rest =>
   obtain ⟨lo,hi,e0,e7,rq,Y⟩:=hcut;have d6:Hid (lo=qlo k/\hi=qhi k):=rq;clear HR T;have d9:Hid ((1<=lo/\lo<=hi)/\(0<=hi/\hi<=9999)):=⟨e0,e7⟩;obtain ⟨T3,d2⟩:∃ T3:Ten,{ T2 with lo:=lo,hi:=hi }=T3:=⟨_,rfl⟩;rw [d2] at Y;have g9:Hid ({ T2 with lo:=lo,hi:=hi }=T3):=d2;clear d2 e0 e7 rq;obtain ⟨b7,f4⟩:∃ b,bits .and .u16 k 128=b:=⟨_,rfl⟩;go_upto_if 55 with fail
   go_cut [] from 7 (fun w'=>∃ st:Bool,st=(b7 != 0)/\Hid (Tb w w' d l { T3 with stat:=if st then [(adr 10 0 0 9,adr 5 6 i 9)] else T3.stat }))
   case first =>
    by_cases hz:b7=0
    ·have j:(b7 != 0)=false:=by simp [hz]
     go_wp2_with fail;go_meet
     case rel=>exact ⟨false,j.symm,Y⟩
    ·have j:(b7 != 0)=true:=by simp [hz]
     obtain ⟨⟨m8,n5⟩,n0,o⟩:=jmr Y.out (adr 10 0 0 9) (adr 5 6 i 9) (gs:=wc.heap.size) rfl;have x:Hid (Tb w ((wc.alloc (.cells #[.int .u32 (adr 10 0 0 9),.int .u32 (adr 5 6 i 9)] 122)).setCell ⟨d,27,none⟩ (.slice (some ⟨wc.heap.size,0,none⟩) 1 1)) d l { T3 with stat:=[(adr 10 0 0 9,adr 5 6 i 9)] }):=o;clear o Y;go_wp2_with fail;refine (A4 _).mono ?_;rintro e _ ⟨rfl,rfl⟩;go_wp2_with fail;refine (A5 _).mono ?_;rintro e _ ⟨rfl,rfl⟩;go_wp2_with fail;go_meet
     case rel=>exact ⟨true,j.symm,x⟩
   case rest =>
    obtain ⟨st,f0,V⟩:=hcut;have h5:Hid (st=(bits .and .u16 k 128 != 0)):=by rw [f4];exact f0
    clear Y f4 f0;obtain ⟨Z,d1⟩:∃ Z:Ten,{ T3 with stat:=if st then [(adr 10 0 0 9,adr 5 6 i 9)] else T3.stat }=Z:=⟨_,rfl⟩;rw [d1] at V;have g8:Hid ({ T3 with stat:=if st then [(adr 10 0 0 9,adr 5 6 i 9)] else T3.stat }=Z):=d1;clear d1;obtain ⟨b8,f3⟩:∃ b,bits .and .u16 k 256=b:=⟨_,rfl⟩;go_upto_if 64 with fail
    go_cut [] from 7 (fun w'=>∃ tw:Bool,tw=(b8 != 0)/\Hid (Tb w w' d l { Z with twi:=if tw then [(adr 192 168 0 5,adr 8 8 8 8),(adr 192 168 0 6,adr 5 5 i 1)] else Z.twi }))
    case first =>
     by_cases hz:b8=0
     ·have j:(b8 != 0)=false:=by simp [hz]
      go_wp2_with fail;go_meet
      case rel=>exact ⟨false,j.symm,V⟩
     ·have j:(b8 != 0)=true:=by simp [hz]
      obtain ⟨⟨m7,n4⟩,m9,o⟩:=jpw V.out (adr 192 168 0 5) (adr 8 8 8 8) (adr 192 168 0 6) (adr 5 5 i 1) (gs:=wc.heap.size) rfl;have x:Hid (Tb w ((wc.alloc (.cells #[.int .u32 (adr 192 168 0 5),.int .u32 (adr 8 8 8 8),.int .u32 (adr 192 168 0 6),.int .u32 (adr 5 5 i 1)] 122)).setCell ⟨d,28,none⟩ (.slice (some ⟨wc.heap.size,0,none⟩) 2 2)) d l { Z with twi:=[(adr 192 168 0 5,adr 8 8 8 8),(adr 192 168 0 6,adr 5 5 i 1)] }):=o;clear o V;go_wp2_with fail;refine (A6 _).mono ?_;rintro e _ ⟨rfl,rfl⟩;go_wp2_with fail;refine (A7 _).mono ?_;rintro e _ ⟨rfl,rfl⟩;go_wp2_with fail;refine (A8 _).mono ?_;rintro e _ ⟨rfl,rfl⟩;go_wp2_with fail;refine (A2 _).mono ?_;rintro e _ ⟨rfl,rfl⟩;go_wp2_with fail;go_meet
      case rel=>exact ⟨true,j.symm,x⟩
    case rest =>
     obtain ⟨tw,e8,d7⟩:=hcut;have h3:Hid (tw=(bits .and .u16 k 256 != 0)):=by rw [f3];exact e8
     clear V f3 e8;obtain ⟨P,d0⟩:∃ P:Ten,{ Z with twi:=if tw then [(adr 192 168 0 5,adr 8 8 8 8),(adr 192 168 0 6,adr 5 5 i 1)] else Z.twi }=P:=⟨_,rfl⟩;rw [d0] at d7;have g7:Hid ({ Z with twi:=if tw then [(adr 192 168 0 5,adr 8 8 8 8),(adr 192 168 0 6,adr 5 5 i 1)] else Z.twi }=P):=d0;clear d0;obtain ⟨q1,c0⟩:∃ r,bits .and .i64 (k / 512) 7=r:=⟨_,rfl⟩;have g6:=j02 (k:=.i64) 63 (by decide) (fun n h0 H=>wrap64 (by omega) (by omega)) 3 (by decide) 7 (k / 512) (by decide) (by have:=C.out;omega) (by have:=C.out;omega);rw [c0] at g6;obtain ⟨q2,b9⟩:∃ r,bits .and .i64 (k / 4096) 3=r:=⟨_,rfl⟩;have g5:=j02 (k:=.i64) 63 (by decide) (fun n h0 H=>wrap64 (by omega) (by omega)) 2 (by decide) 3 (k / 4096) (by decide) (by have:=C.out;omega) (by have:=C.out;omega);rw [b9] at g5;obtain ⟨q3,b5⟩:∃ r,bits .and .u32 (k / 16384) 3=r:=⟨_,rfl⟩;have g3:=j02 (k:=.u32) 32 (by decide) (fun n h0 H=>jg n h0 (by omega)) 2 (by decide) 3 (k / 16384) (by decide) (by have:=C.out;omega) (by have:=C.out;omega);rw [b5] at g3;obtain ⟨q4,b3⟩:∃ r,bits .and .u32 (k / 8192) 7=r:=⟨_,rfl⟩;have g2:=j02 (k:=.u32) 32 (by decide) (fun n h0 H=>jg n h0 (by omega)) 3 (by decide) 7 (k / 8192) (by decide) (by have:=C.out;omega) (by have:=C.out;omega);rw [b3] at g2;have w1:af.wrap (k / 512)=k / 512:=wrap64 (by have:=C.out;omega) (by have:=C.out;omega);have w2:af.wrap (k / 4096)=k / 4096:=wrap64 (by have:=C.out;omega) (by have:=C.out;omega);have w3:ah.wrap (k / 16384)=k / 16384:=jg _ (by have:=C.out;omega) (by have:=C.out;omega);have w4:ah.wrap (k / 8192)=k / 8192:=jg _ (by have:=C.out;omega) (by have:=C.out;omega);obtain ⟨J,b0⟩:∃ r,1+q1=r:=⟨_,rfl⟩;obtain ⟨O,a9⟩:∃ r,1+q2=r:=⟨_,rfl⟩;obtain ⟨s4,a8⟩:∃ r,3+q4=r:=⟨_,rfl⟩;have x1:af.wrap (1+q1)=J:=by rw [<-b0];exact wrap64 (by omega) (by omega)
     have x2:af.wrap (1+q2)=O:=by rw [<-a9];exact wrap64 (by omega) (by omega)
     have x4:ah.wrap (3+q4)=s4:=by rw [<-a8];exact jg _ (by omega) (by omega)
     have h6:Hid (SRq k lo hi f J O q3 s4):=⟨⟨d6.out.1,d6.out.2,HF.out,by rw [c0];exact b0.symm,by rw [b9];exact a9.symm,b5.symm,by rw [b3];exact a8.symm⟩,d9.out.1,d9.out.2,HV.out.2.2.2.2,by omega,by omega,by omega,by omega⟩;clear b0 a9 a8 g6 g5 g3 g2;obtain ⟨⟨m6,m1⟩,i6,o⟩:=j2o d7.out (fun L G=>ji6 G J);have x:Hid (Tb w (wc.setCell ⟨d,29,none⟩ (.int .i64 J)) d l { P with sess:=J }):=o;clear o d7;go_upto_region 14 with fail;refine j5 (fun X=>Tb w X d l { P with sess:=J }) (by exact x.out) ?_;intro V4 y;clear x m1 i6;obtain ⟨⟨m5,m0⟩,i5,o⟩:=j2o y (fun L G=>jeq G O);have x:Hid (Tb w (V4.setCell ⟨d,30,none⟩ (.int .i64 O)) d l { P with sess:=J,queue:=O }):=o;clear o y;go_upto_region 15 with fail;refine j5 (fun X=>Tb w X d l { P with sess:=J,queue:=O }) (by exact x.out) ?_;intro V5 y;clear x m0 i5;obtain ⟨⟨m4,i9⟩,i4,o⟩:=j2o y (fun L G=>ji7 G q3);have x:Hid (Tb w (V5.setCell ⟨d,31,none⟩ (.int .u32 q3)) d l { P with sess:=J,queue:=O,rate:=q3 }):=o;clear o y;go_upto_region 16 with fail;refine j5 (fun X=>Tb w X d l { P with sess:=J,queue:=O,rate:=q3 }) (by exact x.out) ?_;intro V6 y;clear x i9 i4;obtain ⟨⟨m3,i8⟩,i3,o⟩:=j2o y (fun L G=>jer G s4);have x:Hid (Tb w (V6.setCell ⟨d,32,none⟩ (.int .u32 s4)) d l { P with sess:=J,queue:=O,rate:=q3,burst:=s4 }):=o;clear o y;go_upto_region 17 with fail;refine j5 (fun X=>Tb w X d l { P with sess:=J,queue:=O,rate:=q3,burst:=s4 }) (by exact x.out) ?_;intro V7 y;clear x i8 i3 c0 b9 b5 b3 w1 w2 w3 w4 x1 x2 x4;obtain ⟨T6,c9⟩:∃ T6:Ten,{ P with sess:=J,queue:=O,rate:=q3,burst:=s4 }=T6:=⟨_,rfl⟩;rw [c9] at y;have hS:yn i k T6:=by
      refine ⟨lo,hi,f,J,O,q3,s4,?_,h6.out⟩;rw [<-h7.out,<-h5.out,<-h3.out];obtain ⟨z1,z2,z3,z4,-⟩:=HV.out;rw [<-c9,<-g7.out,<-g8.out,<-g9.out,<-h2.out,<-I.out.1,<-z1,<-z2,<-z4,<-z3];rfl
     obtain ⟨L,⟨a7,p,s,q,B1,B2,B3,k1,k2,k3,rfl⟩,hM⟩:=y;simp only [ak,al] at hM;have F:(tc T6 p s q).toArray.size=33:=by rw [aj];exact ji a7 _ _ _
     have D:(tc T6 p s q).toArray.all (·.oneCell')=true:=j3n _ (j01 k1) (j01 k2) (j01 k3);obtain ⟨A,hA⟩:∃ A,(tc T6 p s q).toArray=A:=⟨_,rfl⟩;rw [hA] at F D hM;have K:(prog.info? 46).map (·.size)=some A.size:=by rw [F];kernel_rfl
     have a3:Mem w V7 ((d,.cells A 46)::(l,.cells tz 46)::(B1++(B2++B3))):=hM.perm (by
  classical
  rw [List.perm_iff_count];intro z;simp only [List.count_append,List.count_cons,List.count_nil];omega)
     have k4:=a3.get 0 rfl;have k5:=a3.get 1 rfl;have d4:=a3.wrote 1 rfl (j8 V7 l _ A _ k5);have x:Hid ((V7.setRow l A).heap[l]?=some (.cells A 46)/\StQ i k w (.returned (.agg A)) (V7.setRow l A)):=by
      refine ⟨d4.get 1 rfl,T6,p,s,q,B1++(B2++B3),by rw [hA],hS,⟨a7,B1,B2,B3,rfl,k1,k2,k3⟩,d4.sub.sub⟩
     clear hM a3 d4 hS k1 k2 k3 hA c9 h2 g9 g8 g7 I HV h6 d9 h7 h5 h3 HF d6 a5 h8;go_wp2_with (first|(refine wpList_load_row rfl 46 (.tmp 6) (by with_reducible rfl) d (by first|rfl|simp [az]) 46 A (0,0) _ k4 underlying46 rfl K ?_)|(refine wpList_store_row rfl 46 (.tmp 4) (.tmp 97) (by with_reducible rfl) l A (by first|rfl|simp [az]) (by first|rfl|simp [az]) 46 tz k5 K (by rw [F];rfl) D ?_))
     refine bodyPost_ret (v:=.agg A) ?_ rfl x.out.2;exact results_cell_row (p:=4) (ty:=46) rfl _ _ l 46 _ (0,0) _ rfl x.out.1 underlying46 rfl K
end
section
open Go.RowKit Sm Cf Df
namespace Df
def Zg (w:World) (z:Tv):Prop:=TLen z.1/\Rws w z
theorem j77 {z:Tv} (h:Zg w z):(zc z).toArray.all (·.oneCell')=true:=j3h h.2
theorem jd3 {v:Value} {g:List Tv} {d:List Hv} (r:ZV w v g) (hy:YV w u d) (hm:g.length<=400) (hk:d.length<=400) :
  Calls prog 58 #[v,u] w fun e V=>∃ a n c,e=.returned (.slice a n c)/\Dl w V (.slice a n c) (apz g d):=by
 obtain ⟨za,zk,rfl,b7,c4,b1⟩:=r.parts;obtain ⟨sa,sc,rfl,b9,d0,hx⟩:=hy.parts;have a0:Hid (∀ i,∀ z∈byn fk (g.take i),Zg w z):=fun i z h=>r.each z (am (j6d h));have A:Hid (∀ i,∀ z∈apz g (d.take i),Zg w z):=by
  intro i z h;rcases j9r h with h|⟨y,h1,e⟩
  ·exact r.each z h
  ·subst e;exact hy.each y (am h1)
 have b0:Hid (∀ i,(byn fk (g.take i)).length<=1000):=by
  intro i;have:=j5h (f:=fk) (g.take i);rw [an] at this;omega
 have E:Hid (∀ i,(apz g (d.take i)).length<=1000):=by
  intro i;have:=je1 g (d.take i);rw [an] at this;omega
 have HZ:Hid (∀ i (hi:i<g.length),(∃ b o,za=some ⟨b,o,none⟩/\∀ V,Below w.heap.size w V->V.rangeAt b (o+i*33) (zc g[i]))/\Zg w g[i]):=fun i hi=>⟨b1 i hi,r.each _ (ao hi)⟩;have HY:Hid (∀ i (hi:i<d.length),(∃ b o,sa=some ⟨b,o,none⟩/\∀ V,Below w.heap.size w V->V.cell? ⟨b,o+i*35,none⟩=some (.bool d[i].1.put)/\V.cell? ⟨b,o+i*35+1,none⟩=some (.string d[i].1.name)/\V.rangeAt b (o+i*35+2) (zc (yz d[i])))/\Zg w (yz d[i])):=by
  intro i hi;obtain ⟨b,o,e,G⟩:=hx i hi;refine ⟨⟨b,o,e,fun V hb=>⟨?_,?_,?_⟩⟩,hy.each _ (ao hi)⟩
  ·have:=G V hb 0 (.bool d[i].1.put) rfl;simpa using this
  ·exact G V hb 1 (.string d[i].1.name) rfl
  ·intro j x hj;have:=G V hb (j+2) x (by rw [jea,ap,ap];exact hj);rw [show o+i*35+2+j=o+i*35+(j+2) by omega];exact this
 have a6:Hid (∀ i (hi:i<g.length),byn fk (g.take (i+1))=put fk g[i] false (byn fk (g.take i))):=fun i hi=>j1s hi;have a5:Hid (byn fk (g.take g.length)=apz g (d.take 0)):=by show _=_;rw [aq];rfl
 have HT:Hid (∀ i (hi:i<d.length),apz g (d.take (i+1))=stz (apz g (d.take i)) d[i]):=fun i hi=>jcc hi;have D:Hid (apz g (d.take d.length)=apz g d):=by show _=_;rw [aq]
 have HS:Hid (∀ i,Srt fk (apz g (d.take i))):=fun i=>jn0 _ _;have H0:Hid (Dl w w (.slice none 0 0) (byn fk (g.take 0))):=Dl.nil (aB _ _);clear r hy b1 hx;obtain ⟨N,hN⟩:∃ N,g.length=N:=⟨_,rfl⟩;obtain ⟨K,hK⟩:∃ K,d.length=K:=⟨_,rfl⟩;rw [hN] at a5 hm b7;rw [hK] at D hk b9;simp only [hN] at HZ a6 ⊢;simp only [hK] at HY HT ⊢;go_enter func58,ntmps58;go_wp2_with fail
 go_loopw [5,6] (fun u5 u6 w'=>∃ (i:Nat) (a:Option Addr) (n c:Nat),i<=N/\u6=.int .i64 i/\u5=.slice a n c/\Hid (Dl w w' (.slice a n c) (byn fk (g.take i)))) (fun u5 u6 w'=>N-(intOf u6).toNat)
 case atStart=>exact ⟨0,none,0,0,Nat.zero_le _,rfl,rfl,H0⟩
 case round =>
  obtain ⟨i,a,n,c,hi,rfl,rfl,s⟩:=hrel;clear H0;by_cases hlt:i<N
  ·have h1:(i:Int)<N:=by omega
   have c9:i<g.length:=by omega
   obtain ⟨⟨b,o,rfl,G⟩,I⟩:=HZ.out i hlt;have C:=G _ s.out.below;have hB:=a6.out i hlt;have CS:=jbg (again:=false) s.out (fun z r=>(a0.out i z r).1) (fun z r=>j77 (a0.out i z r)) I.1 (j77 I) (b0.out i);rw [<-hB] at CS;have F:(prog.info? 46).map (·.size)=some (zc (g[i]'c9)).length:=by rw [zc33 I.1];kernel_rfl
   clear G hB I HZ a6 a5 a0 A b0 E HY HT D HS s;generalize g[i]'c9=z at *;go_wp2_with (first|(refine wpList_load_mid rfl 46 (.tmp 18) (by with_reducible rfl) b (o+i*33) (by simp [az]) (zc z) _ C underlying46 rfl F ?_)|fail)
   refine CS.mono ?_;rintro e W1 ⟨a',n',c',rfl,B⟩;have HD:Hid (Dl w W1 (.slice a' n' c') (byn fk (g.take (i+1)))):=B;clear CS B C F;go_wp2_with fail;go_roundw
   case rel=>exact ⟨i+1,a',n',c',by omega,by go_num,rfl,HD⟩
   case measure=>simp [intOf];omega
  ·have h1:¬((i:Int)<N):=by omega
   obtain rfl:i=N:=by omega
   have H2:Hid (Dl w wr (.slice a n c) (apz g (d.take 0))):=by rw [<-a5.out];exact s.out
   clear HZ a6 a5 a0 b0 s;go_wp2_with fail
   go_loopw [5,7] (fun u5 u7 w'=>∃ (j:Nat) (a:Option Addr) (n c:Nat),j<=K/\u7=.int .i64 j/\u5=.slice a n c/\Hid (Dl w w' (.slice a n c) (apz g (d.take j)))) (fun u5 u7 w'=>K-(intOf u7).toNat)
   case atStart=>exact ⟨0,a,n,c,Nat.zero_le _,rfl,rfl,H2⟩
   case round =>
    obtain ⟨j,a,n,c,hj,rfl,rfl,s⟩:=hrel;clear H2;by_cases hlt2:j<K
    rotate_left
    ·have h2:¬((j:Int)<K):=by omega
     obtain rfl:j=K:=by omega
     have HF:Hid (Dl w wr (.slice a n c) (apz g d)):=by
      have h:=s.out;rw [D.out] at h;exact h
     clear HY HT D HS A E s;go_wp2_with fail;go_ret;exact ⟨_,_,_,rfl,HF.out⟩
    have h2:(j:Int)<K:=by omega
    have c7:j<d.length:=by omega
    obtain ⟨⟨b,o,rfl,G⟩,I⟩:=HY.out j hlt2;obtain ⟨c0,-,C⟩:=G _ s.out.below;have hT:=HT.out j hlt2;by_cases hp:(d[j]'c7).1.put=true
    ·rw [hp] at c0;have CS:=jbg (again:=true) s.out (fun z r=>(A.out j z r).1) (fun z r=>j77 (A.out j z r)) I.1 (j77 I) (E.out j);rw [show put fk (yz (d[j]'c7)) true (apz g (d.take j))=apz g (d.take (j+1)) by rw [hT,stz,if_pos hp]] at CS;have F:(prog.info? 46).map (·.size)=some (zc (yz (d[j]'c7))).length:=by rw [zc33 I.1];kernel_rfl
     clear G hT I A E HY HT D HS s hp;generalize yz (d[j]'c7)=z at *;go_wp2_with (first|(refine wpList_load_mid rfl 46 (.tmp 36) (by with_reducible rfl) b (o+j*35+2) (by simp [az]) (zc z) _ C underlying46 rfl F ?_)|fail)
     refine CS.mono ?_;rintro e W1 ⟨a',n',c',rfl,B⟩;have HD:Hid (Dl w W1 (.slice a' n' c') (apz g (d.take (j+1)))):=B;clear CS B C F c0;go_wp2_with fail;go_roundw
     case rel=>exact ⟨j+1,a',n',c',by omega,by go_num,rfl,HD⟩
     case measure=>simp [intOf];omega
    ·have b8:(d[j]'c7).1.put=false:=by simpa using hp
     rw [b8] at c0;have T:apz g (d.take (j+1))=del fk (d[j]'c7).1.name.data.toList (apz g (d.take j)):=by rw [hT,stz,if_neg hp]
     have a4:Hid (∀ V,Below w.heap.size w V->V.cell? ⟨b,o+j*35+1,none⟩=some (.string (d[j]'c7).1.name)):=fun V hb=>(G V hb).2.1;have Z:=A.out j;have b5:=E.out j;have a9:=HS.out j;clear G hT I A E HY HT D HS C hp;generalize (d[j]'c7).1.name=sn at *;obtain ⟨M,hM⟩:∃ M,apz g (d.take j)=M:=⟨_,rfl⟩;rw [hM] at T s Z b5 a9;clear hM;obtain ⟨L,hL⟩:∃ L,M.length=L:=⟨_,rfl⟩;have Y:Hid ((∀ q (R:q<M.length),fk (M[q]'R)≠sn.data.toList)->apz g (d.take (j+1))=M):=fun h=>by rw [T];exact jly h
     have U:Hid (∀ q (R:q<M.length),fk (M[q]'R)=sn.data.toList->apz g (d.take (j+1))=M.take q++M.drop (q+1)):=fun q R e=>by rw [T,<-e];exact jlz a9 R
     have b3:n=L:=by
      obtain ⟨_,_,e,-⟩:=s.out.slice;simp only [aF.injEq] at e;rw [<-hL];exact e.2.1
     subst b3;have H:Hid (∀ V,Dl w V (.slice a n c) M->∀ q (R:q<M.length),(∃ b' p,a=some ⟨b',p,none⟩/\V.cell? ⟨b',p+q*33,none⟩=some (.string (M[q]'R).1.name)) /\
       ∃ Q O P,(∀ X,(Instr.slice 37 (.slice a n c) none (some (.int .i64 (q:Int))) (some (.int .i64 (q:Int)))).run prog X=.ok (.slice a q q) X)/\(∀ X,(Instr.slice 37 (.slice a n c) (some (.int .i64 ((q:Int)+1))) none none).run prog X=.ok (.slice Q O P) X) /\
       ∃ a3 n3 c3 X,(Builtin.append_ #[37,37] 37 #[.slice a q q,.slice Q O P]).run prog V=.ok (.slice a3 n3 c3) X/\Below V.heap.size V X/\Dl w X (.slice a3 n3 c3) (M.take q++M.drop (q+1))):=by
      intro V B q R;have hl:∀ z∈M,TLen z.1:=fun z r=>(Z z r).1;constructor
      ·obtain ⟨b',p,e1,hc⟩:=j5z (B.rw hl) q (by rw [List.length_map];exact R);refine ⟨b',p,e1,?_⟩;have:=hc 0 (.string (M[q]'R).1.name) (by simp [List.getD,List.getElem?_eq_getElem R];rfl);rw [Nat.add_zero] at this;exact this
      ·obtain ⟨a1,s1,p1,-,-,p4,-,c1,e1⟩:=j6x B hl (k:=q) (by omega);simp only [aF.injEq] at e1;obtain ⟨rfl,-,-⟩:=e1;obtain ⟨a2,s2,-,p2,⟨x1,x2,x3,rfl⟩,-,p5,-⟩:=j6x B hl (k:=q+1) (by omega);refine ⟨x1,x2,x3,p1,fun X=>?_,?_⟩
       ·have:=p2 X;rw [show (((q+1:Nat)):Int)=(q:Int)+1 by omega] at this;exact this
       ·exact jot B R hl (fun z r=>j77 (Z z r)) b5 p4 p5
     clear T Z a9;go_wp2_with fail
     go_loopw [5,8] (fun u5 u8 w'=>∃ q:Nat,q<=n/\u8=.int .i64 q/\u5=.slice a n c/\Hid (Dl w w' (.slice a n c) M/\∀ t (ht:t<M.length),t<q->fk (M[t]'ht)≠sn.data.toList)) (fun u5 u8 w'=>n-(intOf u8).toNat)
     case atStart=>exact ⟨0,Nat.zero_le _,rfl,rfl,s.out,fun t _ h=>absurd h (by omega)⟩
     case round =>
      obtain ⟨q,R,rfl,rfl,J⟩:=hrel;clear s c0;by_cases hlt3:q<n
      rotate_left
      ·have h3:¬((q:Int)<n):=by omega
       have HD:Hid (Dl w wr (.slice a n c) (apz g (d.take (j+1)))):=by
        rw [Y.out fun t ht=>J.out.2 t ht (by omega)];exact J.out.1
       clear Y U H J a4;go_wp2_with fail;go_roundw
       case rel=>exact ⟨j+1,a,n,c,by omega,by go_num,rfl,HD⟩
       case measure=>simp [intOf];omega
      have h3:(q:Int)<n:=by omega
      have a7:q<M.length:=by omega
      have c1:=a4.out _ J.out.1.below;obtain ⟨⟨b',p,rfl,cq⟩,Q,O,P,p1,p2,-⟩:=H.out wr J.out.1 q a7;by_cases he:fk (M[q]'a7)=sn.data.toList
      ·have d1:=j32 (a:=(M[q]'a7).1.name) (b:=sn) he;have HE:=U.out q a7 he;have b6:Hid (∀ m,Dl w (wr.drewN m) (.slice (some ⟨b',p,none⟩) n c) M):=fun m=>J.out.1.after (Go.below_drewN (aB _ _) m);clear Y U J a4 he p1 p2;generalize (M[q]'a7).1.name=s1 at *;go_upto_region 14 with fail
       go_quiet (fail)
       go_upto_region 15 with fail;refine j5 (fun X=>Dl w X (.slice (some ⟨b',p,none⟩) n c) M) (by exact b6.out _) ?_;intro V8 b4;obtain ⟨-,Q,O,P,p1,p2,a3,n3,c3,X2,b2,c2,B⟩:=H.out V8.drew (b4.after (aB _ _).drew) q a7;rw [<-HE] at B;have HD:Hid (Dl w X2 (.slice a3 n3 c3) (apz g (d.take (j+1)))):=B;have ew:af.wrap ((q:Int)+1)=(q:Int)+1:=qk (by omega) (by omega);clear H b6 b4 HE B c2 cq c1 d1;refine wp_region_held_drew (S:=fun _=>True) (by kernel_rfl) trivial (fun a8=>?_);refine tkq 0 rfl (v:=?_) (ae ⟨by rfl,?qay0⟩) ?_
       case qay0=>intro w l;(try dsimp only at l);go_simp;all_goals with_reducible rfl
       try simp only [sqx,aA]
       refine tkq 1 rfl (v:=?_) (ae ⟨by rfl,?qay1⟩) ?_
       case qay1=>intro w l;(try dsimp only at l);go_simp;all_goals with_reducible rfl
       try simp only [sqx,aA]
       refine tkq 2 rfl (v:=?_) (ae ⟨by rfl,?qay2⟩) ?_
       case qay2=>intro w l;(try dsimp only at l);go_simp;all_goals with_reducible rfl
       try simp only [sqx,aA]
       refine tkq 3 rfl (v:=?_) (ae ⟨by rfl,?qay3⟩) ?_
       case qay3=>intro w l;(try dsimp only at l);go_simp;all_goals with_reducible rfl
       try simp only [sqx,aA]
       refine tkq 4 rfl (v:=?_) (ae ⟨by rfl,?qay4⟩) ?_
       case qay4=>intro w l;(try dsimp only at l);go_simp;all_goals with_reducible rfl
       try simp only [sqx,aA]
       refine tkq 5 rfl (v:=?_) (ae ⟨by rfl,?qay5⟩) ?_
       case qay5=>intro w l;(try dsimp only at l);go_simp;all_goals with_reducible rfl
       try simp only [sqx,aA]
       refine tkq 6 rfl (v:=?_) (ae ⟨by rfl,?qay6⟩) ?_
       case qay6=>intro w l;(try dsimp only at l);go_simp;all_goals with_reducible rfl
       try simp only [sqx,aA]
       refine tkq 7 rfl (v:=?_) (ae ⟨by rfl,?qay7⟩) ?_
       case qay7=>intro w l;(try dsimp only at l);go_simp;all_goals with_reducible rfl
       try simp only [sqx,aA]
       refine wpAnyH_ready (rs:=[8]) (by kernel_rfl) (by simp) ?_;refine aD rfl (fun K hK=>?_) aE;refine jd rfl (.tmp 59) (.tmp 63) 37 37 rfl (by first|rfl|simp [az]) (by first|rfl|simp [az]) b2 ?_;refine hK.out _ _ trivial (fun a8=>?_);clear hK K
       try simp only [sqx,aA]
       refine tkq 9 rfl (v:=?_) (ae ⟨by rfl,?qazy9⟩) ?_
       case qazy9=>intro w l;(try dsimp only at l);go_simp;all_goals with_reducible rfl
       try simp only [sqx,aA]
       refine wpAnyH_done (by kernel_rfl) ?_ _;clear b2 p1 p2 ew;go_wp2_with fail;go_roundw
       case rel=>exact ⟨j+1,a3,n3,c3,by omega,by go_num,rfl,HD⟩
       case measure=>simp [intOf];omega
      ·have d1:=j69 (a:=(M[q]'a7).1.name) (b:=sn) he;have HF:Hid (∀ m,Dl w (wr.drewN m) (.slice (some ⟨b',p,none⟩) n c) M/\∀ t (ht:t<M.length),t<q+1->fk (M[t]'ht)≠sn.data.toList):=by
        intro m;refine ⟨J.out.1.after (Go.below_drewN (aB _ _) m),fun t ht c5=>?_⟩;rcases Nat.lt_or_ge t q with h|h
        ·exact J.out.2 t ht h
        ·obtain rfl:t=q:=by omega
         exact he
       clear Y U H J a4 he p1 p2;generalize (M[q]'a7).1.name=s1 at *;go_upto_region 14 with fail
       go_quiet (fail)
       go_wp2_with fail;go_roundw
       case rel=>exact ⟨q+1,by omega,by go_num,rfl,HF.out _⟩
       case measure=>simp [intOf];omega
end Df
end
section
open Go.RowKit Sm Cf Df Va
theorem kz {P:Program} {e:Array Oper} {rest:List Oper} {op:Oper} {a:Act} {Q:Exit->Act->World->Prop} (f:op.guard=none) (ty:TypeId) (x:Operand) (i:op.op=.load ty x)
 (b o:Nat) (hx:a.eval x=.pointer (some ⟨b,o,none⟩)) (A:Array Value) (cs:List Value) (d:TypeDesc) (hc:w.rangeAt b o cs) (j:Hid (cs.toArray=A))
 (g:P.underlying ty=some d) (hd:d.isRow=true) (hi:(P.info? ty).map (·.size)=some cs.length)
 (h:wpList P e Q rest (a.put op.dst (.agg A)) w):wpList P e Q (op::rest) a w:=by
 obtain rfl:=j.out;exact wpList_load_mid f ty x i b o hx cs d hc g hd hi h
theorem j4t {e:Array Oper} {o:Oper} {a:Act} {K:Act->World->Prop} {Q:Exit->Act->World->Prop} {E:Prop} (f:o.guard=none) (ty:TypeId) (x y:Operand) (j:o.op=.store ty x y)
 (b d:Nat) (cells:Array Value) (hx:a.eval x=.pointer (some ⟨b,d,none⟩)) (g:a.eval y=.agg cells) (i:w.there b d cells.size) (hi:(prog.info? ty).map (·.size)=some cells.size) (k:cells.all (·.oneCell')=true)
 (h:K (a.put o.dst undef) (w.setCells b d cells.toList)) :
 if Region.wanted o (yielded e a.tmps)=true then Oper.wp prog o a w K Q else E:=by
 have hw:Region.wanted o (yielded e a.tmps)=true:=by simp [Region.wanted,f]
 rw [if_pos hw];exact wp_store_mid ty x y j b d cells hx g i hi k h
abbrev mT:TypeId:=41
def mA (ver:Int) (c:Cgf) (u:Value) (t:Cgf) (ut:Value) (op:Bool):List Value:=.int .u64 ver::(cc c u++(cc t ut++[.bool op]))
abbrev bxM (pm:Nat) (ver:Int) (c:Cgf) (u:Value) (t:Cgf) (ut:Value) (op:Bool):Nat×Obj:=(pm,.cells (mA ver c u t ut op).toArray mT (0,0))
section
variable {ver:Int} {c t:Cgf} {u ut:Value} {op:Bool}
theorem jg4 (b:CLen c) (a:CLen t):(mA ver c u t ut op).length=60:=by simp [mA,je b,je a]
theorem mA_C:∀ j x,(cc c u)[j]?=some x->(mA ver c u t ut op).toArray[1+j]?=some x:=by
 intro j x b;have a:=(ar.mp b).1;rw [au,Nat.add_comm,mA,ap,av a];exact b
theorem mA_T (b:CLen c):∀ j x,(cc t ut)[j]?=some x->(mA ver c u t ut op).toArray[30+j]?=some x:=by
 intro j x d;have a:=(ar.mp d).1;rw [au,show 30+j=(29+j)+1 by omega,mA,ap,aw (by rw [je b];omega),je b,Nat.add_sub_cancel_left,av a];exact d
theorem jsv (b:CLen c) (a:CLen t):(mA ver c u t ut op).toArray[59]?=some (.bool op):=by
 rw [au,show 59=58+1 from rfl,mA,ap,aw (by rw [je b];omega),je b,aw (by rw [je a];omega),je a];rfl
theorem jsw (b:CLen c) (a:CLen t):(mA ver c u t ut op).toArray[58]?=some ut:=mA_T b 28 ut (by have:=j50 a ut;rwa [au] at this)
theorem jo5 (b:CLen c) (a:CLen t) (q:Bool):(mA ver c u t ut op).toArray.setIfInBounds 59 (.bool q)=(mA ver c u t ut q).toArray:=by
 have e:∀ o,mA ver c u t ut o=(.int .u64 ver::(cc c u++cc t ut))++[.bool o]:=fun o=>by simp [mA]
 rw [e,e];simp [ax,je b,je a]
theorem jo4 (v:Int):(mA ver c u t ut op).toArray.setIfInBounds 0 (.int .u64 v)=(mA v c u t ut op).toArray:=by simp [mA]
theorem jjq (d:CLen c) (b:CLen t) (v:Value) (ts:List Ten):(mA ver c u t ut op).toArray.setIfInBounds 58 v=(mA ver c u { t with ten:=ts } v op).toArray:=by
 have a:(cc t ut).set 28 v=cc t v:=by have:=congrArg Array.toList (j3e b ut v);simpa using this
 rw [List.setIfInBounds_toArray,show 58=57+1 from rfl,mA,List.set_cons_succ,ax _ _ (by rw [je d];omega),je d,List.set_append_left _ _ (by rw [je b];omega),a];rfl
variable {w W:World} {pm:Nat} {L:List (Nat×Obj)}
theorem rm0 (a:Mem w W (bxM pm ver c u t ut op::L)):W.cell? ⟨pm,0,none⟩=some (.int .u64 ver):=by rw [a.cell 0 rfl];rfl
theorem rm59 (d:Mem w W (bxM pm ver c u t ut op::L)) (b:CLen c) (a:CLen t):W.cell? ⟨pm,59,none⟩=some (.bool op):=by rw [d.cell 0 rfl];exact jsv b a
theorem rm58 (d:Mem w W (bxM pm ver c u t ut op::L)) (b:CLen c) (a:CLen t):W.cell? ⟨pm,58,none⟩=some ut:=by rw [d.cell 0 rfl];exact jsw b a
theorem rmC (b:Mem w W (bxM pm ver c u t ut op::L)):W.rangeAt pm 1 (cc c u):=fun j x a=>by rw [b.cell 0 rfl];exact mA_C j x a
theorem rmT (d:Mem w W (bxM pm ver c u t ut op::L)) (a:CLen c):W.rangeAt pm 30 (cc t ut):=fun j x b=>by rw [d.cell 0 rfl];exact mA_T a j x b
theorem rmO (d:Mem w W (bxM pm ver c u t ut op::L)) (b:CLen c) (a:CLen t) (q:Bool):Mem w (W.setCell ⟨pm,59,none⟩ (.bool q)) (bxM pm ver c u t ut q::L):=by
 have h:=d.set 0 rfl 59 (.bool q);simp only [ay] at h;rw [jo5 b a] at h;exact h
theorem rmV (a:Mem w W (bxM pm ver c u t ut op::L)) (v:Int):Mem w (W.setCell ⟨pm,0,none⟩ (.int .u64 v)) (bxM pm v c u t ut op::L):=by
 have h:=a.set 0 rfl 0 (.int .u64 v);simp only [ay] at h;rw [jo4] at h;exact h
theorem rmU (d:Mem w W (bxM pm ver c u t ut op::L)) (b:CLen c) (a:CLen t) (v:Value) (ts:List Ten):Mem w (W.setCell ⟨pm,58,none⟩ v) (bxM pm ver c u { t with ten:=ts } v op::L):=by
 have h:=d.set 0 rfl 58 v;simp only [ay] at h;rw [jjq b a v ts] at h;exact h
theorem rmST (f:Mem w W (bxM pm ver c u t ut op::L)) (e:CLen c) (d:CLen t) {a:Cgf} (b:CLen a) (u2:Value):Mem w (W.setCells pm 30 (cc a u2)) (bxM pm ver c u a u2 op::L):=by
 have h:=j45 (post:=[aG op]) (cc a u2) (cc t ut) (aH .u64 ver::cc c u) W (by rw [je d,je b]) (show Mem w W ((pm,.cells ((aH .u64 ver::cc c u)++(cc t ut++[aG op])).toArray mT (0,0))::L) from f);rw [show (aH .u64 ver::cc c u).length=30 by simp [je e]] at h;exact h
theorem rmSC (e:Mem w W (bxM pm ver c u t ut op::L)) (d:CLen c) {a:Cgf} (b:CLen a) (u2:Value):Mem w (W.setCells pm 1 (cc a u2)) (bxM pm ver a u2 t ut op::L):=by
 exact j45 (post:=cc t ut++[aG op]) (cc a u2) (cc c u) [aH .u64 ver] W (by rw [je d,je b]) (show Mem w W ((pm,.cells ([aH .u64 ver]++(cc c u++(cc t ut++[aG op]))).toArray mT (0,0))::L) from e)
theorem rmth (d:Mem w W (bxM pm ver c u t ut op::L)) (b:CLen c) (a:CLen t) {o n:Nat} (h:o+n<=60):W.there pm o n:=j44 d (by rw [aj,jg4 b a];exact h)
theorem ccA {c:Cgf} (a:CLen c) (b:u.oneCell'=true):∃ A,Hid ((cc c u).toArray=A)/\A.size=29/\A.all (·.oneCell')=true/\(prog.info? 39).map (·.size)=some A.size/\(prog.info? 39).map (·.size)=some (cc c u).length:=by
 refine ⟨_,rfl,?_,zx c b,?_,?_⟩
 ·rw [aj];exact je a _
 ·rw [aj,je a];kernel_rfl
 ·rw [je a];kernel_rfl
theorem jix (d:Mem w W (bxM pm ver c u t ut false::L)) (b:CLen c) (i:CLen t) (o:u.oneCell'=true) :
 Calls prog 27 #[.pointer (some ⟨pm,0,none⟩),.int .u64 ver] W fun e s=>e=.returned (.int .i64 0)/\Mem w s (bxM pm ver c u c u true::L):=by
 have z:=rm0 d;have r:=rm59 d b i;have q:=d.free 0 rfl 59;have g:=rmC d;obtain ⟨A,m,p,h,j,f⟩:=ccA b o;have a:=rmO d b i true;have k:(W.setCell ⟨pm,59,none⟩ (.bool true)).there pm 30 A.size:=rmth a b i (by omega);have x:Hid (Mem w ((W.setCell ⟨pm,59,none⟩ (.bool true)).setCells pm 30 A.toList) (bxM pm ver c u c u true::L)):=by
  rw [<-m.out];exact rmST a b i b u
 have y:(ver != ver)=false:=by simp
 clear d a;generalize l:cc c u=cl at g m f;clear l;go_enter func27,ntmps27;go_wp2_with (first|(refine kz rfl 39 (.tmp 19) (by with_reducible rfl) pm 1 (by simp [az]) A cl _ g m underlying39 rfl f ?_)|(refine wpList_store_mid rfl 39 (.tmp 24) (.tmp 20) (by with_reducible rfl) pm 30 A (by first|rfl|simp [az]) (by first|rfl|simp [az]) k j h ?_)|fail)
 go_ret;exact ⟨rfl,x.out⟩
theorem j65 (a:Mem w W (bxM pm ver c u t ut true::L)) (d:CLen c) (b:CLen t) (v:Int) :
 Calls prog 27 #[.pointer (some ⟨pm,0,none⟩),.int .u64 v] W fun e g=>e=.returned (.int .i64 110)/\W=g:=by
 have f:=rm59 a d b;clear a;go_enter func27,ntmps27
 go_wp2
 go_ret;exact ⟨rfl,rfl⟩
theorem j9i (a:Mem w W (bxM pm ver c u t ut false::L)) (f:CLen c) (d:CLen t) (b:v≠ver) :
 Calls prog 27 #[.pointer (some ⟨pm,0,none⟩),.int .u64 v] W fun e h=>e=.returned (.int .i64 112)/\W=h:=by
 have g:=rm59 a f d;have j:=rm0 a;have i:(v != ver)=true:=by simp [b]
 clear a;go_enter func27,ntmps27
 go_wp2
 go_ret;exact ⟨rfl,rfl⟩
theorem cz29:(prog.info? 39).map (·.size)=some (cz:Array Value).size:=by kernel_rfl
theorem cz1:(cz:Array Value).all (·.oneCell')=true:=by kernel_rfl
theorem jiy (g:Mem w W (bxM pm ver c u t ut true::L)) (f:CLen c) (d:CLen t) :
 Calls prog 12 #[.pointer (some ⟨pm,0,none⟩)] W fun e l=>e=.returned (.int .i64 0)/\Mem w l (bxM pm ver c u cfg0 nilV false::L):=by
 have k:=rm59 g f d;have j:=g.free 0 rfl 59;have a:=rmO g f d false;have i:(W.setCell ⟨pm,59,none⟩ (.bool false)).there pm 30 (cz:Array Value).size:=rmth a f d (by decide);have m:Hid (Mem w ((W.setCell ⟨pm,59,none⟩ (.bool false)).setCells pm 30 (cz:Array Value).toList) (bxM pm ver c u cfg0 nilV false::L)):=rmST a f d yw nilV;have h:=cz29;have b:=cz1;clear g a;go_enter func12,ntmps12;go_wp2_with (first|(refine wpList_store_mid rfl 39 (.tmp 14) (.tmp 10) (by with_reducible rfl) pm 30 cz (by first|rfl|simp [az]) (by first|rfl|simp [az]) i h b ?_)|fail)
 go_ret;exact ⟨rfl,m.out⟩
theorem j9j (a:Mem w W (bxM pm ver c u t ut false::L)) (d:CLen c) (b:CLen t) :
 Calls prog 12 #[.pointer (some ⟨pm,0,none⟩)] W fun e g=>e=.returned (.int .i64 111)/\W=g:=by
 have f:=rm59 a d b;clear a;go_enter func12,ntmps12
 go_wp2
 go_ret;exact ⟨rfl,rfl⟩
theorem j64 (a:Mem w W (bxM pm ver c u t ut false::L)) (d:CLen c) (b:CLen t) (cl:Array Value) :
 Calls prog 28 #[.pointer (some ⟨pm,0,none⟩),.agg cl] W fun e g=>e=.returned (.int .i64 111)/\Below W.heap.size W g:=by
 have hb:Below W.heap.size W (W.alloc (.cells cl 39)):=(aB _ _).alloc (Nat.le_refl _) _;have f:=rm59 (a.after hb) d b;have h:Hid (Below W.heap.size W (W.alloc (.cells cl 39))):=hb;clear a hb;go_enter func28,ntmps28;go_wp2_with fail;go_ret;exact ⟨rfl,h.out⟩
theorem jd1 (j:Mem w W (bxM pm ver c u t ut true::L)) (p:CLen c) (z:CLen t) (B:∃ a n m,ut=.slice a n m) {x:Cgf} (f:CLen x) (C:u2.oneCell'=true) :
 Calls prog 28 #[.pointer (some ⟨pm,0,none⟩),.agg (cc x u2).toArray] W fun e N=>e=.returned (.int .i64 0)/\Mem w N (bxM pm ver c u { x with ten:=t.ten } ut true::L):=by
 obtain ⟨o,k,l,rfl⟩:=B;obtain ⟨g0,h⟩:∃ g,W.heap.size=g:=⟨_,rfl⟩;obtain ⟨A,H,K,r,q,J⟩:=ccA f C;have i:Mem w (W.alloc (.cells A 39)) ((g0,.cells A 39)::bxM pm ver c u t (.slice o k l) true::L):=j.front _ h.symm;have d:=i.sub;have E:=rm59 d p z;have s:=rm58 d p z;have y:Hid (Mem w (W.alloc (.cells A 39)) ((g0,.cells A 39)::bxM pm ver c u t (.slice o k l) true::L)):=i;rw [H.out];clear j i d;go_enter func28,ntmps28;go_upto_region 4 with fail;refine j5 (fun X=>Mem w X ((g0,.cells A 39)::bxM pm ver c u t (.slice o k l) true::L)) (by exact y.out) ?_;intro V j
 try simp only [h]
 clear y E s h;have I:=j.get 0 rfl;have D:V.there pm 30 A.size:=rmth j.sub p z (by omega);have b:=rmST j.sub p z f u2;have G:cc x u2=A.toList:=by rw [<-H.out]
 rw [G] at b;have s:=rm58 b p f;have M:=b.free 0 rfl 58;have F:Hid (Mem w ((V.setCells pm 30 A.toList).setCell ⟨pm,58,none⟩ (.slice o k l)) (bxM pm ver c u { x with ten:=t.ten } (.slice o k l) true::L)):=rmU b p f (.slice o k l) t.ten;clear j b G;go_wp2_with (first|(refine wpList_load_row rfl 39 (.tmp 3) (by with_reducible rfl) g0 (by first|rfl|simp [az]) 39 A (0,0) _ I underlying39 rfl q ?_)|(refine wpList_store_mid rfl 39 (.tmp 19) (.tmp 17) (by with_reducible rfl) pm 30 A (by first|rfl|simp [az]) (by first|rfl|simp [az]) D q r ?_)|fail)
 go_ret;exact ⟨rfl,F.out⟩
theorem j9h (a:Mem w W (bxM pm ver c u t ut false::L)) (d:CLen c) (b:CLen t) :
 Calls prog 45 #[.pointer (some ⟨pm,0,none⟩)] W fun e g=>e=.returned (.int .i64 111)/\W=g:=by
 have f:=rm59 a d b;clear a;go_enter func45,ntmps45
 go_wp2
 go_ret;exact ⟨rfl,rfl⟩
theorem jiw (m:Vs W) (g:Mem w W (bxM pm ver c u t ut true::L)) (i:CLen c) (d:CLen t) (j:TSV W ut t.ten) (a:t.ten.length<=1000000) (h:∀ x∈t.ten,TSm x) (l:∀ x∈t.ten,0<=x.vni) :
 Calls prog 45 #[.pointer (some ⟨pm,0,none⟩)] W fun e p=>e=.returned (.int .i64 (chk t))/\Below W.heap.size W p:=by
 have o:=rm59 g i d;have f:=rmT g i;have q:=jd2 m (⟨d,ut,rfl,j⟩:CV W (.agg (cc t ut).toArray) t) a h l;have b:(prog.info? 39).map (·.size)=some (cc t ut).length:=by rw [je d];kernel_rfl
 generalize chk t=k at *;generalize cc t ut=cl at *;clear g j h l;go_enter func45,ntmps45;go_wp2_with (refine wpList_load_mid rfl 39 (.tmp 10) (by with_reducible rfl) pm 30 (by simp [az]) cl _ f underlying39 rfl b ?_)
 refine q.mono ?_;rintro e V ⟨rfl,hb⟩;go_wp2_with fail;go_ret;exact ⟨rfl,hb⟩
end
end
section
open Go.RowKit La Ad
end
end Go.Proofs.YtdigofgjhaakmaaGreatDoor
