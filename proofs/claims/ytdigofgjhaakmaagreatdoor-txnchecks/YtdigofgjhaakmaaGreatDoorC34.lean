/- Parts of the proof. -/
import Derived.Test.YtdigofgjhaakmaaGreatDoorC33
set_option linter.all false
set_option maxHeartbeats 40000000
set_option maxRecDepth 20000
open Go.Proofs.Tryz
open UInt8 renaming ofNat->a0
open Int renaming tmod->a4,tmod_eq_emod_of_nonneg->a5
open Or renaming inr->a6,inl->a7
open Go.IntKind renaming i64->a8,u8->a9,u32->aa,u16->ab
open List renaming size_toArray->ac,nil_append->ad,append_nil->ae,mem_of_mem_take->af,length_take->ag,getElem_mem->ah,getElem?_cons_succ->ai,take_length->aj,getElem?_eq_some_iff->ak,getElem?_toArray->al,getElem?_append_left->am,getElem?_append_right->an,set_append_right->ao,set_cons_zero->ap
open Go.Act renaming eval->aq,put->ar
open Go.RowKit.Below renaming refl->au
open Go.AllReadyH renaming cons->av,nil->aw
open Go.Value renaming slice->ax,bool->ay,int->az
namespace Go.Proofs.YtdigofgjhaakmaaGreatDoor
variable {w:World} {u u2:Value}
section
open Go.RowKit La Ad
open Sm (j6)
namespace Va
def mkQ (i:Nat) (p2 st tw:Bool) (lo hi fi se qu ra bu:Int):Ten :=
 ⟨⟨#[a0 (97+i % 8)]⟩,100+(i:Int),[(i:Int)+1,0,0,0,0,0,0,0],adr 10 9 0 ((i:Int)+1),[2,9,(i:Int),0,0,0],[2,7,(i:Int),0,0,0],
  if p2 then [adr 5 5 i 1,adr 5 5 i 2] else [adr 5 5 i 1],lo,hi,fi,if st then [(adr 10 0 0 9,adr 5 6 i 9)] else [],if tw then [(adr 192 168 0 5,adr 8 8 8 8),(adr 192 168 0 6,adr 5 5 i 1)] else [],se,qu,ra,bu⟩
def qlo (k:Int):Int:=if (bits .and .u16 k 64 != 0)=true then 1020 else 1024
def qhi (k:Int):Int:=if (bits .and .u16 k 64 != 0)=true then 1030 else 1024+bits .and .u16 (k / 8) 7
structure SRq (k lo hi fi se qu ra bu:Int):Prop where
 is:lo=qlo k/\hi=qhi k/\fi=a4 k 3/\se=1+bits .and .i64 (k / 512) 7/\qu=1+bits .and .i64 (k / 4096) 3/\ra=bits .and .u32 (k / 16384) 3/\bu=3+bits .and .u32 (k / 8192) 7
 lo:1<=lo/\lo<=hi
 hi:0<=hi/\hi<=9999
 fi:0<=fi/\fi<=2
 se:1<=se/\se<=8
 qu:1<=qu/\qu<=4
 ra:0<=ra/\ra<=3
 bu:3<=bu/\bu<=10
def zm (i:Nat) (k:Int) (t:Ten):Prop:=∃ lo hi fi se qu ra bu,t=mkQ i (bits .and .u16 k 4 != 0) (bits .and .u16 k 128 != 0) (bits .and .u16 k 256 != 0) lo hi fi se qu ra bu/\SRq k lo hi fi se qu ra bu
end Va
open Va
def ZX (z:Tv) (L:List (Nat×Obj)):Prop:=TLen z.1/\∃ B1 B2 B3,L=B1++(B2++B3)/\OwB 33 1 z.2.1 z.1.pool.length (ux z.1.pool).flatten B1/\OwB 122 2 z.2.2.1 z.1.stat.length (px z.1.stat).flatten B2/\OwB 122 2 z.2.2.2 z.1.twi.length (px z.1.twi).flatten B3
theorem ZX.zb {z:Tv} {L C:List (Nat×Obj)} (h:ZX z L) (hs:∀ x∈L,x∈C):ZB z C:=by
 obtain ⟨e,i,g,f,rfl,d,b,a⟩:=h;refine ⟨e,i,g,f,fun x hx=>hs x ?_,d,b,a⟩;simp only [List.mem_append] at hx ⊢;rcases hx with h|h|h
 ·exact a6 (a6 h)
 ·exact a6 (a7 h)
 ·exact a7 h
def StQ (i:Nat) (k:Int) (w:World) (e:Ending) (V:World):Prop:=∃ t p s q C,e=.returned (.agg (tc t p s q).toArray)/\zm i k t/\ZX (t,p,s,q) C/\Mem w V C
theorem j7t (w:World) (i:Nat) (h:i<17):Calls prog 36 #[.int .i64 (i:Int)] w fun e w'=>e=.returned (.string ⟨#[a0 (97+i % 8)]⟩)/\w=w':=by
 obtain ⟨m,b⟩:∃ m,i % 8=m:=⟨_,rfl⟩;have d:m<8:=by omega
 rw [b];have a:∀ W,(Instr.slice 9 (.string ⟨#[97,98,99,100,101,102,103,104]⟩) (some (.int .i64 (m:Int))) (some (.int .i64 ((m:Int)+1))) none).run prog W=.ok (.string ⟨#[a0 (97+m)]⟩) W:=by
  intro W;rw [run_slice_string W 9 _ .i64 .i64 (m:Int) ((m:Int)+1) underlying9 (by omega) (by omega) (by show ((m:Int)+1)<=((8:Nat):Int);omega)];have e:(⟨#[97,98,99,100,101,102,103,104]⟩:ByteArray).extract (m:Int).toNat ((m:Int)+1).toNat=⟨#[a0 (97+m)]⟩:=by
   have:m=0\/m=1\/m=2\/m=3\/m=4\/m=5\/m=6\/m=7:=by omega
   rcases this with rfl|rfl|rfl|rfl|rfl|rfl|rfl|rfl<;>rfl
  rw [e]
 have f:(i:Int) % 8=m:=by omega
 have j:a8.wrap ((m:Int)+1)=(m:Int)+1:=wrap64 (by omega) (by omega);have g:a4 (i:Int) 8=m:=by rw [a5 (by omega)];exact f
 generalize (⟨#[a0 (97+m)]⟩:ByteArray)=T at a ⊢;clear h b;go_enter func36,ntmps36
 go_wp2
 go_ret;exact ⟨rfl,rfl⟩
theorem j43 (w:World) (i:Nat) (hi:i<17) (k:Int) (hk0:0<=k) (hk1:k<=65535):Calls prog 35 #[.int .i64 (i:Int),.int .u16 k] w (StQ i k w):=by
 obtain ⟨g4,hg4⟩:∃ g4,w.heap.size=g4:=⟨_,rfl⟩;obtain ⟨s0,hs0⟩:∃ s:ByteArray,(⟨#[a0 (97+i % 8)]⟩:ByteArray)=s:=⟨_,rfl⟩;obtain ⟨n1,hn1⟩:∃ n:Int,100+(i:Int)=n:=⟨_,rfl⟩;obtain ⟨n2,hn2⟩:∃ n:Int,(i:Int)+1=n:=⟨_,rfl⟩;obtain ⟨f,hf⟩:∃ n:Int,a4 k 3=n:=⟨_,rfl⟩;have hf2:0<=f/\f<=2:=by rw [<-hf,a5 hk0];omega
 obtain ⟨a1,ha1⟩:∃ n:Int,adr 10 9 0 n2=n:=⟨_,rfl⟩;have CN0:∀ X,Calls prog 36 #[.int .i64 (i:Int)] X fun e w'=>e=.returned (.string s0)/\X=w':=fun X=>by rw [<-hs0];exact j7t X i hi
 have A1:∀ X,Calls prog 66 #[.int .u8 10,.int .u8 9,.int .u8 0,.int .u8 n2] X fun e w'=>e=.returned (.int .u32 a1)/\X=w':=fun X=>by rw [<-ha1];exact qx X 10 9 0 _ (by omega) (by omega) (by omega) (by omega)
 have A2:∀ X,Calls prog 66 #[.int .u8 5,.int .u8 5,.int .u8 (i:Int),.int .u8 1] X fun e w'=>e=.returned (.int .u32 (adr 5 5 i 1))/\X=w':=fun X=>qx X 5 5 _ 1 (by omega) (by omega) (by omega) (by omega);have A3:∀ X,Calls prog 66 #[.int .u8 5,.int .u8 5,.int .u8 (i:Int),.int .u8 2] X fun e w'=>e=.returned (.int .u32 (adr 5 5 i 2))/\X=w':=fun X=>qx X 5 5 _ 2 (by omega) (by omega) (by omega) (by omega);have A4:∀ X,Calls prog 66 #[.int .u8 10,.int .u8 0,.int .u8 0,.int .u8 9] X fun e w'=>e=.returned (.int .u32 (adr 10 0 0 9))/\X=w':=fun X=>qx X 10 0 0 9 (by omega) (by omega) (by omega) (by omega);have A5:∀ X,Calls prog 66 #[.int .u8 5,.int .u8 6,.int .u8 (i:Int),.int .u8 9] X fun e w'=>e=.returned (.int .u32 (adr 5 6 i 9))/\X=w':=fun X=>qx X 5 6 _ 9 (by omega) (by omega) (by omega) (by omega);have A6:∀ X,Calls prog 66 #[.int .u8 192,.int .u8 168,.int .u8 0,.int .u8 5] X fun e w'=>e=.returned (.int .u32 (adr 192 168 0 5))/\X=w':=fun X=>qx X 192 168 0 5 (by omega) (by omega) (by omega) (by omega);have A7:∀ X,Calls prog 66 #[.int .u8 8,.int .u8 8,.int .u8 8,.int .u8 8] X fun e w'=>e=.returned (.int .u32 (adr 8 8 8 8))/\X=w':=fun X=>qx X 8 8 8 8 (by omega) (by omega) (by omega) (by omega);have A8:∀ X,Calls prog 66 #[.int .u8 192,.int .u8 168,.int .u8 0,.int .u8 6] X fun e w'=>e=.returned (.int .u32 (adr 192 168 0 6))/\X=w':=fun X=>qx X 192 168 0 6 (by omega) (by omega) (by omega) (by omega);have e1:a9.wrap (i:Int)=i:=j2o _ (by omega) (by omega);have e2:aa.wrap (i:Int)=i:=je _ (by omega) (by omega);have e3:aa.wrap (100+(i:Int))=n1:=by rw [<-hn1];exact je _ (by omega) (by omega)
 have e4:a9.wrap ((i:Int)+1)=n2:=by rw [<-hn2];exact j2o _ (by omega) (by omega)
 have e5:a8.wrap f=f:=wrap64 (by omega) (by omega);obtain ⟨T0,hT0⟩:∃ T0:Ten,({ ten0 with name:=s0,vni:=n1,key:=[n2,0,0,0,0,0,0,0],vtep:=a1,vmac:=[2,9,(i:Int),0,0,0],host:=[2,7,(i:Int),0,0,0],filter:=f }:Ten)=T0:=⟨_,rfl⟩;obtain ⟨B0,hB0⟩:∃ B0,(tc { ten0 with name:=s0,vni:=n1,key:=[n2,0,0,0,0,0,0,0],vtep:=a1,vmac:=[2,9,(i:Int),0,0,0],host:=[2,7,(i:Int),0,0,0],filter:=f } nilV nilV nilV).toArray=B0:=⟨_,rfl⟩;have hB1:(tc T0 nilV nilV nilV).toArray=B0:=by rw [<-hT0];exact hB0
 have hl0:TLen T0:=by rw [<-hT0];exact ⟨rfl,rfl,rfl⟩
 have hsz:B0.size=33:=by rw [<-hB1,ac];exact ji hl0 _ _ _
 have hone:B0.all (·.oneCell')=true:=by rw [<-hB1];exact j2t _ rfl rfl rfl
 have i33:(prog.info? 46).map (·.size)=some B0.size:=by rw [hsz];kernel_rfl
 have HT0:Hid (({ ten0 with name:=s0,vni:=n1,key:=[n2,0,0,0,0,0,0,0],vtep:=a1,vmac:=[2,9,(i:Int),0,0,0],host:=[2,7,(i:Int),0,0,0],filter:=f }:Ten)=T0/\TLen T0/\(tc T0 nilV nilV nilV).toArray=B0):=⟨hT0,hl0,hB1⟩;have hM0:Mem w (w.alloc (.cells tz 46)) [(g4,.cells tz 46)]:=(Mem.nil w).push1 hg4.symm;have HI:Hid (i<17/\0<=k/\k<=65535):=⟨hi,hk0,hk1⟩;have HB0:Hid ((tc { ten0 with name:=s0,vni:=n1,key:=[n2,0,0,0,0,0,0,0],vtep:=a1,vmac:=[2,9,(i:Int),0,0,0],host:=[2,7,(i:Int),0,0,0],filter:=f } nilV nilV nilV).toArray=B0):=hB0;have HV:Hid ((⟨#[a0 (97+i % 8)]⟩:ByteArray)=s0/\100+(i:Int)=n1/\(i:Int)+1=n2/\adr 10 9 0 n2=a1/\0<=f/\f<=2):=⟨hs0,hn1,hn2,ha1,hf2⟩;have HF:Hid (f=a4 k 3):=hf.symm;clear hT0 hB1 hl0 hi hk0 hk1 hs0 hn1 hn2 ha1 hf2 hB0;go_enter func35,ntmps35;go_upto_region 1 with fail;refine j5 (fun X=>Mem w X [(g4,Obj.cells tz 46)]) (by exact hM0) ?_;intro V0 hM
 try simp only [hg4]
 clear hM0 hg4;have CN:=CN0 V0;obtain ⟨gb,hgb⟩:∃ gb,V0.heap.size=gb:=⟨_,rfl⟩;have hk1:(V0.alloc (.cells tz 46)).heap[gb]?=some (.cells tz 46):=by rw [<-hgb];exact heap_alloc_new _ _
 have e9:(V0.alloc (.cells tz 46)).setRow gb B0=V0.alloc (.cells B0 46):=by
  rw [<-hgb];exact World.setRow_alloc_new V0 tz B0 46
 have HP:Hid (Tb w ((V0.alloc (.cells tz 46)).setRow gb B0) gb g4 T0):=by
  rw [e9];refine ⟨[(gb,.cells ([]++(tc T0 nilV nilV nilV++[])).toArray 46)],⟨HT0.out.2.1,nilV,nilV,nilV,[],[],[],?_,?_,?_,rfl⟩,?_⟩
  ·rw [<-HT0.out.1];exact OwB.nil _ _
  ·rw [<-HT0.out.1];exact OwB.nil _ _
  ·rw [<-HT0.out.1];exact OwB.nil _ _
  ·simp only [ad,ae];rw [HT0.out.2.2];exact hM.front _ hgb.symm
 clear e9 hM CN0;go_wp2_with fail;refine CN.mono ?_;rintro e _ ⟨rfl,rfl⟩;clear CN;go_wp2_with fail;refine (A1 _).mono ?_;rintro e _ ⟨rfl,rfl⟩;clear A1;go_upto_region 3 with (refine wpList_store_row rfl 46 (.tmp 6) (.tmp 27) (by with_reducible rfl) gb B0 (by simp [aq];try exact hgb) (by rw [<-HB0.out];rfl) 46 tz hk1 i33 (by rw [hsz];rfl) hone ?_)
 refine j5 (fun X=>Tb w X gb g4 T0) (by exact HP.out) ?_;intro V1 hR
 try simp only [hgb]
 clear HP hgb hk1 hsz hone i33 HB0;obtain ⟨⟨v1,c23⟩,f23,hT1⟩:=jk1 hR (adr 5 5 i 1) (gs:=V1.heap.size) rfl;have HT1:Hid (Tb w ((V1.alloc (.cells #[.int .u32 (adr 5 5 i 1)] 33)).setCell ⟨gb,23,none⟩ (.slice (some ⟨V1.heap.size,0,none⟩) 1 1)) gb g4 { T0 with pool:=[adr 5 5 i 1] }):=hT1;clear hT1 hR;go_wp2_with fail;refine (A2 _).mono ?_;rintro e _ ⟨rfl,rfl⟩;go_upto_region 4 with fail;refine j5 (fun X=>Tb w X gb g4 { T0 with pool:=[adr 5 5 i 1] }) (by exact HT1.out) ?_;intro V2 hR;have HR:Hid (Tb w V2 gb g4 { T0 with pool:=[adr 5 5 i 1] }):=hR;clear HT1 hR c23 f23;obtain ⟨b4,hb4⟩:∃ b,bits .and .u16 k 4=b:=⟨_,rfl⟩;go_upto_if 34 with fail
 go_cut [] from 7 (fun w'=>∃ p2:Bool,p2=(b4 != 0)/\Hid (Tb w w' gb g4 { T0 with pool:=if p2 then [adr 5 5 i 1,adr 5 5 i 2] else [adr 5 5 i 1] }))
 case first =>
  by_cases hz:b4=0
  ·have hz2:(b4 != 0)=false:=by simp [hz]
   go_wp2_with fail;go_meet
   case rel=>exact ⟨false,hz2.symm,HR⟩
  ·have hz2:(b4 != 0)=true:=by simp [hz]
   have hd:=HR.out.after ((au _ _).drew);obtain ⟨pa,pm,pc,p0,p2,v4,V4,hrun,⟨qa,qm,qc,rfl⟩,⟨v0,cv0⟩,fr4,hH⟩:=jk2 hd (by show ([adr 5 5 i 1]:List Int).length<=_;simp) (adr 5 5 i 2);have HH:Hid (Tb w (V4.setCell ⟨gb,23,none⟩ (.slice qa qm qc)) gb g4 { T0 with pool:=[adr 5 5 i 1,adr 5 5 i 2] }):=hH qa qm qc rfl;have p3:(V2.alloc (.cells #[.int .u32 (adr 5 5 i 2)] 33)).cell? ⟨gb,23,none⟩=some (.slice pa pm pc):=p2;clear hH hd HR;go_upto_region 5 with fail;refine wp_region_held_drew (S:=fun _=>True) (by kernel_rfl) trivial (fun hHeld=>?_);refine tkq 0 rfl (v:=?_) (a7 ⟨by rfl,?qay0⟩) ?_
   case qay0=>intro w hSw;(try dsimp only at hSw);go_simp;all_goals with_reducible rfl
   try simp only [sqx,ar]
   refine tkq 2 rfl (v:=?_) (a7 ⟨by rfl,?qay2⟩) ?_
   case qay2=>intro w hSw;(try dsimp only at hSw);go_simp;all_goals with_reducible rfl
   try simp only [sqx,ar]
   refine wpAnyH_ready (rs:=[1,3]) (by kernel_rfl) (by simp) ?_;refine av rfl (fun KK hK=>?_) (av rfl (fun KK hK=>?_) aw)
   ·go_simp;refine hK.out _ _ trivial (fun hHeld=>?_);clear hK KK
    try simp only [sqx,ar]
    refine wpAnyH_ready (rs:=[3]) (by kernel_rfl) (by simp) ?_;refine av rfl (fun KK hK=>?_) aw;go_simp
    with_reducible refine (A3 _).mono ?_
    rintro e _ ⟨rfl,rfl⟩
    try go_wp2_with fail
    refine hK.out _ _ trivial (fun hHeld=>?_);clear hK KK
    try simp only [sqx,ar]
    refine wpAnyH_ready (rs:=[4]) (by kernel_rfl) (by simp) ?_;refine av rfl (fun KK hK=>?_) aw;go_simp;refine hK.out _ _ trivial (fun hHeld=>?_);clear hK KK
    try simp only [sqx,ar]
    refine wpAnyH_ready (rs:=[5]) (by kernel_rfl) (by simp) ?_;refine av rfl (fun KK hK=>?_) aw;refine jg rfl (.tmp 36) (.tmp 39) 43 43 rfl (by simp [aq]) (by simp [aq]) hrun ?_;refine hK.out _ _ trivial (fun hHeld=>?_);clear hK KK
    try simp only [sqx,ar]
    refine tkq 6 rfl (v:=?_) (a7 ⟨by rfl,?qbzy6⟩) ?_
    case qbzy6=>intro w hSw;(try dsimp only at hSw);go_simp;all_goals with_reducible rfl
    try simp only [sqx,ar]
    refine wpAnyH_ready (rs:=[7]) (by kernel_rfl) (by simp) ?_;refine av rfl (fun KK hK=>?_) aw;go_simp;refine hK.out _ _ trivial (fun hHeld=>?_);clear hK KK
    try simp only [sqx,ar]
    refine wpAnyH_done (by kernel_rfl) ?_ _;go_wp2_with fail;go_meet
    case rel=>exact ⟨true,hz2.symm,HH⟩
   ·go_simp
    with_reducible refine (A3 _).mono ?_
    rintro e _ ⟨rfl,rfl⟩
    try go_wp2_with fail
    refine hK.out _ _ trivial (fun hHeld=>?_);clear hK KK
    try simp only [sqx,ar]
    refine wpAnyH_ready (rs:=[1,4]) (by kernel_rfl) (by simp) ?_;refine av rfl (fun KK hK=>?_) (av rfl (fun KK hK=>?_) aw)
    ·go_simp;refine hK.out _ _ trivial (fun hHeld=>?_);clear hK KK
     try simp only [sqx,ar]
     refine wpAnyH_ready (rs:=[4]) (by kernel_rfl) (by simp) ?_;refine av rfl (fun KK hK=>?_) aw;go_simp;refine hK.out _ _ trivial (fun hHeld=>?_);clear hK KK
     try simp only [sqx,ar]
     refine wpAnyH_ready (rs:=[5]) (by kernel_rfl) (by simp) ?_;refine av rfl (fun KK hK=>?_) aw;refine jg rfl (.tmp 36) (.tmp 39) 43 43 rfl (by simp [aq]) (by simp [aq]) hrun ?_;refine hK.out _ _ trivial (fun hHeld=>?_);clear hK KK
     try simp only [sqx,ar]
     refine tkq 6 rfl (v:=?_) (a7 ⟨by rfl,?qczy6⟩) ?_
     case qczy6=>intro w hSw;(try dsimp only at hSw);go_simp;all_goals with_reducible rfl
     try simp only [sqx,ar]
     refine wpAnyH_ready (rs:=[7]) (by kernel_rfl) (by simp) ?_;refine av rfl (fun KK hK=>?_) aw;go_simp;refine hK.out _ _ trivial (fun hHeld=>?_);clear hK KK
     try simp only [sqx,ar]
     refine wpAnyH_done (by kernel_rfl) ?_ _;go_wp2_with fail;go_meet
     case rel=>exact ⟨true,hz2.symm,HH⟩
    ·go_simp;refine hK.out _ _ trivial (fun hHeld=>?_);clear hK KK
     try simp only [sqx,ar]
     refine wpAnyH_ready (rs:=[1]) (by kernel_rfl) (by simp) ?_;refine av rfl (fun KK hK=>?_) aw;go_simp;refine hK.out _ _ trivial (fun hHeld=>?_);clear hK KK
     try simp only [sqx,ar]
     refine wpAnyH_ready (rs:=[5]) (by kernel_rfl) (by simp) ?_;refine av rfl (fun KK hK=>?_) aw;refine jg rfl (.tmp 36) (.tmp 39) 43 43 rfl (by simp [aq]) (by simp [aq]) hrun ?_;refine hK.out _ _ trivial (fun hHeld=>?_);clear hK KK
     try simp only [sqx,ar]
     refine tkq 6 rfl (v:=?_) (a7 ⟨by rfl,?qdzy6⟩) ?_
     case qdzy6=>intro w hSw;(try dsimp only at hSw);go_simp;all_goals with_reducible rfl
     try simp only [sqx,ar]
     refine wpAnyH_ready (rs:=[7]) (by kernel_rfl) (by simp) ?_;refine av rfl (fun KK hK=>?_) aw;go_simp;refine hK.out _ _ trivial (fun hHeld=>?_);clear hK KK
     try simp only [sqx,ar]
     refine wpAnyH_done (by kernel_rfl) ?_ _;go_wp2_with fail;go_meet
     case rel=>exact ⟨true,hz2.symm,HH⟩
 case rest =>
  obtain ⟨p2,hp2,HR3⟩:=hcut;have HP2:Hid (p2=(bits .and .u16 k 4 != 0)):=by rw [hb4];exact hp2
  clear HR hb4 hp2;obtain ⟨T2,hT2⟩:∃ T2:Ten,{ T0 with pool:=if p2 then [adr 5 5 i 1,adr 5 5 i 2] else [adr 5 5 i 1] }=T2:=⟨_,rfl⟩;rw [hT2] at HR3;have HX2:Hid ({ T0 with pool:=if p2 then [adr 5 5 i 1,adr 5 5 i 2] else [adr 5 5 i 1] }=T2):=hT2;obtain ⟨r1,hr1⟩:∃ r,bits .and .u16 (k / 8) 7=r:=⟨_,rfl⟩;have hr1b:=j3r (k:=.u16) 16 (by decide) (fun n h0 h1=>j00 n h0 (by omega)) 3 (by decide) 7 (k / 8) (by decide) (by have:=HI.out;omega) (by have:=HI.out;omega);rw [hr1] at hr1b;obtain ⟨h1,hh1⟩:∃ h,1024+r1=h:=⟨_,rfl⟩;have e6:ab.wrap (1024+r1)=h1:=by rw [<-hh1];exact j00 _ (by omega) (by omega)
  obtain ⟨⟨v24,c24⟩,f24,hQ⟩:=j1x HR3.out (fun L hL=>jiw hL 1024);obtain ⟨⟨v25,c25⟩,f25,hQ2⟩:=j1x hQ (fun L hL=>jix hL h1);have HQ:Hid (Tb w ((wc.setCell ⟨gb,24,none⟩ (.int .u16 1024)).setCell ⟨gb,25,none⟩ (.int .u16 h1)) gb g4 { T2 with lo:=1024,hi:=h1 }):=hQ2;have HH1:Hid (1024<=h1/\h1<=9999):=by rw [<-hh1];exact ⟨by omega,by omega⟩
  have HH2:Hid (h1=1024+bits .and .u16 (k / 8) 7):=by rw [hr1];exact hh1.symm
  clear hQ hQ2 HR3 hT2 hh1 hr1b;go_upto_region 7 with fail;refine j5 (fun X=>Tb w X gb g4 { T2 with lo:=1024,hi:=h1 }) (by exact HQ.out) ?_;intro V3 hR;have HR:Hid (Tb w V3 gb g4 { T2 with lo:=1024,hi:=h1 }):=hR;clear HQ hR c24 c25 f24 f25 e6 hr1;obtain ⟨b6,hb6⟩:∃ b,bits .and .u16 k 64=b:=⟨_,rfl⟩;go_upto_if 50 with fail
  go_cut [] from 7 (fun w'=>∃ lo hi:Int,(1<=lo/\lo<=hi)/\(0<=hi/\hi<=9999)/\(lo=qlo k/\hi=qhi k)/\Hid (Tb w w' gb g4 { T2 with lo:=lo,hi:=hi }))
  case first =>
   by_cases hz:b6=0
   ·have hz2:(b6 != 0)=false:=by simp [hz]
    go_wp2_with fail;go_meet
    case rel=>exact ⟨1024,h1,⟨by omega,HH1.out.1⟩,⟨by have:=HH1.out;omega,HH1.out.2⟩,⟨by rw [qlo,hb6,hz2];rfl,by rw [qhi,hb6,hz2];exact HH2.out⟩,HR⟩
   ·have hz2:(b6 != 0)=true:=by simp [hz]
    obtain ⟨⟨v24,c24⟩,f24,hQ⟩:=j1x HR.out (fun L hL=>jiw hL 1020);obtain ⟨⟨v25,c25⟩,f25,hQ2⟩:=j1x hQ (fun L hL=>jix hL 1030);have HQ:Hid (Tb w ((V3.setCell ⟨gb,24,none⟩ (.int .u16 1020)).setCell ⟨gb,25,none⟩ (.int .u16 1030)) gb g4 { T2 with lo:=1020,hi:=1030 }):=hQ2;clear hQ hQ2 HR;go_wp2_with fail;go_meet
    case rel=>exact ⟨1020,1030,by omega,by omega,⟨by rw [qlo,hb6,hz2];rfl,by rw [qhi,hb6,hz2];rfl⟩,HQ⟩
  case rest =>
   obtain ⟨lo,hi,rlo,rhi,rq,HR4⟩:=hcut;have HRQ:Hid (lo=qlo k/\hi=qhi k):=rq;clear HR hb6;have HLH:Hid ((1<=lo/\lo<=hi)/\(0<=hi/\hi<=9999)):=⟨rlo,rhi⟩;obtain ⟨T3,hT3⟩:∃ T3:Ten,{ T2 with lo:=lo,hi:=hi }=T3:=⟨_,rfl⟩;rw [hT3] at HR4;have HX3:Hid ({ T2 with lo:=lo,hi:=hi }=T3):=hT3;clear hT3 rlo rhi rq;obtain ⟨b7,hb7⟩:∃ b,bits .and .u16 k 128=b:=⟨_,rfl⟩;go_upto_if 55 with fail
   go_cut [] from 7 (fun w'=>∃ st:Bool,st=(b7 != 0)/\Hid (Tb w w' gb g4 { T3 with stat:=if st then [(adr 10 0 0 9,adr 5 6 i 9)] else T3.stat }))
   case first =>
    by_cases hz:b7=0
    ·have hz2:(b7 != 0)=false:=by simp [hz]
     go_wp2_with fail;go_meet
     case rel=>exact ⟨false,hz2.symm,HR4⟩
    ·have hz2:(b7 != 0)=true:=by simp [hz]
     obtain ⟨⟨v27,c27⟩,f27,hQ⟩:=jk0 HR4.out (adr 10 0 0 9) (adr 5 6 i 9) (gs:=wc.heap.size) rfl;have HQ:Hid (Tb w ((wc.alloc (.cells #[.int .u32 (adr 10 0 0 9),.int .u32 (adr 5 6 i 9)] 122)).setCell ⟨gb,27,none⟩ (.slice (some ⟨wc.heap.size,0,none⟩) 1 1)) gb g4 { T3 with stat:=[(adr 10 0 0 9,adr 5 6 i 9)] }):=hQ;clear hQ HR4;go_wp2_with fail;refine (A4 _).mono ?_;rintro e _ ⟨rfl,rfl⟩;go_wp2_with fail;refine (A5 _).mono ?_;rintro e _ ⟨rfl,rfl⟩;go_wp2_with fail;go_meet
     case rel=>exact ⟨true,hz2.symm,HQ⟩
   case rest =>
    obtain ⟨st,hst,HR5⟩:=hcut;have HST:Hid (st=(bits .and .u16 k 128 != 0)):=by rw [hb7];exact hst
    clear HR4 hb7 hst;obtain ⟨T4,hT4⟩:∃ T4:Ten,{ T3 with stat:=if st then [(adr 10 0 0 9,adr 5 6 i 9)] else T3.stat }=T4:=⟨_,rfl⟩;rw [hT4] at HR5;have HX4:Hid ({ T3 with stat:=if st then [(adr 10 0 0 9,adr 5 6 i 9)] else T3.stat }=T4):=hT4;clear hT4;obtain ⟨b8,hb8⟩:∃ b,bits .and .u16 k 256=b:=⟨_,rfl⟩;go_upto_if 64 with fail
    go_cut [] from 7 (fun w'=>∃ tw:Bool,tw=(b8 != 0)/\Hid (Tb w w' gb g4 { T4 with twi:=if tw then [(adr 192 168 0 5,adr 8 8 8 8),(adr 192 168 0 6,adr 5 5 i 1)] else T4.twi }))
    case first =>
     by_cases hz:b8=0
     ·have hz2:(b8 != 0)=false:=by simp [hz]
      go_wp2_with fail;go_meet
      case rel=>exact ⟨false,hz2.symm,HR5⟩
     ·have hz2:(b8 != 0)=true:=by simp [hz]
      obtain ⟨⟨v28,c28⟩,f28,hQ⟩:=jmy HR5.out (adr 192 168 0 5) (adr 8 8 8 8) (adr 192 168 0 6) (adr 5 5 i 1) (gs:=wc.heap.size) rfl;have HQ:Hid (Tb w ((wc.alloc (.cells #[.int .u32 (adr 192 168 0 5),.int .u32 (adr 8 8 8 8),.int .u32 (adr 192 168 0 6),.int .u32 (adr 5 5 i 1)] 122)).setCell ⟨gb,28,none⟩ (.slice (some ⟨wc.heap.size,0,none⟩) 2 2)) gb g4 { T4 with twi:=[(adr 192 168 0 5,adr 8 8 8 8),(adr 192 168 0 6,adr 5 5 i 1)] }):=hQ;clear hQ HR5;go_wp2_with fail;refine (A6 _).mono ?_;rintro e _ ⟨rfl,rfl⟩;go_wp2_with fail;refine (A7 _).mono ?_;rintro e _ ⟨rfl,rfl⟩;go_wp2_with fail;refine (A8 _).mono ?_;rintro e _ ⟨rfl,rfl⟩;go_wp2_with fail;refine (A2 _).mono ?_;rintro e _ ⟨rfl,rfl⟩;go_wp2_with fail;go_meet
      case rel=>exact ⟨true,hz2.symm,HQ⟩
    case rest =>
     obtain ⟨tw,htw,HR6⟩:=hcut;have HTW:Hid (tw=(bits .and .u16 k 256 != 0)):=by rw [hb8];exact htw
     clear HR5 hb8 htw;obtain ⟨T5,hT5⟩:∃ T5:Ten,{ T4 with twi:=if tw then [(adr 192 168 0 5,adr 8 8 8 8),(adr 192 168 0 6,adr 5 5 i 1)] else T4.twi }=T5:=⟨_,rfl⟩;rw [hT5] at HR6;have HX5:Hid ({ T4 with twi:=if tw then [(adr 192 168 0 5,adr 8 8 8 8),(adr 192 168 0 6,adr 5 5 i 1)] else T4.twi }=T5):=hT5;clear hT5;obtain ⟨q1,hq1⟩:∃ r,bits .and .i64 (k / 512) 7=r:=⟨_,rfl⟩;have bq1:=j3r (k:=.i64) 63 (by decide) (fun n h0 h1=>wrap64 (by omega) (by omega)) 3 (by decide) 7 (k / 512) (by decide) (by have:=HI.out;omega) (by have:=HI.out;omega);rw [hq1] at bq1;obtain ⟨q2,hq2⟩:∃ r,bits .and .i64 (k / 4096) 3=r:=⟨_,rfl⟩;have bq2:=j3r (k:=.i64) 63 (by decide) (fun n h0 h1=>wrap64 (by omega) (by omega)) 2 (by decide) 3 (k / 4096) (by decide) (by have:=HI.out;omega) (by have:=HI.out;omega);rw [hq2] at bq2;obtain ⟨q3,hq3⟩:∃ r,bits .and .u32 (k / 16384) 3=r:=⟨_,rfl⟩;have bq3:=j3r (k:=.u32) 32 (by decide) (fun n h0 h1=>je n h0 (by omega)) 2 (by decide) 3 (k / 16384) (by decide) (by have:=HI.out;omega) (by have:=HI.out;omega);rw [hq3] at bq3;obtain ⟨q4,hq4⟩:∃ r,bits .and .u32 (k / 8192) 7=r:=⟨_,rfl⟩;have bq4:=j3r (k:=.u32) 32 (by decide) (fun n h0 h1=>je n h0 (by omega)) 3 (by decide) 7 (k / 8192) (by decide) (by have:=HI.out;omega) (by have:=HI.out;omega);rw [hq4] at bq4;have w1:a8.wrap (k / 512)=k / 512:=wrap64 (by have:=HI.out;omega) (by have:=HI.out;omega);have w2:a8.wrap (k / 4096)=k / 4096:=wrap64 (by have:=HI.out;omega) (by have:=HI.out;omega);have w3:aa.wrap (k / 16384)=k / 16384:=je _ (by have:=HI.out;omega) (by have:=HI.out;omega);have w4:aa.wrap (k / 8192)=k / 8192:=je _ (by have:=HI.out;omega) (by have:=HI.out;omega);obtain ⟨s1,hs1⟩:∃ r,1+q1=r:=⟨_,rfl⟩;obtain ⟨s2,hs2⟩:∃ r,1+q2=r:=⟨_,rfl⟩;obtain ⟨s4,hs4⟩:∃ r,3+q4=r:=⟨_,rfl⟩;have x1:a8.wrap (1+q1)=s1:=by rw [<-hs1];exact wrap64 (by omega) (by omega)
     have x2:a8.wrap (1+q2)=s2:=by rw [<-hs2];exact wrap64 (by omega) (by omega)
     have x4:aa.wrap (3+q4)=s4:=by rw [<-hs4];exact je _ (by omega) (by omega)
     have HRG:Hid (SRq k lo hi f s1 s2 q3 s4):=⟨⟨HRQ.out.1,HRQ.out.2,HF.out,by rw [hq1];exact hs1.symm,by rw [hq2];exact hs2.symm,hq3.symm,by rw [hq4];exact hs4.symm⟩,HLH.out.1,HLH.out.2,HV.out.2.2.2.2,by omega,by omega,by omega,by omega⟩;clear hs1 hs2 hs4 bq1 bq2 bq3 bq4;obtain ⟨⟨v29,c29⟩,f29,hQ⟩:=j1x HR6.out (fun L hL=>jg1 hL s1);have HQ:Hid (Tb w (wc.setCell ⟨gb,29,none⟩ (.int .i64 s1)) gb g4 { T5 with sess:=s1 }):=hQ;clear hQ HR6;go_upto_region 14 with fail;refine j5 (fun X=>Tb w X gb g4 { T5 with sess:=s1 }) (by exact HQ.out) ?_;intro V4 hR;clear HQ c29 f29;obtain ⟨⟨v30,c30⟩,f30,hQ⟩:=j1x hR (fun L hL=>jcs hL s2);have HQ:Hid (Tb w (V4.setCell ⟨gb,30,none⟩ (.int .i64 s2)) gb g4 { T5 with sess:=s1,queue:=s2 }):=hQ;clear hQ hR;go_upto_region 15 with fail;refine j5 (fun X=>Tb w X gb g4 { T5 with sess:=s1,queue:=s2 }) (by exact HQ.out) ?_;intro V5 hR;clear HQ c30 f30;obtain ⟨⟨v31,c31⟩,f31,hQ⟩:=j1x hR (fun L hL=>jg2 hL q3);have HQ:Hid (Tb w (V5.setCell ⟨gb,31,none⟩ (.int .u32 q3)) gb g4 { T5 with sess:=s1,queue:=s2,rate:=q3 }):=hQ;clear hQ hR;go_upto_region 16 with fail;refine j5 (fun X=>Tb w X gb g4 { T5 with sess:=s1,queue:=s2,rate:=q3 }) (by exact HQ.out) ?_;intro V6 hR;clear HQ c31 f31;obtain ⟨⟨v32,c32⟩,f32,hQ⟩:=j1x hR (fun L hL=>jct hL s4);have HQ:Hid (Tb w (V6.setCell ⟨gb,32,none⟩ (.int .u32 s4)) gb g4 { T5 with sess:=s1,queue:=s2,rate:=q3,burst:=s4 }):=hQ;clear hQ hR;go_upto_region 17 with fail;refine j5 (fun X=>Tb w X gb g4 { T5 with sess:=s1,queue:=s2,rate:=q3,burst:=s4 }) (by exact HQ.out) ?_;intro V7 hR;clear HQ c32 f32 hq1 hq2 hq3 hq4 w1 w2 w3 w4 x1 x2 x4;obtain ⟨T6,hT6⟩:∃ T6:Ten,{ T5 with sess:=s1,queue:=s2,rate:=q3,burst:=s4 }=T6:=⟨_,rfl⟩;rw [hT6] at hR;have hS:zm i k T6:=by
      refine ⟨lo,hi,f,s1,s2,q3,s4,?_,HRG.out⟩;rw [<-HP2.out,<-HST.out,<-HTW.out];obtain ⟨z1,z2,z3,z4,-⟩:=HV.out;rw [<-hT6,<-HX5.out,<-HX4.out,<-HX3.out,<-HX2.out,<-HT0.out.1,<-z1,<-z2,<-z4,<-z3];rfl
     obtain ⟨L,⟨hlen,p,s,q,B1,B2,B3,k1,k2,k3,rfl⟩,hM⟩:=hR;simp only [ad,ae] at hM;have hsz:(tc T6 p s q).toArray.size=33:=by rw [ac];exact ji hlen _ _ _
     have hone:(tc T6 p s q).toArray.all (·.oneCell')=true:=j2t _ (yy k1) (yy k2) (yy k3);obtain ⟨A,hA⟩:∃ A,(tc T6 p s q).toArray=A:=⟨_,rfl⟩;rw [hA] at hsz hone hM;have i33:(prog.info? 46).map (·.size)=some A.size:=by rw [hsz];kernel_rfl
     have hM2:Mem w V7 ((gb,.cells A 46)::(g4,.cells tz 46)::(B1++(B2++B3))):=hM.perm (by
  classical
  rw [List.perm_iff_count];intro z;simp only [List.count_append,List.count_cons,List.count_nil];omega)
     have k4:=hM2.get 0 rfl;have k5:=hM2.get 1 rfl;have hM3:=hM2.wrote 1 rfl (j7 V7 g4 _ A _ k5);have HQ:Hid ((V7.setRow g4 A).heap[g4]?=some (.cells A 46)/\StQ i k w (.returned (.agg A)) (V7.setRow g4 A)):=by
      refine ⟨hM3.get 1 rfl,T6,p,s,q,B1++(B2++B3),by rw [hA],hS,⟨hlen,B1,B2,B3,rfl,k1,k2,k3⟩,hM3.sub.sub⟩
     clear hM hM2 hM3 hS k1 k2 k3 hA hT6 HX2 HX3 HX4 HX5 HT0 HV HRG HLH HP2 HST HTW HF HRQ HH1 HH2;go_wp2_with (first|(refine wpList_load_row rfl 46 (.tmp 6) (by with_reducible rfl) gb (by first|rfl|simp [aq]) 46 A (0,0) _ k4 underlying46 rfl i33 ?_)|(refine wpList_store_row rfl 46 (.tmp 4) (.tmp 97) (by with_reducible rfl) g4 A (by first|rfl|simp [aq]) (by first|rfl|simp [aq]) 46 tz k5 i33 (by rw [hsz];rfl) hone ?_))
     refine bodyPost_ret (v:=.agg A) ?_ rfl HQ.out.2;exact results_cell_row (p:=4) (ty:=46) rfl _ _ g4 46 _ (0,0) _ rfl HQ.out.1 underlying46 rfl i33
end
section
open Go.RowKit Sm Cf Df
namespace Df
def Zg (w:World) (z:Tv):Prop:=TLen z.1/\Rws w z
theorem j5z {z:Tv} (h:Zg w z):(zc z).toArray.all (·.oneCell')=true:=j2m h.2
theorem jbf {v:Value} {zs:List Tv} {ys:List Hv} (hz:ZV w v zs) (hy:YV w u ys) (hm:zs.length<=400) (hk:ys.length<=400) :
  Calls prog 58 #[v,u] w fun e V=>∃ a n c,e=.returned (.slice a n c)/\Dl w V (.slice a n c) (apz zs ys):=by
 obtain ⟨za,zk,rfl,hzc,hzb,hzx⟩:=hz.parts;obtain ⟨sa,sc,rfl,hlc,hcb,hx⟩:=hy.parts;have HG1:Hid (∀ i,∀ z∈byn fk (zs.take i),Zg w z):=fun i z h=>hz.each z (af (j58 h));have HG2:Hid (∀ i,∀ z∈apz zs (ys.take i),Zg w z):=by
  intro i z h;rcases j8a h with h|⟨y,h1,e⟩
  ·exact hz.each z h
  ·subst e;exact hy.each y (af h1)
 have HL1:Hid (∀ i,(byn fk (zs.take i)).length<=1000):=by
  intro i;have:=j4j (f:=fk) (zs.take i);rw [ag] at this;omega
 have HL2:Hid (∀ i,(apz zs (ys.take i)).length<=1000):=by
  intro i;have:=jc7 zs (ys.take i);rw [ag] at this;omega
 have HZ:Hid (∀ i (hi:i<zs.length),(∃ b off,za=some ⟨b,off,none⟩/\∀ V,Below w.heap.size w V->V.rangeAt b (off+i*33) (zc zs[i]))/\Zg w zs[i]):=fun i hi=>⟨hzx i hi,hz.each _ (ah hi)⟩;have HY:Hid (∀ i (hi:i<ys.length),(∃ b off,sa=some ⟨b,off,none⟩/\∀ V,Below w.heap.size w V->V.cell? ⟨b,off+i*35,none⟩=some (.bool ys[i].1.put)/\V.cell? ⟨b,off+i*35+1,none⟩=some (.string ys[i].1.name)/\V.rangeAt b (off+i*35+2) (zc (yz ys[i])))/\Zg w (yz ys[i])):=by
  intro i hi;obtain ⟨b,off,e,hV⟩:=hx i hi;refine ⟨⟨b,off,e,fun V hb=>⟨?_,?_,?_⟩⟩,hy.each _ (ah hi)⟩
  ·have:=hV V hb 0 (.bool ys[i].1.put) rfl;simpa using this
  ·exact hV V hb 1 (.string ys[i].1.name) rfl
  ·intro j x hj;have:=hV V hb (j+2) x (by rw [jce,ai,ai];exact hj);rw [show off+i*35+2+j=off+i*35+(j+2) by omega];exact this
 have HB1:Hid (∀ i (hi:i<zs.length),byn fk (zs.take (i+1))=put fk zs[i] false (byn fk (zs.take i))):=fun i hi=>j16 hi;have HB2:Hid (byn fk (zs.take zs.length)=apz zs (ys.take 0)):=by show _=_;rw [aj];rfl
 have HT:Hid (∀ i (hi:i<ys.length),apz zs (ys.take (i+1))=stz (apz zs (ys.take i)) ys[i]):=fun i hi=>jaq hi;have HTE:Hid (apz zs (ys.take ys.length)=apz zs ys):=by show _=_;rw [aj]
 have HS:Hid (∀ i,Srt fk (apz zs (ys.take i))):=fun i=>jk9 _ _;have H0:Hid (Dl w w (.slice none 0 0) (byn fk (zs.take 0))):=Dl.nil (au _ _);clear hz hy hzx hx;obtain ⟨N,hN⟩:∃ N,zs.length=N:=⟨_,rfl⟩;obtain ⟨K,hK⟩:∃ K,ys.length=K:=⟨_,rfl⟩;rw [hN] at HB2 hm hzc;rw [hK] at HTE hk hlc;simp only [hN] at HZ HB1 ⊢;simp only [hK] at HY HT ⊢;go_enter func58,ntmps58;go_wp2_with fail
 go_loopw [5,6] (fun u5 u6 w'=>∃ (i:Nat) (a:Option Addr) (n c:Nat),i<=N/\u6=.int .i64 i/\u5=.slice a n c/\Hid (Dl w w' (.slice a n c) (byn fk (zs.take i)))) (fun u5 u6 w'=>N-(intOf u6).toNat)
 case atStart=>exact ⟨0,none,0,0,Nat.zero_le _,rfl,rfl,H0⟩
 case round =>
  obtain ⟨i,a,n,c,hi,rfl,rfl,HR⟩:=hrel;clear H0;by_cases hlt:i<N
  ·have h1:(i:Int)<N:=by omega
   have hiz:i<zs.length:=by omega
   obtain ⟨⟨b,off,rfl,hV⟩,hg⟩:=HZ.out i hlt;have hra:=hV _ HR.out.below;have hB:=HB1.out i hlt;have CS:=j9w (again:=false) HR.out (fun z hz=>(HG1.out i z hz).1) (fun z hz=>j5z (HG1.out i z hz)) hg.1 (j5z hg) (HL1.out i);rw [<-hB] at CS;have i33:(prog.info? 46).map (·.size)=some (zc (zs[i]'hiz)).length:=by rw [zc33 hg.1];kernel_rfl
   clear hV hB hg HZ HB1 HB2 HG1 HG2 HL1 HL2 HY HT HTE HS HR;generalize zs[i]'hiz=z at *;go_wp2_with (first|(refine wpList_load_mid rfl 46 (.tmp 18) (by with_reducible rfl) b (off+i*33) (by simp [aq]) (zc z) _ hra underlying46 rfl i33 ?_)|fail)
   refine CS.mono ?_;rintro e W1 ⟨a',n',c',rfl,hD⟩;have HD:Hid (Dl w W1 (.slice a' n' c') (byn fk (zs.take (i+1)))):=hD;clear CS hD hra i33;go_wp2_with fail;go_roundw
   case rel=>exact ⟨i+1,a',n',c',by omega,by go_num,rfl,HD⟩
   case measure=>simp [intOf];omega
  ·have h1:¬((i:Int)<N):=by omega
   obtain rfl:i=N:=by omega
   have H2:Hid (Dl w wr (.slice a n c) (apz zs (ys.take 0))):=by rw [<-HB2.out];exact HR.out
   clear HZ HB1 HB2 HG1 HL1 HR;go_wp2_with fail
   go_loopw [5,7] (fun u5 u7 w'=>∃ (j:Nat) (a:Option Addr) (n c:Nat),j<=K/\u7=.int .i64 j/\u5=.slice a n c/\Hid (Dl w w' (.slice a n c) (apz zs (ys.take j)))) (fun u5 u7 w'=>K-(intOf u7).toNat)
   case atStart=>exact ⟨0,a,n,c,Nat.zero_le _,rfl,rfl,H2⟩
   case round =>
    obtain ⟨j,a,n,c,hj,rfl,rfl,HR⟩:=hrel;clear H2;by_cases hlt2:j<K
    rotate_left
    ·have h2:¬((j:Int)<K):=by omega
     obtain rfl:j=K:=by omega
     have HF:Hid (Dl w wr (.slice a n c) (apz zs ys)):=by
      have h:=HR.out;rw [HTE.out] at h;exact h
     clear HY HT HTE HS HG2 HL2 HR;go_wp2_with fail;go_ret;exact ⟨_,_,_,rfl,HF.out⟩
    have h2:(j:Int)<K:=by omega
    have hjy:j<ys.length:=by omega
    obtain ⟨⟨b,off,rfl,hV⟩,hg⟩:=HY.out j hlt2;obtain ⟨c0,-,hra⟩:=hV _ HR.out.below;have hT:=HT.out j hlt2;by_cases hp:(ys[j]'hjy).1.put=true
    ·rw [hp] at c0;have CS:=j9w (again:=true) HR.out (fun z hz=>(HG2.out j z hz).1) (fun z hz=>j5z (HG2.out j z hz)) hg.1 (j5z hg) (HL2.out j);rw [show put fk (yz (ys[j]'hjy)) true (apz zs (ys.take j))=apz zs (ys.take (j+1)) by rw [hT,stz,if_pos hp]] at CS;have i33:(prog.info? 46).map (·.size)=some (zc (yz (ys[j]'hjy))).length:=by rw [zc33 hg.1];kernel_rfl
     clear hV hT hg HG2 HL2 HY HT HTE HS HR hp;generalize yz (ys[j]'hjy)=z at *;go_wp2_with (first|(refine wpList_load_mid rfl 46 (.tmp 36) (by with_reducible rfl) b (off+j*35+2) (by simp [aq]) (zc z) _ hra underlying46 rfl i33 ?_)|fail)
     refine CS.mono ?_;rintro e W1 ⟨a',n',c',rfl,hD⟩;have HD:Hid (Dl w W1 (.slice a' n' c') (apz zs (ys.take (j+1)))):=hD;clear CS hD hra i33 c0;go_wp2_with fail;go_roundw
     case rel=>exact ⟨j+1,a',n',c',by omega,by go_num,rfl,HD⟩
     case measure=>simp [intOf];omega
    ·have hp':(ys[j]'hjy).1.put=false:=by simpa using hp
     rw [hp'] at c0;have hT2:apz zs (ys.take (j+1))=del fk (ys[j]'hjy).1.name.data.toList (apz zs (ys.take j)):=by rw [hT,stz,if_neg hp]
     have HC1:Hid (∀ V,Below w.heap.size w V->V.cell? ⟨b,off+j*35+1,none⟩=some (.string (ys[j]'hjy).1.name)):=fun V hb=>(hV V hb).2.1;have HGM:=HG2.out j;have HLM:=HL2.out j;have HSM:=HS.out j;clear hV hT hg HG2 HL2 HY HT HTE HS hra hp;generalize (ys[j]'hjy).1.name=sn at *;obtain ⟨M,hM⟩:∃ M,apz zs (ys.take j)=M:=⟨_,rfl⟩;rw [hM] at hT2 HR HGM HLM HSM;clear hM;obtain ⟨L,hL⟩:∃ L,M.length=L:=⟨_,rfl⟩;have HNO:Hid ((∀ q (hq:q<M.length),fk (M[q]'hq)≠sn.data.toList)->apz zs (ys.take (j+1))=M):=fun h=>by rw [hT2];exact jjd h
     have HYE:Hid (∀ q (hq:q<M.length),fk (M[q]'hq)=sn.data.toList->apz zs (ys.take (j+1))=M.take q++M.drop (q+1)):=fun q hq e=>by rw [hT2,<-e];exact jje HSM hq
     have hlen:n=L:=by
      obtain ⟨_,_,e,-⟩:=HR.out.slice;simp only [ax.injEq] at e;rw [<-hL];exact e.2.1
     subst hlen;have HRD:Hid (∀ V,Dl w V (.slice a n c) M->∀ q (hq:q<M.length),(∃ b' off',a=some ⟨b',off',none⟩/\V.cell? ⟨b',off'+q*33,none⟩=some (.string (M[q]'hq).1.name)) /\
       ∃ s2a s2m s2c,(∀ X,(Instr.slice 37 (.slice a n c) none (some (.int .i64 (q:Int))) (some (.int .i64 (q:Int)))).run prog X=.ok (.slice a q q) X)/\(∀ X,(Instr.slice 37 (.slice a n c) (some (.int .i64 ((q:Int)+1))) none none).run prog X=.ok (.slice s2a s2m s2c) X) /\
       ∃ a3 n3 c3 X,(Builtin.append_ #[37,37] 37 #[.slice a q q,.slice s2a s2m s2c]).run prog V=.ok (.slice a3 n3 c3) X/\Below V.heap.size V X/\Dl w X (.slice a3 n3 c3) (M.take q++M.drop (q+1))):=by
      intro V hD q hq;have hl:∀ z∈M,TLen z.1:=fun z hz=>(HGM z hz).1;constructor
      ·obtain ⟨b',off',e1,hc⟩:=j7y (hD.rw hl) q (by rw [List.length_map];exact hq);refine ⟨b',off',e1,?_⟩;have:=hc 0 (.string (M[q]'hq).1.name) (by simp [List.getD,List.getElem?_eq_getElem hq];rfl);rw [Nat.add_zero] at this;exact this
      ·obtain ⟨a1,s1,p1,-,-,p4,-,c1,e1⟩:=j5r hD hl (k:=q) (by omega);simp only [ax.injEq] at e1;obtain ⟨rfl,-,-⟩:=e1;obtain ⟨a2,s2,-,p2,⟨x1,x2,x3,rfl⟩,-,p5,-⟩:=j5r hD hl (k:=q+1) (by omega);refine ⟨x1,x2,x3,p1,fun X=>?_,?_⟩
       ·have:=p2 X;rw [show (((q+1:Nat)):Int)=(q:Int)+1 by omega] at this;exact this
       ·exact jly hD hq hl (fun z hz=>j5z (HGM z hz)) HLM p4 p5
     clear hT2 HGM HSM;go_wp2_with fail
     go_loopw [5,8] (fun u5 u8 w'=>∃ q:Nat,q<=n/\u8=.int .i64 q/\u5=.slice a n c/\Hid (Dl w w' (.slice a n c) M/\∀ t (ht:t<M.length),t<q->fk (M[t]'ht)≠sn.data.toList)) (fun u5 u8 w'=>n-(intOf u8).toNat)
     case atStart=>exact ⟨0,Nat.zero_le _,rfl,rfl,HR.out,fun t _ h=>absurd h (by omega)⟩
     case round =>
      obtain ⟨q,hq,rfl,rfl,HQ⟩:=hrel;clear HR c0;by_cases hlt3:q<n
      rotate_left
      ·have h3:¬((q:Int)<n):=by omega
       have HD:Hid (Dl w wr (.slice a n c) (apz zs (ys.take (j+1)))):=by
        rw [HNO.out fun t ht=>HQ.out.2 t ht (by omega)];exact HQ.out.1
       clear HNO HYE HRD HQ HC1;go_wp2_with fail;go_roundw
       case rel=>exact ⟨j+1,a,n,c,by omega,by go_num,rfl,HD⟩
       case measure=>simp [intOf];omega
      have h3:(q:Int)<n:=by omega
      have hqM:q<M.length:=by omega
      have c1:=HC1.out _ HQ.out.1.below;obtain ⟨⟨b',off',rfl,cq⟩,s2a,s2m,s2c,p1,p2,-⟩:=HRD.out wr HQ.out.1 q hqM;by_cases he:fk (M[q]'hqM)=sn.data.toList
      ·have d1:=j2a (a:=(M[q]'hqM).1.name) (b:=sn) he;have HE:=HYE.out q hqM he;have HDR:Hid (∀ m,Dl w (wr.drewN m) (.slice (some ⟨b',off',none⟩) n c) M):=fun m=>HQ.out.1.after (Go.below_drewN (au _ _) m);clear HNO HYE HQ HC1 he p1 p2;generalize (M[q]'hqM).1.name=s1 at *;go_upto_region 14 with fail
       go_quiet (fail)
       go_upto_region 15 with fail;refine j5 (fun X=>Dl w X (.slice (some ⟨b',off',none⟩) n c) M) (by exact HDR.out _) ?_;intro V8 hD8;obtain ⟨-,s2a,s2m,s2c,p1,p2,a3,n3,c3,X2,hr2,hbx,hD⟩:=HRD.out V8.drew (hD8.after (au _ _).drew) q hqM;rw [<-HE] at hD;have HD:Hid (Dl w X2 (.slice a3 n3 c3) (apz zs (ys.take (j+1)))):=hD;have ew:a8.wrap ((q:Int)+1)=(q:Int)+1:=yu (by omega) (by omega);clear HRD HDR hD8 HE hD hbx cq c1 d1;refine wp_region_held_drew (S:=fun _=>True) (by kernel_rfl) trivial (fun hHeld=>?_);refine tkq 0 rfl (v:=?_) (a7 ⟨by rfl,?qay0⟩) ?_
       case qay0=>intro w hSw;(try dsimp only at hSw);go_simp;all_goals with_reducible rfl
       try simp only [sqx,ar]
       refine tkq 1 rfl (v:=?_) (a7 ⟨by rfl,?qay1⟩) ?_
       case qay1=>intro w hSw;(try dsimp only at hSw);go_simp;all_goals with_reducible rfl
       try simp only [sqx,ar]
       refine tkq 2 rfl (v:=?_) (a7 ⟨by rfl,?qay2⟩) ?_
       case qay2=>intro w hSw;(try dsimp only at hSw);go_simp;all_goals with_reducible rfl
       try simp only [sqx,ar]
       refine tkq 3 rfl (v:=?_) (a7 ⟨by rfl,?qay3⟩) ?_
       case qay3=>intro w hSw;(try dsimp only at hSw);go_simp;all_goals with_reducible rfl
       try simp only [sqx,ar]
       refine tkq 4 rfl (v:=?_) (a7 ⟨by rfl,?qay4⟩) ?_
       case qay4=>intro w hSw;(try dsimp only at hSw);go_simp;all_goals with_reducible rfl
       try simp only [sqx,ar]
       refine tkq 5 rfl (v:=?_) (a7 ⟨by rfl,?qay5⟩) ?_
       case qay5=>intro w hSw;(try dsimp only at hSw);go_simp;all_goals with_reducible rfl
       try simp only [sqx,ar]
       refine tkq 6 rfl (v:=?_) (a7 ⟨by rfl,?qay6⟩) ?_
       case qay6=>intro w hSw;(try dsimp only at hSw);go_simp;all_goals with_reducible rfl
       try simp only [sqx,ar]
       refine tkq 7 rfl (v:=?_) (a7 ⟨by rfl,?qay7⟩) ?_
       case qay7=>intro w hSw;(try dsimp only at hSw);go_simp;all_goals with_reducible rfl
       try simp only [sqx,ar]
       refine wpAnyH_ready (rs:=[8]) (by kernel_rfl) (by simp) ?_;refine av rfl (fun K hK=>?_) aw;refine jg rfl (.tmp 59) (.tmp 63) 37 37 rfl (by first|rfl|simp [aq]) (by first|rfl|simp [aq]) hr2 ?_;refine hK.out _ _ trivial (fun hHeld=>?_);clear hK K
       try simp only [sqx,ar]
       refine tkq 9 rfl (v:=?_) (a7 ⟨by rfl,?qazy9⟩) ?_
       case qazy9=>intro w hSw;(try dsimp only at hSw);go_simp;all_goals with_reducible rfl
       try simp only [sqx,ar]
       refine wpAnyH_done (by kernel_rfl) ?_ _;clear hr2 p1 p2 ew;go_wp2_with fail;go_roundw
       case rel=>exact ⟨j+1,a3,n3,c3,by omega,by go_num,rfl,HD⟩
       case measure=>simp [intOf];omega
      ·have d1:=j53 (a:=(M[q]'hqM).1.name) (b:=sn) he;have HF:Hid (∀ m,Dl w (wr.drewN m) (.slice (some ⟨b',off',none⟩) n c) M/\∀ t (ht:t<M.length),t<q+1->fk (M[t]'ht)≠sn.data.toList):=by
        intro m;refine ⟨HQ.out.1.after (Go.below_drewN (au _ _) m),fun t ht htq=>?_⟩;rcases Nat.lt_or_ge t q with h|h
        ·exact HQ.out.2 t ht h
        ·obtain rfl:t=q:=by omega
         exact he
       clear HNO HYE HRD HQ HC1 he p1 p2;generalize (M[q]'hqM).1.name=s1 at *;go_upto_region 14 with fail
       go_quiet (fail)
       go_wp2_with fail;go_roundw
       case rel=>exact ⟨q+1,by omega,by go_num,rfl,HF.out _⟩
       case measure=>simp [intOf];omega
end Df
end
section
open Go.RowKit Sm Cf Df Va
theorem qp {P:Program} {e:Array Oper} {rest:List Oper} {op:Oper} {a:Act} {Q:Exit->Act->World->Prop} (f:op.guard=none) (ty:TypeId) (x:Operand) (i:op.op=.load ty x)
 (b o:Nat) (hx:a.eval x=.pointer (some ⟨b,o,none⟩)) (A:Array Value) (cs:List Value) (d:TypeDesc) (hc:w.rangeAt b o cs) (j:Hid (cs.toArray=A))
 (g:P.underlying ty=some d) (hd:d.isRow=true) (hi:(P.info? ty).map (·.size)=some cs.length)
 (h:wpList P e Q rest (a.put op.dst (.agg A)) w):wpList P e Q (op::rest) a w:=by
 obtain rfl:=j.out;exact wpList_load_mid f ty x i b o hx cs d hc g hd hi h
abbrev mT:TypeId:=41
def mA (ver:Int) (c:Cgf) (u:Value) (t:Cgf) (ut:Value) (op:Bool):List Value:=.int .u64 ver::(cc c u++(cc t ut++[.bool op]))
abbrev bxM (pm:Nat) (ver:Int) (c:Cgf) (u:Value) (t:Cgf) (ut:Value) (op:Bool):Nat×Obj:=(pm,.cells (mA ver c u t ut op).toArray mT (0,0))
section
variable {ver:Int} {c t:Cgf} {u ut:Value} {op:Bool}
theorem jnx (b:CLen c) (a:CLen t):(mA ver c u t ut op).length=60:=by simp [mA,jc b,jc a]
theorem mA_C:∀ j x,(cc c u)[j]?=some x->(mA ver c u t ut op).toArray[1+j]?=some x:=by
 intro j x b;have a:=(ak.mp b).1;rw [al,Nat.add_comm,mA,ai,am a];exact b
theorem mA_T (b:CLen c):∀ j x,(cc t ut)[j]?=some x->(mA ver c u t ut op).toArray[30+j]?=some x:=by
 intro j x d;have a:=(ak.mp d).1;rw [al,show 30+j=(29+j)+1 by omega,mA,ai,an (by rw [jc b];omega),jc b,Nat.add_sub_cancel_left,am a];exact d
theorem jpp (b:CLen c) (a:CLen t):(mA ver c u t ut op).toArray[59]?=some (.bool op):=by
 rw [al,show 59=58+1 from rfl,mA,ai,an (by rw [jc b];omega),jc b,an (by rw [jc a];omega),jc a];rfl
theorem jpq (b:CLen c) (a:CLen t):(mA ver c u t ut op).toArray[58]?=some ut:=mA_T b 28 ut (by have:=j40 a ut;rwa [al] at this)
theorem jlb (b:CLen c) (a:CLen t) (q:Bool):(mA ver c u t ut op).toArray.setIfInBounds 59 (.bool q)=(mA ver c u t ut q).toArray:=by
 have e:∀ o,mA ver c u t ut o=(.int .u64 ver::(cc c u++cc t ut))++[.bool o]:=fun o=>by simp [mA]
 rw [e,e];simp [ao,jc b,jc a]
theorem jhd (d:CLen c) (b:CLen t) (v:Value) (ts:List Ten):(mA ver c u t ut op).toArray.setIfInBounds 58 v=(mA ver c u { t with ten:=ts } v op).toArray:=by
 have a:(cc t ut).set 28 v=cc t v:=by have:=congrArg Array.toList (j2j b ut v);simpa using this
 rw [List.setIfInBounds_toArray,show 58=57+1 from rfl,mA,List.set_cons_succ,ao _ _ (by rw [jc d];omega),jc d,List.set_append_left _ _ (by rw [jc b];omega),a];rfl
variable {w W:World} {pm:Nat} {L:List (Nat×Obj)}
theorem rm0 (a:Mem w W (bxM pm ver c u t ut op::L)):W.cell? ⟨pm,0,none⟩=some (.int .u64 ver):=by rw [a.cell 0 rfl];rfl
theorem rm59 (d:Mem w W (bxM pm ver c u t ut op::L)) (b:CLen c) (a:CLen t):W.cell? ⟨pm,59,none⟩=some (.bool op):=by rw [d.cell 0 rfl];exact jpp b a
theorem rm58 (d:Mem w W (bxM pm ver c u t ut op::L)) (b:CLen c) (a:CLen t):W.cell? ⟨pm,58,none⟩=some ut:=by rw [d.cell 0 rfl];exact jpq b a
theorem rmC (b:Mem w W (bxM pm ver c u t ut op::L)):W.rangeAt pm 1 (cc c u):=fun j x a=>by rw [b.cell 0 rfl];exact mA_C j x a
theorem rmT (d:Mem w W (bxM pm ver c u t ut op::L)) (a:CLen c):W.rangeAt pm 30 (cc t ut):=fun j x b=>by rw [d.cell 0 rfl];exact mA_T a j x b
theorem rmO (d:Mem w W (bxM pm ver c u t ut op::L)) (b:CLen c) (a:CLen t) (q:Bool):Mem w (W.setCell ⟨pm,59,none⟩ (.bool q)) (bxM pm ver c u t ut q::L):=by
 have h:=d.set 0 rfl 59 (.bool q);simp only [ap] at h;rw [jlb b a] at h;exact h
theorem rmU (d:Mem w W (bxM pm ver c u t ut op::L)) (b:CLen c) (a:CLen t) (v:Value) (ts:List Ten):Mem w (W.setCell ⟨pm,58,none⟩ v) (bxM pm ver c u { t with ten:=ts } v op::L):=by
 have h:=d.set 0 rfl 58 v;simp only [ap] at h;rw [jhd b a v ts] at h;exact h
theorem rmST (f:Mem w W (bxM pm ver c u t ut op::L)) (e:CLen c) (d:CLen t) {a:Cgf} (b:CLen a) (u2:Value):Mem w (W.setCells pm 30 (cc a u2)) (bxM pm ver c u a u2 op::L):=by
 have h:=j57 (post:=[ay op]) (cc a u2) (cc t ut) (az .u64 ver::cc c u) W (by rw [jc d,jc b]) (show Mem w W ((pm,.cells ((az .u64 ver::cc c u)++(cc t ut++[ay op])).toArray mT (0,0))::L) from f);rw [show (az .u64 ver::cc c u).length=30 by simp [jc e]] at h;exact h
theorem rmth (d:Mem w W (bxM pm ver c u t ut op::L)) (b:CLen c) (a:CLen t) {o n:Nat} (h:o+n<=60):W.there pm o n:=j38 d (by rw [ac,jnx b a];exact h)
theorem ccA {c:Cgf} (a:CLen c) (b:u.oneCell'=true):∃ A,Hid ((cc c u).toArray=A)/\A.size=29/\A.all (·.oneCell')=true/\(prog.info? 39).map (·.size)=some A.size/\(prog.info? 39).map (·.size)=some (cc c u).length:=by
 refine ⟨_,rfl,?_,zy c b,?_,?_⟩
 ·rw [ac];exact jc a _
 ·rw [ac,jc a];kernel_rfl
 ·rw [jc a];kernel_rfl
theorem jgl (hM:Mem w W (bxM pm ver c u t ut false::L)) (hl:CLen c) (ht:CLen t) (hu:u.oneCell'=true) :
 Calls prog 27 #[.pointer (some ⟨pm,0,none⟩),.int .u64 ver] W fun e W'=>e=.returned (.int .i64 0)/\Mem w W' (bxM pm ver c u c u true::L):=by
 have c0:=rm0 hM;have c59:=rm59 hM hl ht;have f59:=hM.free 0 rfl 59;have hra:=rmC hM;obtain ⟨A,HA,hsz,hone,i29,j29⟩:=ccA hl hu;have hM1:=rmO hM hl ht true;have hth:(W.setCell ⟨pm,59,none⟩ (.bool true)).there pm 30 A.size:=rmth hM1 hl ht (by omega);have HM:Hid (Mem w ((W.setCell ⟨pm,59,none⟩ (.bool true)).setCells pm 30 A.toList) (bxM pm ver c u c u true::L)):=by
  rw [<-HA.out];exact rmST hM1 hl ht hl u
 have hv:(ver != ver)=false:=by simp
 clear hM hM1;generalize hcl:cc c u=cl at hra HA j29;clear hcl;go_enter func27,ntmps27;go_wp2_with (first|(refine qp rfl 39 (.tmp 19) (by with_reducible rfl) pm 1 (by simp [aq]) A cl _ hra HA underlying39 rfl j29 ?_)|(refine wpList_store_mid rfl 39 (.tmp 24) (.tmp 20) (by with_reducible rfl) pm 30 A (by first|rfl|simp [aq]) (by first|rfl|simp [aq]) hth i29 hone ?_)|fail)
 go_ret;exact ⟨rfl,HM.out⟩
theorem cz1:(cz:Array Value).all (·.oneCell')=true:=by kernel_rfl
theorem jbe (hM:Mem w W (bxM pm ver c u t ut true::L)) (hl:CLen c) (ht:CLen t) (hut:∃ a n m,ut=.slice a n m) {c2:Cgf} (hl2:CLen c2) (hu2:u2.oneCell'=true) :
 Calls prog 28 #[.pointer (some ⟨pm,0,none⟩),.agg (cc c2 u2).toArray] W fun e W'=>e=.returned (.int .i64 0)/\Mem w W' (bxM pm ver c u { c2 with ten:=t.ten } ut true::L):=by
 obtain ⟨sa,sn,sm,rfl⟩:=hut;obtain ⟨g0,hg0⟩:∃ g,W.heap.size=g:=⟨_,rfl⟩;obtain ⟨A,HA,hsz,hone,i29,j29⟩:=ccA hl2 hu2;have hM1:Mem w (W.alloc (.cells A 39)) ((g0,.cells A 39)::bxM pm ver c u t (.slice sa sn sm) true::L):=hM.front _ hg0.symm;have hM1':=hM1.sub;have c59:=rm59 hM1' hl ht;have c58:=rm58 hM1' hl ht;have HM1:Hid (Mem w (W.alloc (.cells A 39)) ((g0,.cells A 39)::bxM pm ver c u t (.slice sa sn sm) true::L)):=hM1;rw [HA.out];clear hM hM1 hM1';go_enter func28,ntmps28;go_upto_region 4 with fail;refine j5 (fun X=>Mem w X ((g0,.cells A 39)::bxM pm ver c u t (.slice sa sn sm) true::L)) (by exact HM1.out) ?_;intro V hM
 try simp only [hg0]
 clear HM1 c59 c58 hg0;have k0:=hM.get 0 rfl;have hth:V.there pm 30 A.size:=rmth hM.sub hl ht (by omega);have hM2:=rmST hM.sub hl ht hl2 u2;have e2:cc c2 u2=A.toList:=by rw [<-HA.out]
 rw [e2] at hM2;have c58:=rm58 hM2 hl hl2;have f58:=hM2.free 0 rfl 58;have HM3:Hid (Mem w ((V.setCells pm 30 A.toList).setCell ⟨pm,58,none⟩ (.slice sa sn sm)) (bxM pm ver c u { c2 with ten:=t.ten } (.slice sa sn sm) true::L)):=rmU hM2 hl hl2 (.slice sa sn sm) t.ten;clear hM hM2 e2;go_wp2_with (first|(refine wpList_load_row rfl 39 (.tmp 3) (by with_reducible rfl) g0 (by first|rfl|simp [aq]) 39 A (0,0) _ k0 underlying39 rfl i29 ?_)|(refine wpList_store_mid rfl 39 (.tmp 19) (.tmp 17) (by with_reducible rfl) pm 30 A (by first|rfl|simp [aq]) (by first|rfl|simp [aq]) hth i29 hone ?_)|fail)
 go_ret;exact ⟨rfl,HM3.out⟩
end
end
section
open Go.RowKit La Ad
end
end Go.Proofs.YtdigofgjhaakmaaGreatDoor
