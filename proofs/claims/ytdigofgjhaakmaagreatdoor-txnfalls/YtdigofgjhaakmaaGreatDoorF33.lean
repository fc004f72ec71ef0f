/- Parts of the proof. -/
import Derived.Test.YtdigofgjhaakmaaGreatDoorF32
set_option linter.all false
set_option maxHeartbeats 40000000
set_option maxRecDepth 20000
open Go.Proofs.Tryz
open List renaming getD->aa,mem_iff_getElem->ab,getElem?_eq_getElem->ac,size_toArray->ad,length_map->ae,length_nil->af,perm_iff_count->ag,count_append->ah,count_cons->ai,count_nil->aj,set_cons_succ->ak,set_cons_zero->al
open Or renaming inl->am
open Bool renaming eq_false_iff->an,true_or->ao,false_or->ap
open Nat renaming add_zero->aq,zero_le->ar,lt_or_ge->au,le_refl->av,zero_add->aw
open Go.Act renaming eval->ax,put->ay
open Go renaming below_drewN->az
open Go.RowKit.Below renaming refl->aA
open Go.AllReadyH renaming cons->aB,nil->aD
open Go.Builtin renaming append_->aE
open Array renaming getElem?_eq_getElem->aF
namespace Go.Proofs.YtdigofgjhaakmaaGreatDoor
variable {v:Value} {gs i gb g4 o:Nat} {w W V:World} {l:List Int} {x R:Int}
section
open Go.RowKit Va
namespace Va
theorem take_at {ts:List Ten} {k:Nat} (a:k<i):(ts.take i).getD k ten0=ts.getD k ten0:=by simp [aa,a]
theorem j3f {ts:List Ten} {f:Ten->Bool} (hi:i<=ts.length):(ts.take i).any f=true ↔ ∃ k,k<i/\f (ts.getD k ten0)=true:=by
 have d:(ts.take i).length=i:=by simp;omega
 rw [List.any_eq_true];constructor
 ·rintro ⟨x,hx,b⟩;obtain ⟨k,c,rfl⟩:=ab.mp hx;have a:k<i:=by omega
  refine ⟨k,a,?_⟩;have e:(ts.take i)[k]=ts.getD k ten0:=by simp [aa,ac (show k<ts.length by omega)]
  rwa [<-e]
 ·rintro ⟨k,c,b⟩;refine ⟨ts.getD k ten0,?_,b⟩;have e:(ts.take i)[k]'(by omega)=ts.getD k ten0:=by simp [aa,ac (show k<ts.length by omega)]
  rw [<-e];exact List.getElem_mem _
theorem jg3:x∈l ↔ ∃ j,j<l.length/\l.getD j 0=x:=by
 constructor
 ·intro h;obtain ⟨j,a,rfl⟩:=ab.mp h;exact ⟨j,a,by simp [aa,ac a]⟩
 ·rintro ⟨j,a,rfl⟩;simp [aa,ac a]
theorem jnh {c:Cgf} (hi:i<c.ten.length) (a:q9 c i (c.ten.length-i)=R) :
  (tchk (c.ten.getD i ten0)≠0->R=tchk (c.ten.getD i ten0))/\(tchk (c.ten.getD i ten0)=0->((decide (i=0) || lss (c.ten.getD (i-1) ten0).name (c.ten.getD i ten0).name)=false->R=90)/\((decide (i=0) || lss (c.ten.getD (i-1) ten0).name (c.ten.getD i ten0).name)=true ->
   (∀ k,k<i->((c.ten.getD k ten0).vni==(c.ten.getD i ten0).vni)=true->R=91)/\((∀ k,k<i->((c.ten.getD k ten0).vni==(c.ten.getD i ten0).vni)=false) ->
    (∀ j,j<((c.ten.getD i ten0).pool++snd' (c.ten.getD i ten0).stat).length->(((c.ten.getD i ten0).pool++snd' (c.ten.getD i ten0).stat).getD j 0==c.ip)=true->R=92)/\(∀ j k,j<((c.ten.getD i ten0).pool++snd' (c.ten.getD i ten0).stat).length->k<i->owns (c.ten.getD k ten0) (((c.ten.getD i ten0).pool++snd' (c.ten.getD i ten0).stat).getD j 0)=true->R=92) /\
    ((∀ j,j<((c.ten.getD i ten0).pool++snd' (c.ten.getD i ten0).stat).length->(((c.ten.getD i ten0).pool++snd' (c.ten.getD i ten0).stat).getD j 0==c.ip)=false/\∀ k,k<i->owns (c.ten.getD k ten0) (((c.ten.getD i ten0).pool++snd' (c.ten.getD i ten0).stat).getD j 0)=false)->q9 c (i+1) (c.ten.length-(i+1))=R)))):=by
 have t:(c.ten.take i).length=i:=by simp;omega
 have e:c.ten.length-i=c.ten.length-(i+1)+1:=by omega
 rw [e,j0w] at a;have b:pchk c i=fnz [tchk (c.ten.getD i ten0),ul 90 (decide (i=0) || lss (c.ten.getD (i-1) ten0).name (c.ten.getD i ten0).name),wn 91 ((c.ten.take i).any (fun o=>o.vni==(c.ten.getD i ten0).vni)),wn 92 (ow1 (c.ten.getD i ten0) (fun x=>x==c.ip || (c.ten.take i).any (fun o=>owns o x)))]:=by
  unfold pchk Va.prs;have q:(c.ten.take i).getD ((c.ten.take i).length-1) ten0=c.ten.getD (i-1) ten0\/i=0:=by
   rw [t];by_cases h:i=0
   ·exact Or.inr h
   ·exact am (take_at (by omega))
  have A:((c.ten.take i).length==0)=decide (i=0):=by rw [t];rfl
  rw [A];rcases q with q|q
  ·rw [q]
  ·subst q;simp
 refine ⟨fun m=>?_,fun m=>⟨fun r=>?_,fun r=>⟨fun k d s=>?_,fun s=>?_⟩⟩⟩
 ·rw [b,j5c m,if_neg m] at a;exact a.symm
 ·rw [b,j0d m,r,j5c (show ul 90 false≠0 by decide),if_neg (show ul 90 false≠0 by decide)] at a;exact a.symm
 ·rw [b,j0d m,r,j0d (show ul 90 true=0 from rfl),(j3f (by omega)).mpr ⟨k,d,s⟩,j5c (show wn 91 true≠0 by decide),if_neg (show wn 91 true≠0 by decide)] at a;exact a.symm
 ·have z:(c.ten.take i).any (fun o=>o.vni==(c.ten.getD i ten0).vni)=false:=by
   rw [an];intro h;obtain ⟨k,d,p⟩:=(j3f (by omega)).mp h;rw [s k d] at p;cases p
  rw [b,j0d m,r,j0d (show ul 90 true=0 from rfl),z,j0d (show wn 91 false=0 from rfl)] at a;have key:ow1 (c.ten.getD i ten0) (fun x=>x==c.ip || (c.ten.take i).any (fun o=>owns o x))=true->R=92:=by
   intro h;rw [h,j5c (show wn 92 true≠0 by decide),if_neg (show wn 92 true≠0 by decide)] at a;exact a.symm
  refine ⟨fun j f g=>key (j40.mpr ⟨_,jg3.mpr ⟨j,f,rfl⟩,by rw [g,ao]⟩),fun j k f d g=>key (j40.mpr ⟨_,jg3.mpr ⟨j,f,rfl⟩,by rw [(j3f (by omega)).mpr ⟨k,d,g⟩,Bool.or_true]⟩),fun g=>?_⟩;have y:ow1 (c.ten.getD i ten0) (fun x=>x==c.ip || (c.ten.take i).any (fun o=>owns o x))=false:=by
   rw [an];intro h;obtain ⟨x,hx,u⟩:=j40.mp h;obtain ⟨j,f,rfl⟩:=jg3.mp hx;rw [(g j f).1,ap] at u;obtain ⟨k,d,p⟩:=(j3f (by omega)).mp u;rw [(g j f).2 k d] at p;cases p
  rw [y,j0d (show wn 92 false=0 from rfl),jol,if_pos rfl] at a;exact a
end Va
theorem jd2 {c:Cgf} (hv:Vs W) (h:CV W v c) (hl:c.ten.length<=1000000) (hm:∀ t∈c.ten,TSm t) (h0:∀ t∈c.ten,0<=t.vni) :
  Calls prog 33 #[v] W fun e V=>e=.returned (.int .i64 (chk c))/\Below W.heap.size W V:=by
 obtain ⟨cl,ta,tp,rfl,hx⟩:=h.tb;obtain ⟨g,hg⟩:∃ g,W.heap.size=g:=⟨_,rfl⟩;have f9:Hid (Mem W (W.alloc (.cells cl.toArray 39)) [(g,.cells cl.toArray 39)]):=(Mem.nil W).push1 hg.symm;obtain ⟨a',c',e,i5,m2,hp⟩:=hx.ts.parts;simp only [Value.slice.injEq] at e;obtain ⟨rfl,-,rfl⟩:=e;obtain ⟨A,hA⟩:∃ A,cl.toArray=A:=⟨_,rfl⟩;have HT:Hid (∀ X,Below W.heap.size W X->X.heap[g]?=some (.cells A 39)->X.cell? ⟨g,0,none⟩=some (.int .u32 c.ip)/\X.cell? ⟨g,27,none⟩=some (.int .u32 c.drain)/\X.cell? ⟨g,28,none⟩=some (.slice ta c.ten.length tp)):=by
  intro X Y I;rw [<-hA] at I;exact ⟨jb I hx.ip,jb I hx.drain,jb I hx.ten⟩
 have HP:Hid (∀ k,k<c.ten.length->∃ b d x,ta=some ⟨b,d,none⟩/\x.length=33/\x.toArray.all (·.oneCell')=true/\TSm (c.ten.getD k ten0)/\0<=(c.ten.getD k ten0).vni/\∀ X,Below W.heap.size W X->X.rangeAt b (d+k*33) x/\TV X (.agg x.toArray) (c.ten.getD k ten0)/\X.cell? ⟨b,d+k*33,none⟩=some (.string (c.ten.getD k ten0).name)/\X.cell? ⟨b,d+k*33+1,none⟩=some (.int .u32 (c.ten.getD k ten0).vni)):=by
  intro k I;obtain ⟨b,d,x,h1,h2,h3,h4⟩:=hp k I;have d3:(c.ten.getD k ten0)∈c.ten:=by simp [aa,ac I]
  refine ⟨b,d,x,h1,h2,h3,hm _ d3,h0 _ d3,fun X Y=>?_⟩;obtain ⟨r1,r2⟩:=h4 X Y;obtain ⟨ol,_,_,_,_,_,_,ex,ho⟩:=r2.tb;have b0:x=ol:=by simpa using ex
  refine ⟨r1,r2,?_,?_⟩
  ·have:=r1 0 _ (by rw [b0];exact ho.name);rwa [aq] at this
  ·exact r1 1 _ (by rw [b0];exact ho.vni)
 obtain ⟨R,hR⟩:∃ R,chk c=R:=⟨_,rfl⟩;rw [hR];have HG:Hid ((c.ip=0->R=96)/\(1000<c.drain->R=96)/\((16:Int)<c.ten.length->R=96)/\(c.ip≠0->c.drain<=1000->(c.ten.length:Int)<=16->q9 c 0 (c.ten.length-0)=R)):=by
  have h9:chk c=if fnz (grs c)=0 then q9 c 0 c.ten.length else fnz (grs c):=rfl
  have b6:grs c=[ul 96 (c.ip != 0),ul 96 (decide (c.drain<=1000)),ul 96 (decide ((c.ten.length:Int)<=16))]:=rfl;have key:fnz (grs c)=96->R=96:=fun h=>by rw [<-hR,h9,h];rfl
  have d5:∀ b:Bool,ul 96 b=0\/ul 96 b=96:=fun b=>by cases b<;>simp [ul]
  refine ⟨fun h=>key ?_,fun h=>key ?_,fun h=>key ?_,fun a1 a2 a3=>?_⟩
  ·rw [b6,h];rfl
  ·rw [b6,decide_eq_false (show ¬c.drain<=1000 by omega)];rcases d5 (c.ip != 0) with q|q<;>simp [fnz,q,ul]
  ·rw [b6,decide_eq_false (show ¬(c.ten.length:Int)<=16 by omega)];rcases d5 (c.ip != 0) with q|q<;>rcases d5 (decide (c.drain<=1000)) with q2|q2<;>simp [fnz,q,q2]<;>simp [ul]
  ·rw [<-hR,h9,b6,decide_eq_true a2,decide_eq_true a3,if_pos (by simp [fnz,ul,a1])];rfl
 have HE:Hid (q9 c c.ten.length (c.ten.length-c.ten.length)=R->R=0):=by
  intro h;rw [<-h,Nat.sub_self];rfl
 have HQ:Hid (∀ i,i<c.ten.length->q9 c i (c.ten.length-i)=R->(tchk (c.ten.getD i ten0)≠0->R=tchk (c.ten.getD i ten0))/\(tchk (c.ten.getD i ten0)=0->((decide (i=0) || lss (c.ten.getD (i-1) ten0).name (c.ten.getD i ten0).name)=false->R=90)/\((decide (i=0) || lss (c.ten.getD (i-1) ten0).name (c.ten.getD i ten0).name)=true ->
   (∀ k,k<i->((c.ten.getD k ten0).vni==(c.ten.getD i ten0).vni)=true->R=91)/\((∀ k,k<i->((c.ten.getD k ten0).vni==(c.ten.getD i ten0).vni)=false) ->
    (∀ j,j<((c.ten.getD i ten0).pool++snd' (c.ten.getD i ten0).stat).length->(((c.ten.getD i ten0).pool++snd' (c.ten.getD i ten0).stat).getD j 0==c.ip)=true->R=92)/\(∀ j k,j<((c.ten.getD i ten0).pool++snd' (c.ten.getD i ten0).stat).length->k<i->owns (c.ten.getD k ten0) (((c.ten.getD i ten0).pool++snd' (c.ten.getD i ten0).stat).getD j 0)=true->R=92) /\
    ((∀ j,j<((c.ten.getD i ten0).pool++snd' (c.ten.getD i ten0).stat).length->(((c.ten.getD i ten0).pool++snd' (c.ten.getD i ten0).stat).getD j 0==c.ip)=false/\∀ k,k<i->owns (c.ten.getD k ten0) (((c.ten.getD i ten0).pool++snd' (c.ten.getD i ten0).stat).getD j 0)=false)->q9 c (i+1) (c.ten.length-(i+1))=R))))):=fun i hi h=>jnh hi h
 have HV:Hid (Vs W):=hv;rw [hA] at f9 ⊢;clear hR hv h hm h0 hx hp hA;obtain ⟨N,hN⟩:∃ N,c.ten.length=N:=⟨_,rfl⟩;rw [hN] at HT HP HG HE HQ hl i5;clear hN;obtain ⟨F,h7⟩:∃ x,c.ip=x:=⟨_,rfl⟩;obtain ⟨dr,h8⟩:∃ x,c.drain=x:=⟨_,rfl⟩;rw [h7] at HT HG HQ;rw [h8] at HT HG;clear h7 h8;go_enter func33,ntmps33;go_upto_region 1 with fail;refine j5 (fun X=>Mem W X [(g,.cells A 39)]) (by exact f9.out) ?_;intro V O
 try simp only [hg]
 clear f9 hg;obtain ⟨c0,e0,d9⟩:=HT.out V O.below (O.get 0 rfl);have HM:Hid (Mem W V [(g,.cells A 39)]):=O;clear O;by_cases q1:F=0
 ·obtain rfl:=HG.out.1 q1;subst q1;clear HT HP HG HE HQ HV;go_wp2_with fail;go_ret;exact ⟨rfl,HM.out.below⟩
 have e1:(F==0)=false:=by simp [q1]
 by_cases q2:1000<dr
 ·obtain rfl:=HG.out.2.1 q2;have e2:decide (1000<dr)=true:=decide_eq_true q2;clear HT HP HG HE HQ HV q1;go_wp2_with fail;go_ret;exact ⟨rfl,HM.out.below⟩
 have e2:decide (1000<dr)=false:=decide_eq_false q2;by_cases q3:(16:Int)<N
 ·obtain rfl:=HG.out.2.2.1 q3;have e3:decide ((16:Int)<N)=true:=decide_eq_true q3;clear HT HP HG HE HQ HV q1;go_wp2_with fail;go_ret;exact ⟨rfl,HM.out.below⟩
 have e3:decide ((16:Int)<N)=false:=decide_eq_false q3;have H0:Hid (q9 c 0 (N-0)=R/\Mem W V [(g,.cells A 39)]):=⟨HG.out.2.2.2 q1 (by omega) (by omega),HM.out⟩;clear HG q1 q2 q3 HM;go_wp2_with fail
 go_loopw [3] (fun u3 w'=>∃ i:Nat,i<=N/\u3=.int .i64 i/\Hid (q9 c i (N-i)=R/\Mem W w' [(g,.cells A 39)])) (fun u3 w'=>N-(intOf u3).toNat)
 case atStart=>exact ⟨0,ar _,rfl,H0⟩
 case round =>
 obtain ⟨i,hi,rfl,HR⟩:=hrel;clear c0 e0 d9;obtain ⟨c0,e0,d9⟩:=HT.out wr HR.out.2.below (HR.out.2.get 0 rfl);by_cases hlt:i<N
 rotate_left
 ·have h1:¬((i:Int)<N):=by omega
  obtain rfl:i=N:=by omega
  obtain rfl:=HE.out HR.out.1;have J:Hid (Below W.heap.size W wr):=HR.out.2.below;clear HT HP HE HQ HV HR H0;go_wp2_with fail;go_ret;exact ⟨rfl,J.out⟩
 have h1:(i:Int)<N:=by omega
 obtain ⟨b,d,x,rfl,d6,d2,g6,g5,Y⟩:=HP.out i hlt;have s:=HQ.out i hlt HR.out.1;obtain ⟨g8,M,-,-⟩:=Y wr HR.out.2.below;have d4:(prog.info? 46).map (·.size)=some x.length:=by rw [d6];kernel_rfl
 have a8:(prog.info? 46).map (·.size)=some x.toArray.size:=by rw [ad,d6];kernel_rfl
 have c9:tz14.size=x.toArray.size:=by rw [show x.toArray.size=33 by rw [ad];exact d6];rfl
 obtain ⟨gt,U⟩:∃ g,wr.heap.size=g:=⟨_,rfl⟩;have g9:(wr.alloc (.cells tz14 46)).heap[gt]?=some (.cells tz14 46):=by rw [<-U];exact heap_alloc_new _ _
 have ew:(wr.alloc (.cells tz14 46)).setRow gt x.toArray=wr.alloc (.cells x.toArray 46):=by rw [<-U];exact World.setRow_alloc_new wr tz14 x.toArray 46
 have HF:Hid (Mem W ((wr.alloc (.cells tz14 46)).setRow gt x.toArray) [(gt,.cells x.toArray 46),(g,.cells A 39)]):=by rw [ew];exact HR.out.2.front _ U.symm
 have J:Hid (∀ X,Mem W X [(gt,.cells x.toArray 46),(g,.cells A 39)]->X.heap[gt]?=some (.cells x.toArray 46)/\TV X (.agg x.toArray) (c.ten.getD i ten0)/\X.cell? ⟨gt,0,none⟩=some (.string (c.ten.getD i ten0).name)/\X.cell? ⟨gt,1,none⟩=some (.int .u32 (c.ten.getD i ten0).vni)/\X.cell? ⟨g,0,none⟩=some (.int .u32 F)/\X.cell? ⟨g,28,none⟩=some (.slice (some ⟨b,d,none⟩) N tp)/\Vs X):=by
  intro X O;have r2:=(Y X O.below).2.1;obtain ⟨ol,_,_,_,_,_,_,ex,ho⟩:=r2.tb;have b0:x=ol:=by simpa using ex
  have I:=O.get 0 rfl;obtain ⟨d0,-,b8⟩:=HT.out X O.below (O.get 1 rfl);exact ⟨I,r2,jb I (by rw [b0];exact ho.name),jb I (by rw [b0];exact ho.vni),d0,b8,HV.out.below O.below⟩
 have D:Hid (∀ k,k<N->∃ T,T.length=33/\TSm (c.ten.getD k ten0)/\∀ X,Below W.heap.size W X->X.rangeAt b (d+k*33) T/\TV X (.agg T.toArray) (c.ten.getD k ten0)/\X.cell? ⟨b,d+k*33,none⟩=some (.string (c.ten.getD k ten0).name)/\X.cell? ⟨b,d+k*33+1,none⟩=some (.int .u32 (c.ten.getD k ten0).vni)):=by
  intro k I;obtain ⟨b',a7,T,e,k1,k2,k3,k4,k5⟩:=HP.out k I;cases e;exact ⟨T,k1,k3,k5⟩
 have G:Hid (TSm (c.ten.getD i ten0)/\0<=(c.ten.getD i ten0).vni):=⟨g6,g5⟩;have c2:Hid (tchk (c.ten.getD i ten0)≠0->R=tchk (c.ten.getD i ten0)):=s.1;have c1:Hid (tchk (c.ten.getD i ten0)=0->((decide (i=0) || lss (c.ten.getD (i-1) ten0).name (c.ten.getD i ten0).name)=false->R=90)/\((decide (i=0) || lss (c.ten.getD (i-1) ten0).name (c.ten.getD i ten0).name)=true ->
   (∀ k,k<i->((c.ten.getD k ten0).vni==(c.ten.getD i ten0).vni)=true->R=91)/\((∀ k,k<i->((c.ten.getD k ten0).vni==(c.ten.getD i ten0).vni)=false) ->
    (∀ j,j<((c.ten.getD i ten0).pool++snd' (c.ten.getD i ten0).stat).length->(((c.ten.getD i ten0).pool++snd' (c.ten.getD i ten0).stat).getD j 0==F)=true->R=92)/\(∀ j k,j<((c.ten.getD i ten0).pool++snd' (c.ten.getD i ten0).stat).length->k<i->owns (c.ten.getD k ten0) (((c.ten.getD i ten0).pool++snd' (c.ten.getD i ten0).stat).getD j 0)=true->R=92) /\
    ((∀ j,j<((c.ten.getD i ten0).pool++snd' (c.ten.getD i ten0).stat).length->(((c.ten.getD i ten0).pool++snd' (c.ten.getD i ten0).stat).getD j 0==F)=false/\∀ k,k<i->owns (c.ten.getD k ten0) (((c.ten.getD i ten0).pool++snd' (c.ten.getD i ten0).stat).getD j 0)=false)->q9 c (i+1) (N-(i+1))=R)))):=s.2
 clear Y g6 g5 M s ew HP HQ HV H0 HR HE HT e0;go_upto_region 7 with (first|(refine wpList_load_mid rfl 46 (.tmp 34) (by with_reducible rfl) b (d+i*33) (by simp [ax]) x _ g8 underlying46 rfl d4 ?_)|(refine wpList_store_row rfl 46 (.tmp 4) (.tmp 35) (by with_reducible rfl) gt x.toArray (by simp [ax];try exact U) (by first|rfl|simp [ax]) 46 tz14 g9 a8 c9 d2 ?_)|fail)
 refine j5 (fun X=>Mem W X [(gt,.cells x.toArray 46),(g,.cells A 39)]) (by exact HF.out) ?_;intro V1 d8
 try simp only [U]
 clear HF U g9 g8 d4 c9 d2 c0 d9;obtain ⟨k1,M,n0,v0,-,-,g3⟩:=J.out V1 d8;have C:=j61 g3 M G.out.1 G.out.2;have i4:Hid (Mem W V1 [(gt,.cells x.toArray 46),(g,.cells A 39)]):=d8;clear d8 M g3;obtain ⟨E,hE⟩:∃ E,tchk (c.ten.getD i ten0)=E:=⟨_,rfl⟩;rw [hE] at C c2 c1;clear hE;go_wp2_with (refine wpList_load_row rfl 46 (.tmp 4) (by with_reducible rfl) gt (by first|rfl|simp [ax]) 46 x.toArray (0,0) _ k1 underlying46 rfl a8 ?_)
 refine C.mono ?_;rintro _ V2 ⟨rfl,hb⟩;have a6:Hid (Mem W V2 [(gt,.cells x.toArray 46),(g,.cells A 39)]):=i4.out.after hb;clear hb C i4 k1 n0 v0;by_cases qE:E=0
 rotate_left
 ·obtain rfl:=c2.out qE;have e4:(R != 0)=true:=by simp [qE]
  clear c2 c1 J D G;go_wp2_with fail;go_ret;exact ⟨rfl,a6.out.below⟩
 have s:=c1.out qE;have b5:Hid ((decide (i=0) || lss (c.ten.getD (i-1) ten0).name (c.ten.getD i ten0).name)=false->R=90):=s.1;have b4:Hid ((decide (i=0) || lss (c.ten.getD (i-1) ten0).name (c.ten.getD i ten0).name)=true ->
   (∀ k,k<i->((c.ten.getD k ten0).vni==(c.ten.getD i ten0).vni)=true->R=91)/\((∀ k,k<i->((c.ten.getD k ten0).vni==(c.ten.getD i ten0).vni)=false) ->
    (∀ j,j<((c.ten.getD i ten0).pool++snd' (c.ten.getD i ten0).stat).length->(((c.ten.getD i ten0).pool++snd' (c.ten.getD i ten0).stat).getD j 0==F)=true->R=92)/\(∀ j k,j<((c.ten.getD i ten0).pool++snd' (c.ten.getD i ten0).stat).length->k<i->owns (c.ten.getD k ten0) (((c.ten.getD i ten0).pool++snd' (c.ten.getD i ten0).stat).getD j 0)=true->R=92) /\
    ((∀ j,j<((c.ten.getD i ten0).pool++snd' (c.ten.getD i ten0).stat).length->(((c.ten.getD i ten0).pool++snd' (c.ten.getD i ten0).stat).getD j 0==F)=false/\∀ k,k<i->owns (c.ten.getD k ten0) (((c.ten.getD i ten0).pool++snd' (c.ten.getD i ten0).stat).getD j 0)=false)->q9 c (i+1) (N-(i+1))=R))):=s.2
 clear s c2 c1;subst qE;obtain ⟨-,-,n0,v0,d0,b8,-⟩:=J.out V2 a6.out;obtain ⟨b1,b7⟩:∃ B,(decide (i=0) || lss (c.ten.getD (i-1) ten0).name (c.ten.getD i ten0).name)=B:=⟨_,rfl⟩;rw [b7] at b5 b4;have c3:Hid (i=0->b1=true):=fun h=>by rw [<-b7,decide_eq_true h,ao]
 have H:Hid (0<i->∃ s1 s2:ByteArray,(c.ten.getD i ten0).name=s1/\V2.cell? ⟨b,d+(i-1)*33,none⟩=some (.string s2)/\(Op.bytesLess s1.toList s2.toList || (s1.toList==s2.toList))=!b1):=by
  intro h;obtain ⟨T,-,-,k5⟩:=D.out (i-1) (by omega);refine ⟨_,_,rfl,(k5 V2 a6.out.below).2.2.1,?_⟩;rw [jbw,<-b7,decide_eq_false (by omega),ap];rfl
 clear b7;go_upto_region 10 with fail
 go_cut [54] from 24 to 98 (fun u54 w'=>u54=.bool (!b1)/\Hid (∃ q,w'=V2.drewN q))
 case first =>
  clear b5 b4 J D G a6;by_cases qi:i=0
  ·obtain rfl:=c3.out qi;subst qi;clear c3 H
   go_quiet (fail)
   go_wp2_with fail;go_meet
   case rel=>exact ⟨rfl,_,rfl⟩
  ·obtain ⟨s1,s2,e4,d1,e5⟩:=H.out (by omega);rw [e4] at n0;have e6:decide (0<(i:Int))=true:=decide_eq_true (by omega);have e7:IntKind.i64.wrap ((i:Int)-1)=((i-1:Nat):Int):=by rw [wrap64 (by omega) (by omega)];omega
   have h2:((i-1:Nat):Int)<N:=by omega
   have i9:0<(i:Int):=by omega
   have d7:0<i:=by omega
   have e8:decide (0<i)=true:=decide_eq_true d7;clear c3 H e4;generalize i-1=m at *;have i8:Hid ((Op.bytesLess s1.toList s2.toList || (s1.toList==s2.toList))=!b1):=e5;clear e5
   go_quiet (fail)
   go_wp2_with fail;go_meet
   case rel=>exact ⟨by rw [<-i8.out],_,rfl⟩
 case rest =>
 obtain ⟨rfl,HD⟩:=hcut;have f8:Hid (Mem W wc [(gt,.cells x.toArray 46),(g,.cells A 39)]):=by obtain ⟨q,s⟩:=HD.out;rw [s];exact a6.out.drewN q
 clear HD c3 H a6 n0 v0 d0 b8;cases b1 with
 | false =>
  obtain rfl:=b5.out rfl;clear b5 b4 J D G;go_wp2_with fail;go_ret;exact ⟨rfl,f8.out.below⟩
 | true =>
 have s:=b4.out rfl;have f4:Hid (∀ k,k<i->((c.ten.getD k ten0).vni==(c.ten.getD i ten0).vni)=true->R=91):=s.1;have f3:Hid ((∀ k,k<i->((c.ten.getD k ten0).vni==(c.ten.getD i ten0).vni)=false) ->
    (∀ j,j<((c.ten.getD i ten0).pool++snd' (c.ten.getD i ten0).stat).length->(((c.ten.getD i ten0).pool++snd' (c.ten.getD i ten0).stat).getD j 0==F)=true->R=92)/\(∀ j k,j<((c.ten.getD i ten0).pool++snd' (c.ten.getD i ten0).stat).length->k<i->owns (c.ten.getD k ten0) (((c.ten.getD i ten0).pool++snd' (c.ten.getD i ten0).stat).getD j 0)=true->R=92) /\
    ((∀ j,j<((c.ten.getD i ten0).pool++snd' (c.ten.getD i ten0).stat).length->(((c.ten.getD i ten0).pool++snd' (c.ten.getD i ten0).stat).getD j 0==F)=false/\∀ k,k<i->owns (c.ten.getD k ten0) (((c.ten.getD i ten0).pool++snd' (c.ten.getD i ten0).stat).getD j 0)=false)->q9 c (i+1) (N-(i+1))=R)):=s.2
 clear s b5 b4;have HI:Hid ((∀ k,k<0->((c.ten.getD k ten0).vni==(c.ten.getD i ten0).vni)=false)/\Mem W wc [(gt,.cells x.toArray 46),(g,.cells A 39)]):=⟨fun k I=>absurd I (by omega),f8.out⟩;clear f8;go_wp2_with fail
 go_loopw [6] (fun u6 w'=>∃ k:Nat,k<=i/\u6=.int .i64 k/\Hid ((∀ j,j<k->((c.ten.getD j ten0).vni==(c.ten.getD i ten0).vni)=false)/\Mem W w' [(gt,.cells x.toArray 46),(g,.cells A 39)])) (fun u6 w'=>i-(intOf u6).toNat)
 case atStart=>exact ⟨0,ar _,rfl,HI⟩
 case round =>
 obtain ⟨k,I,rfl,f⟩:=hrel;by_cases hkl:k<i
 ·have h2:(k:Int)<i:=by omega
  have h3:(k:Int)<N:=by omega
  obtain ⟨-,-,-,v0,-,b8,-⟩:=J.out wr f.out.2;obtain ⟨T,-,-,k5⟩:=D.out k (by omega);have d1:=(k5 wr f.out.2.below).2.2.2;have b3:Hid (((c.ten.getD k ten0).vni==(c.ten.getD i ten0).vni)=true->R=91):=f4.out k hkl;have H:Hid (((c.ten.getD k ten0).vni==(c.ten.getD i ten0).vni)=false->∀ j,j<k+1->((c.ten.getD j ten0).vni==(c.ten.getD i ten0).vni)=false):=by
   intro hn j hj;rcases au j k with h|h
   ·exact f.out.1 j h
   ·obtain rfl:j=k:=by omega
    exact hn
  have i3:Hid (Mem W wr [(gt,.cells x.toArray 46),(g,.cells A 39)]):=f.out.2;clear k5 J D G f4 f3 HI f;obtain ⟨y,hy⟩:∃ y,(c.ten.getD k ten0).vni=y:=⟨_,rfl⟩;obtain ⟨z,hz⟩:∃ z,(c.ten.getD i ten0).vni=z:=⟨_,rfl⟩;rw [hy] at d1 b3 H;rw [hz] at v0 b3;have f6:Hid ((y==z)=false->∀ j,j<k+1->((c.ten.getD j ten0).vni==(c.ten.getD i ten0).vni)=false):=by rw [hz] at H ⊢;exact H
  clear hy hz H;cases hyz:(y==z) with
  | true =>
   obtain rfl:=b3.out hyz;clear b3 f6;go_upto_region 15 with fail
   go_quiet (fail)
   go_wp2_with fail;go_ret;exact ⟨rfl,az i3.out.below _⟩
  | false =>
   have HF:=f6.out hyz;have g0:Hid (∀ j,j<k+1->((c.ten.getD j ten0).vni==(c.ten.getD i ten0).vni)=false):=HF;clear b3 f6 HF;go_upto_region 15 with fail
   go_quiet (fail)
   go_wp2_with fail;go_roundw
   case rel=>exact ⟨k+1,by omega,by go_num,g0.out,i3.out.drewN _⟩
   case measure=>simp [intOf];omega
 have h2:¬((k:Int)<i):=by omega
 obtain rfl:k=i:=by omega
 have s:=f3.out f.out.1;have a4:Hid (∀ j,j<((c.ten.getD k ten0).pool++snd' (c.ten.getD k ten0).stat).length->(((c.ten.getD k ten0).pool++snd' (c.ten.getD k ten0).stat).getD j 0==F)=true->R=92):=s.1;have a0:Hid (∀ j q,j<((c.ten.getD k ten0).pool++snd' (c.ten.getD k ten0).stat).length->q<k->owns (c.ten.getD q ten0) (((c.ten.getD k ten0).pool++snd' (c.ten.getD k ten0).stat).getD j 0)=true->R=92):=s.2.1;have Z:Hid ((∀ j,j<((c.ten.getD k ten0).pool++snd' (c.ten.getD k ten0).stat).length->(((c.ten.getD k ten0).pool++snd' (c.ten.getD k ten0).stat).getD j 0==F)=false/\∀ q,q<k->owns (c.ten.getD q ten0) (((c.ten.getD k ten0).pool++snd' (c.ten.getD k ten0).stat).getD j 0)=false)->q9 c (k+1) (N-(k+1))=R):=s.2.2;have f7:Hid (Mem W wr [(gt,.cells x.toArray 46),(g,.cells A 39)]):=f.out.2;obtain ⟨k1,M,-,-,-,-,-⟩:=J.out wr f7.out;have C:=jcz M G.out.1;have i6:((c.ten.getD k ten0).pool++snd' (c.ten.getD k ten0).stat).length<=2000000:=by rw [List.length_append];have:=G.out.1;unfold TSm at this;simp only [snd',ae];omega
 clear s f4 f3 f HI M;obtain ⟨L,hL⟩:∃ L,((c.ten.getD k ten0).pool++snd' (c.ten.getD k ten0).stat)=L:=⟨_,rfl⟩;rw [hL] at C a4 a0 Z i6;clear hL G;go_wp2_with (refine wpList_load_row rfl 46 (.tmp 4) (by with_reducible rfl) gt (by first|rfl|simp [ax]) 46 x.toArray (0,0) _ k1 underlying46 rfl a8 ?_)
 refine C.mono ?_;rintro _ r ⟨u,rfl,g7,hb⟩;have i2:Hid (Mem W r [(gt,.cells x.toArray 46),(g,.cells A 39)]):=f7.out.after hb;obtain ⟨la,lc,rfl,m0,m1,a9⟩:=rw_u g7;have HC:Hid (∀ j,j<L.length->∃ b' a7,la=some ⟨b',a7,none⟩/\∀ X,Below r.heap.size r X->X.cell? ⟨b',a7+j,none⟩=some (.int .u32 (L.getD j 0))):=a9;clear hb C f7 k1 g7 a9;have HI:Hid ((∀ j,j<0->(L.getD j 0==F)=false/\∀ q,q<k->owns (c.ten.getD q ten0) (L.getD j 0)=false)/\Below r.heap.size r r/\Mem W r [(gt,.cells x.toArray 46),(g,.cells A 39)]):=⟨fun j hj=>absurd hj (by omega),aA _ _,i2.out⟩;clear i2;generalize L.length=n at *;go_wp2_with fail
 go_loopw [8] (fun u8 w'=>∃ j:Nat,j<=n/\u8=.int .i64 j/\Hid ((∀ p,p<j->(L.getD p 0==F)=false/\∀ q,q<k->owns (c.ten.getD q ten0) (L.getD p 0)=false)/\Below r.heap.size r w'/\Mem W w' [(gt,.cells x.toArray 46),(g,.cells A 39)])) (fun u8 w'=>n-(intOf u8).toNat)
 case atStart=>exact ⟨0,ar _,rfl,HI⟩
 case round =>
 obtain ⟨j,hj,rfl,f⟩:=hrel;by_cases hjl:j<n
 rotate_left
 ·have h4:¬((j:Int)<n):=by omega
  obtain rfl:j=n:=by omega
  have HF:Hid (q9 c (k+1) (N-(k+1))=R/\Mem W wr [(g,.cells A 39)]):=⟨Z.out f.out.1,f.out.2.2.sub⟩;clear J D a4 a0 Z HC HI f;go_wp2_with fail;go_roundw
  case rel=>exact ⟨k+1,by omega,by go_num,HF⟩
  case measure=>simp [intOf];omega
 have h4:(j:Int)<n:=by omega
 obtain ⟨b2,Q,rfl,hd⟩:=HC.out j hjl;have f0:=hd wr f.out.2.1;obtain ⟨-,-,-,-,d0,-,-⟩:=J.out wr f.out.2.2;obtain ⟨y,hy⟩:∃ y,L.getD j 0=y:=⟨_,rfl⟩;have f2:Hid ((y==F)=true->R=92):=by rw [<-hy];exact a4.out j hjl
 have b9:Hid (∀ q,q<k->owns (c.ten.getD q ten0) y=true->R=92):=by rw [<-hy];exact fun q s=>a0.out j q hjl s
 have HZ:Hid ((y==F)=false->(∀ q,q<k->owns (c.ten.getD q ten0) y=false)->∀ p,p<j+1->(L.getD p 0==F)=false/\∀ q,q<k->owns (c.ten.getD q ten0) (L.getD p 0)=false):=by
  intro a1 a2 p hp;rcases au p j with h|h
  ·exact f.out.1 p h
  ·obtain rfl:p=j:=by omega
   rw [hy];exact ⟨a1,a2⟩
 have HD:Hid (∀ X,Below r.heap.size r X->X.cell? ⟨b2,Q+j,none⟩=some (.int .u32 y)):=by rw [<-hy];exact hd
 rw [hy] at f0;have c4:Hid (Below r.heap.size r wr/\Mem W wr [(gt,.cells x.toArray 46),(g,.cells A 39)]):=f.out.2;clear hd hy f HI;cases hyi:(y==F) with
 | true =>
  obtain rfl:=f2.out hyi;clear J D a4 a0 Z HC f2 b9 HZ HD;go_upto_region 21 with fail
  go_quiet (fail)
  go_wp2_with fail;go_ret;exact ⟨rfl,az c4.out.2.below _⟩
 | false =>
 have e9:Hid ((∀ q,q<k->owns (c.ten.getD q ten0) y=false)->∀ p,p<j+1->(L.getD p 0==F)=false/\∀ q,q<k->owns (c.ten.getD q ten0) (L.getD p 0)=false):=HZ.out hyi;clear HZ f2;go_upto_region 21 with fail
 go_quiet (fail)
 go_upto_region 23 with fail;refine j5 (fun X=>Below r.heap.size r X/\Mem W X [(gt,.cells x.toArray 46),(g,.cells A 39)]) (by exact ⟨az c4.out.1 _,c4.out.2.drewN _⟩) ?_;rintro V4 ⟨i0,i1⟩;have HI:Hid ((∀ q,q<0->owns (c.ten.getD q ten0) y=false)/\Below r.heap.size r V4/\Mem W V4 [(gt,.cells x.toArray 46),(g,.cells A 39)]):=⟨fun q s=>absurd s (by omega),i0,i1⟩;clear i0 i1 c4 f0 d0;go_wp2_with fail
 go_loopw [9] (fun u9 w'=>∃ q:Nat,q<=k/\u9=.int .i64 q/\Hid ((∀ p,p<q->owns (c.ten.getD p ten0) y=false)/\Below r.heap.size r w'/\Mem W w' [(gt,.cells x.toArray 46),(g,.cells A 39)])) (fun u9 w'=>k-(intOf u9).toNat)
 case atStart=>exact ⟨0,ar _,rfl,HI⟩
 case round =>
 obtain ⟨q,s,rfl,f⟩:=hrel;by_cases hql:q<k
 rotate_left
 ·have h5:¬((q:Int)<k):=by omega
  obtain rfl:q=k:=by omega
  have HF:Hid ((∀ p,p<j+1->(L.getD p 0==F)=false/\∀ p',p'<q->owns (c.ten.getD p' ten0) (L.getD p 0)=false)/\Below r.heap.size r wr/\Mem W wr [(gt,.cells x.toArray 46),(g,.cells A 39)]):=⟨e9.out f.out.1,f.out.2⟩;clear J D a4 a0 Z HC b9 e9 HD f HI;go_wp2_with fail;go_roundw
  case rel=>exact ⟨j+1,by omega,by go_num,HF⟩
  case measure=>simp [intOf];omega
 have h5:(q:Int)<k:=by omega
 have h6:(q:Int)<N:=by omega
 obtain ⟨T,c5,c7,k5⟩:=D.out q (by omega);have g2:(prog.info? 46).map (·.size)=some T.length:=by rw [c5];kernel_rfl
 have HX:Hid (∀ X,Below wr.heap.size wr X->X.cell? ⟨g,28,none⟩=some (.slice (some ⟨b,d,none⟩) N tp)/\X.rangeAt b (d+q*33) T/\X.cell? ⟨b2,Q+j,none⟩=some (.int .u32 y)):=by
  intro X Y;have O:=f.out.2.2.after Y;exact ⟨(J.out X O).2.2.2.2.2.1,(k5 X O.below).1,HD.out X (f.out.2.1.trans (Y.mono f.out.2.1.size))⟩
 have g1:Hid (∀ X,Below wr.heap.size wr X->Calls prog 65 #[.agg T.toArray,.int .u32 y] X fun e w'=>e=.returned (.bool (owns (c.ten.getD q ten0) y))/\Below wr.heap.size wr w'):=by
  intro X Y;have O:=f.out.2.2.after Y;exact (j7o (k5 X O.below).2.1 c7 y).mono (fun e w' hh=>⟨hh.1,Y.trans (hh.2.mono Y.size)⟩)
 have f1:Hid (owns (c.ten.getD q ten0) y=true->R=92):=b9.out q hql;have f5:Hid (owns (c.ten.getD q ten0) y=false->∀ p,p<q+1->owns (c.ten.getD p ten0) y=false):=by
  intro hn p hp;rcases au p q with h|h
  ·exact f.out.1 p h
  ·obtain rfl:p=q:=by omega
   exact hn
 have a5:Hid (Below r.heap.size r wr/\Mem W wr [(gt,.cells x.toArray 46),(g,.cells A 39)]):=f.out.2;clear k5 c7 c5 J D a4 a0 Z HC b9 e9 HD f HI;generalize owns (c.ten.getD q ten0) y=B at *;cases B with
 | true =>
  obtain rfl:=f1.out rfl;clear f1 f5;go_upto_region 26 with fail;refine wp_region_held_drew (S:=fun X=>X.cell? ⟨g,28,none⟩=some (.slice (some ⟨b,d,none⟩) N tp)/\X.rangeAt b (d+q*33) T/\X.cell? ⟨b2,Q+j,none⟩=some (.int .u32 y)) (by kernel_rfl) (HX.out _ (aA _ _).drew) (fun P=>?_);refine tkq 0 rfl (v:=?_) (am ⟨by rfl,?qy0⟩) ?_
  case qy0=>intro w a;(try dsimp only at a);go_simp;all_goals with_reducible rfl
  try simp only [sqx,ay]
  refine tkq 1 rfl (v:=?_) (am ⟨by rfl,?qy1⟩) ?_
  case qy1=>intro w a;(try dsimp only at a);go_simp;all_goals with_reducible rfl
  try simp only [sqx,ay]
  refine tkq 2 rfl (v:=?_) (am ⟨by rfl,?qy2⟩) ?_
  case qy2=>intro w a;(try dsimp only at a);go_simp;all_goals with_reducible rfl
  try simp only [sqx,ay]
  refine tkq 3 rfl (v:=?_) (am ⟨by rfl,?qy3⟩) ?_
  case qy3=>intro w a;(try dsimp only at a);go_simp;all_goals with_reducible rfl
  try simp only [sqx,ay]
  refine tkq 4 rfl (v:=_) (yieldsIf_load_mid (by rfl) _ _ rfl _ _ rfl _ _ ?qs4 underlying46 rfl g2) ?_
  case qs4 =>
   intro w a
   (try dsimp only at a)
   go_split_ands
   assumption
  try simp only [sqx,ay]
  refine tkq 5 rfl (v:=?_) (am ⟨by rfl,?qy5⟩) ?_
  case qy5=>intro w a;(try dsimp only at a);go_simp;all_goals with_reducible rfl
  try simp only [sqx,ay]
  refine tkq 6 rfl (v:=?_) (am ⟨by rfl,?qy6⟩) ?_
  case qy6=>intro w a;(try dsimp only at a);go_simp;all_goals with_reducible rfl
  try simp only [sqx,ay]
  refine tkq 7 rfl (v:=?_) (am ⟨by rfl,?qy7⟩) ?_
  case qy7=>intro w a;(try dsimp only at a);go_simp;all_goals with_reducible rfl
  try simp only [sqx,ay]
  refine tkq 8 rfl (v:=?_) (am ⟨by rfl,?qy8⟩) ?_
  case qy8=>intro w a;(try dsimp only at a);go_simp;all_goals with_reducible rfl
  try simp only [sqx,ay]
  refine wpAnyH_ready (rs:=[9]) (by kernel_rfl) (by simp) ?_;refine aB rfl (fun K hK=>?_) aD;go_simp
  with_reducible refine (g1.out _ (by first|exact aA _ _|exact (aA _ _).drew)).mono ?_
  rintro _ X2 ⟨rfl,hb2⟩
  try go_wp2_with fail
  refine hK.out _ _ (HX.out X2 hb2) (fun P=>?_);clear hK K
  try simp only [sqx,ay]
  refine wpAnyH_done (by kernel_rfl) ?_ _;go_wp2_with fail;go_ret;exact ⟨rfl,a5.out.2.below.trans (hb2.mono a5.out.2.below.size)⟩
 | false =>
  have HF:=f5.out rfl;have g0:Hid ((∀ p,p<q+1->owns (c.ten.getD p ten0) y=false)):=HF;clear f1 f5 HF;go_upto_region 26 with fail;refine wp_region_held_drew (S:=fun X=>X.cell? ⟨g,28,none⟩=some (.slice (some ⟨b,d,none⟩) N tp)/\X.rangeAt b (d+q*33) T/\X.cell? ⟨b2,Q+j,none⟩=some (.int .u32 y)) (by kernel_rfl) (HX.out _ (aA _ _).drew) (fun P=>?_);refine tkq 0 rfl (v:=?_) (am ⟨by rfl,?zy0⟩) ?_
  case zy0=>intro w a;(try dsimp only at a);go_simp;all_goals with_reducible rfl
  try simp only [sqx,ay]
  refine tkq 1 rfl (v:=?_) (am ⟨by rfl,?zy1⟩) ?_
  case zy1=>intro w a;(try dsimp only at a);go_simp;all_goals with_reducible rfl
  try simp only [sqx,ay]
  refine tkq 2 rfl (v:=?_) (am ⟨by rfl,?zy2⟩) ?_
  case zy2=>intro w a;(try dsimp only at a);go_simp;all_goals with_reducible rfl
  try simp only [sqx,ay]
  refine tkq 3 rfl (v:=?_) (am ⟨by rfl,?zy3⟩) ?_
  case zy3=>intro w a;(try dsimp only at a);go_simp;all_goals with_reducible rfl
  try simp only [sqx,ay]
  refine tkq 4 rfl (v:=_) (yieldsIf_load_mid (by rfl) _ _ rfl _ _ rfl _ _ ?zs4 underlying46 rfl g2) ?_
  case zs4 =>
   intro w a
   (try dsimp only at a)
   go_split_ands
   assumption
  try simp only [sqx,ay]
  refine tkq 5 rfl (v:=?_) (am ⟨by rfl,?zy5⟩) ?_
  case zy5=>intro w a;(try dsimp only at a);go_simp;all_goals with_reducible rfl
  try simp only [sqx,ay]
  refine tkq 6 rfl (v:=?_) (am ⟨by rfl,?zy6⟩) ?_
  case zy6=>intro w a;(try dsimp only at a);go_simp;all_goals with_reducible rfl
  try simp only [sqx,ay]
  refine tkq 7 rfl (v:=?_) (am ⟨by rfl,?zy7⟩) ?_
  case zy7=>intro w a;(try dsimp only at a);go_simp;all_goals with_reducible rfl
  try simp only [sqx,ay]
  refine tkq 8 rfl (v:=?_) (am ⟨by rfl,?zy8⟩) ?_
  case zy8=>intro w a;(try dsimp only at a);go_simp;all_goals with_reducible rfl
  try simp only [sqx,ay]
  refine wpAnyH_ready (rs:=[9]) (by kernel_rfl) (by simp) ?_;refine aB rfl (fun K hK=>?_) aD;go_simp
  with_reducible refine (g1.out _ (by first|exact aA _ _|exact (aA _ _).drew)).mono ?_
  rintro _ X2 ⟨rfl,hb2⟩
  try go_wp2_with fail
  refine hK.out _ _ (HX.out X2 hb2) (fun P=>?_);clear hK K
  try simp only [sqx,ay]
  refine wpAnyH_done (by kernel_rfl) ?_ _;have i7:Hid (Below r.heap.size r X2/\Mem W X2 [(gt,.cells x.toArray 46),(g,.cells A 39)]):=⟨a5.out.1.trans (hb2.mono a5.out.1.size),a5.out.2.after hb2⟩;clear a5 hb2 HX g1;go_wp2_with fail;go_roundw
  case rel=>exact ⟨q+1,by omega,by go_num,g0.out,i7.out⟩
  case measure=>simp [intOf];omega
end
section
open Go.RowKit Sm Cf Df
namespace Df
theorem jbg {zs:List Tv} {z:Tv} {again:Bool} (hO:Dl w W v zs) (hl:∀ y∈zs,TLen y.1) (ho:∀ y∈zs,(zc y).toArray.all (·.oneCell')=true) (hz:TLen z.1) (hzo:(zc z).toArray.all (·.oneCell')=true) (hn:zs.length<=1000) :
  Calls prog 81 #[v,tv z,.bool again] W fun e W'=>∃ a n c,e=.returned (.slice a n c)/\Dl w W' (.slice a n c) (put fk z again zs):=by
 obtain ⟨a0,c0,hv,hc1,hc2,-⟩:=hO.slice;subst hv;have HB0:Hid (Below w.heap.size w W):=hO.below;have HRD:Hid (∀ k (hk:k<zs.length),∃ b off,a0=some ⟨b,off,none⟩/\∀ V,Below W.heap.size W V->V.cell? ⟨b,off+k*33,none⟩=some (.string zs[k].1.name)):=by
  intro k hk;obtain ⟨b,off,e1,hc⟩:=j5z (hO.rw hl) k (by rw [ae];exact hk);refine ⟨b,off,e1,fun V hV=>?_⟩;have:=hc 0 (.string zs[k].1.name) (by simp [aa,ac hk];rfl);rw [aq] at this;rw [hV.cell (p:=⟨b,off+k*33,none⟩) (j9 this)];exact this
 have HPT:Hid (∀ k,k<=zs.length->∃ a s2,(∀ V,(Instr.slice 37 (.slice a0 zs.length c0) none (some (.int .i64 (k:Int))) (some (.int .i64 (k:Int)))).run prog V=.ok (.slice a k k) V)/\(∀ V,(Instr.slice 37 (.slice a0 zs.length c0) (some (.int .i64 (k:Int))) none none).run prog V=.ok s2 V)/\(∃ a2 m2 c2,s2=.slice a2 m2 c2) /\
   ∀ V,Below W.heap.size W V->∃ a1 m1 d1 X1,(aE #[37,37] 37 #[.slice (some ⟨V.heap.size,0,none⟩) 1 1,s2]).run prog (V.alloc (.cells (zc z).toArray 46))=.ok (.slice a1 m1 d1) X1/\Below V.heap.size V X1 /\
   ∃ v2 X2,(aE #[37,37] 37 #[.slice a k k,.slice a1 m1 d1]).run prog X1=.ok v2 X2/\Below V.heap.size V X2/\Dl w X2 v2 (zs.take k++z::zs.drop k)):=by
  intro k hk;obtain ⟨a,s2,p1,p2,p3,p4,p5,-⟩:=j6x hO hl hk;refine ⟨a,s2,p1,p2,p3,fun V hV=>?_⟩;exact jn5 (v:=.slice none 0 0) hk hl ho hz hzo hn (hO.below.trans (hV.mono hO.below.size)) (p4.below j8u hV (av _)) ⟨a,rfl⟩ (p5.below j8u hV (av _))
 have HPH:Hid (∀ k,k<=zs.length->(∀ j (hj:j<zs.length),j<k->fk (zs[j]'hj)<fk z)->(∀ h:k<zs.length,¬fk zs[k]<fk z)->((∃ h:k<zs.length,fk zs[k]=fk z)->put fk z again zs=if again then zs.set k z else zs)/\((∀ h:k<zs.length,fk zs[k]≠fk z)->put fk z again zs=zs.take k++z::zs.drop k)):=fun k hk h1 h2=>jj7 hk h1 h2;have HDL:Hid (Dl w W (.slice a0 zs.length c0) zs):=hO;have hbz:∀ V,(Instr.buildSlice 37 1 #[(0,.agg (zc z).toArray)]).run prog V=.ok (.slice (some ⟨V.heap.size,0,none⟩) 1 1) (V.alloc (.cells (zc z).toArray 46)):=fun V=>j4l z hz V;obtain ⟨gb,hgb⟩:∃ g,W.heap.size=g:=⟨_,rfl⟩;have HM0:Hid (Mem W (W.alloc (.cells (zc z).toArray 46)) [(gb,.cells (zc z).toArray 46)]):=(Mem.nil W).push1 hgb.symm;have HBX:Hid (∀ V,Mem W V [(gb,.cells (zc z).toArray 46)]->V.cell? ⟨gb,0,none⟩=some (.string z.1.name)/\V.rangeAt gb 0 (zc z)/\V.heap[gb]?=some (.cells (zc z).toArray 46)):=by
  intro V hV;refine ⟨by rw [hV.cell 0 rfl];exact (j13 hz _ _ _).1,fun j u hj=>by rw [aw,hV.cell 0 rfl];simpa using hj,hV.get 0 rfl⟩
 have i33:(prog.info? 46).map (·.size)=some (zc z).length:=by rw [zc33 hz];kernel_rfl
 have j33:(prog.info? 46).map (·.size)=some (zc z).toArray.size:=by rw [j1f hz];kernel_rfl
 have HST:Hid (∀ k (hk:k<zs.length) V,Below W.heap.size W V->∃ g,a0=some ⟨g,0,none⟩/\V.there g (k*33) 33/\Dl w (V.setCells g (k*33) (zc z)) (.slice a0 zs.length c0) (zs.set k z)):=fun k hk V hV=>jrq hO hl hz hk hV;have hzo':(zc z).toArray.all (·.oneCell')=true:=hzo;have z33:(zc z).toArray.size=33:=j1f hz;clear hO hl ho hzo hz;obtain ⟨N,hN⟩:∃ N,zs.length=N:=⟨_,rfl⟩;rw [hN] at hc1 hn HDL;simp only [hN] at HRD HPT HST ⊢;show Calls prog 81 #[.slice a0 N c0,.agg (zc z).toArray,.bool again] W _;go_enter func81,ntmps81;go_upto_region 1 with fail;refine j5 (fun X=>Mem W X [(gb,.cells (zc z).toArray 46)]) (by exact HM0.out) ?_;intro V0 hM0
 try simp only [hgb]
 have H0:Hid (Mem W V0 [(gb,.cells (zc z).toArray 46)]):=hM0;clear HM0 hM0 hgb;go_wp2_with fail
 go_loopw [7] (fun u7 w'=>∃ k:Nat,k<=N/\u7=.int .i64 k/\Hid (Mem W w' [(gb,.cells (zc z).toArray 46)]/\∀ j (hj:j<zs.length),j<k->fk zs[j]<fk z)) (fun u7 w'=>N-(intOf u7).toNat)
 case atStart=>exact ⟨0,ar _,rfl,H0.out,fun j _ h=>absurd h (by omega)⟩
 case round =>
  obtain ⟨k,hk,rfl,HR⟩:=hrel;clear H0;obtain ⟨cb,-,-⟩:=HBX.out _ HR.out.1;by_cases hlt:k<N
  ·have h1:(k:Int)<N:=by omega
   have d1:decide ((k:Int)<N)=true:=decide_eq_true h1;have hkz:k<zs.length:=by omega
   obtain ⟨b,off,rfl,hV⟩:=HRD.out k hlt;have cz0:=hV _ HR.out.1.below;by_cases q:fk (zs[k]'hkz)<fk z
   ·have d2:=jjv (a:=(zs[k]'hkz).1.name) (b:=z.1.name) q;have HF:Hid (∀ m,Mem W (wr.drewN m) [(gb,.cells (zc z).toArray 46)]/\∀ j (hj:j<zs.length),j<k+1->fk zs[j]<fk z):=by
     intro m;refine ⟨HR.out.1.drewN m,fun j hj hjk=>?_⟩;rcases au j k with h|h
     ·exact HR.out.2 j hj h
     ·obtain rfl:j=k:=by omega
      exact q
    clear hV HRD HPT HPH HDL HST HBX HR q hbz;generalize (zs[k]'hkz).1.name=s1 at *;go_upto_region 2 with fail
    go_quiet (fail)
    go_wp2_with fail;go_roundw
    case rel=>exact ⟨k+1,by omega,by go_num,HF.out _⟩
    case measure=>simp [intOf];omega
   ·have d2:=joa (a:=(zs[k]'hkz).1.name) (b:=z.1.name) q;have hph:=HPH.out k (by omega) HR.out.2 (fun _=>q);by_cases qe:fk (zs[k]'hkz)=fk z
    ·have d3:=j32 (a:=(zs[k]'hkz).1.name) (b:=z.1.name) qe;have hpe:=hph.1 ⟨hkz,qe⟩;have HM:Hid (Mem W wr [(gb,.cells (zc z).toArray 46)]):=HR.out.1;clear hV HRD HPT HPH HR q qe hbz hph;obtain ⟨g,eg,-⟩:=HST.out k hlt wr HM.out.below;simp only [Option.some.injEq,Addr.mk.injEq] at eg;obtain ⟨rfl,rfl,-⟩:=eg;simp only [aw] at cz0;cases again with
     | false =>
      have HF:Hid (∀ m n,Dl w ((wr.drewN m).drewN n) (.slice (some ⟨b,0,none⟩) N c0) (put fk z false zs)):=by
       intro m n;rw [hpe];exact HDL.out.after ((HM.out.drewN m).drewN n).below
      clear HDL HST hpe HM;go_upto_region 2 with fail
      go_quiet (fail)
      go_upto_region 4 with fail
      go_quiet (fail)
      go_wp2_with fail;go_ret;exact ⟨_,_,_,rfl,HF.out _ _⟩
     | true =>
      have HF:Hid (∀ m,Dl w ((wr.drewN m).setCells b (k*33) (zc z)) (.slice (some ⟨b,0,none⟩) N c0) (put fk z true zs)):=by
       intro m;obtain ⟨g,eg,-,h⟩:=HST.out k hlt _ (HM.out.drewN m).below;simp only [Option.some.injEq,Addr.mk.injEq] at eg;obtain ⟨rfl,-,-⟩:=eg;rw [hpe];exact h
      have HTH:Hid (∀ m,(wr.drewN m).there b (k*33) (zc z).toArray.size):=by
       intro m;obtain ⟨g,eg,h,-⟩:=HST.out k hlt _ (HM.out.drewN m).below;simp only [Option.some.injEq,Addr.mk.injEq] at eg;obtain ⟨rfl,-,-⟩:=eg;rw [z33];exact h
      have HKB:Hid (∀ m n,((wr.drewN m).drewN n).heap[gb]?=some (.cells (zc z).toArray 46)):=fun m n=>(HBX.out _ ((HM.out.drewN m).drewN n)).2.2;clear HDL HST hpe HM;go_upto_region 2 with fail
      go_quiet (fail)
      go_upto_region 4 with fail
      go_quiet (fail)
      go_wp2_with (first|(refine j04 rfl 46 (.tmp 4) (by with_reducible rfl) gb (by first|rfl|simp [ax]) 46 (zc z).toArray (0,0) _ (HKB.out _ _) underlying46 j33 ?_)|(refine wpList_store_mid rfl 46 (.tmp 42) (.tmp 41) (by with_reducible rfl) b (k*33) (zc z).toArray (by simp [ax]) (by first|rfl|simp [ax]) (by exact HTH.out _) j33 hzo' ?_)|fail)
      go_ret;exact ⟨_,_,_,rfl,HF.out _⟩
    ·have d3:=j69 (a:=(zs[k]'hkz).1.name) (b:=z.1.name) qe;have hpe:=hph.2 (fun _=>qe);have HM:Hid (Mem W wr [(gb,.cells (zc z).toArray 46)]):=HR.out.1;obtain ⟨a,s2,p1,p2,⟨a2,m2,c2,rfl⟩,hAP⟩:=HPT.out k hk;clear hV HRD HPT HPH HR q qe hph HDL HST;go_upto_region 2 with fail
     go_quiet (fail)
     go_upto_region 4 with fail
     go_quiet (fail)
     go_upto_region 8 with fail;refine j5 (fun X=>Mem W X [(gb,.cells (zc z).toArray 46)]) (by exact (HM.out.drewN _).drewN _) ?_;intro V8 hM8;obtain ⟨a1,m1,d1',X1,hr1,hbx1,v2,X2,hr2,hbx2,hD⟩:=hAP V8.drew hM8.drew.below;obtain ⟨a3,c3,rfl,-⟩:=hD.slice;obtain ⟨n3,hn3⟩:∃ n,(zs.take k++z::zs.drop k).length=n:=⟨_,rfl⟩;rw [hn3] at hr2 hD;rw [<-hpe] at hD;clear hn3;have HD:Hid (Dl w X2 (.slice a3 n3 c3) (put fk z again zs)):=hD;have KS:Hid (∀ V,Below V8.drew.heap.size V8.drew V->V.rangeAt gb 0 (zc z)):=fun V hV=>(HBX.out V (hM8.drew.after hV)).2.1;have rr:=(HBX.out V8.drew hM8.drew).2.1;have HX1:Hid (Below V8.drew.heap.size V8.drew X1):=hbx1;have HX2:Hid (Below V8.drew.heap.size V8.drew X2):=hbx2;have HX0:Hid (Below V8.drew.heap.size V8.drew (V8.drew.alloc (.cells (zc z).toArray 46))):=(aA _ _).alloc (av _) _;have hbz8:=hbz V8.drew;clear hAP hM8 HM HBX hD hbx1 hbx2 hpe hbz;refine wp_region_held_drew (S:=fun V=>V.rangeAt gb 0 (zc z)) (by kernel_rfl) rr (fun hHeld=>?_);refine tkq 0 rfl (v:=?_) (am ⟨by rfl,?qay0⟩) ?_
     case qay0=>intro w hSw;(try dsimp only at hSw);go_simp;all_goals with_reducible rfl
     try simp only [sqx,ay]
     refine tkq 1 rfl (v:=?_) (am ⟨by rfl,?qay1⟩) ?_
     case qay1=>intro w hSw;(try dsimp only at hSw);go_simp;all_goals with_reducible rfl
     try simp only [sqx,ay]
     refine tkq 2 rfl (v:=?_) (am ⟨by rfl,?qay2⟩) ?_
     case qay2=>intro w hSw;(try dsimp only at hSw);go_simp;all_goals with_reducible rfl
     try simp only [sqx,ay]
     refine tkq 3 rfl (v:=?_) (am ⟨by rfl,?qay3⟩) ?_
     case qay3=>intro w hSw;(try dsimp only at hSw);go_simp;all_goals with_reducible rfl
     try simp only [sqx,ay]
     refine tkq 4 rfl (v:=_) (yieldsIf_load_mid (by rfl) _ _ rfl _ _ rfl _ _ ?qas4 underlying46 rfl i33) ?_
     case qas4 =>
      intro w hSw
      (try dsimp only at hSw)
      go_split_ands
      assumption
     try simp only [sqx,ay]
     refine tkq 6 rfl (v:=?_) (am ⟨by rfl,?qay6⟩) ?_
     case qay6=>intro w hSw;(try dsimp only at hSw);go_simp;all_goals with_reducible rfl
     try simp only [sqx,ay]
     refine tkq 7 rfl (v:=?_) (am ⟨by rfl,?qay7⟩) ?_
     case qay7=>intro w hSw;(try dsimp only at hSw);go_simp;all_goals with_reducible rfl
     try simp only [sqx,ay]
     refine tkq 8 rfl (v:=?_) (am ⟨by rfl,?qay8⟩) ?_
     case qay8=>intro w hSw;(try dsimp only at hSw);go_simp;all_goals with_reducible rfl
     try simp only [sqx,ay]
     refine wpAnyH_ready (rs:=[5]) (by kernel_rfl) (by simp) ?_;refine aB rfl (fun K hK=>?_) aD;refine ze (by rfl) 37 1 _ rfl hbz8 (by first|kernel_rfl|simp [ax]) ?_;refine hK.out _ _ (KS.out _ HX0.out) (fun hHeld=>?_);clear hK K
     try simp only [sqx,ay]
     refine wpAnyH_ready (rs:=[9]) (by kernel_rfl) (by simp) ?_;refine aB rfl (fun K hK=>?_) aD;refine jd rfl (.tmp 49) (.tmp 52) 37 37 rfl (by first|rfl|simp [ax]) (by first|rfl|simp [ax]) hr1 ?_;refine hK.out _ _ (KS.out _ HX1.out) (fun hHeld=>?_);clear hK K
     try simp only [sqx,ay]
     refine wpAnyH_ready (rs:=[10]) (by kernel_rfl) (by simp) ?_;refine aB rfl (fun K hK=>?_) aD;refine jd rfl (.tmp 47) (.tmp 53) 37 37 rfl (by first|rfl|simp [ax]) (by first|rfl|simp [ax]) hr2 ?_;refine hK.out _ _ (KS.out _ HX2.out) (fun hHeld=>?_);clear hK K
     try simp only [sqx,ay]
     refine tkq 11 rfl (v:=?_) (am ⟨by rfl,?qazy11⟩) ?_
     case qazy11=>intro w hSw;(try dsimp only at hSw);go_simp;all_goals with_reducible rfl
     try simp only [sqx,ay]
     refine wpAnyH_done (by kernel_rfl) ?_ _;clear rr hr1 hr2 hbz8 p1 p2;go_wp2_with fail;go_ret;exact ⟨_,_,_,rfl,HD.out⟩
  ·have h1:¬((k:Int)<N):=by omega
   have d1:decide ((k:Int)<N)=false:=decide_eq_false h1;have hph:=HPH.out k (by omega) HR.out.2 (fun h=>absurd h (by omega));have hpe:=hph.2 (fun h=>absurd h (by omega));have HM:Hid (Mem W wr [(gb,.cells (zc z).toArray 46)]):=HR.out.1;obtain ⟨a,s2,p1,p2,⟨a2,m2,c2,rfl⟩,hAP⟩:=HPT.out k hk;clear HRD HPT HPH HR hph HDL HST;go_upto_region 2 with fail
   go_quiet (fail)
   go_upto_region 4 with fail
   go_quiet (fail)
   go_upto_region 8 with fail;refine j5 (fun X=>Mem W X [(gb,.cells (zc z).toArray 46)]) (by exact (HM.out.drewN _).drewN _) ?_;intro V8 hM8;obtain ⟨a1,m1,d1',X1,hr1,hbx1,v2,X2,hr2,hbx2,hD⟩:=hAP V8.drew hM8.drew.below;obtain ⟨a3,c3,rfl,-⟩:=hD.slice;obtain ⟨n3,hn3⟩:∃ n,(zs.take k++z::zs.drop k).length=n:=⟨_,rfl⟩;rw [hn3] at hr2 hD;rw [<-hpe] at hD;clear hn3;have HD:Hid (Dl w X2 (.slice a3 n3 c3) (put fk z again zs)):=hD;have KS:Hid (∀ V,Below V8.drew.heap.size V8.drew V->V.rangeAt gb 0 (zc z)):=fun V hV=>(HBX.out V (hM8.drew.after hV)).2.1;have rr:=(HBX.out V8.drew hM8.drew).2.1;have HX1:Hid (Below V8.drew.heap.size V8.drew X1):=hbx1;have HX2:Hid (Below V8.drew.heap.size V8.drew X2):=hbx2;have HX0:Hid (Below V8.drew.heap.size V8.drew (V8.drew.alloc (.cells (zc z).toArray 46))):=(aA _ _).alloc (av _) _;have hbz8:=hbz V8.drew;clear hAP hM8 HM HBX hD hbx1 hbx2 hpe hbz;refine wp_region_held_drew (S:=fun V=>V.rangeAt gb 0 (zc z)) (by kernel_rfl) rr (fun hHeld=>?_);refine tkq 0 rfl (v:=?_) (am ⟨by rfl,?qby0⟩) ?_
   case qby0=>intro w hSw;(try dsimp only at hSw);go_simp;all_goals with_reducible rfl
   try simp only [sqx,ay]
   refine tkq 1 rfl (v:=?_) (am ⟨by rfl,?qby1⟩) ?_
   case qby1=>intro w hSw;(try dsimp only at hSw);go_simp;all_goals with_reducible rfl
   try simp only [sqx,ay]
   refine tkq 2 rfl (v:=?_) (am ⟨by rfl,?qby2⟩) ?_
   case qby2=>intro w hSw;(try dsimp only at hSw);go_simp;all_goals with_reducible rfl
   try simp only [sqx,ay]
   refine tkq 3 rfl (v:=?_) (am ⟨by rfl,?qby3⟩) ?_
   case qby3=>intro w hSw;(try dsimp only at hSw);go_simp;all_goals with_reducible rfl
   try simp only [sqx,ay]
   refine tkq 4 rfl (v:=_) (yieldsIf_load_mid (by rfl) _ _ rfl _ _ rfl _ _ ?qbs4 underlying46 rfl i33) ?_
   case qbs4 =>
    intro w hSw
    (try dsimp only at hSw)
    go_split_ands
    assumption
   try simp only [sqx,ay]
   refine tkq 6 rfl (v:=?_) (am ⟨by rfl,?qby6⟩) ?_
   case qby6=>intro w hSw;(try dsimp only at hSw);go_simp;all_goals with_reducible rfl
   try simp only [sqx,ay]
   refine tkq 7 rfl (v:=?_) (am ⟨by rfl,?qby7⟩) ?_
   case qby7=>intro w hSw;(try dsimp only at hSw);go_simp;all_goals with_reducible rfl
   try simp only [sqx,ay]
   refine tkq 8 rfl (v:=?_) (am ⟨by rfl,?qby8⟩) ?_
   case qby8=>intro w hSw;(try dsimp only at hSw);go_simp;all_goals with_reducible rfl
   try simp only [sqx,ay]
   refine wpAnyH_ready (rs:=[5]) (by kernel_rfl) (by simp) ?_;refine aB rfl (fun K hK=>?_) aD;refine ze (by rfl) 37 1 _ rfl hbz8 (by first|kernel_rfl|simp [ax]) ?_;refine hK.out _ _ (KS.out _ HX0.out) (fun hHeld=>?_);clear hK K
   try simp only [sqx,ay]
   refine wpAnyH_ready (rs:=[9]) (by kernel_rfl) (by simp) ?_;refine aB rfl (fun K hK=>?_) aD;refine jd rfl (.tmp 49) (.tmp 52) 37 37 rfl (by first|rfl|simp [ax]) (by first|rfl|simp [ax]) hr1 ?_;refine hK.out _ _ (KS.out _ HX1.out) (fun hHeld=>?_);clear hK K
   try simp only [sqx,ay]
   refine wpAnyH_ready (rs:=[10]) (by kernel_rfl) (by simp) ?_;refine aB rfl (fun K hK=>?_) aD;refine jd rfl (.tmp 47) (.tmp 53) 37 37 rfl (by first|rfl|simp [ax]) (by first|rfl|simp [ax]) hr2 ?_;refine hK.out _ _ (KS.out _ HX2.out) (fun hHeld=>?_);clear hK K
   try simp only [sqx,ay]
   refine tkq 11 rfl (v:=?_) (am ⟨by rfl,?qbzy11⟩) ?_
   case qbzy11=>intro w hSw;(try dsimp only at hSw);go_simp;all_goals with_reducible rfl
   try simp only [sqx,ay]
   refine wpAnyH_done (by kernel_rfl) ?_ _;clear rr hr1 hr2 hbz8 p1 p2;go_wp2_with fail;go_ret;exact ⟨_,_,_,rfl,HD.out⟩
end Df
end
section
open Go.RowKit La Ad
open Sm (j6)
def Tb (w V:World) (gb g4:Nat) (t:Ten):Prop:=∃ L,TAt gb [] [] 46 t L/\Mem w V (L++[(g4,.cells tz 46)])
theorem Tb.after {a:World} {t:Ten} (h:Tb w V gb g4 t) (hb:Below V.heap.size V a):Tb w a gb g4 t:=by
 obtain ⟨L,c,b⟩:=h;exact ⟨L,c,b.after hb⟩
theorem j2o {t t':Ten} (h:Tb w V gb g4 t) (hs:∀ L,TAt gb [] [] 46 t L->∃ A R,L=(gb,.cells A 46)::R/\([]:List Value).length+o<A.size/\TAt gb [] [] 46 t' ((gb,.cells (A.setIfInBounds (([]:List Value).length+o) v) 46)::R)) :
  (∃ v0,V.cell? ⟨gb,o,none⟩=some v0)/\V.frozen? ⟨gb,o,none⟩=false/\Tb w (V.setCell ⟨gb,o,none⟩ v) gb g4 t':=by
 obtain ⟨L,d,c⟩:=h;obtain ⟨A,R,rfl,a,b⟩:=hs L d;rw [af,aw] at a b;refine ⟨⟨_,(c.cell 0 rfl o).trans (aF a)⟩,c.free 0 rfl o,_,b,?_⟩;exact c.set 0 rfl o v
theorem jms {t:Ten} (h:Tb w V gb g4 t) (x:Int) (u:V.heap.size=gs) :
  (∃ v0,(V.alloc (.cells #[.int .u32 x] 33)).cell? ⟨gb,23,none⟩=some v0)/\(V.alloc (.cells #[.int .u32 x] 33)).frozen? ⟨gb,23,none⟩=false/\Tb w ((V.alloc (.cells #[.int .u32 x] 33)).setCell ⟨gb,23,none⟩ (.slice (some ⟨gs,0,none⟩) 1 1)) gb g4 { t with pool:=[x] }:=by
 obtain ⟨L,⟨j,p,s,q,G,C,B,Q,E,D,rfl⟩,F⟩:=h;have A:Mem w V (G++((gb,.cells ([]++(tc t p s q++[])).toArray 46)::((C++B)++[(g4,.cells tz 46)]))):=F.perm (by
  classical
  rw [ag];intro z;simp only [ah,ai,aj];omega)
 have m:=A.dropA.front (.cells #[.int .u32 x] 33) u.symm;have r:23<([]++(tc t p s q++[])).toArray.size:=by rw [ad];simp [ji j]
 refine ⟨⟨_,(m.cell 1 rfl 23).trans (aF r)⟩,m.free 1 rfl 23,_,⟨⟨j.key,j.vmac,j.host⟩,.slice (some ⟨gs,0,none⟩) 1 1,s,q,[(gs,.cells #[.int .u32 x] 33)],C,B,jfo (T:=33) (sz:=1) (n:=1) (cap:=1) (g:=gs) (X:=[.int .u32 x]) (Y:=[]) rfl (av _) (by unfold maxLen;omega) rfl,E,D,rfl⟩,?_⟩;have k:=m.set 1 rfl 23 (.slice (some ⟨gs,0,none⟩) 1 1);have e:([]++(tc t p s q++[])).toArray.setIfInBounds 23 (.slice (some ⟨gs,0,none⟩) 1 1)=([]++(tc { t with pool:=[x] } (.slice (some ⟨gs,0,none⟩) 1 1) (s) (q)++[])).toArray:=by
  have:=set_mid [] (tc t p s q) [] 23 (.slice (some ⟨gs,0,none⟩) 1 1) (by rw [ji j];omega);rw [af,aw] at this;rw [this];rw [tset (t':={ t with pool:=[x] }) (p':=.slice (some ⟨gs,0,none⟩) 1 1) (s':=s) (q':=q) j (by rintro n I a b c d f g x y H a1 b1 c1 d1 f1 U a2 b2 c2 d2 f2 S O P hi Z st J K N M bu rfl;rfl)]
 simp only [ak,al] at k;rw [e] at k;exact k.perm (by
  classical
  rw [ag];intro z;simp only [ah,ai,aj];omega)
theorem jmr {t:Ten} (h:Tb w V gb g4 t) (x y:Int) (u:V.heap.size=gs) :
  (∃ v0,(V.alloc (.cells #[.int .u32 x,.int .u32 y] 122)).cell? ⟨gb,27,none⟩=some v0)/\(V.alloc (.cells #[.int .u32 x,.int .u32 y] 122)).frozen? ⟨gb,27,none⟩=false/\Tb w ((V.alloc (.cells #[.int .u32 x,.int .u32 y] 122)).setCell ⟨gb,27,none⟩ (.slice (some ⟨gs,0,none⟩) 1 1)) gb g4 { t with stat:=[(x,y)] }:=by
 obtain ⟨L,⟨j,p,s,q,C,G,B,E,Q,D,rfl⟩,F⟩:=h;have A:Mem w V (G++((gb,.cells ([]++(tc t p s q++[])).toArray 46)::((C++B)++[(g4,.cells tz 46)]))):=F.perm (by
  classical
  rw [ag];intro z;simp only [ah,ai,aj];omega)
 have m:=A.dropA.front (.cells #[.int .u32 x,.int .u32 y] 122) u.symm;have r:27<([]++(tc t p s q++[])).toArray.size:=by rw [ad];simp [ji j]
 refine ⟨⟨_,(m.cell 1 rfl 27).trans (aF r)⟩,m.free 1 rfl 27,_,⟨⟨j.key,j.vmac,j.host⟩,p,.slice (some ⟨gs,0,none⟩) 1 1,q,C,[(gs,.cells #[.int .u32 x,.int .u32 y] 122)],B,E,jfo (T:=122) (sz:=2) (n:=1) (cap:=1) (g:=gs) (X:=[.int .u32 x,.int .u32 y]) (Y:=[]) rfl (av _) (by unfold maxLen;omega) rfl,D,rfl⟩,?_⟩;have k:=m.set 1 rfl 27 (.slice (some ⟨gs,0,none⟩) 1 1);have e:([]++(tc t p s q++[])).toArray.setIfInBounds 27 (.slice (some ⟨gs,0,none⟩) 1 1)=([]++(tc { t with stat:=[(x,y)] } (p) (.slice (some ⟨gs,0,none⟩) 1 1) (q)++[])).toArray:=by
  have:=set_mid [] (tc t p s q) [] 27 (.slice (some ⟨gs,0,none⟩) 1 1) (by rw [ji j];omega);rw [af,aw] at this;rw [this];rw [tset (t':={ t with stat:=[(x,y)] }) (p':=p) (s':=.slice (some ⟨gs,0,none⟩) 1 1) (q':=q) j (by rintro n I a b c d f g x y H a1 b1 c1 d1 f1 U a2 b2 c2 d2 f2 S O P hi Z st J K N M bu rfl;rfl)]
 simp only [ak,al] at k;rw [e] at k;exact k.perm (by
  classical
  rw [ag];intro z;simp only [ah,ai,aj];omega)
theorem jpw {t:Ten} (h:Tb w V gb g4 t) (x y m k:Int) (B:V.heap.size=gs) :
  (∃ v0,(V.alloc (.cells #[.int .u32 x,.int .u32 y,.int .u32 m,.int .u32 k] 122)).cell? ⟨gb,28,none⟩=some v0)/\(V.alloc (.cells #[.int .u32 x,.int .u32 y,.int .u32 m,.int .u32 k] 122)).frozen? ⟨gb,28,none⟩=false/\Tb w ((V.alloc (.cells #[.int .u32 x,.int .u32 y,.int .u32 m,.int .u32 k] 122)).setCell ⟨gb,28,none⟩ (.slice (some ⟨gs,0,none⟩) 2 2)) gb g4 { t with twi:=[(x,y),(m,k)] }:=by
 obtain ⟨L,⟨j,p,s,q,E,D,I,G,F,U,rfl⟩,H⟩:=h;have C:Mem w V (I++((gb,.cells ([]++(tc t p s q++[])).toArray 46)::((E++D)++[(g4,.cells tz 46)]))):=H.perm (by
  classical
  rw [ag];intro z;simp only [ah,ai,aj];omega)
 have u:=C.dropA.front (.cells #[.int .u32 x,.int .u32 y,.int .u32 m,.int .u32 k] 122) B.symm;have A:28<([]++(tc t p s q++[])).toArray.size:=by rw [ad];simp [ji j]
 refine ⟨⟨_,(u.cell 1 rfl 28).trans (aF A)⟩,u.free 1 rfl 28,_,⟨⟨j.key,j.vmac,j.host⟩,p,s,.slice (some ⟨gs,0,none⟩) 2 2,E,D,[(gs,.cells #[.int .u32 x,.int .u32 y,.int .u32 m,.int .u32 k] 122)],G,F,jfo (T:=122) (sz:=2) (n:=2) (cap:=2) (g:=gs) (X:=[.int .u32 x,.int .u32 y,.int .u32 m,.int .u32 k]) (Y:=[]) rfl (av _) (by unfold maxLen;omega) rfl,rfl⟩,?_⟩;have r:=u.set 1 rfl 28 (.slice (some ⟨gs,0,none⟩) 2 2);have e:([]++(tc t p s q++[])).toArray.setIfInBounds 28 (.slice (some ⟨gs,0,none⟩) 2 2)=([]++(tc { t with twi:=[(x,y),(m,k)] } (p) (s) (.slice (some ⟨gs,0,none⟩) 2 2)++[])).toArray:=by
  have:=set_mid [] (tc t p s q) [] 28 (.slice (some ⟨gs,0,none⟩) 2 2) (by rw [ji j];omega);rw [af,aw] at this;rw [this];rw [tset (t':={ t with twi:=[(x,y),(m,k)] }) (p':=p) (s':=s) (q':=.slice (some ⟨gs,0,none⟩) 2 2) j (by rintro n K a b c d f g x y J a1 b1 c1 d1 f1 g1 a2 b2 c2 d2 f2 Z Q S hi fi st M N P O bu rfl;rfl)]
 simp only [ak,al] at r;rw [e] at r;exact r.perm (by
  classical
  rw [ag];intro z;simp only [ah,ai,aj];omega)
theorem jmt {t:Ten} (h:Tb w V gb g4 t) (Q:t.pool.length<=900000) (y:Int):∃ C r s,V.cell? ⟨gb,23,none⟩=some (.slice C r s)/\(V.alloc (.cells #[.int .u32 y] 33)).cell? ⟨gb,23,none⟩=some (.slice C r s)/\∃ q k,(aE #[43,43] 43 #[.slice C r s,.slice (some ⟨V.heap.size,0,none⟩) 1 1]).run prog (V.alloc (.cells #[.int .u32 y] 33))=.ok q k/\(∃ a m c,q=.slice a m c)/\(∃ v0,k.cell? ⟨gb,23,none⟩=some v0)/\(∀ j,k.frozen? ⟨gb,j,none⟩=false) /\
   ∀ a m c,q=.slice a m c->Tb w (k.setCell ⟨gb,23,none⟩ q) gb g4 { t with pool:=t.pool++[y] }:=by
 obtain ⟨L,O,P⟩:=h;obtain ⟨A,p,B,R,f,b,J,H,d⟩:=(ji8 O w []).1;rw [af,aw] at b H d;have F:Mem w V ((gb,.cells A 46)::(B++(R++[(g4,.cells tz 46)]))):=(P.perm (f.append_right _)).perm (by
  classical
  rw [ag];intro z;simp only [ah,ai,aj];omega)
 obtain ⟨C,r,s,rfl⟩:=js J;have E:=F.after ((aA V.heap.size V).alloc (av _) (.cells #[.int .u32 y] 33));refine ⟨C,r,s,(F.cell 0 rfl 23).trans b,(E.cell 0 rfl 23).trans b,?_⟩;obtain ⟨q,k,M,D,I,G⟩:=mem_append (t:=43) (ty:=43) underlying43 j86 rfl (by decide) (K:=(gb,.cells A 46)::(R++[(g4,.cells tz 46)])) (E.perm (by
  classical
  rw [ag];intro z;simp only [ah,ai,aj];omega)) J ⟨V.heap.size,0,none⟩ [.int .u32 y] rfl (fun j u N=>by
   rw [jcd,aw,World.cell?_alloc_new];simpa using N) (by simp;rfl) (by omega) (by omega)
 have g:Mem w k ((gb,.cells A 46)::(M++(R++[(g4,.cells tz 46)]))):=I.perm (by
  classical
  rw [ag];intro z;simp only [ah,ai,aj];omega)
 refine ⟨q,k,D,js G,⟨_,(g.cell 0 rfl 23).trans b⟩,g.free 0 rfl,fun a m c e=>?_⟩;subst e;refine ⟨_,d y a m c M G,?_⟩;have:=g.set 0 rfl 23 (.slice a m c);rw [al] at this;exact this.perm (by
  classical
  rw [ag];intro z;simp only [ah,ai,aj];omega)
theorem j02 {k:IntKind} (j:Nat) (d:j<=k.bits) (c:∀ n:Int,0<=n->n<2 ^ j->k.wrap n=n) (i:Nat) (hi:i<=j) (m x:Int) (b:m=2 ^ i-1) (f:0<=x) (e:x<2 ^ j):0<=bits .and k x m/\bits .and k x m<=m:=by
 subst b;rw [bits_mask k j d c i hi x f e];have a:(0:Int)<2 ^ i:=Int.pow_pos (by decide);exact ⟨Int.emod_nonneg _ (by omega),by have:=Int.emod_lt_of_pos x a;omega⟩
end
section
open Go.RowKit La Ad
end
end Go.Proofs.YtdigofgjhaakmaaGreatDoor
