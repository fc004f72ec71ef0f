/- Parts of the proof. -/
import Derived.Test.YtdigofgjhaakmaaGreatDoorF31
set_option linter.all false
set_option maxHeartbeats 40000000
set_option maxRecDepth 20000
open Go.Proofs.Tryz
open Go.Lib renaming toList_data->a2
open Go.Value renaming slice->a3
open Array renaming length_toList->a4
open List renaming take_append_drop->a5,length_take->a6,length_drop->a7,length_set->a8,take_append->a9,take_of_length_le->aa,length_map->ab,getD->ac,map_append->ae,flatten_append->af,take_left'->ag
open Nat renaming min_eq_left->ah,le_refl->ai
open Go.Instr renaming slice->aj
open Go.Builtin renaming append_->ak
namespace Go.Proofs.YtdigofgjhaakmaaGreatDoor
variable {k b n:Nat} {K:List (Nat×Obj)} {a0:Option Addr} {v:Value} {w W:World} {t T:TypeId}
section
open Go.RowKit Sm Cf Df
namespace Df
theorem jjv {a b:ByteArray} (h:a.data.toList<b.data.toList):Op.bytesLess a.toList b.toList=true:=by rw [bytesLess_eq,a2,a2];exact decide_eq_true h
theorem joa {a b:ByteArray} (h:¬a.data.toList<b.data.toList):Op.bytesLess a.toList b.toList=false:=by rw [bytesLess_eq,a2,a2];exact decide_eq_false h
theorem jg0:∀ (a:List Value) (o:Nat) (A:Array Value) (V:World),Mem w V ((b,.cells A t (0,0))::K)->Mem w (V.setCells b o a) ((b,.cells (stL A o a) t (0,0))::K)
 | [],o,A,V,h=>h
 | v::r,o,A,V,h=>jg0 r (o+1) _ _ (h.set 0 rfl o v)
theorem jrq {V:World} {o:Nat} {a:List Tv} {z:Tv} (h:Dl w W (.slice a0 n o) a) (p:∀ y∈a,TLen y.1) (i:TLen z.1) (r:k<a.length) (A:Below W.heap.size W V) :
  ∃ g,a0=some ⟨g,0,none⟩/\V.there g (k*33) 33/\Dl w (V.setCells g (k*33) (zc z)) (.slice a0 n o) (a.set k z):=by
 rcases h with ⟨-,e,-⟩|⟨g,cap,cur,e,hM,h1,h2,h3⟩
 ·subst e;simp at r
 simp only [a3.injEq] at e;obtain ⟨rfl,rfl,rfl⟩:=e;have c:=hM.after A;have x:a.length*33<=cur.size:=by
  have B:(cur.toList.take (a.length*33)).length=a.length*33:=by rw [h3];exact j4e p
  have s:=List.length_take_le' (a.length*33) cur.toList;rw [B,a4] at s;exact s
 have q:k*33+33<=a.length*33:=by omega
 refine ⟨g,rfl,fun j C=>⟨?_,c.free 0 rfl _⟩,?_⟩
 ·rw [c.cell 0 rfl,Array.getElem?_eq_getElem (by omega)];rfl
 have d:=jg0 (zc z) (k*33) cur V c;have f:cur=(cur.toList.take (k*33)++((cur.toList.drop (k*33)).take 33++cur.toList.drop (k*33+33))).toArray:=by
  rw [<-List.drop_drop,a5,a5]
 have m:stL cur (k*33) (zc z)=(cur.toList.take (k*33)++(zc z++cur.toList.drop (k*33+33))).toArray:=by
  have:=jey (cur.toList.drop (k*33+33)) (zc z) ((cur.toList.drop (k*33)).take 33) (cur.toList.take (k*33)) (by rw [zc33 i,a6,a7,a4];omega);rw [<-f,a6,a4,ah (by omega)] at this;exact this
 refine Or.inr ⟨g,o,stL cur (k*33) (zc z),by rw [a8],d,by rw [a8];exact h1,h2,?_⟩;rw [a8,jkc a p k r z i,m,<-h3];have z33:=zc33 i;have u:(cur.toList.take (k*33)).length=k*33:=by rw [a6,a4,ah (by omega)]
 rw [List.take_take,ah (by omega),List.drop_take];show (cur.toList.take (k*33)++(zc z++cur.toList.drop (k*33+33))).take (a.length*33)=_;generalize cur.toList.take (k*33)=P at *;generalize cur.toList.drop (k*33+33)=R at *;rw [a9,a9,aa (l:=P) (by omega),aa (l:=zc z) (by omega),u,z33,Nat.sub_sub]
theorem j6x {d:List Tv} (h:Dl w W v d) (E:∀ z∈d,TLen z.1) (B:k<=d.length) :
  ∃ a q,(∀ V,(aj 37 v none (some (.int .i64 (k:Int))) (some (.int .i64 (k:Int)))).run prog V=.ok (.slice a k k) V)/\(∀ V,(aj 37 v (some (.int .i64 (k:Int))) none none).run prog V=.ok q V)/\(∃ I D H,q=.slice I D H) /\
   Rw W 33 (.slice a k k) ((d.take k).map zc)/\Rw W 33 q ((d.drop k).map zc)/\∃ c,v=.slice a d.length c:=by
 have hr:=h.rw E;have o:∀ V,(sizeOf (prog.elem 37)).run prog V=.ok 33 V:=fun V=>by kernel_rfl
 have g:(d.take k).length=k:=by rw [a6,ah B]
 have p:(d.drop k).length=d.length-k:=a7;obtain ⟨a,c,rfl,L,J,C⟩:=h.slice;obtain ⟨Q,O,e,F,N,M,A⟩:=hr;rw [ab] at e F A;simp only [a3.injEq] at e;obtain ⟨rfl,-,rfl⟩:=e;have s:∀ V,(aj 37 (.slice a d.length c) none (some (.int .i64 (k:Int))) (some (.int .i64 (k:Int)))).run prog V=.ok (.slice a k k) V:=by
  intro V;rw [run_slice_hm (P:=prog) V 37 a d.length c (by kernel_rfl) .i64 .i64 (k:Int) (k:Int) (by omega) (by omega) (by omega),o];show Result.ok (sliced a 0 (k:Int).toNat (k:Int).toNat 33) V=_;unfold sliced;rw [show (k:Int).toNat=k by omega];cases a with
  | none=>simp
  | some ad =>
   by_cases h0:k=0
   ·subst h0;simp
   ·obtain ⟨b,f,m⟩:=ad;cases m<;>simp [h0,Addr.add]
 have r:∀ V,(aj 37 (.slice a d.length c) (some (.int .i64 (k:Int))) none none).run prog V=.ok (sliced a k d.length c 33) V:=by
  intro V;rw [run_slice_l (P:=prog) V 37 a d.length c (by kernel_rfl) .i64 (k:Int) (by omega) (by omega),o];rfl
 refine ⟨a,_,s,r,⟨_,_,_,rfl⟩,?_,?_,c,rfl⟩
 ·refine ⟨a,k,by rw [ab,g],by rw [ab,g];exact ai _,by omega,fun e=>by have:=C e;omega,?_⟩;rcases A with e|⟨b,f,rfl,hc⟩
  ·left;have:d=[]:=by simpa using e
   subst this;simp
  ·right;refine ⟨b,f,rfl,fun i hi j u y=>?_⟩;rw [ab,g] at hi;exact hc i (by omega) j u (by
    rw [<-y];simp [ac,List.getElem?_take,hi])
 ·rcases A with e|⟨b,f,rfl,hc⟩
  ·have G:d=[]:=by simpa using e
   subst G;have x:k=0:=by simpa using B
   subst x;refine ⟨(if c=0 then a else a.map (·.add (0*33))),c,by simp [sliced],by simp,by omega,fun e=>?_,Or.inl (by simp)⟩;split at e
   ·assumption
   ·have:a=none:=by simpa using e
    exact C this
  ·by_cases hck:c=k
   ·have l:k=d.length:=by omega
    refine ⟨some ⟨b,f,none⟩,c-k,by simp [sliced,hck,l],by simp [l],by omega,nofun,Or.inl (by simp [l])⟩
   ·refine ⟨some ⟨b,f+k*33,none⟩,c-k,by simp [sliced,hck,Addr.add_mid],by rw [ab,p];omega,by omega,nofun,Or.inr ⟨b,f+k*33,rfl,fun i hi j u y=>?_⟩⟩;rw [ab,p] at hi;have:=hc (k+i) (by omega) j u (by
     rw [<-y];simp [ac,List.getElem?_drop])
    rw [show f+k*33+i*33+j=f+(k+i)*33+j by omega];exact this
theorem jak (W:World) (base:Option Addr) (k:Nat) (a:Option Addr) (c:Nat):(ak #[37,37] 37 #[.slice base k k,.slice a 0 c]).run prog W=.ok (.slice base k k) W:=by
 obtain ⟨i,hi,-,-,-⟩:=info_parts j87;cases base<;>cases a<;>simp [ak,run_underlying underlying37,sizeOf,typeInfo,hi,Builtin.lenOf,Builtin.firstCells,storeCells,loadCells,loadCellsFrom,Result.andThen]
theorem jot {s:Option Addr} {c0 R o:Nat} {a:List Tv} (h:Dl w W (.slice a0 n c0) a) (S:k<a.length) (q:∀ y∈a,TLen y.1) (ho:∀ y∈a,(zc y).toArray.all (·.oneCell')=true) (hn:a.length<=1000)
  (Z:Rw W 33 (.slice a0 k k) ((a.take k).map zc)) (Y:Rw W 33 (.slice s R o) ((a.drop (k+1)).map zc)) :
  ∃ x Q u X,(ak #[37,37] 37 #[.slice a0 k k,.slice s R o]).run prog W=.ok (.slice x Q u) X/\Below W.heap.size W X/\Dl w X (.slice x Q u) (a.take k++a.drop (k+1)):=by
 have L:=h.below;have f:(a.drop (k+1)).length=a.length-(k+1):=a7;have d:(a.take k).length=k:=by rw [a6,ah (by omega)]
 have hd:∀ y∈a.drop (k+1),y∈a:=fun y c=>List.mem_of_mem_drop c;have A:∀ y∈a.take k,y∈a:=fun y c=>List.mem_of_mem_take c;obtain ⟨a',c',e,O,q2,q3,N⟩:=Y;rw [ab,f] at e O;simp only [a3.injEq] at e;obtain ⟨rfl,rfl,rfl⟩:=e;by_cases hlast:k+1=a.length
 ·have e0:a.length-(k+1)=0:=by omega
  rw [e0];refine ⟨a0,k,k,W,jak W a0 k s o,Below.refl _ _,?_⟩;have ed:a.drop (k+1)=[]:=List.drop_eq_nil_of_le (by omega);rw [ed,List.append_nil];rcases h with ⟨-,e,-⟩|⟨g,cap,cur,e,hM,h1,h2,h3⟩
  ·subst e;simp at S
  ·simp only [a3.injEq] at e;obtain ⟨rfl,-,rfl⟩:=e;refine Or.inr ⟨g,k,cur,by rw [d],hM,by rw [d];exact ai _,by omega,?_⟩;rw [d];have e4:((a.map zc).flatten).take (k*33)=((a.take k).map zc).flatten:=by
    have:=congrArg (fun l:List Tv=>(l.map zc).flatten) (a5 k a);simp only [ae,af] at this;rw [<-this];exact ag (by rw [j4e fun y c=>q y (A y c),d])
   rw [<-e4,<-h3,List.take_take,ah (by omega)]
 ·have D:(a.drop (k+1)).map zc≠[]:=by
   intro e;have:=congrArg List.length e;rw [ab,f] at this;simp at this;omega
  have z:Rw W 33 (.slice s (a.length-(k+1)) o) ((a.drop (k+1)).map zc):=⟨s,o,by rw [ab,f],by rw [ab,f];exact O,q2,q3,N⟩;rcases N with e|⟨b2,off2,rfl,-⟩
  ·exact absurd e D
  have m:=j3v (by decide) z (zs33 fun y c=>q y (hd y c)) rfl;have I:∃ b,a0=some b:=by
   rcases h with ⟨-,e,-⟩|⟨g,cap,cur,e,-⟩
   ·subst e;simp at S
   ·simp only [a3.injEq] at e;exact ⟨_,e.1⟩
  obtain ⟨b,rfl⟩:=I;have p:=j3v (by decide) Z (zs33 fun y c=>q y (A y c)) rfl;obtain ⟨i,hi,F,G,H⟩:=info_parts j87;obtain ⟨V,M,B,C,r⟩:=run_append_arg_grows (P:=prog) (w:=W) 37 37 46 i _ 33 160 underlying37 hi F G H (by kernel_rfl) (by decide) b k k ((a.take k).map zc).flatten (by rw [j4e fun y c=>q y (A y c),d]) p ⟨b2,off2,none⟩ (a.length-(k+1)) o ((a.drop (k+1)).map zc).flatten (by rw [j4e fun y c=>q y (hd y c),f]) m (by omega) (by unfold maxLen;omega) (by omega);have J:Below w.heap.size w M:=L.grown r L.size (fun j E=>by cases E);have U:Dl w M V (a.take k++a.drop (k+1)):=by
   refine jh3 J L.size (n:=k+(a.length-(k+1))) ?_ (by simp;omega);rw [ae,af];exact C
  obtain ⟨x,u,rfl,-⟩:=U.slice;exact ⟨x,_,u,M,B,(Below.refl _ _).grown r (ai _) (fun j E=>by cases E),U⟩
theorem jmy {M:List Tv} (h:Srt fk M) (y:Hv):Srt fk (stz M y):=by
 unfold stz;split
 ·exact j0i h
 ·exact jf0 h
theorem jn0 (c:List Tv) (a:List Hv):Srt fk (apz c a):=by
 have key:∀ (a:List Hv) (M:List Tv),Srt fk M->Srt fk (a.foldl stz M):=by
  intro a
  induction a with
  | nil=>intro M h;exact h
  | cons y a ih=>intro M h;exact ih _ (jmy h y)
 exact key a _ (jf1 c)
theorem je1 (a:List Tv) (c:List Hv):(apz a c).length<=a.length+c.length:=by
 have:=j5i (a.map Prod.fst) (c.map Prod.fst);rw [<-jaj] at this;simpa using this
end Df
end
section
open Go.RowKit Va
theorem jhe {c:Cgf} (hv:Vs W) (h:CV W v c) (U:c.ten.length<=1000000) (hm:∀ t∈c.ten,TSm t) :
  Calls prog 59 #[v] W fun e V=>e=.returned (.int .i64 (chk c))/\Below W.heap.size W V:=by
 obtain ⟨cl,ta,tp,rfl,hx⟩:=h.tb;obtain ⟨g,Y⟩:∃ g,W.heap.size=g:=⟨_,rfl⟩;have H:Hid (Mem W (W.alloc (.cells cl.toArray 39)) [(g,.cells cl.toArray 39)]):=(Mem.nil W).push1 Y.symm;have u:=jrd hx.len;have r:Hid (∀ X,Mem W X [(g,.cells cl.toArray 39)]->X.heap[g]?=some (.cells cl.toArray 39)/\X.cell? ⟨g,28,none⟩=some (.slice ta c.ten.length tp)/\Calls prog 83 #[.agg cl.toArray] X (Rls X (grs c))/\∀ i,i<c.ten.length->Calls prog 84 #[.agg cl.toArray,.int .i64 (i:Int)] X (Rls X (Va.prs c.ip (c.ten.take i) (c.ten.getD i ten0)))) :=
  fun X y=>⟨y.get 0 rfl,jb (y.get 0 rfl) hx.ten,jdh (hx.later y.below).cv,fun i hi=>jd4 (hv.below y.below) (hx.later y.below).cv U hm hi⟩
 obtain ⟨R,L⟩:∃ R,chk c=R:=⟨_,rfl⟩;rw [L];have P:Hid ((grs c).length=3/\(fnz (grs c)≠0->R=fnz (grs c))/\(fnz (grs c)=0->q9 c 0 (c.ten.length-0)=R)):=by
  refine ⟨rfl,fun j=>?_,fun j=>?_⟩
  ·rw [<-L,chk,if_neg j]
  ·rw [<-L,chk,if_pos j];rfl
 have O:Hid (∀ i,i<c.ten.length->q9 c i (c.ten.length-i)=R->(Va.prs c.ip (c.ten.take i) (c.ten.getD i ten0)).length=4/\(fnz (Va.prs c.ip (c.ten.take i) (c.ten.getD i ten0))≠0->R=fnz (Va.prs c.ip (c.ten.take i) (c.ten.getD i ten0)))/\(fnz (Va.prs c.ip (c.ten.take i) (c.ten.getD i ten0))=0->q9 c (i+1) (c.ten.length-(i+1))=R)):=by
  intro i hi x;have e:c.ten.length-i=c.ten.length-(i+1)+1:=by omega
  rw [e,j0w,pchk] at x;refine ⟨rfl,fun j=>?_,fun j=>?_⟩
  ·rw [if_neg j] at x;exact x.symm
  ·rw [if_pos j] at x;exact x
 have Q:Hid (q9 c c.ten.length (c.ten.length-c.ten.length)=R->R=0):=by
  intro h;rw [<-h,Nat.sub_self];rfl
 have HN:Hid (c.ten.length<=1000000):=U;clear hv h U hm hx L;generalize c.ten.length=N at *;generalize cl.toArray=A at *;generalize grs c=S at *;go_enter func59,ntmps59;go_upto_region 1 with fail;refine j5 (fun X=>Mem W X [(g,.cells A 39)]) (by exact H.out) ?_;intro V Z
 try simp only [Y]
 clear H Y;obtain ⟨s,-,C,-⟩:=r.out V Z;have I:Hid (Mem W V [(g,.cells A 39)]):=Z;clear Z;go_wp2_with (refine wpList_load_row rfl 39 (.tmp 1) (by with_reducible rfl) g (by first|rfl|simp [Act.eval]) 39 A (0,0) _ s underlying39 rfl u ?_)
 refine C.mono ?_;rintro _ X1 ⟨gl,rfl,f,z⟩;have J:=j4f rfl (by rw [P.out.1];omega) f;have d:Hid (Mem W X1 [(g,.cells A 39)]):=I.out.after z;clear C f z I s;go_wp2_with fail;refine J.mono ?_;rintro _ D ⟨rfl,hb⟩;have a:Hid (Mem W D [(g,.cells A 39)]):=d.out.after hb;clear hb J d;have q:Hid (fnz S≠0->R=fnz S):=P.out.2.1;have p:Hid (fnz S=0->q9 c 0 (N-0)=R):=P.out.2.2;clear P;generalize fnz S=F at *;by_cases hF:F=0
 rotate_left
 ·obtain rfl:=q.out hF;have a1:(R != 0)=true:=by simp [hF]
  clear q p r O Q;go_wp2_with fail;go_ret;exact ⟨rfl,a.out.below⟩
 have H0:Hid (q9 c 0 (N-0)=R):=p.out hF;subst hF;obtain ⟨-,B,-,-⟩:=r.out D a.out;clear q p;go_wp2_with fail
 go_loopw [15] (fun u15 w'=>∃ i:Nat,i<=N/\u15=.int .i64 i/\Hid (q9 c i (N-i)=R/\Mem W w' [(g,.cells A 39)])) (fun u15 w'=>N-(intOf u15).toNat)
 case atStart=>exact ⟨0,Nat.zero_le _,rfl,H0.out,a.out⟩
 case round =>
  obtain ⟨i,hi,rfl,l⟩:=hrel;by_cases hlt:i<N
  ·have f:(i:Int)<N:=by omega
   have hN:=HN.out;obtain ⟨s,-,-,CP⟩:=r.out _ l.out.2;have C:=CP i hlt;have M:=O.out i hlt l.out.1;have I:Hid (Mem W wr [(g,.cells A 39)]):=l.out.2;clear CP r O Q H0 a B l;generalize Va.prs c.ip (c.ten.take i) (c.ten.getD i ten0)=E at *;have G:Hid (E.length=4):=M.1;have o:Hid (fnz E≠0->R=fnz E):=M.2.1;have m:Hid (fnz E=0->q9 c (i+1) (N-(i+1))=R):=M.2.2;clear M;go_wp2_with (refine wpList_load_row rfl 39 (.tmp 1) (by with_reducible rfl) g (by first|rfl|simp [Act.eval]) 39 A (0,0) _ s underlying39 rfl u ?_)
   refine C.mono ?_;rintro _ X1 ⟨gl,rfl,f,z⟩;have J:=j4f rfl (by rw [G.out];omega) f;have d:Hid (Mem W X1 [(g,.cells A 39)]):=I.out.after z;clear C f z I s;go_wp2_with fail;refine J.mono ?_;rintro _ D ⟨rfl,hb⟩;have a:Hid (Mem W D [(g,.cells A 39)]):=d.out.after hb;clear hb J d G;generalize fnz E=F at *;by_cases hF:F=0
   ·have HH:Hid (q9 c (i+1) (N-(i+1))=R/\Mem W D [(g,.cells A 39)]):=⟨m.out hF,a.out⟩;subst hF;clear o m a;go_wp2_with fail;go_roundw
    case rel=>exact ⟨i+1,by omega,by go_num,HH⟩
    case measure=>simp [intOf];omega
   ·obtain rfl:=o.out hF;have a1:(R != 0)=true:=by simp [hF]
    clear o m;go_wp2_with fail;go_ret;exact ⟨rfl,a.out.below⟩
  ·have f:¬((i:Int)<N):=by omega
   obtain rfl:i=N:=by omega
   obtain rfl:=Q.out l.out.1;have HB:Hid (Below W.heap.size W wr):=l.out.2.below;clear r O Q H0 a B l;go_wp2_with fail;go_ret;exact ⟨rfl,HB.out⟩
end
section
open Go.RowKit La
theorem jfo {sz cap g:Nat} {X Y:List Value} (a:X.length=n*sz) (e:n<=cap) (d:cap<=maxLen) (c:X.length+Y.length=cap*sz):OwB T sz (.slice (some ⟨g,0,none⟩) n cap) n X [(g,.cells (X++Y).toArray T (0,0))]:=by
 refine ⟨a,Or.inr ⟨g,cap,_,rfl,rfl,e,d,?_,?_⟩⟩
 ·rw [List.size_toArray,List.length_append];exact c
 ·show (X++Y).take (n*sz)=X;rw [<-a];exact ag rfl
end
section
open Go.RowKit La Ad
end
end Go.Proofs.YtdigofgjhaakmaaGreatDoor
