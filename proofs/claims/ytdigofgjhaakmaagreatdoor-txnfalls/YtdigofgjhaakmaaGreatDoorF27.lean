/- Parts of the proof. -/
import Derived.Test.YtdigofgjhaakmaaGreatDoorF26
import Derived.Lib.SpaceUEq
set_option linter.all false
set_option maxHeartbeats 40000000
set_option maxRecDepth 20000
open Go.Proofs.Tryz
open Prod renaming fst->a0
open Go.Act renaming eval->a1,put->a2
open Or renaming inl->a3
open List renaming getElem?_toArray->a4,getElem?_append_right->a5,set_append_right->a6,getElem?_cons_succ->a7,append_toArray->a8,cons_append->a9,nil_append->aa
open Array renaming empty_append->ab
open Go.RowKit.Below renaming refl->ac
open Go.AllReadyH renaming cons->ad,nil->ae
namespace Go.Proofs.YtdigofgjhaakmaaGreatDoor
variable {W w:World} {g g1:Nat} {cl:Array Value} {q:Option Addr} {v:Value}
section
open Go.RowKit Sm Cf Df
namespace Df
abbrev u15 (pool:List Int) (lo hi se qu ra bu:Int):Ten:=⟨⟨#[98]⟩,101,[2,0,0,0,0,0,0,0],168361986,[2,9,1,0,0,0],[2,7,1,0,0,0],pool,lo,hi,0,[],[],se,qu,ra,bu⟩
end Df
namespace Df
theorem jfg {zs:List Tv} (hz:ZV w v zs) (s:ByteArray) (hm:zs.length<=1000) :
  Calls prog 56 #[v,.string s] w fun e V=>∃ A,e=.returned (.tuple #[.agg A,.bool (look nk s.data.toList (zs.map a0)).isSome])/\TV V (.agg A) (fnd (zs.map a0) s.data.toList)/\Below w.heap.size w V:=by
 obtain ⟨sa,sc,rfl,hlc,hcb,hx⟩:=hz.parts;have HX:Hid (∀ i (hi:i<zs.length),(∃ b off,sa=some ⟨b,off,none⟩/\∀ V,Below w.heap.size w V->V.rangeAt b (off+i*33) (zc zs[i]))/\TLen zs[i].1/\(zc zs[i]).toArray.all (·.oneCell')=true/\∀ V,Below w.heap.size w V->Rws V zs[i]):=by
  intro i hi;have hm:=List.getElem_mem hi;exact ⟨hx i hi,(hz.each _ hm).1,j3h (hz.each _ hm).2,fun V hV=>Rws.at_ (hz.each _ hm).2 hV⟩
 have HS:Hid (∀ i (hi:i<zs.length),(∀ j (hj:j<i),fk (zs[j]'(by omega))≠s.data.toList)->fk zs[i]=s.data.toList->(look nk s.data.toList (zs.map a0)).isSome=true/\fnd (zs.map a0) s.data.toList=zs[i].1):=by
  intro i hi h1 h2;have:=jg6 (f:=fk) hi h1 h2;unfold fnd;rw [j36,this];exact ⟨rfl,rfl⟩
 have HN:Hid ((∀ j (hj:j<zs.length),fk (zs[j]'(by omega))≠s.data.toList)->(look nk s.data.toList (zs.map a0)).isSome=false/\fnd (zs.map a0) s.data.toList=ten0):=by
  intro h1;have:look fk s.data.toList zs=none:=j1r.2 fun x hx=>by
   obtain ⟨j,hj,rfl⟩:=List.mem_iff_getElem.1 hx;exact h1 j hj
  unfold fnd;rw [j36,this];exact ⟨rfl,rfl⟩
 clear hx hz;generalize (look nk s.data.toList (zs.map a0)).isSome=OK at *;generalize fnd (zs.map a0) s.data.toList=T at *;obtain ⟨N,hN⟩:∃ N,zs.length=N:=⟨_,rfl⟩;rw [hN] at hlc hm;simp only [hN] at HX HS HN ⊢;obtain ⟨g,hg⟩:∃ g,w.heap.size=g:=⟨_,rfl⟩;have HM0:Hid (Mem w (w.alloc (.cells tz 46)) [(g,.cells tz 46)]):=(Mem.nil w).push1 hg.symm;go_enter func56,ntmps56;go_upto_region 1 with fail;refine j5 (fun X=>Mem w X [(g,.cells tz 46)]) (by exact HM0.out) ?_;intro V0 hM0
 try simp only [hg]
 have H0:Hid (Mem w V0 [(g,.cells tz 46)]):=hM0;clear HM0 hM0;go_wp2_with fail
 go_loopw [6] (fun u10 w'=>∃ i:Nat,i<=N/\u10=.int .i64 i/\Hid (Mem w w' [(g,.cells tz 46)]/\∀ j (hj:j<i) (hj':j<zs.length),fk (zs[j]'hj')≠s.data.toList)) (fun u10 w'=>N-(intOf u10).toNat)
 case atStart=>exact ⟨0,Nat.zero_le _,rfl,H0.out,fun j hj=>absurd hj (by omega)⟩
 case round =>
  obtain ⟨i,hi,rfl,HR⟩:=hrel;clear H0;by_cases hlt:i<N
  ·have h1:(i:Int)<N:=by omega
   obtain ⟨⟨b,off,rfl,hV⟩,hl,ho,hcp⟩:=HX.out i hlt;have hra:=hV _ HR.out.1.below;have hSi:=HS.out i hlt;have HRN:=HR.out.2;clear hV HX HS HN;have hj':i<zs.length:=by omega
   have HNX:Hid (fk (zs[i]'hj')≠s.data.toList->∀ j (hj:j<i+1) (hj':j<zs.length),fk (zs[j]'hj')≠s.data.toList):=by
    intro hne j hj hj2;rcases Nat.lt_or_ge j i with h|h
    ·exact HRN j h hj2
    ·obtain rfl:j=i:=by omega
     exact hne
   have HYY:Hid (fk (zs[i]'hj')=s.data.toList->OK=true/\T=(zs[i]'hj').1):=fun he=>hSi (fun j hj=>HRN j hj _) he;have HCP:Hid (∀ V,Below w.heap.size w V->Rws V (zs[i]'hj')):=hcp;clear HRN hSi hcp;generalize zs[i]'hj'=z at *;have hi33:(prog.info? 46).map (·.size)=some (zc z).length:=by rw [show (zc z).length=33 from ji hl _ _ _];kernel_rfl
   have hc0:wr.cell? ⟨b,off+i*33,none⟩=some (.string z.1.name):=by
    have:=hra 0 (.string z.1.name) rfl;simpa using this
   by_cases he:fk z=s.data.toList
   ·have hq:=j32 (a:=z.1.name) (b:=s) he;obtain ⟨rfl,rfl⟩:=HYY.out he;have hM:=HR.out.1;have hg2:=hM.get 0 rfl;have hM3:=hM.wrote 0 rfl (j8 wr g _ (zc z).toArray _ hg2);have hj3:(prog.info? 46).map (·.size)=some (zc z).toArray.size:=by rw [j1f hl];kernel_rfl
    have hs3:tz.size=(zc z).toArray.size:=by rw [j1f hl];rfl
    have HQ:Hid ((wr.setRow g (zc z).toArray).heap[g]?=some (.cells (zc z).toArray 46)/\TV (wr.setRow g (zc z).toArray) (.agg (zc z).toArray) z.1/\Below w.heap.size w (wr.setRow g (zc z).toArray)):=⟨hM3.get 0 rfl,jpt hl (HCP.out _ hM3.below),hM3.below⟩;have hz33:=j1f hl;clear HYY HNX HCP he hM hM3 HR;go_wp2_with (first|(refine wpList_load_mid rfl 46 (.tmp 22) (by with_reducible rfl) b (off+i*33) (by simp [a1]) (zc z) _ hra underlying46 rfl hi33 ?_)|(refine wpList_store_row rfl 46 (.tmp 4) (.tmp 23) (by with_reducible rfl) g (zc z).toArray (by first|rfl|simp [a1]) (by first|rfl|simp [a1]) 46 tz hg2 hj3 hs3 ho ?_)|fail)
    refine bodyPost_ret (v:=.tuple #[.agg (zc z).toArray,.bool true]) ?_ rfl ⟨(zc z).toArray,rfl,HQ.out.2.1,by first|exact HQ.out.2.2|(have hq2:=HQ.out.2.2;rw [hg] at hq2;exact hq2)⟩;exact zu (p:=4) (q:=5) (ty:=46) rfl _ _ g (zc z).toArray rfl (j37 HQ.out.1 hz33)
   ·have hq:=j69 (a:=z.1.name) (b:=s) he;have HF:Hid (Mem w wr [(g,.cells tz 46)]/\∀ j (hj:j<i+1) (hj':j<zs.length),fk (zs[j]'hj')≠s.data.toList):=⟨HR.out.1,HNX.out he⟩;clear HYY HNX HCP he hra HR;go_wp2_with fail;go_roundw
    case rel=>exact ⟨i+1,by omega,by go_num,HF⟩
    case measure=>simp [intOf];omega
  ·have h1:¬((i:Int)<N):=by omega
   obtain rfl:i=N:=by omega
   obtain ⟨rfl,rfl⟩:=HN.out fun j hj=>HR.out.2 j hj _;have hM:=HR.out.1;have hgz:=hM.get 0 rfl;have hM3:=hM.wrote 0 rfl (j8 wr g _ tz _ hgz);have hj3:(prog.info? 46).map (·.size)=some tz.size:=by kernel_rfl
   have ho':tz.all (·.oneCell')=true:=by kernel_rfl
   have HQ:Hid ((wr.setRow g tz).heap[g]?=some (.cells tz 46)/\TV (wr.setRow g tz) (.agg tz) ten0/\Below w.heap.size w (wr.setRow g tz)):=by
    refine ⟨hM3.get 0 rfl,⟨j1h,nilV,nilV,nilV,rfl,⟨none,0,rfl,Nat.le_refl _,by omega,fun _=>rfl,a3 rfl⟩,⟨none,0,rfl,Nat.le_refl _,by omega,fun _=>rfl,a3 rfl⟩,⟨none,0,rfl,Nat.le_refl _,by omega,fun _=>rfl,a3 rfl⟩⟩,hM3.below⟩
   have hbz:∀ V:World,(Instr.build 46 #[]).run prog V=.ok (.agg tz) V:=fun V=>by kernel_rfl
   have hb1:=hbz wr;have htz:tz.size=tz.size:=rfl;have hsz:tz.size=33:=rfl;clear HX HS HN HR hM hM3 hbz;generalize htt:tz=A' at *;clear htt;go_wp2_with (first|(refine yy rfl 46 _ (by with_reducible rfl) hb1 (by first|kernel_rfl|rfl|simp [a1]) ?_)|(refine wpList_store_row rfl 46 (.tmp 4) (.tmp 24) (by with_reducible rfl) g A' (by first|rfl|simp [a1]) (by first|rfl|simp [a1]) 46 A' hgz hj3 htz ho' ?_)|fail)
   refine bodyPost_ret (v:=.tuple #[.agg A',.bool false]) ?_ rfl ⟨A',rfl,HQ.out.2.1,by first|exact HQ.out.2.2|(have hq2:=HQ.out.2.2;rw [hg] at hq2;exact hq2)⟩;exact zu (p:=4) (q:=5) (ty:=46) rfl _ _ g A' rfl (j37 HQ.out.1 hsz)
end Df
end
section
open Go.RowKit Sm Cf
abbrev stT:TypeId:=101
def xA (pl:Nat) (ver:Int) (c:Cgf) (u:Value) (sp:Option Addr) (dn:Bool):List Value:=.pointer (some ⟨pl,0,none⟩)::.int .u64 ver::(cc c u++[.pointer sp,.bool dn])
def bgn (dn:Bool) (sp:Option Addr):Int:=if dn then 113 else if sp.isNone then 111 else 0
def bgc (dn:Bool) (sp:Option Addr) (v ver:Int):Int:=if dn then 113 else if sp.isSome then 110 else if v=ver then 0 else 112
section
variable {pl:Nat} {ver:Int} {c:Cgf} {u:Value} {sp:Option Addr} {dn:Bool}
theorem j2t (a:CLen c):∃ A:List Value,A.length=31/\∀ sp dn,xA pl ver c u sp dn=A++[.pointer sp,.bool dn] :=
 ⟨.pointer (some ⟨pl,0,none⟩)::.int .u64 ver::cc c u,by simp [je a],fun _ _=>rfl⟩
theorem j8v (a:CLen c):(xA pl ver c u sp dn).toArray.size=33:=by simp [xA,je a]
theorem xA_1:(xA pl ver c u sp dn).toArray[1]?=some (.int .u64 ver):=rfl
theorem xA_0:(xA pl ver c u sp dn).toArray[0]?=some (.pointer (some ⟨pl,0,none⟩)):=rfl
theorem ji0 (a:CLen c):(xA pl ver c u sp dn).toArray[31]?=some (.pointer sp):=by
 obtain ⟨A,b,h⟩:=j2t (pl:=pl) (ver:=ver) (u:=u) a;rw [h,a4,a5 (by omega),b];rfl
theorem jsr (a:CLen c):(xA pl ver c u sp dn).toArray[32]?=some (.bool dn):=by
 obtain ⟨A,b,h⟩:=j2t (pl:=pl) (ver:=ver) (u:=u) a;rw [h,a4,a5 (by omega),b];rfl
theorem j0s (a:CLen c) (q:Option Addr):(xA pl ver c u sp dn).toArray.setIfInBounds 31 (.pointer q)=(xA pl ver c u q dn).toArray:=by
 obtain ⟨A,b,h⟩:=j2t (pl:=pl) (ver:=ver) (u:=u) a;rw [h,h];simp [a6,b]
theorem jas (a:CLen c) (q:Bool):(xA pl ver c u sp dn).toArray.setIfInBounds 32 (.bool q)=(xA pl ver c u sp q).toArray:=by
 obtain ⟨A,b,h⟩:=j2t (pl:=pl) (ver:=ver) (u:=u) a;rw [h,h];simp [a6,b]
theorem jpo:∀ j x,(cc c u)[j]?=some x->(xA pl ver c u sp dn).toArray[2+j]?=some x:=by
 intro j x a;have b:=(List.getElem?_eq_some_iff.mp a).1;rw [a4,show 2+j=j+1+1 by omega,xA,a7,a7,List.getElem?_append_left b];exact a
variable {w W:World} {ps:Nat} {L:List (Nat×Obj)}
theorem j5l (b:Mem w W ((ps,.cells (xA pl ver c u sp dn).toArray stT (0,0))::L)):W.rangeAt ps 2 (cc c u):=fun j x a=>by
 rw [b.cell 0 rfl];exact jpo j x a
end
section
variable {W:World} {ps:Nat} {sp:Option Addr} {dn:Bool} {ver v:Int}
theorem kx (b:W.cell? ⟨ps,31,none⟩=some (.pointer sp)) (a:W.cell? ⟨ps,32,none⟩=some (.bool dn)) :
 Calls prog 53 #[.pointer (some ⟨ps,0,none⟩)] W fun e d=>e=.returned (.int .i64 (bgn dn sp))/\W=d:=by
 cases dn<;>cases sp
 all_goals
  go_enter func53,ntmps53
  go_wp2
  go_ret;exact ⟨rfl,rfl⟩
theorem jca (k:W.cell? ⟨ps,1,none⟩=some (.int .u64 ver)) (i:W.cell? ⟨ps,31,none⟩=some (.pointer sp)) (f:W.cell? ⟨ps,32,none⟩=some (.bool dn)) (b:bgc dn sp v ver≠0) :
 Calls prog 22 #[.pointer (some ⟨ps,0,none⟩),.int .u64 v] W fun e j=>e=.returned (.int .i64 (bgc dn sp v ver))/\W=j:=by
 cases dn
 ·cases sp
  ·have a:¬v=ver:=fun h=>b (by simp [bgc,h]);have d:(v != ver)=true:=by simp [a]
   have e:bgc false none v ver=112:=by simp [bgc,a]
   rw [e];clear b e;go_enter func22,ntmps22
   go_wp2
   go_ret;exact ⟨rfl,rfl⟩
  ·go_enter func22,ntmps22
   go_wp2
   go_ret;exact ⟨rfl,rfl⟩
 ·go_enter func22,ntmps22
  go_wp2
  go_ret;exact ⟨rfl,rfl⟩
theorem jcg (b:W.cell? ⟨ps,31,none⟩=some (.pointer sp)) (a:W.cell? ⟨ps,32,none⟩=some (.bool dn)) (f:bgn dn sp≠0) :
 Calls prog 23 #[.pointer (some ⟨ps,0,none⟩)] W fun e i=>e=.returned (.int .i64 (bgn dn sp))/\W=i:=by
 have C:=kx b a;have d:=jk (bgn dn sp) W;have h:(bgn dn sp != 0)=true:=by simp [f]
 rw [h] at d;generalize bgn dn sp=k at C d;clear f h;go_enter func23,ntmps23;go_wp2_with fail;refine C.mono ?_;rintro e _ ⟨rfl,rfl⟩;go_wp2_with fail;refine d.mono ?_;rintro e _ ⟨rfl,rfl⟩;go_wp2_with fail;go_ret;exact ⟨rfl,rfl⟩
end
section
variable {w W:World} {ps:Nat} {A:Array Value} {L:List (Nat×Obj)}
theorem j3p (d:Mem w W ((ps,.cells A stT (0,0))::L)) (l:A.size=33) (b:A[31]?=some (.pointer q)) :
 Calls prog 52 #[.pointer (some ⟨ps,0,none⟩),.agg cl] W fun e j=>∃ g,e=.returned (.tuple #[])/\Mem w j ((ps,.cells (A.setIfInBounds 31 (.pointer (some ⟨g,0,none⟩))) stT (0,0))::(g,.cells cl 39)::L):=by
 obtain ⟨g,f⟩:∃ g,W.heap.size=g:=⟨_,rfl⟩;have a:Mem w (W.alloc (.cells cl 39)) ((g,.cells cl 39)::(ps,.cells A stT (0,0))::L):=d.front _ f.symm;have i:(W.alloc (.cells cl 39)).cell? ⟨ps,31,none⟩=some (.pointer q):=by rw [a.cell 1 rfl];exact b
 have h:(W.alloc (.cells cl 39)).frozen? ⟨ps,31,none⟩=false:=a.free 1 rfl 31;have k:Hid (Mem w ((W.alloc (.cells cl 39)).setCell ⟨ps,31,none⟩ (.pointer (some ⟨g,0,none⟩))) ((ps,.cells (A.setIfInBounds 31 (.pointer (some ⟨g,0,none⟩))) stT (0,0))::(g,.cells cl 39)::L)):=(a.set 1 rfl 31 (.pointer (some ⟨g,0,none⟩))).perm (List.Perm.swap _ _ _);clear a d;go_enter func52,ntmps52;go_wp2_with fail
 go_end0
 exact ⟨g,rfl,k.out⟩
end
end
section
open Go.RowKit Va
open Ad (nam)
theorem tq3 {t:Ten} (a:Vs W) (h:TBo W g t) (b:TSm t):Ask W 168 #[.pointer (some ⟨g,0,none⟩)] (nam t.name.data.toList):=by
 refine ⟨enters_of func168 (by kernel_rfl) rfl,fun V e=>?_⟩;obtain ⟨f,m,i,k,l,sc,j,d,hx⟩:=h.later e;have o:=jb d hx.name;have C:=jji (a.below e) t.name (by have:=b.1;omega);clear h b d hx a;simp only [a8,a9,aa,ab];generalize nam t.name.data.toList=B at *;generalize t.name=s at *;go_enter func168,ntmps168;go_wp2_with fail;refine C.mono ?_;rintro _ X ⟨rfl,hb⟩;go_wp2_with fail;go_ret;exact ⟨rfl,hb⟩
theorem tq4 {t:Ten} (h:TBo W g t) (b:TSm t):Ask W 170 #[.pointer (some ⟨g,0,none⟩)] (wi t.vni 1 16777215):=by
 refine ⟨enters_of func170 (by kernel_rfl) rfl,fun V d=>?_⟩;obtain ⟨e,l,f,j,k,sc,i,a,hx⟩:=h.later d;have m:=jb a hx.vni;have C:=j51 V t.vni 1 16777215;clear h b a hx;simp only [a8,a9,aa,ab];generalize wi t.vni 1 16777215=B at *;generalize t.vni=x at *;go_enter func170,ntmps170;go_wp2_with fail;refine C.mono ?_;rintro _ X ⟨rfl,rfl⟩;go_wp2_with fail;go_ret;exact ⟨rfl,ac _ _⟩
theorem tq5 {t:Ten} (h:TBo W g t) (b:TSm t):Ask W 172 #[.pointer (some ⟨g,0,none⟩)] (decide ((t.pool.length:Int)<=8)):=by
 refine ⟨enters_of func172 (by kernel_rfl) rfl,fun V d=>?_⟩;obtain ⟨e,l,f,j,k,sc,i,a,hx⟩:=h.later d;have m:=jb a hx.pool;clear h b a hx;simp only [a8,a9,aa,ab];generalize t.pool.length=n at *;go_enter func172,ntmps172;go_wp2_with fail;go_ret;exact ⟨rfl,ac _ _⟩
theorem tq6 {t:Ten} (h:TBo W g t) (a:TSm t):Ask W 173 #[.pointer (some ⟨g,0,none⟩)] (unl t.pool):=by
 refine ⟨enters_of func173 (by kernel_rfl) rfl,fun V d=>?_⟩;obtain ⟨e,l,f,j,k,sc,i,b,hx⟩:=h.later d;have m:=jb b hx.pool;have C:=j05 hx.rp a.2.1;clear h a b hx;simp only [a8,a9,aa,ab];generalize unl t.pool=B at *;generalize t.pool.length=n at *;go_enter func173,ntmps173;go_wp2_with fail;refine C.mono ?_;rintro _ X ⟨rfl,rfl⟩;go_wp2_with fail;go_ret;exact ⟨rfl,ac _ _⟩
theorem tq7 {t:Ten} (h:TBo W g t) (b:TSm t):Ask W 175 #[.pointer (some ⟨g,0,none⟩)] (wi t.lo 1 t.hi):=by
 refine ⟨enters_of func175 (by kernel_rfl) rfl,fun V d=>?_⟩;obtain ⟨e,l,f,j,k,sc,i,a,hx⟩:=h.later d;have o:=jb a hx.lo;have m:=jb a hx.hi;have C:=jcl V t.lo 1 t.hi;clear h b a hx;simp only [a8,a9,aa,ab];generalize wi t.lo 1 t.hi=B at *;generalize t.lo=x at *;generalize t.hi=y at *;go_enter func175,ntmps175;go_wp2_with fail;refine C.mono ?_;rintro _ X ⟨rfl,rfl⟩;go_wp2_with fail;go_ret;exact ⟨rfl,ac _ _⟩
theorem tq8 {t:Ten} (h:TBo W g t) (b:TSm t):Ask W 177 #[.pointer (some ⟨g,0,none⟩)] (wi t.filter 0 2):=by
 refine ⟨enters_of func177 (by kernel_rfl) rfl,fun V d=>?_⟩;obtain ⟨e,l,f,j,k,sc,i,a,hx⟩:=h.later d;have m:=jb a hx.filter;have C:=j21 V t.filter 0 2;clear h b a hx;simp only [a8,a9,aa,ab];generalize wi t.filter 0 2=B at *;generalize t.filter=x at *;go_enter func177,ntmps177;go_wp2_with fail;refine C.mono ?_;rintro _ X ⟨rfl,rfl⟩;go_wp2_with fail;go_ret;exact ⟨rfl,ac _ _⟩
theorem tq9 {t:Ten} (h:TBo W g t) (b:TSm t):Ask W 179 #[.pointer (some ⟨g,0,none⟩)] (decide ((t.stat.length:Int)<=16)):=by
 refine ⟨enters_of func179 (by kernel_rfl) rfl,fun V d=>?_⟩;obtain ⟨e,l,f,j,k,sc,i,a,hx⟩:=h.later d;have m:=jb a hx.stat;clear h b a hx;simp only [a8,a9,aa,ab];generalize t.stat.length=n at *;go_enter func179,ntmps179;go_wp2_with fail;go_ret;exact ⟨rfl,ac _ _⟩
theorem tq10 {t:Ten} (h:TBo W g t) (b:TSm t):Ask W 180 #[.pointer (some ⟨g,0,none⟩)] (decide ((t.twi.length:Int)<=16)):=by
 refine ⟨enters_of func180 (by kernel_rfl) rfl,fun V d=>?_⟩;obtain ⟨e,l,f,j,k,sc,i,a,hx⟩:=h.later d;have m:=jb a hx.twi;clear h b a hx;simp only [a8,a9,aa,ab];generalize t.twi.length=n at *;go_enter func180,ntmps180;go_wp2_with fail;go_ret;exact ⟨rfl,ac _ _⟩
theorem tq11 {t:Ten} (h:TBo W g t) (d:TSm t):Ask W 181 #[.pointer (some ⟨g,0,none⟩)] (unl (fst' t.stat) && unl (snd' t.stat)):=by
 refine ⟨enters_of func181 (by kernel_rfl) rfl,fun V D=>?_⟩;obtain ⟨H,M,o,J,K,sc,I,r,hx⟩:=h.later D;have l:=jb r hx.stat;have C:=j2i hx.rs d.2.2.1;have y:Hid (∀ X,Below V.heap.size V X->X.cell? ⟨g,27,none⟩=some (.slice o t.stat.length sc)/\Calls prog 183 #[.slice o t.stat.length sc] X fun e w'=>∃ u,e=.returned u/\Rw w' 1 u (ux (snd' t.stat))/\Below X.heap.size X w'):=fun X s=>⟨by rw [s.cell (p:=⟨g,27,none⟩) (j9 l)];exact l,j1a (hx.later s).rs d.2.2.1⟩;have x:Hid (t.stat.length<=1000000):=d.2.2.1;have k:(fst' t.stat).length=t.stat.length:=by simp [fst']
 have j:(snd' t.stat).length=t.stat.length:=by simp [snd']
 clear h d r hx;simp only [a8,a9,aa,ab];obtain ⟨G,a⟩:∃ B,unl (fst' t.stat)=B:=⟨_,rfl⟩;rw [a];generalize fst' t.stat=P at *;generalize snd' t.stat=O at *;generalize t.stat.length=n at *;go_enter func181,ntmps181;go_wp2_with fail;refine C.mono ?_;rintro _ X ⟨u,rfl,hr,hb⟩;have i:=j05 hr (by rw [k];exact x.out);obtain ⟨N,z⟩:=y.out X hb;have f:Hid (Below V.heap.size V X):=hb;clear C hr hb y l;rw [a] at i;clear a;cases G with
 | false =>
  go_wp2_with fail;refine i.mono ?_;rintro _ _ ⟨rfl,rfl⟩;go_wp2_with fail;go_ret;exact ⟨rfl,f.out⟩
 | true =>
  go_wp2_with fail;refine i.mono ?_;rintro _ _ ⟨rfl,rfl⟩;go_wp2_with fail;refine z.mono ?_;rintro _ E ⟨u2,rfl,b,hb2⟩;have F:=j05 b (by rw [j];exact x.out);clear z i b;have m:Hid (Below V.heap.size V E):=f.out.trans (hb2.mono f.out.size);clear hb2 f;go_wp2_with fail;refine F.mono ?_;rintro _ _ ⟨rfl,rfl⟩;go_wp2_with fail;go_ret;exact ⟨by simp,m.out⟩
theorem tq12 {t:Ten} (h:TBo W g t) (d:TSm t):Ask W 184 #[.pointer (some ⟨g,0,none⟩)] (unl (fst' t.twi) && unl (snd' t.twi)):=by
 refine ⟨enters_of func184 (by kernel_rfl) rfl,fun V E=>?_⟩;obtain ⟨I,M,J,r,K,sc,o,s,hx⟩:=h.later E;have l:=jb s hx.twi;have C:=j2i hx.rq d.2.2.2;have z:Hid (∀ X,Below V.heap.size V X->X.cell? ⟨g,28,none⟩=some (.slice r t.twi.length o)/\Calls prog 183 #[.slice r t.twi.length o] X fun e w'=>∃ u,e=.returned u/\Rw w' 1 u (ux (snd' t.twi))/\Below X.heap.size X w'):=fun X x=>⟨by rw [x.cell (p:=⟨g,28,none⟩) (j9 l)];exact l,j1a (hx.later x).rq d.2.2.2⟩;have y:Hid (t.twi.length<=1000000):=d.2.2.2;have k:(fst' t.twi).length=t.twi.length:=by simp [fst']
 have j:(snd' t.twi).length=t.twi.length:=by simp [snd']
 clear h d s hx;simp only [a8,a9,aa,ab];obtain ⟨H,a⟩:∃ B,unl (fst' t.twi)=B:=⟨_,rfl⟩;rw [a];generalize fst' t.twi=P at *;generalize snd' t.twi=O at *;generalize t.twi.length=n at *;go_enter func184,ntmps184;go_wp2_with fail;refine C.mono ?_;rintro _ X ⟨u,rfl,hr,hb⟩;have i:=j05 hr (by rw [k];exact y.out);obtain ⟨N,D⟩:=z.out X hb;have f:Hid (Below V.heap.size V X):=hb;clear C hr hb z l;rw [a] at i;clear a;cases H with
 | false =>
  go_wp2_with fail;refine i.mono ?_;rintro _ _ ⟨rfl,rfl⟩;go_wp2_with fail;go_ret;exact ⟨rfl,f.out⟩
 | true =>
  go_wp2_with fail;refine i.mono ?_;rintro _ _ ⟨rfl,rfl⟩;go_wp2_with fail;refine D.mono ?_;rintro _ F ⟨u2,rfl,b,hb2⟩;have G:=j05 b (by rw [j];exact y.out);clear D i b;have m:Hid (Below V.heap.size V F):=f.out.trans (hb2.mono f.out.size);clear hb2 f;go_wp2_with fail;refine G.mono ?_;rintro _ _ ⟨rfl,rfl⟩;go_wp2_with fail;go_ret;exact ⟨by simp,m.out⟩
theorem tp1 {t:Ten} (h:TBo W g t) (a:TSm t):PrU W 165 #[.pointer (some ⟨g,0,none⟩)] (hs t.pool):=by
 refine ⟨enters_of func165 (by kernel_rfl) rfl,fun x V d=>?_⟩;obtain ⟨e,l,f,j,k,sc,i,b,hx⟩:=h.later d;have m:=jb b hx.pool;have C:=j5f hx.rp a.2.1 x;clear h a b hx;simp only [a8,a9,aa,ab];generalize hs t.pool x=B at *;generalize t.pool.length=n at *;go_enter func165,ntmps165;go_wp2_with fail;refine C.mono ?_;rintro _ X ⟨rfl,rfl⟩;go_wp2_with fail;go_ret;exact ⟨rfl,ac _ _⟩
theorem tp2 {t:Ten} (h:TBo W g t) (b:TSm t):PrU W 167 #[.pointer (some ⟨g,0,none⟩)] (owns t):=by
 refine ⟨enters_of func167 (by kernel_rfl) rfl,fun x V f=>?_⟩;obtain ⟨d,m,i,k,l,sc,j,e,hx⟩:=h.later f;have C:=jbm hx.tv b x;have a:=j5b hx.len;clear h b hx;simp only [a8,a9,aa,ab];generalize owns t x=B at *;generalize d.toArray=A at *;go_enter func167,ntmps167;go_wp2_with (refine wpList_load_row rfl 46 (.tmp 1) (by with_reducible rfl) g (by first|rfl|simp [a1]) 46 A (0,0) _ e underlying46 rfl a ?_)
 refine C.mono ?_;rintro _ X ⟨rfl,hb⟩;go_wp2_with fail;go_ret;exact ⟨rfl,hb⟩
theorem tq13 {t:Ten} (h:TBo W g t) (j:TSm t) (hc:W.cell? ⟨g1,0,none⟩=some (.func (.func 165) #[] #[.pointer (some ⟨g,0,none⟩)])):Ask W 185 #[.pointer (some ⟨g,0,none⟩),.pointer (some ⟨g1,0,none⟩)] ((snd' t.stat).any (hs t.pool)):=by
 refine ⟨enters_of func185 (by kernel_rfl) rfl,fun V f=>?_⟩;obtain ⟨G,M,k,I,J,sc,H,r,hx⟩:=h.later f;have x:=jb r hx.stat;have s:V.cell? ⟨g1,0,none⟩=some (.func (.func 165) #[] #[.pointer (some ⟨g,0,none⟩)]):=by rw [f.cell (p:=⟨g1,0,none⟩) (j9 hc)];exact hc
 have C:∀ X,Below V.heap.size V X->Calls prog 183 #[.slice k t.stat.length sc] X fun e w'=>∃ u,e=.returned u/\Rw w' 1 u (ux (snd' t.stat))/\Below V.heap.size V w':=fun X hb=>by
  refine (j1a (hx.later hb).rs j.2.2.1).mono ?_;rintro _ Y ⟨u,D,z,y⟩;exact ⟨u,D,z,hb.trans (y.mono hb.size)⟩
 have l:Hid (∀ X,Below V.heap.size V X->X.cell? ⟨g,27,none⟩=some (.slice k t.stat.length sc)/\X.cell? ⟨g1,0,none⟩=some (.func (.func 165) #[] #[.pointer (some ⟨g,0,none⟩)])):=fun X d=>⟨by rw [d.cell (p:=⟨g,27,none⟩) (j9 x)];exact x,by rw [d.cell (p:=⟨g1,0,none⟩) (j9 s)];exact s⟩;have m:(snd' t.stat).length<=1000000:=by simp [snd'];exact j.2.2.1
 have F:Hid (∀ X u,Below V.heap.size V X->Rw X 1 u (ux (snd' t.stat))->Calls prog 141 #[u,.func (.func 165) #[] #[.pointer (some ⟨g,0,none⟩)]] X fun e w'=>e=.returned (.bool ((snd' t.stat).any (hs t.pool)))/\Below V.heap.size V w'):=fun X u d hr=>(j1d hr m (tp1 (h.later (f.trans (d.mono f.size))) j)).mono (fun e w' o=>⟨o.1,d.trans (o.2.mono d.size)⟩);clear h j r hx hc m f;simp only [a8,a9,aa,ab];generalize (snd' t.stat).any (hs t.pool)=B at *;generalize snd' t.stat=N at *;generalize t.stat.length=n at *;go_enter func185,ntmps185;go_upto_region 1 with fail;refine wp_region_held_drew (S:=fun X=>X.cell? ⟨g,27,none⟩=some (.slice k n sc)/\X.cell? ⟨g1,0,none⟩=some (.func (.func 165) #[] #[.pointer (some ⟨g,0,none⟩)])) (by kernel_rfl) (l.out _ (by first|exact ac _ _|exact (ac _ _).drew)) (fun b=>?_);refine tkq 0 rfl (v:=?_) (a3 ⟨by rfl,?qy0⟩) ?_
 case qy0=>intro w a;(try dsimp only at a);go_simp;all_goals with_reducible rfl
 try simp only [sqx,a2]
 refine tkq 1 rfl (v:=?_) (a3 ⟨by rfl,?qy1⟩) ?_
 case qy1=>intro w a;(try dsimp only at a);go_simp;all_goals with_reducible rfl
 try simp only [sqx,a2]
 refine tkq 3 rfl (v:=?_) (a3 ⟨by rfl,?qy3⟩) ?_
 case qy3=>intro w a;(try dsimp only at a);go_simp;all_goals with_reducible rfl
 try simp only [sqx,a2]
 refine wpAnyH_ready (rs:=[2]) (by kernel_rfl) (by simp) ?_;refine ad rfl (fun K i=>?_) ae;go_simp
 with_reducible refine (C _ (by first|exact ac _ _|exact (ac _ _).drew)).mono ?_
 rintro _ X ⟨u,rfl,hr,hb⟩
 try go_wp2_with fail
 refine i.out _ _ (l.out X hb) (fun b=>?_);clear i K
 try simp only [sqx,a2]
 refine wpAnyH_ready (rs:=[4]) (by kernel_rfl) (by simp) ?_;refine ad rfl (fun K i=>?_) ae;go_simp
 with_reducible refine (F.out X u hb hr).mono ?_
 rintro _ E ⟨rfl,hb2⟩
 try go_wp2_with fail
 refine i.out _ _ (l.out E hb2) (fun b=>?_);clear i K
 try simp only [sqx,a2]
 refine tkq 5 rfl (v:=?_) (a3 ⟨by rfl,?qy5⟩) ?_
 case qy5=>intro w a;(try dsimp only at a);go_simp;all_goals with_reducible rfl
 try simp only [sqx,a2]
 refine wpAnyH_done (by kernel_rfl) ?_ _;go_wp2_with fail;go_ret;exact ⟨rfl,hb2⟩
theorem tq14 {t:Ten} (h:TBo W g t) (j:TSm t) (hc:W.cell? ⟨g1,0,none⟩=some (.func (.func 167) #[] #[.pointer (some ⟨g,0,none⟩)])):Ask W 186 #[.pointer (some ⟨g,0,none⟩),.pointer (some ⟨g1,0,none⟩)] ((fst' t.twi).any (owns t)):=by
 refine ⟨enters_of func186 (by kernel_rfl) rfl,fun V f=>?_⟩;obtain ⟨H,M,I,l,J,sc,k,s,hx⟩:=h.later f;have y:=jb s hx.twi;have x:V.cell? ⟨g1,0,none⟩=some (.func (.func 167) #[] #[.pointer (some ⟨g,0,none⟩)]):=by rw [f.cell (p:=⟨g1,0,none⟩) (j9 hc)];exact hc
 have C:∀ X,Below V.heap.size V X->Calls prog 182 #[.slice l t.twi.length k] X fun e w'=>∃ u,e=.returned u/\Rw w' 1 u (ux (fst' t.twi))/\Below V.heap.size V w':=fun X hb=>by
  refine (j2i (hx.later hb).rq j.2.2.2).mono ?_;rintro _ Y ⟨u,E,D,z⟩;exact ⟨u,E,D,hb.trans (z.mono hb.size)⟩
 have m:Hid (∀ X,Below V.heap.size V X->X.cell? ⟨g,28,none⟩=some (.slice l t.twi.length k)/\X.cell? ⟨g1,0,none⟩=some (.func (.func 167) #[] #[.pointer (some ⟨g,0,none⟩)])):=fun X d=>⟨by rw [d.cell (p:=⟨g,28,none⟩) (j9 y)];exact y,by rw [d.cell (p:=⟨g1,0,none⟩) (j9 x)];exact x⟩;have o:(fst' t.twi).length<=1000000:=by simp [fst'];exact j.2.2.2
 have G:Hid (∀ X u,Below V.heap.size V X->Rw X 1 u (ux (fst' t.twi))->Calls prog 141 #[u,.func (.func 167) #[] #[.pointer (some ⟨g,0,none⟩)]] X fun e w'=>e=.returned (.bool ((fst' t.twi).any (owns t)))/\Below V.heap.size V w'):=fun X u d hr=>(j1d hr o (tp2 (h.later (f.trans (d.mono f.size))) j)).mono (fun e w' r=>⟨r.1,d.trans (r.2.mono d.size)⟩);clear h j s hx hc o f;simp only [a8,a9,aa,ab];generalize (fst' t.twi).any (owns t)=B at *;generalize fst' t.twi=N at *;generalize t.twi.length=n at *;go_enter func186,ntmps186;go_upto_region 1 with fail;refine wp_region_held_drew (S:=fun X=>X.cell? ⟨g,28,none⟩=some (.slice l n k)/\X.cell? ⟨g1,0,none⟩=some (.func (.func 167) #[] #[.pointer (some ⟨g,0,none⟩)])) (by kernel_rfl) (m.out _ (by first|exact ac _ _|exact (ac _ _).drew)) (fun b=>?_);refine tkq 0 rfl (v:=?_) (a3 ⟨by rfl,?qy0⟩) ?_
 case qy0=>intro w a;(try dsimp only at a);go_simp;all_goals with_reducible rfl
 try simp only [sqx,a2]
 refine tkq 1 rfl (v:=?_) (a3 ⟨by rfl,?qy1⟩) ?_
 case qy1=>intro w a;(try dsimp only at a);go_simp;all_goals with_reducible rfl
 try simp only [sqx,a2]
 refine tkq 3 rfl (v:=?_) (a3 ⟨by rfl,?qy3⟩) ?_
 case qy3=>intro w a;(try dsimp only at a);go_simp;all_goals with_reducible rfl
 try simp only [sqx,a2]
 refine wpAnyH_ready (rs:=[2]) (by kernel_rfl) (by simp) ?_;refine ad rfl (fun K i=>?_) ae;go_simp
 with_reducible refine (C _ (by first|exact ac _ _|exact (ac _ _).drew)).mono ?_
 rintro _ X ⟨u,rfl,hr,hb⟩
 try go_wp2_with fail
 refine i.out _ _ (m.out X hb) (fun b=>?_);clear i K
 try simp only [sqx,a2]
 refine wpAnyH_ready (rs:=[4]) (by kernel_rfl) (by simp) ?_;refine ad rfl (fun K i=>?_) ae;go_simp
 with_reducible refine (G.out X u hb hr).mono ?_
 rintro _ F ⟨rfl,hb2⟩
 try go_wp2_with fail
 refine i.out _ _ (m.out F hb2) (fun b=>?_);clear i K
 try simp only [sqx,a2]
 refine tkq 5 rfl (v:=?_) (a3 ⟨by rfl,?qy5⟩) ?_
 case qy5=>intro w a;(try dsimp only at a);go_simp;all_goals with_reducible rfl
 try simp only [sqx,a2]
 refine wpAnyH_done (by kernel_rfl) ?_ _;go_wp2_with fail;go_ret;exact ⟨rfl,hb2⟩
theorem tq15 {t:Ten} (h:TBo W g t) (b:TSm t):Ask W 187 #[.pointer (some ⟨g,0,none⟩)] (wi t.sess 1 256):=by
 refine ⟨enters_of func187 (by kernel_rfl) rfl,fun V d=>?_⟩;obtain ⟨e,l,f,j,k,sc,i,a,hx⟩:=h.later d;have m:=jb a hx.sess;have C:=j21 V t.sess 1 256;clear h b a hx;simp only [a8,a9,aa,ab];generalize wi t.sess 1 256=B at *;generalize t.sess=x at *;go_enter func187,ntmps187;go_wp2_with fail;refine C.mono ?_;rintro _ X ⟨rfl,rfl⟩;go_wp2_with fail;go_ret;exact ⟨rfl,ac _ _⟩
theorem tq16 {t:Ten} (h:TBo W g t) (b:TSm t):Ask W 188 #[.pointer (some ⟨g,0,none⟩)] (wi t.queue 1 64):=by
 refine ⟨enters_of func188 (by kernel_rfl) rfl,fun V d=>?_⟩;obtain ⟨e,l,f,j,k,sc,i,a,hx⟩:=h.later d;have m:=jb a hx.queue;have C:=j21 V t.queue 1 64;clear h b a hx;simp only [a8,a9,aa,ab];generalize wi t.queue 1 64=B at *;generalize t.queue=x at *;go_enter func188,ntmps188;go_wp2_with fail;refine C.mono ?_;rintro _ X ⟨rfl,rfl⟩;go_wp2_with fail;go_ret;exact ⟨rfl,ac _ _⟩
theorem tq18 {t:Ten} (h:TBo W g t) (b:TSm t):Ask W 190 #[.pointer (some ⟨g,0,none⟩)] (wi t.burst 1 1000000):=by
 refine ⟨enters_of func190 (by kernel_rfl) rfl,fun V d=>?_⟩;obtain ⟨e,l,f,j,k,sc,i,a,hx⟩:=h.later d;have m:=jb a hx.burst;have C:=j51 V t.burst 1 1000000;clear h b a hx;simp only [a8,a9,aa,ab];generalize wi t.burst 1 1000000=B at *;generalize t.burst=x at *;go_enter func190,ntmps190;go_wp2_with fail;refine C.mono ?_;rintro _ X ⟨rfl,rfl⟩;go_wp2_with fail;go_ret;exact ⟨rfl,ac _ _⟩
theorem tq17 {t:Ten} (h:TBo W g t) (b:TSm t):Ask W 189 #[.pointer (some ⟨g,0,none⟩)] (decide (t.rate<=1000000)):=by
 refine ⟨enters_of func189 (by kernel_rfl) rfl,fun V d=>?_⟩;obtain ⟨e,l,f,j,k,sc,i,a,hx⟩:=h.later d;have m:=jb a hx.rate;clear h b a hx;simp only [a8,a9,aa,ab];generalize t.rate=n at *;go_enter func189,ntmps189;go_wp2_with fail;go_ret;exact ⟨rfl,ac _ _⟩
theorem tq19 {t:Ten} (h:TBo W g t) (b:TSm t):Ask W 191 #[.pointer (some ⟨g,0,none⟩)] (t.vtep != 0):=by
 refine ⟨enters_of func191 (by kernel_rfl) rfl,fun V d=>?_⟩;obtain ⟨e,l,f,j,k,sc,i,a,hx⟩:=h.later d;have m:=jb a hx.vtep;clear h b a hx;simp only [a8,a9,aa,ab];generalize t.vtep=n at *;go_enter func191,ntmps191;go_wp2_with fail;go_ret;exact ⟨rfl,ac _ _⟩
end
section
open Go.RowKit Ad
open Go.Lib (decDigits)
open Sm (j6)
namespace La
def R32 (x:Int):Prop:=0<=x/\x<4294967296
structure TFit (t:Ten):Prop where
 len:TLen t
 name:nam t.name.data.toList=true
 vni:0<=t.vni/\t.vni<=16777215
 key:j6 t.key
 vtep:R32 t.vtep
 vmac:j6 t.vmac
 host:j6 t.host
 pool:∀ x∈t.pool,R32 x
 lo:0<=t.lo/\t.lo<=65535
 hi:0<=t.hi/\t.hi<=65535
 filter:0<=t.filter/\t.filter<=2
 stat:∀ p∈t.stat,R32 p.1/\R32 p.2
 twi:∀ p∈t.twi,R32 p.1/\R32 p.2
 sess:0<=t.sess/\t.sess<=65535
 queue:0<=t.queue/\t.queue<=65535
 rate:R32 t.rate
 burst:R32 t.burst
structure CFit (c:Cgf):Prop where
 len:CLen c
 ip:R32 c.ip
 mac:j6 c.mac
 omac:j6 c.omac
 nmac:j6 c.nmac
 key:j6 c.key
 drain:R32 c.drain
 ten:∀ t∈c.ten,TFit t
end La
end
section
open Go.RowKit Cf La Ad
end
end Go.Proofs.YtdigofgjhaakmaaGreatDoor
