/- Parts of the proof. -/
import Derived.Test.YtdigofgjhaakmaaGreatDoorF25
set_option linter.all false
set_option maxHeartbeats 40000000
set_option maxRecDepth 20000
open Go.Proofs.Tryz
open Go.Instr renaming build->a3
open Prod renaming fst->a4,snd->a5
open List renaming perm_append_comm->a6,getElem_cons_zero->a7,find?_cons->a8,mem_append_left->a9,mem_map->aa,setIfInBounds_toArray->ab,set_append_right->ac,cons_append->ad,set_cons_zero->ae,append_assoc->af,perm_iff_count->ag,count_cons->ah,count_append->ai,append_toArray->aj,nil_append->ak,getD->al,getElem?_eq_getElem->am
open Nat renaming zero_le->an,lt_or_ge->ao,le_refl->ap,sub_self->aq
open Go.Act renaming eval->ar
open Array renaming getElem?_eq_getElem->au
open Bool renaming false_and->av
namespace Go.Proofs.YtdigofgjhaakmaaGreatDoor
variable {w V:World} {v u:Value} {K:List (Nat×Obj)} {A caps:Array Value} {n b g i k:Nat} {t ty:TypeId} {post:List Value} {xs l:List Int} {o:Obj}
section
open Go.RowKit Ad
namespace La
abbrev Wd:=ByteArray×Nat
structure Sg where
 ws:List Wd
 fin:Nat
 bad:Option Nat
abbrev k8 (o:Option (List Int)):List Int:=o.getD [0,0,0,0,0,0,0,0]
end La
end
section
open Go.RowKit Sm Cf Df
namespace Df
def yN (s:ByteArray):Hv:=(⟨false,s,ten0⟩,nilV,nilV,nilV)
def yP (s:ByteArray) (z:Tv):Hv:=(⟨true,s,z.1⟩,z.2)
theorem jp9 (s:ByteArray) (V:World):(a3 48 #[(1,.string s)]).run prog V=.ok (.agg (yc (yN s)).toArray) V:=by kernel_rfl
theorem jhm (s:ByteArray) (z:Tv) (e:TLen z.1) (V:World):(a3 48 #[(0,.bool true),(1,.string s),(2,tv z)]).run prog V=.ok (.agg (yc (yP s z)).toArray) V:=by
 obtain ⟨⟨n,F,key,E,G,S,O,R,hi,Y,st,H,I,M,J,bu⟩,p,s',q⟩:=z;obtain ⟨C,r,j⟩:=e;obtain ⟨a,b,c,d,f,g,x,y,rfl⟩:=kt C;obtain ⟨a1,b1,c1,d1,f1,X,rfl⟩:=six6 r;obtain ⟨a2,b2,c2,d2,Z,U,rfl⟩:=six6 j;kernel_rfl
theorem j36 (n:List UInt8) (M:List Tv):look nk n (M.map a4)=(look fk n M).map a4:=(jbr (f:=fk) (g:=nk) (h:=a4) (fun _=>rfl) n M).symm
end Df
end
section
open Go.RowKit Sm Cf La
theorem Mem.front (h:Mem w V K) (o:Obj) (a:n=V.heap.size):Mem w (V.alloc o) ((n,o)::K):=(h.push n o a).perm a6
section
variable {w V V':World} {g:Nat} {post:List Value} {T:TypeId} {σ:Sg} {W K:List (Nat×Obj)}
end
end
section
open Go.RowKit Ad
namespace La
end La
end
section
open Go.RowKit Sm Cf Df
namespace Df
theorem jpt {z:Tv} (a:TLen z.1) (hr:Rws w z):TV w (tv z) z.1:=⟨a,z.2.1,z.2.2.1,z.2.2.2,rfl,hr.1,hr.2.1,hr.2.2⟩
theorem yy {c:Array Oper} {rest:List Oper} {o:Oper} {a:Act} {w':World} {Q:Exit->Act->World->Prop} (hw:Region.wanted o (yielded c a.tmps)=true) (ty:TypeId) (parts:Array (Nat×Operand)) (f:o.op=.build ty parts) {d:Array (Nat×Value)}
  (hr:(a3 ty d).run prog w=.ok v w') (e:(parts.map fun (i,x)=>(i,a.eval x))=d) (h:wpList prog c Q rest (a.put o.dst v) w'):wpList prog c Q (o::rest) a w :=
 yq hw fun _ j=>by
  subst e;unfold Oper.wp execOp;simp only [f,Sem.run_bind,hr,Result.andThen_ok,Sem.run_pure];exact j _ _ h
end Df
namespace Df
theorem zu {d:Func} {p q:Tmp} (h:d.results=#[.cell p ty,.tmp q]) (a:Array Value) (w:World) (g:Nat) (cs:Array Value)
  (e:a.getD p undef=.pointer (some ⟨g,0,none⟩)) (f:(loadVar ty ⟨g,0,none⟩).run prog w=.ok (.agg cs) w) :
  (results d a).run prog w=.ok (.tuple #[.agg cs,a.getD q undef]) w:=by
 have c:a[p]?.getD undef=.pointer (some ⟨g,0,none⟩):=by simpa using e
 simp [results,h,c,asAddr,f]
theorem j37 (h:w.heap[g]?=some (.cells A 46)) (hs:A.size=33):(loadVar 46 ⟨g,0,none⟩).run prog w=.ok (.agg A) w:=by
 have hi:(prog.info? 46).map (·.size)=some A.size:=by rw [hs];kernel_rfl
 exact run_loadVar_row w g 46 46 A (0,0) _ h underlying46 rfl hi
def fnd (ts:List Ten) (n:List UInt8):Ten:=(look nk n ts).getD ten0
theorem jg6 {α:Type} {f:α->List UInt8} {n:List UInt8} {l:List α} (hi:i<l.length) (c:∀ j (e:j<i),f (l[j]'(by omega))≠n) (a:f l[i]=n):look f n l=some l[i]:=by
 induction l generalizing i with
 | nil=>cases hi
 | cons x l ih =>
  cases i with
  | zero =>
   simp only [a7] at a;simp [look,a8,a]
  | succ i =>
   have d:=c 0 (by omega);simp only [a7] at d;have:=ih (i:=i) (by simpa using hi) (fun j e=>by have:=c (j+1) (by omega);simpa using this) (by simpa using a);unfold look at this ⊢;simp only [a8,d,decide_false];simpa using this
theorem j6a (a b:ByteArray):(a.toList==b.toList)=decide (a.data.toList=b.data.toList):=by
 rw [Lib.toList_data,Lib.toList_data];by_cases h:a.data.toList=b.data.toList
 ·simp [h]
 ·rw [decide_eq_false h];exact beq_eq_false_iff_ne.2 h
theorem j69 {a b:ByteArray} (h:a.data.toList≠b.data.toList):(a.toList==b.toList)=false:=by rw [j6a];exact decide_eq_false h
theorem j32 {a b:ByteArray} (h:a.data.toList=b.data.toList):(a.toList==b.toList)=true:=by rw [j6a];exact decide_eq_true h
theorem jkd {zs:List Tv} (hz:ZV w v zs) (hzn:∀ z∈zs,Nf z.1) (s:ByteArray) (hm:zs.length<=1000) :
  Calls prog 76 #[v,.string s] w fun e V=>∃ A,e=.returned (.tuple #[.agg A,.bool (look nk s.data.toList (zs.map a4)).isSome])/\TV V (.agg A) (fnd (zs.map a4) s.data.toList)/\Below w.heap.size w V:=by
 obtain ⟨sa,sc,rfl,hlc,hcb,hx⟩:=hz.parts;have HX:Hid (∀ i (hi:i<zs.length),(∃ b off,sa=some ⟨b,off,none⟩/\∀ V,Below w.heap.size w V->V.rangeAt b (off+i*33) (zc zs[i]))/\TLen zs[i].1/\(zc zs[i]).toArray.all (·.oneCell')=true/\∀ V,Below w.heap.size w V->Calls prog 79 #[.agg (zc zs[i]).toArray] V fun e V'=>∃ z' C,e=.returned (tv z')/\z'.1=zs[i].1/\ZB z' C/\Mem V V' C):=by
  intro i hi;have hm:=List.getElem_mem hi;exact ⟨hx i hi,(hz.each _ hm).1,j3h (hz.each _ hm).2,fun V hV=>j5e (hz.each _ hm).1 (Rws.at_ (hz.each _ hm).2 hV) (hzn _ hm).2⟩
 have HS:Hid (∀ i (hi:i<zs.length),(∀ j (hj:j<i),fk (zs[j]'(by omega))≠s.data.toList)->fk zs[i]=s.data.toList->(look nk s.data.toList (zs.map a4)).isSome=true/\fnd (zs.map a4) s.data.toList=zs[i].1):=by
  intro i hi h1 h2;have:=jg6 (f:=fk) hi h1 h2;unfold fnd;rw [j36,this];exact ⟨rfl,rfl⟩
 have HN:Hid ((∀ j (hj:j<zs.length),fk (zs[j]'(by omega))≠s.data.toList)->(look nk s.data.toList (zs.map a4)).isSome=false/\fnd (zs.map a4) s.data.toList=ten0):=by
  intro h1;have:look fk s.data.toList zs=none:=j1r.2 fun x hx=>by
   obtain ⟨j,hj,rfl⟩:=List.mem_iff_getElem.1 hx;exact h1 j hj
  unfold fnd;rw [j36,this];exact ⟨rfl,rfl⟩
 clear hx hz hzn;generalize (look nk s.data.toList (zs.map a4)).isSome=OK at *;generalize fnd (zs.map a4) s.data.toList=T at *;obtain ⟨N,hN⟩:∃ N,zs.length=N:=⟨_,rfl⟩;rw [hN] at hlc hm;simp only [hN] at HX HS HN ⊢;obtain ⟨g,hg⟩:∃ g,w.heap.size=g:=⟨_,rfl⟩;have HM0:Hid (Mem w (w.alloc (.cells tz 46)) [(g,.cells tz 46)]):=(Mem.nil w).push1 hg.symm;go_enter func76,ntmps76;go_upto_region 1 with fail;refine j5 (fun X=>Mem w X [(g,.cells tz 46)]) (by exact HM0.out) ?_;intro V0 hM0
 try simp only [hg]
 have H0:Hid (Mem w V0 [(g,.cells tz 46)]):=hM0;clear HM0 hM0;go_wp2_with fail
 go_loopw [10] (fun u10 w'=>∃ i:Nat,i<=N/\u10=.int .i64 i/\Hid (Mem w w' [(g,.cells tz 46)]/\∀ j (hj:j<i) (hj':j<zs.length),fk (zs[j]'hj')≠s.data.toList)) (fun u10 w'=>N-(intOf u10).toNat)
 case atStart=>exact ⟨0,an _,rfl,H0.out,fun j hj=>absurd hj (by omega)⟩
 case round =>
  obtain ⟨i,hi,rfl,HR⟩:=hrel;clear H0;by_cases hlt:i<N
  ·have h1:(i:Int)<N:=by omega
   obtain ⟨⟨b,off,rfl,hV⟩,hl,ho,hcp⟩:=HX.out i hlt;have hra:=hV _ HR.out.1.below;have hSi:=HS.out i hlt;have HRN:=HR.out.2;clear hV HX HS HN;have hj':i<zs.length:=by omega
   have HNX:Hid (fk (zs[i]'hj')≠s.data.toList->∀ j (hj:j<i+1) (hj':j<zs.length),fk (zs[j]'hj')≠s.data.toList):=by
    intro hne j hj hj2;rcases ao j i with h|h
    ·exact HRN j h hj2
    ·obtain rfl:j=i:=by omega
     exact hne
   have HYY:Hid (fk (zs[i]'hj')=s.data.toList->OK=true/\T=(zs[i]'hj').1):=fun he=>hSi (fun j hj=>HRN j hj _) he;have HCP:Hid (∀ V,Below w.heap.size w V->Calls prog 79 #[.agg (zc (zs[i]'hj')).toArray] V fun e V'=>∃ z' C,e=.returned (tv z')/\z'.1=(zs[i]'hj').1/\ZB z' C/\Mem V V' C):=hcp;clear HRN hSi hcp;generalize zs[i]'hj'=z at *;have hi33:(prog.info? 46).map (·.size)=some (zc z).length:=by rw [show (zc z).length=33 from ji hl _ _ _];kernel_rfl
   have hj33:(prog.info? 46).map (·.size)=some (zc z).toArray.size:=by rw [j1f hl];kernel_rfl
   have hs33:tz.size=(zc z).toArray.size:=by rw [j1f hl];rfl
   obtain ⟨gt,hgt⟩:∃ g,wr.heap.size=g:=⟨_,rfl⟩;have hk1:(wr.alloc (.cells tz 46)).heap[gt]?=some (.cells tz 46):=by rw [<-hgt];exact heap_alloc_new _ _
   have HF:Hid (Mem w ((wr.alloc (.cells tz 46)).setRow gt (zc z).toArray) [(g,.cells tz 46),(gt,.cells (zc z).toArray 46)]):=by
    rw [<-hgt,World.setRow_alloc_new];exact HR.out.1.push2 rfl
   clear HR;go_upto_region 4 with (first|(refine wpList_load_mid rfl 46 (.tmp 12) (by with_reducible rfl) b (off+i*33) (by simp [ar]) (zc z) _ hra underlying46 rfl hi33 ?_)|(refine wpList_store_row rfl 46 (.tmp 7) (.tmp 13) (by with_reducible rfl) gt (zc z).toArray (by simp [ar];try exact hgt) (by first|rfl|simp [ar]) 46 tz hk1 hj33 hs33 ho ?_)|fail)
   refine j5 (fun X=>Mem w X [(g,.cells tz 46),(gt,.cells (zc z).toArray 46)]) (by exact HF.out) ?_;intro V1 hM1
   try simp only [hgt]
   clear HF hk1 hra hi33 hs33 ho hgt;have hc0:V1.cell? ⟨gt,0,none⟩=some (.string z.1.name):=by rw [hM1.cell 1 rfl];exact (j13 hl _ _ _).1
   have hk:=hM1.get 1 rfl;have HM1:Hid (Mem w V1 [(g,.cells tz 46),(gt,.cells (zc z).toArray 46)]):=hM1;clear hM1;by_cases he:fk z=s.data.toList
   ·have hq:=j32 (a:=z.1.name) (b:=s) he;obtain ⟨rfl,rfl⟩:=HYY.out he;have CC:=HCP.out V1 HM1.out.below;clear HYY HNX HCP he;go_wp2_with (first|(refine j04 rfl 46 (.tmp 7) (by with_reducible rfl) gt (by first|rfl|simp [ar]) 46 (zc z).toArray (0,0) _ hk underlying46 hj33 ?_)|fail)
    refine CC.mono ?_;rintro e V2 ⟨z',C',rfl,k1,k2,k3⟩;have hM2:=HM1.out.join k3;have hg2:=hM2.get 0 rfl;have hM3:=hM2.wrote 0 rfl (j8 V2 g _ (zc z').toArray _ hg2);have ho':(zc z').toArray.all (·.oneCell')=true:=by
     have:=jar k2;rw [Array.all_eq_true_iff_forall_mem];intro x hx;exact this x (by simpa using hx)
    have hj3:(prog.info? 46).map (·.size)=some (zc z').toArray.size:=by rw [j1f k2.1];kernel_rfl
    have hs3:tz.size=(zc z').toArray.size:=by rw [j1f k2.1];rfl
    have HQ:Hid ((V2.setRow g (zc z').toArray).heap[g]?=some (.cells (zc z').toArray 46)/\TV (V2.setRow g (zc z').toArray) (.agg (zc z').toArray) z.1/\Below w.heap.size w (V2.setRow g (zc z').toArray)):=by
     refine ⟨hM3.get 0 rfl,?_,hM3.below⟩;rw [<-k1];have hC:∀ x∈C',(V2.setRow g (zc z').toArray).heap[x.1]?=some x.2:=fun x hx=>hM3.at_ x (by simp [hx]);exact jpt k2.1 (j78 k2 hC).2
    have hz33:=j1f k2.1;have etv:tv z'=.agg (zc z').toArray:=rfl;rw [etv];generalize (zc z').toArray=A' at *;clear CC k1 k2 k3 hM2 hM3 HM1 hk hc0 hj33 hl etv;go_wp2_with (first|(refine wpList_store_row rfl 46 (.tmp 4) (.tmp 19) (by with_reducible rfl) g A' (by first|rfl|simp [ar]) (by first|rfl|simp [ar]) 46 tz hg2 hj3 hs3 ho' ?_)|fail)
    refine bodyPost_ret (v:=.tuple #[.agg A',.bool true]) ?_ rfl ⟨A',rfl,HQ.out.2.1,by first|exact HQ.out.2.2|(have hq2:=HQ.out.2.2;rw [hg] at hq2;exact hq2)⟩;exact zu (p:=4) (q:=5) (ty:=46) rfl _ _ g A' rfl (j37 HQ.out.1 hz33)
   ·have hq:=j69 (a:=z.1.name) (b:=s) he;have HF:Hid (Mem w V1 [(g,.cells tz 46)]/\∀ j (hj:j<i+1) (hj':j<zs.length),fk (zs[j]'hj')≠s.data.toList):=⟨HM1.out.subl (by simp),HNX.out he⟩;clear HYY HNX HCP he hk HM1;go_wp2_with fail;go_roundw
    case rel=>exact ⟨i+1,by omega,by go_num,HF⟩
    case measure=>simp [intOf];omega
  ·have h1:¬((i:Int)<N):=by omega
   obtain rfl:i=N:=by omega
   obtain ⟨rfl,rfl⟩:=HN.out fun j hj=>HR.out.2 j hj _;have hM:=HR.out.1;have hgz:=hM.get 0 rfl;have hM3:=hM.wrote 0 rfl (j8 wr g _ tz _ hgz);have hj3:(prog.info? 46).map (·.size)=some tz.size:=by kernel_rfl
   have ho':tz.all (·.oneCell')=true:=by kernel_rfl
   have HQ:Hid ((wr.setRow g tz).heap[g]?=some (.cells tz 46)/\TV (wr.setRow g tz) (.agg tz) ten0/\Below w.heap.size w (wr.setRow g tz)):=by
    refine ⟨hM3.get 0 rfl,⟨j1h,nilV,nilV,nilV,rfl,⟨none,0,rfl,ap _,by omega,fun _=>rfl,Or.inl rfl⟩,⟨none,0,rfl,ap _,by omega,fun _=>rfl,Or.inl rfl⟩,⟨none,0,rfl,ap _,by omega,fun _=>rfl,Or.inl rfl⟩⟩,hM3.below⟩
   have hbz:∀ V:World,(a3 46 #[]).run prog V=.ok (.agg tz) V:=fun V=>by kernel_rfl
   have hb1:=hbz wr;have htz:tz.size=tz.size:=rfl;have hsz:tz.size=33:=rfl;clear HX HS HN HR hM hM3 hbz;generalize htt:tz=A' at *;clear htt;go_wp2_with (first|(refine yy rfl 46 _ (by with_reducible rfl) hb1 (by first|kernel_rfl|rfl|simp [ar]) ?_)|(refine wpList_store_row rfl 46 (.tmp 4) (.tmp 21) (by with_reducible rfl) g A' (by first|rfl|simp [ar]) (by first|rfl|simp [ar]) 46 A' hgz hj3 htz ho' ?_)|fail)
   refine bodyPost_ret (v:=.tuple #[.agg A',.bool false]) ?_ rfl ⟨A',rfl,HQ.out.2.1,by first|exact HQ.out.2.2|(have hq2:=HQ.out.2.2;rw [hg] at hq2;exact hq2)⟩;exact zu (p:=4) (q:=5) (ty:=46) rfl _ _ g A' rfl (j37 HQ.out.1 hsz)
end Df
end
section
open Go.RowKit Sm Cf
def Has (V:World) (K:List (Nat×Obj)):Prop:=∀ x∈K,V.heap[x.1]?=some x.2
def On (w:World) (K:List (Nat×Obj)) (P:World->Prop):Prop:=∀ V,Below w.heap.size w V->Has V K->P V
section
variable {w W V:World} {K L:List (Nat×Obj)} {P Q:World->Prop}
theorem On.mem (h:On w K P) (a:Mem w V L) (hs:∀ x∈K,x∈L):P V:=h V a.below fun x hx=>a.at_ x (hs x hx)
theorem On.more (h:On w K P) (hs:∀ x∈K,x∈L):On w L P:=fun V hb a=>h V hb fun x hx=>a x (hs x hx)
theorem On.imp (h:On w K P) (a:∀ V,P V->Q V):On w K Q:=fun V hb c=>a V (h V hb c)
theorem On.left (h:On w K P):On w (K++L) P:=h.more fun x hx=>a9 _ hx
def nws (n:Nat) (V:World):List (Nat×Obj):=(List.range' n (V.heap.size-n)).map fun b=>(b,(V.heap[b]?).getD (.cells #[] 0))
theorem jqs (hb:n<=b) (h:V.heap[b]?=some o):(b,o)∈nws n V:=by
 have a:=(Array.getElem?_eq_some_iff.mp h).1;refine aa.mpr ⟨b,?_,by rw [h];rfl⟩;rw [List.mem_range'_1];omega
theorem j9q {x:Nat×Obj} (h:x∈nws n V):n<=x.1/\V.heap[x.1]?=some x.2:=by
 obtain ⟨b,hb,rfl⟩:=aa.mp h;rw [List.mem_range'_1] at hb;refine ⟨hb.1,?_⟩;have a:b<V.heap.size:=by omega
 simp [a]
theorem jns (hb:Below W.heap.size W V):Mem W V (nws W.heap.size V):=by
 refine ⟨hb,fun x hx=>(j9q hx).1,fun x hx=>(j9q hx).2,?_⟩;unfold nws;rw [List.map_map];have e:∀ l:List Nat,l.map (a4 ∘ fun b=>(b,(V.heap[b]?).getD (Obj.cells #[] 0)))=l:=fun l=>by induction l with
  | nil=>rfl
  | cons a l ih=>rw [List.map_cons,ih];rfl
 rw [e];exact List.nodup_range' 1 (by omega)
theorem CVs.on {c:Cgf} (h:CVs n V v c) (a:w.heap.size<=n):On w (nws n V) fun X=>CV X v c:=by
 intro X hb d;refine h w X a hb fun b j f=>?_;have e:V.heap[b]?=some V.heap[b]:=au f;rw [e];exact d _ (jqs j e)
theorem jpu {ts:List Ten} {B C:List (Nat×Obj)} (h:TsB u ts B C) (c:∀ x∈B++C,x∈K):On w K fun X=>TSV X u ts:=fun X _ a=>j8y h fun x hx=>a x (c x hx)
theorem Mem.more (h:Mem w W L) (k:Mem W V K):Mem w V (K++L):=(h.join k).perm a6
end
theorem j45:∀ (d c a:List Value) (V:World),c.length=d.length->Mem w V ((b,.cells (a++(c++post)).toArray t (0,0))::K)->Mem w (V.setCells b a.length d) ((b,.cells (a++(d++post)).toArray t (0,0))::K)
 | [],c,a,V,h,hM=>by
  have:c=[]:=List.eq_nil_of_length_eq_zero h;subst this;exact hM
 | v::d,[],a,V,h,hM=>by simp at h
 | v::d,m::c,a,V,h,hM=>by
  have e:=hM.set 0 rfl a.length v;have hs:(a++(m::c++post)).toArray.setIfInBounds a.length v=((a++[v])++(c++post)).toArray:=by
   rw [ab,ac _ _ (ap _),aq,ad,ae,af];rfl
  simp only [ae] at e;rw [hs] at e;have f:=j45 d c (a++[v]) _ (by simpa using h) e;rw [List.length_append,List.length_cons,List.length_nil,af] at f;exact f
theorem j44 (a:Mem w V ((b,.cells A t (0,0))::K)) {o:Nat} (h:o+n<=A.size):V.there b o n:=fun j c=>by
 refine ⟨?_,a.free 0 rfl _⟩;rw [a.cell 0 rfl,au (show o+j<A.size by omega)];rfl
theorem pc9 {L R:List (Nat×Obj)} {p q r:Nat×Obj} {A X:List (Nat×Obj)} (h:R=p::q::(A++(r::(X++K)))):(p::q::(A++(r::(X++(L++K))))).Perm (L++R):=by
 subst h
 classical
 rw [ag];intro z;simp only [ah,ai];omega
section
variable {w W:World} {p h m N:Nat} {D:Dk} {pl:Nat} {B:Int} {all:List (List Int)} {L:List (Nat×Obj)}
theorem Sy.frame (H:Sy w W p h m N D pl B all L):∃ R,Mem w W (L++R)/\∀ c d,Mem w c (d++R)->Sy w c p h m N D pl B all d:=by
 obtain ⟨hc,e,v,X,K,a,r,q,j⟩:=H.at_;refine ⟨_,a.st.mem.perm (pc9 rfl),fun c d f=>⟨hc,e,v,X,K,⟨⟨f.perm (pc9 rfl).symm,a.st.heads,a.st.ok⟩,a.pos,a.top,a.mlo,a.mhi,a.left,a.pre⟩,r,q,j⟩⟩
theorem So.frame (H:So w W p h m N D pl L):∃ R,Mem w W (L++R)/\∀ e f,Mem w e (f++R)->So w e p h m N D pl f:=by
 obtain ⟨hc,j,t,c,v,K,a,r⟩:=H.at_;have d:DkAt w W p h m D hc j ((pl,.cells (lgA p t c v) lgT (0,0))::([]++(L++K))):=a;refine ⟨_,d.st.mem.perm (pc9 rfl),fun e f q=>⟨hc,j,t,c,v,K,⟨⟨q.perm (pc9 (X:=[]) rfl).symm,a.st.heads,a.st.ok⟩,a.pos,a.top,a.mlo,a.mhi,a.left,a.pre⟩,r⟩⟩
theorem pc8 {L R:List (Nat×Obj)} {p q:Nat×Obj} {A:List (Nat×Obj)} (h:R=p::q::(A++K)):(p::q::(A++(L++K))).Perm (L++R):=by
 subst h
 classical
 rw [ag];intro z;simp only [ah,ai];omega
theorem Sd.frame (H:Sd w W p h m N D B all L):∃ R,Mem w W (L++R)/\∀ c d,Mem w c (d++R)->Sd w c p h m N D B all d:=by
 obtain ⟨hc,e,K,a,q,j⟩:=H.at_;refine ⟨_,a.st.mem.perm (pc8 rfl),fun c d f=>⟨hc,e,K,⟨⟨f.perm (pc8 rfl).symm,a.st.heads,a.st.ok⟩,a.pos,a.top,a.mlo,a.mhi,a.left,a.pre⟩,q,j⟩⟩
theorem Sy.mem (H:Sy w W p h m N D pl B all L):Mem w W L:=by
 obtain ⟨R,a,-⟩:=H.frame;exact ⟨a.below,fun x hx=>a.low x (a9 _ hx),fun x hx=>a.at_ x (a9 _ hx),(List.nodup_append.mp (by rw [<-List.map_append];exact a.apart)).1⟩
end
end
section
open Go.RowKit Va
theorem j51 (w:World) (n a b:Int):Calls prog 171 #[.int .u32 n,.int .u32 a,.int .u32 b] w fun e w'=>e=.returned (.bool (wi n a b))/\w=w':=by
 unfold wi;by_cases h1:a<=n
 ·by_cases h2:n<=b
  ·have c:decide (a<=n)=true:=decide_eq_true h1;have d:decide (n<=b)=true:=decide_eq_true h2;rw [c,d];go_enter func171,ntmps171;go_wp2_with fail;go_ret;exact ⟨by simp<;>rfl,rfl⟩
  ·have c:decide (a<=n)=true:=decide_eq_true h1;have d:decide (n<=b)=false:=decide_eq_false h2;rw [c,d];go_enter func171,ntmps171;go_wp2_with fail;go_ret;exact ⟨by simp<;>rfl,rfl⟩
 ·have c:decide (a<=n)=false:=decide_eq_false h1;rw [c,av];go_enter func171,ntmps171;go_wp2_with fail;go_ret;exact ⟨by simp<;>rfl,rfl⟩
theorem jcl (w:World) (n a b:Int):Calls prog 176 #[.int .u16 n,.int .u16 a,.int .u16 b] w fun e w'=>e=.returned (.bool (wi n a b))/\w=w':=by
 unfold wi;by_cases h1:a<=n
 ·by_cases h2:n<=b
  ·have c:decide (a<=n)=true:=decide_eq_true h1;have d:decide (n<=b)=true:=decide_eq_true h2;rw [c,d];go_enter func176,ntmps176;go_wp2_with fail;go_ret;exact ⟨by simp<;>rfl,rfl⟩
  ·have c:decide (a<=n)=true:=decide_eq_true h1;have d:decide (n<=b)=false:=decide_eq_false h2;rw [c,d];go_enter func176,ntmps176;go_wp2_with fail;go_ret;exact ⟨by simp<;>rfl,rfl⟩
 ·have c:decide (a<=n)=false:=decide_eq_false h1;rw [c,av];go_enter func176,ntmps176;go_wp2_with fail;go_ret;exact ⟨by simp<;>rfl,rfl⟩
theorem j21 (w:World) (n a b:Int):Calls prog 178 #[.int .i64 n,.int .i64 a,.int .i64 b] w fun e w'=>e=.returned (.bool (wi n a b))/\w=w':=by
 unfold wi;by_cases h1:a<=n
 ·by_cases h2:n<=b
  ·have c:decide (a<=n)=true:=decide_eq_true h1;have d:decide (n<=b)=true:=decide_eq_true h2;rw [c,d];go_enter func178,ntmps178;go_wp2_with fail;go_ret;exact ⟨by simp<;>rfl,rfl⟩
  ·have c:decide (a<=n)=true:=decide_eq_true h1;have d:decide (n<=b)=false:=decide_eq_false h2;rw [c,d];go_enter func178,ntmps178;go_wp2_with fail;go_ret;exact ⟨by simp<;>rfl,rfl⟩
 ·have c:decide (a<=n)=false:=decide_eq_false h1;rw [c,av];go_enter func178,ntmps178;go_wp2_with fail;go_ret;exact ⟨by simp<;>rfl,rfl⟩
theorem j05 (h:Rw w 1 v (ux l)) (hb:l.length<=1000000) :
  Calls prog 174 #[v] w fun e w'=>e=.returned (.bool (unl l))/\w=w':=by
 have O:=h;obtain ⟨a,c,rfl,X,Y,hx⟩:=rw_u h;have F:Hid (∀ i,i<l.length->∃ b f,a=some ⟨b,f,none⟩/\w.cell? ⟨b,f+i,none⟩=some (.int .u32 (l.getD i 0))):=by
  intro i hi;obtain ⟨b,f,z,Z⟩:=hx i hi;exact ⟨b,f,z,Z _ (Below.refl _ _)⟩
 have I:Hid (∀ i,i<l.length->∀ x,Calls prog 166 #[.slice a i c,.int .u32 x] w fun e w'=>e=.returned (.bool (hs (l.take i) x))/\w=w'):=by
  intro i hi x;have hl:(ux l).length=l.length:=by simp [ux]
  have:=O.head i (by omega);rw [jee] at this;exact j5f this (by simp;omega) x
 obtain ⟨R,s⟩:∃ R,unl l=R:=⟨_,rfl⟩;rw [s];have E:Hid (∀ i,i<l.length->bad l i->R=false):=fun i hi y=>by rw [<-s];exact decide_eq_false (fun h=>h i hi y)
 have H:Hid ((∀ j,j<l.length->¬bad l j)->R=true):=fun h=>by rw [<-s];exact decide_eq_true h
 have J:Hid ((∀ j,j<0->¬bad l j)/\w=w):=⟨fun j M=>absurd M (by omega),rfl⟩;clear h hx O s;generalize l.length=n at *;go_enter func174,ntmps174;go_wp2_with fail
 go_loopw [7] (fun u7 w'=>∃ i:Nat,i<=n/\u7=.int .i64 i/\Hid ((∀ j,j<i->¬bad l j)/\w=w')) (fun u7 w'=>n-(intOf u7).toNat)
 case atStart=>exact ⟨0,an _,rfl,J.out.1,rfl⟩
 case round =>
  obtain ⟨i,hi,rfl,G⟩:=hrel;obtain ⟨d,rfl⟩:=G.out;by_cases hlt:i<n
  ·have z:(i:Int)<n:=by omega
   obtain ⟨b,f,rfl,d0⟩:=F.out i hlt;have q:Hid ((l.getD i 0=0\/hs (l.take i) (l.getD i 0)=true)->R=false):=E.out i hlt;have r:Hid (¬(l.getD i 0=0\/hs (l.take i) (l.getD i 0)=true)->∀ j,j<i+1->¬bad l j):=by
    intro U j M;rcases ao j i with h|h
    ·exact d j h
    ·obtain rfl:j=i:=by omega
     exact U
   have C:=I.out i hlt (l.getD i 0);clear F E H J G I d;generalize l.getD i 0=x at *;generalize hs (l.take i) x=B at *;have q1:(i:Int)<=c:=by omega
   by_cases hx0:x=0
   ·obtain rfl:=q.out (Or.inl hx0);subst hx0;clear q r;go_wp2_with fail;go_ret;exact ⟨rfl,rfl⟩
   ·have S:(x==0)=false:=by simp [hx0]
    cases B with
    | true =>
     obtain rfl:=q.out (Or.inr rfl);clear q r;go_wp2_with fail;refine C.mono ?_;rintro _ _ ⟨rfl,rfl⟩;go_wp2_with fail;go_ret;exact ⟨rfl,rfl⟩
    | false =>
     have HF:Hid ((∀ j,j<i+1->¬bad l j)/\True):=⟨r.out (by simp [hx0]),trivial⟩;clear q r;go_wp2_with fail;refine C.mono ?_;rintro _ _ ⟨rfl,rfl⟩;go_wp2_with fail;go_roundw
     case rel=>exact ⟨i+1,by omega,by go_num,HF⟩
     case measure=>simp [intOf];omega
  ·have z:¬((i:Int)<n):=by omega
   obtain rfl:i=n:=by omega
   obtain rfl:=H.out d;clear F E H J G I d;go_wp2_with fail;go_ret;exact ⟨rfl,rfl⟩
def PrF (W:World) (k:Nat) (caps:Array Value) (f:Int×Int->Int):Prop:=Enr k/\∀ x y,Clo W k caps #[.agg #[.int .u32 x,.int .u32 y]] (.int .u32 (f (x,y)))
theorem jdn (W:World):PrF W 262 #[] a4:=by
 refine ⟨enters_of func262 (by kernel_rfl) rfl,fun x y V a=>?_⟩;simp only [aj,ad,ak,Array.append_empty];go_enter func262,ntmps262;go_wp2_with fail;go_ret;exact ⟨rfl,(Below.refl _ _).alloc (ap _) _⟩
theorem j97 (W:World):PrF W 263 #[] a5:=by
 refine ⟨enters_of func263 (by kernel_rfl) rfl,fun x y V a=>?_⟩;simp only [aj,ad,ak,Array.append_empty];go_enter func263,ntmps263;go_wp2_with fail;go_ret;exact ⟨rfl,(Below.refl _ _).alloc (ap _) _⟩
def sof (f:Int×Int->Int) (l:List (Int×Int)) (i:Nat):List Value:=((l.take i).map f).map (Value.int .u32)++List.replicate (l.length-i) (.int .u32 0)
theorem jij (f:Int×Int->Int) (l:List (Int×Int)):(madeCells #[.int .u32 0] l.length)=(sof f l 0).toArray:=by
 apply Array.toList_inj.mp;rw [toList_madeCells_one];simp [sof]
theorem jn3 (f:Int×Int->Int) (l:List (Int×Int)) (i:Nat) (hi:i<=l.length):(sof f l i).length=l.length:=by simp [sof];omega
theorem jik (f:Int×Int->Int) (l:List (Int×Int)) (i:Nat) (hi:i<l.length):(sof f l i).toArray.setIfInBounds i (.int .u32 (f (l.getD i (0,0))))=(sof f l (i+1)).toArray:=by
 rw [ab];congr 1;have d:l.length-i=(l.length-(i+1))+1:=by omega
 have c:l.take (i+1)=l.take i++[l.getD i (0,0)]:=by rw [List.take_add_one];simp [al,am hi]
 have a:(((l.take i).map f).map (Value.int .u32)).length=i:=by simp;omega
 unfold sof;rw [d,List.replicate_succ,ac _ _ (by omega),a,aq,ae,c];simp
theorem jn4 (f:Int×Int->Int) (l:List (Int×Int)):sof f l l.length=(l.map f).map (Value.int .u32):=by simp [sof]
theorem jjp (n:Nat) (h:n<=1000000) (w:World):(Instr.makeSlice 43 (.int .i64 (n:Int)) (.int .i64 (n:Int))).run prog w=.ok (.slice (some ⟨w.heap.size,0,none⟩) n n) (w.alloc (.cells (madeCells #[.int .u32 0] n) 33)) :=
 run_make_row' 43 33 (.int .u32 0) 4 underlying43 j86 rfl .i64 .i64 n (by omega) (by omega) w
theorem jq7 (h:V.heap[g]?=some (.cells (xs.map (Value.int .u32)).toArray 33)) (f:xs.length<=1000000):Rw V 1 (.slice (some ⟨g,0,none⟩) xs.length xs.length) (ux xs):=by
 have c:(ux xs).length=xs.length:=by simp [ux]
 refine ⟨some ⟨g,0,none⟩,xs.length,by rw [c],by omega,by omega,(fun e=>by cases e),Or.inr ⟨g,0,rfl,fun i hi j u a=>?_⟩⟩;rw [c] at hi;have e:(ux xs).getD i []=[.int .u32 xs[i]]:=by simp [ux,al,am hi]
 rw [e] at a;have d:j=0:=by
  rcases j with _|j
  ·rfl
  ·simp at a
 subst d;simp at a;subst a;rw [cell_of h];simp [am hi]
theorem jc3 {l:List (Int×Int)} (h:Rw w 2 v (px l)) (hb:l.length<=1000000) {f:Int×Int->Int} (hf:PrF w k caps f) :
  Calls prog 261 #[v,.func (.func k) #[] caps] w fun e w'=>∃ u,e=.returned u/\Rw w' 1 u (ux (l.map f))/\Below w.heap.size w w':=by
 obtain ⟨a,c,rfl,a1,a2,hx⟩:=rw_p h;have HX:Hid (∀ i,i<l.length->∃ b r,a=some ⟨b,r,none⟩/\∀ V,Below w.heap.size w V->V.cell? ⟨b,r+i*2,none⟩=some (.int .u32 (l.getD i (0,0)).1)/\V.cell? ⟨b,r+i*2+1,none⟩=some (.int .u32 (l.getD i (0,0)).2)):=hx;obtain ⟨g,Z⟩:∃ g,w.heap.size=g:=⟨_,rfl⟩;have Y:=jjp l.length hb w;have J:Mem w (w.alloc (.cells (madeCells #[.int .u32 0] l.length) 33)) [(g,.cells (sof f l 0).toArray 33)]:=by rw [jij f];exact (Mem.nil w).push1 Z.symm
 have HS:Hid (∀ i,i<l.length->(sof f l i).toArray.setIfInBounds i (.int .u32 (f (l.getD i (0,0))))=(sof f l (i+1)).toArray):=jik f l;have HL:Hid (∀ i,i<=l.length->(sof f l i).length=l.length):=jn3 f l;have HE:Hid (∀ V,Mem w V [(g,.cells (sof f l l.length).toArray 33)]->Rw V 1 (.slice (some ⟨g,0,none⟩) l.length l.length) (ux (l.map f))):=by
  intro V S;rw [jn4] at S;have:=jq7 (S.get 0 rfl) (by simpa using hb);rwa [List.length_map] at this
 have eg:∀ args V,(callFunc k args).run prog V=.ok (.enter k args) V:=hf.1;have HC:Hid (PrF w k caps f):=hf;clear h hx hf;generalize hn:l.length=n at *;go_enter func261,ntmps261;go_upto_region 2 with fail;refine j5 (fun X=>Mem w X [(g,.cells (sof f l 0).toArray 33)]) (by exact J) ?_;intro V0 hM
 try simp only [Z]
 have HM:Hid (Mem w V0 [(g,.cells (sof f l 0).toArray 33)]):=hM;clear J Y hM Z;go_wp2_with fail
 go_loopw [13] (fun u13 w'=>∃ i:Nat,i<=n/\u13=.int .i64 i/\Hid (Mem w w' [(g,.cells (sof f l i).toArray 33)])) (fun u13 w'=>n-(intOf u13).toNat)
 case atStart=>exact ⟨0,an _,rfl,HM⟩
 case round =>
  obtain ⟨i,hi,rfl,I⟩:=hrel;by_cases hlt:i<n
  ·have h1:(i:Int)<n:=by omega
   obtain ⟨b,r,rfl,hd⟩:=HX.out i hlt;obtain ⟨d0,d1⟩:=hd _ I.out.below;obtain ⟨⟨j,d⟩,hy⟩:∃ y,l.getD i (0,0)=y:=⟨_,rfl⟩;have H:=HS.out i hlt;rw [hy] at d0 d1 H;simp only at d0 d1;obtain ⟨F,s⟩:∃ F,wr.heap.size=F:=⟨_,rfl⟩;have O:Hid (Mem w (wr.alloc (.cells #[.int .u32 j,.int .u32 d] 122)) [(F,.cells #[.int .u32 j,.int .u32 d] 122),(g,.cells (sof f l i).toArray 33)]):=I.out.front (.cells #[.int .u32 j,.int .u32 d] 122) s.symm;have R:Hid (∀ V,Below w.heap.size w V->Calls prog k (#[.agg #[.int .u32 j,.int .u32 d]]++caps) V fun e V'=>e=.returned (.int .u32 (f (j,d)))/\Below V.heap.size V V'):=fun V S=>HC.out.2 j d V S;have G:Hid ((sof f l i).toArray.setIfInBounds i (.int .u32 (f (j,d)))=(sof f l (i+1)).toArray/\(sof f l i).length=n):=⟨H,HL.out i hi⟩;clear HX HS HL HE HC HM I hd hy H hn;generalize f (j,d)=z at *;go_upto_region 5 with fail;refine j5 (fun X=>Mem w X [(F,.cells #[.int .u32 j,.int .u32 d] 122),(g,.cells (sof f l i).toArray 33)]) (by (try rw [s]);exact O.out) ?_;intro U q
   try simp only [s]
   clear O s d0 d1;have e0:U.cell? ⟨F,0,none⟩=some (.int .u32 j):=q.cell 0 rfl 0;have e1:U.cell? ⟨F,1,none⟩=some (.int .u32 d):=q.cell 0 rfl 1;have C:=R.out U q.below;have M:Hid (Mem w U [(F,.cells #[.int .u32 j,.int .u32 d] 122),(g,.cells (sof f l i).toArray 33)]):=q;clear q R;go_wp2_with fail;refine C.mono ?_;rintro _ V2 ⟨rfl,hb2⟩;have x:=M.out.after hb2;have E:=x.set 1 rfl i (.int .u32 z);rw [G.out.1] at E;have f0:V2.frozen? ⟨g,i,none⟩=false:=x.free 1 rfl i;have f1:∃ v0,V2.cell? ⟨g,i,none⟩=some v0:=⟨_,(x.cell 1 rfl i).trans (au (by rw [List.size_toArray,G.out.2];exact hlt))⟩;obtain ⟨v0,f1⟩:=f1;have a0:Hid (Mem w (V2.setCell ⟨g,i,none⟩ (.int .u32 z)) [(g,.cells (sof f l (i+1)).toArray 33)]):=E.sub;clear x E M G hb2 C e0 e1;go_wp2_with fail;go_roundw
   case rel=>exact ⟨i+1,by omega,by go_num,a0⟩
   case measure=>simp [intOf];omega
  ·have h1:¬((i:Int)<n):=by omega
   obtain rfl:i=n:=by omega
   have HF:Hid (Rw wr 1 (.slice (some ⟨g,0,none⟩) i i) (ux (l.map f))/\Below w.heap.size w wr):=⟨HE.out wr I.out,I.out.below⟩;clear HX HS HL HE HC HM I;go_wp2_with fail;go_ret;exact ⟨_,rfl,HF.out.1,HF.out.2⟩
theorem j2i {l:List (Int×Int)} (h:Rw w 2 v (px l)) (hb:l.length<=1000000) :
  Calls prog 182 #[v] w fun e w'=>∃ u,e=.returned u/\Rw w' 1 u (ux (fst' l))/\Below w.heap.size w w':=by
 have C:=jc3 h hb (jdn w);unfold fst';clear h hb;go_enter func182,ntmps182;go_wp2_with fail;refine C.mono ?_;rintro _ V ⟨u,rfl,c,a⟩;have d:Hid (Rw V 1 u (ux (l.map a4))/\Below w.heap.size w V):=⟨c,a⟩;clear c a C;go_wp2_with fail;go_ret;exact ⟨_,rfl,d.out.1,d.out.2⟩
theorem j1a {l:List (Int×Int)} (h:Rw w 2 v (px l)) (hb:l.length<=1000000) :
  Calls prog 183 #[v] w fun e w'=>∃ u,e=.returned u/\Rw w' 1 u (ux (snd' l))/\Below w.heap.size w w':=by
 have C:=jc3 h hb (j97 w);unfold snd';clear h hb;go_enter func183,ntmps183;go_wp2_with fail;refine C.mono ?_;rintro _ V ⟨u,rfl,c,a⟩;have d:Hid (Rw V 1 u (ux (l.map a5))/\Below w.heap.size w V):=⟨c,a⟩;clear c a C;go_wp2_with fail;go_ret;exact ⟨_,rfl,d.out.1,d.out.2⟩
end
section
open Go.RowKit Ad
namespace La
end La
end
section
open Go.RowKit Cf La
end
end Go.Proofs.YtdigofgjhaakmaaGreatDoor
