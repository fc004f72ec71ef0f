/- Parts of the proof. -/
import Derived.Test.YtdigofgjhaakmaaGreatDoorF18
set_option linter.all false
set_option maxHeartbeats 40000000
set_option maxRecDepth 100000
open Go.Proofs.Tryz
open Prod renaming fst->aa
open List renaming mem_map->ab,length_map->ac,getD->ad,mem_append_left->ae,perm_iff_count->af,count_append->ag,nil_append->ah,append_nil->ai,length_nil->aj,count_cons->ak,size_toArray->al,flatten_cons->am,getElem?_eq_some_iff->an,getElem?_take->ao,getElem?_map->ap,getElem?_eq_getElem->aq,length_append->ar,getElem_of_mem->au
open Nat renaming le_refl->av,zero_add->aw,le_trans->ax,succ_mul->ay,zero_le->az,add_assoc->aA
open Or renaming inl->aB,inr->aD
open Go.Obj renaming cells->aE
open Go.Act renaming eval->aF
open Go.Value renaming int->aG
open Go.DataW renaming trod->aH,trod_int->aI,trod_struct->aJ
open Go.World renaming cell?_spot->aK,cells?_some->aL
open Go.Deep renaming open_slice->aM,add_add->aN
namespace Go.Proofs.YtdigofgjhaakmaaGreatDoor
variable {w V W:World} {cs:List Value} {v u:Value} {K L Y:List (Nat×Obj)} {fuel g B sz c g0 h:Nat} {T t:TypeId} {a:Option Addr} {cur z0:Array Value} {l r:List Int}
section
open Go.RowKit Sm Cf
def TSV (V:World) (v:Value) (ts:List Ten):Prop:=∃ zs:List Tv,zs.map aa=ts/\Rw V 33 v (zs.map zc)/\∀ z∈zs,TLen z.1/\Rws V z
def CV (V:World) (v:Value) (c:Cgf):Prop:=CLen c/\∃ u,v=.agg (cc c u).toArray/\TSV V u c.ten
theorem j8u {b:List Tv}:∀ x∈b.map zc,x≠[]:=by
 intro x hx;obtain ⟨z,-,rfl⟩:=ab.mp hx;simp [zc,tc]
theorem Rws.below {d:World} {z:Tv} (h:Rws V z) (hb:Below B V d) (b:V.heap.size<=B):Rws d z:=⟨h.1.below j1g hb b,h.2.1.below zj hb b,h.2.2.below zj hb b⟩
theorem TSV.at_ {ts:List Ten} (h:TSV w v ts) (hb:Below B w V) (d:w.heap.size<=B):TSV V v ts:=by
 obtain ⟨f,j,i,e⟩:=h;exact ⟨f,j,i.below j8u hb d,fun z b=>⟨(e z b).1,(e z b).2.below hb d⟩⟩
theorem CV.at_ {c:Cgf} (h:CV w v c) (hb:Below B w V) (b:w.heap.size<=B):CV V v c:=by
 obtain ⟨f,u,e,d⟩:=h;exact ⟨f,u,e,d.at_ hb b⟩
theorem TSV.one {ts:List Ten} (h:TSV w v ts):v.oneCell'=true:=by
 obtain ⟨b,-,h,-⟩:=h;exact j2y h
theorem zx (c:Cgf) (h:v.oneCell'=true):(cc c v).toArray.all (·.oneCell')=true:=by
 apply all_oneCell_toArray;intro u b;simp only [cc,List.mem_cons,List.mem_append,ab,List.not_mem_nil,or_false] at b;rcases b with rfl|⟨x,_,rfl⟩|⟨x,_,rfl⟩|⟨x,_,rfl⟩|⟨x,_,rfl⟩|rfl|rfl<;>first|rfl|exact h
theorem jml {b:List Tz} (k:∀ z∈b,tok z) (G:b.length<=255) (p:Mem w V (tbk h b++K)):TSV V (lv h (b.map tcs)) (b.map aa):=by
 have I:∀ z:Tz,zc (z.1,lv z.2.1 (ux z.1.pool),lv z.2.2.1 (px z.1.stat),lv z.2.2.2 (px z.1.twi))=tcs z:=fun z=>rfl;refine ⟨b.map (fun z=>(z.1,lv z.2.1 (ux z.1.pool),lv z.2.2.1 (px z.1.stat),lv z.2.2.2 (px z.1.twi))),by simp [Function.comp_def],?_,?_⟩
 ·have F:(b.map (fun z:Tz=>(z.1,lv z.2.1 (ux z.1.pool),lv z.2.2.1 (px z.1.stat),lv z.2.2.2 (px z.1.twi)))).map zc=b.map tcs:=by
   rw [List.map_map];rfl
  rw [F];by_cases h0:b=[]
  ·subst h0;exact ⟨none,0,rfl,av _,by omega,fun _=>rfl,aB rfl⟩
  ·have s:b.map tcs≠[]:=fun e=>h0 (List.map_eq_nil_iff.mp e);rw [j7c h0] at p;rw [j0o s];refine ⟨_,_,rfl,av _,by rw [ac];omega,(fun e=>by cases e),aD ⟨h,0,rfl,fun i hi j u x=>?_⟩⟩;rw [ac] at hi;obtain ⟨A,z,B,rfl,C⟩:=pick b i hi;have E:((A++z::B).map tcs).getD i []=tcs z:=by subst C;simp [ad]
   rw [E] at x;have d:=p.cell 0 rfl (0+i*33+j);rw [d];have:=jy (A.flatMap tcs) (tcs z) (B.flatMap tcs) j u x;rw [jeo (fun z m=>k z (ae _ m)),C] at this;rw [show (A++z::B).flatMap tcs=A.flatMap tcs++(tcs z++B.flatMap tcs) by simp,aw];exact this
 ·intro y D;obtain ⟨z,m,rfl⟩:=ab.mp D;have o:=k z m;refine ⟨o.1,?_⟩;obtain ⟨A,B,rfl⟩:=List.append_of_mem m;rw [j7c (by simp)] at p;have f:Mem w V (lb z.2.1 33 (ux z.1.pool)++(lb z.2.2.1 122 (px z.1.stat)++(lb z.2.2.2 122 (px z.1.twi)++(A.flatMap tbs++(B.flatMap tbs++K))))):=(show Mem w V ((A++z::B).flatMap tbs++K) from p.sub).perm (by
   classical
   rw [af];intro q;simp only [List.flatMap_append,List.flatMap_cons,tbs,ag];omega)
  exact ⟨jiq _ _ f o.2.1,jbe _ _ f.dropA o.2.2.1,jbe _ _ f.dropA.dropA o.2.2.2⟩
theorem jm6 {c:Cgf} {d:List Tv} (hi:CIn c) (i:∀ t∈c.ten,TIn t) (f:d.map aa=c.ten) (hr:Rw w 33 u (d.map zc)) (k:∀ z∈d,TLen z.1/\Rws w z) {b post:List Value} (m:(g,.cells (b++(cc c u++post)).toArray T (0,0))∈K) :
  ∀ V,Mem w V K->IC c (u,d) V g b.length:=by
 intro V e;refine ⟨hi,fun j v o=>?_,f,e.rw' hr j8u,fun z h=>⟨i _ (by rw [<-f];exact List.mem_map_of_mem h),(k z h).2.below e.below (av _)⟩⟩;rw [ja e m];exact jy _ _ _ j v o
def cenc (c:Cgf):List Int:=spC.enc c
theorem j71 {c:Cgf} (h:CV w v c) (hi:CIn c) (m:∀ t∈c.ten,TIn t) (hb:(cenc c).length<=1000000000) :
  Calls prog 88 #[v] w fun e w'=>∃ u,e=.returned u/\Out w w' u (cenc c) []:=by
 obtain ⟨-,u,rfl,k,z,y,x⟩:=h;have f:Mem w (w.alloc (.cells (cc c u).toArray 39)) [(w.heap.size,.cells (cc c u).toArray 39)]:=(Mem.nil w).push1 rfl;have C:=j5g f;obtain ⟨g,O⟩:∃ g,w.heap.size=g:=⟨_,rfl⟩;rw [O] at C;have j:=fun K (N:(g,aE ([]++(cc c u++[])).toArray 39)∈K)=>jm6 (w:=w) hi m z y x N;simp only [ah,ai,aj] at j;have d:Hid (∀ K,(g,aE (cc c u).toArray 39)∈K->∀ V,Mem w V K->IC c (u,k) V g 0):=j;clear j f z y x hi m;generalize cc c u=G at C d;go_enter func88,ntmps88;go_wp2_with fail;refine C.mono ?_;rintro e V ⟨⟨i,J,I,A,R,Q⟩,E,rfl,s,hF⟩;have F:=hF.wr (E++[(g,.cells G.toArray 39)]) (fun q M=>ae _ M) c (u,k) g 0 (d.out _ (by simp)) (.slice none 0 0) [] V (Out.nil s) (by simpa [cenc] using hb);have S:∀ args V,(callFunc i args).run prog V=.ok (.enter i args) V:=hF.ew;have P:∀ V,(Instr.field 189 (.agg #[.func (.func i) #[] A,.func (.func J) #[] R,.func (.func I) #[] Q]) 0).run prog V=.ok (.func (.func i) #[] A) V:=fun V=>by kernel_rfl
 simp only at F;simp only [Fv.val];clear hF d C s;go_wp2_with fail;refine F.mono ?_;rintro e D ⟨u,rfl,o⟩;go_wp2_with fail;go_ret;refine ⟨u,rfl,?_⟩;rw [ah] at o;have b:∀ K,Out w D u (spC.enc c) K->Out w D u (spC.enc c) []:=by
  intro K
  induction K with
  | nil=>exact id
  | cons p K ih=>exact fun h=>ih h.drop
 exact b _ o
def CVs (n:Nat) (V:World) (v:Value) (c:Cgf):Prop:=∀ w1 V':World,w1.heap.size<=n->Below w1.heap.size w1 V'->(∀ b,n<=b->b<V.heap.size->V'.heap[b]?=V.heap[b]?)->CV V' v c
theorem Mem.move {e f:World} (h:Mem w V L) (j:e.heap.size<=w.heap.size) (hb:Below e.heap.size e f) (i:∀ b,w.heap.size<=b->b<V.heap.size->f.heap[b]?=V.heap[b]?):Mem e f L :=
 ⟨hb,fun p d=>ax j (h.low p d),fun p d=>(i _ (h.low p d) (h.lt d)).trans (h.at_ p d),h.apart⟩
theorem jt4:∀ x g d z V K,(g0,aE z0 39)∈K->JC w x g 39 [] [] V ((d,.cells z 39)::K)->∃ b,V.heap[g]?=some (.cells b 39)/\b.size=29/\b.all (·.oneCell')=true/\V.heap[d]?=some (.cells z 39)/\Mem w (V.setRow d b) ((d,.cells b 39)::K)/\∀ B,CVs w.heap.size ((V.setRow d b).setRow g0 B) (.agg b) x:=by
 rintro t g d z V K I ⟨j,o,h,f,D,C,e⟩;simp only [ah,ai] at e;have A:f.length<=255:=by rw [<-D,ac] at o;exact o
 have i:=zx t (v:=lv h (f.map tcs)) (by cases f<;>rfl);obtain ⟨b,k⟩:∃ b,(cc t (lv h (f.map tcs))).toArray=b:=⟨_,rfl⟩;rw [k] at e i;have y:Mem w V ((d,.cells z 39)::(g,.cells b 39)::(tbk h f++K)):=e.perm (by
  classical
  rw [af];intro q;simp only [ag,ak];omega)
 have m:=y.get 0 rfl;have s:Mem w (V.setRow d b) ((d,.cells b 39)::(g,.cells b 39)::(tbk h f++K)):=y.wrote 0 rfl (j8 V d z _ _ m);refine ⟨b,e.get 0 rfl,by rw [<-k,al];exact je j _,i,m,s.subl ?_,fun B M N J hb G=>⟨j,_,by rw [<-k],?_⟩⟩
 ·exact List.Sublist.cons_cons _ (List.Sublist.cons _ (List.sublist_append_right _ _))
 ·rw [<-D];obtain ⟨F,E,rfl⟩:=List.append_of_mem I;have p:Mem w (V.setRow d b) ((g0,.cells z0 39)::(tbk h f++(F++E))):=(show Mem w (V.setRow d b) (tbk h f++(F++(g0,.cells z0 39)::E)) from s.sub.sub).perm (by
   classical
   rw [af];intro q;simp only [ag,ak];omega)
  exact jml C A ((p.wrote 0 rfl (j8 _ g0 z0 B _ (p.get 0 rfl))).sub.move J hb G)
theorem jsn {x:Cgf} {b post:List Value} (h:JC w x g T b post V K):Mem w V K:=by
 obtain ⟨k,j,h,e,i,f,d⟩:=h;exact d.sub.dropA
theorem jpk (h:Mem w V ((g,.cells cz T (0,0))::K)):JC w cfg0 g T [] [] V K :=
 ⟨yw,by decide,0,[],rfl,(by simp),h⟩
def cdec (l:List Int):Option Cgf:=match spC.dec l cfg0 with|some (x,[])=>some x | _=>none
def OPC (w:World) (r:Option Cgf) (e:Ending) (w':World):Prop:=Below w.heap.size w w'/\match r with
 | none=>e=.returned (.tuple #[.agg cz,.int .i64 70])
 | some h=>∃ v,e=.returned (.tuple #[v,.int .i64 0])/\CVs w.heap.size w' v h
theorem CV.row {c:Cgf} (h:CV w v c):∃ b:Array Value,v=.agg b/\b.size=29/\b.all (·.oneCell')=true:=by
 obtain ⟨e,u,rfl,d⟩:=h;exact ⟨_,rfl,by rw [al];exact je e _,zx c d.one⟩
theorem j4y (hS:Sl w a l c) :
  Calls prog 98 #[.slice a l.length c] w (OPC w (cdec l)):=by
 obtain ⟨g,hg⟩:∃ g,w.heap.size=g:=⟨_,rfl⟩;have G:Mem w (w.alloc (.cells cz 39)) ((g,.cells cz 39)::[]):=(Mem.nil w).push1 hg.symm;have J:=fun {f:Fv} {E:List (Nat×Obj)} {V:World} (k:Mem w V (E++[(g,.cells cz 39)])) (hF:Fw w E IC JC f spC)=>jm9 (I:=IC) (Q:=fun x V v=>∃ b,v=.agg b/\b.size=29/\b.all (·.oneCell')=true/\∀ B,CVs w.heap.size (V.setRow g B) v x) k hF.er hF.rd hS cfg0 (fun g V K h=>jpk h) (fun x V K h=>jsn h) (fun x g' rb z V K hs h=>by
  obtain ⟨b,h1,U,h3,h4,h5,h6⟩:=jt4 (g0:=g) (z0:=cz) x g' rb z V K (hs _ (by simp)) h;exact ⟨b,h1,U,h3,h4,h5,b,rfl,U,h3,h6⟩)
 obtain ⟨R,hR⟩:∃ R,cdec l=R:=⟨_,rfl⟩;have N:Hid (∀ (S P O:Nat) (j c2 c3:Array Value) (E:List (Nat×Obj)) (V:World),Mem w V (E++[(g,.cells cz 39)])->Fw w E IC JC ⟨S,P,O,j,c2,c3⟩ spC ->
     Calls prog 130 #[.agg #[.func (.func S) #[] j,.func (.func P) #[] c2,.func (.func O) #[] c3],.slice a l.length c] V fun e m=>∃ (b:Array Value) (M:Int),e=.returned (.tuple #[.agg b,.int .i64 M])/\b.size=29/\b.all (·.oneCell')=true/\Mem w m (E++[(g,.cells cz 39)]) /\
      (Below w.heap.size w (m.setRow g b)->OPC w R (.returned (.tuple #[.agg b,.int .i64 M])) (m.setRow g b))):=by
  intro S P O j c2 c3 E V k hF;have h:=J k hF;have o:(cz:Array Value).all (·.oneCell')=true:=by kernel_rfl
  rw [<-hR];unfold cdec;cases hd:spC.dec l cfg0 with
  | none =>
   rw [hd] at h;exact h.mono (fun e m h=>⟨cz,70,h.2,rfl,o,h.1,fun hb=>⟨hb,rfl⟩⟩)
  | some x =>
   obtain ⟨s,l'⟩:=x;rw [hd] at h;cases l' with
   | nil =>
    refine h.mono ?_;rintro e m ⟨h1,v,U,b,rfl,h4,h5,h6⟩;exact ⟨b,0,U,h4,h5,h1,fun hb=>⟨hb,_,rfl,h6 b⟩⟩
   | cons x xs=>exact h.mono (fun e m h=>⟨cz,70,h.2,rfl,o,h.1,fun hb=>⟨hb,rfl⟩⟩)
 rw [hR];have C:=j5g G;clear J hS hR;generalize l.length=n at *;go_enter func98,ntmps98;go_upto_region 1 with fail;refine j5 (fun V=>V=w.alloc (.cells cz 39)) rfl ?_;rintro V0 rfl;clear G;go_wp2_with fail;refine C.mono ?_;rintro e V ⟨⟨S,P,O,q1,q2,q3⟩,E,rfl,k,hF⟩;simp only [Fv.val];have CW:=N.out _ _ _ _ _ _ _ _ k hF;clear N C k hF;go_wp2_with fail;refine CW.mono ?_;rintro e X ⟨b,M,rfl,y,Z,F,hP⟩;have i:Mem w X ((g,.cells cz 39)::E):=F.perm List.perm_append_comm;have A:=i.get 0 rfl;have D:Mem w (X.setRow g b) ((g,.cells b 39)::E):=i.wrote 0 rfl (j8 X g _ _ _ A);have d:(prog.info? 39).map (·.size)=some b.size:=by rw [y];kernel_rfl
 have HP:Hid (OPC w R (.returned (.tuple #[.agg b,.int .i64 M])) (X.setRow g b)):=hP D.below;clear CW hP F i;go_wp2_with (refine wpList_store_row rfl 39 (.tmp 2) (.tmp 7) (by with_reducible rfl) g b (by first|rfl|simp [aF]) (by first|rfl|simp [aF]) 39 cz A d (by rw [y];rfl) Z ?_)
 refine bodyPost_ret (v:=.tuple #[.agg b,.int .i64 M]) ?_ rfl HP.out;exact jx (p:=2) (q:=3) (ty:=39) rfl _ _ g _ rfl (run_loadVar_row _ _ 39 39 _ (0,0) _ (D.get 0 rfl) underlying39 rfl d)
theorem j2h {α:Type}:∀ (xs:List (List α)) (i j:Nat) (u:α),(∀ x∈xs,x.length=sz)->(xs.getD i [])[j]?=some u->xs.flatten[i*sz+j]?=some u
 | [],i,j,u,_,h=>by simp [ad] at h
 | x::xs,0,j,u,hx,h=>by
  rw [Nat.zero_mul,aw,am];have b:x[j]?=some u:=h;obtain ⟨f,-⟩:=an.mp b;rw [List.getElem?_append_left f];exact b
 | x::xs,i+1,j,u,hx,h=>by
  have b:(xs.getD i [])[j]?=some u:=by simpa [ad] using h
  have e:=hx x (List.mem_cons_self ..);rw [am,List.getElem?_append_right (by rw [e,ay];omega),show (i+1)*sz+j-x.length=i*sz+j by rw [e,ay];omega];exact j2h xs i j u (fun y d=>hx y (List.mem_cons_of_mem _ d)) b
theorem jqo {xs:List (List Value)} {B:List (Nat×Obj)} (hx:∀ x∈xs,x.length=sz) (h:OwB T sz v xs.length xs.flatten B) (f:Mem w V (B++L)):Rw V sz v xs:=by
 rcases h.2 with ⟨rfl,e,rfl⟩|⟨g,cap,cur,rfl,rfl,h1,h2,h3,h4⟩
 ·have:xs=[]:=List.eq_nil_of_length_eq_zero e;subst this;exact ⟨none,0,rfl,av _,by omega,fun _=>rfl,aB rfl⟩
 ·refine ⟨some ⟨g,0,none⟩,cap,rfl,h1,by simpa [maxLen] using h2,nofun,aD ⟨g,0,rfl,fun i hi j u d=>?_⟩⟩;have b:=j2h xs i j u hx d;rw [<-h4] at b;rw [f.cell 0 rfl,aw];rw [ao] at b;split at b
  ·rw [<-Array.getElem?_toList];exact b
  ·cases b
theorem j04 {b:Array Oper} {rest:List Oper} {o:Oper} {a:Act} {Q:Exit->Act->World->Prop} (hw:Region.wanted o (yielded b a.tmps)=true) (ty:TypeId) (x:Operand) (f:o.op=.load ty x)
  (g:Nat) (hx:a.eval x=.pointer (some ⟨g,0,none⟩)) (t:TypeId) (cs:Array Value) (d:Nat×Nat) (j:Array Field) (i:w.heap[g]?=some (.cells cs t d))
  (e:prog.underlying ty=some (.struct j)) (hi:(prog.info? ty).map (·.size)=some cs.size)
  (h:wpList prog b Q rest (a.put o.dst (.agg cs)) w):wpList prog b Q (o::rest) a w:=by
 unfold wpList;rw [if_pos hw];exact aB (wp_load_row ty x f g hx t cs d _ i e rfl hi h)
end
section
open Go.RowKit Sm
theorem jq8 (h:RS v [] Y):v=.slice none 0 0/\Y=[]:=by
 rcases h with ⟨h1,_,h2⟩|⟨_,_,_,_,_,h0,_⟩
 ·exact ⟨h1,h2⟩
 ·simp at h0
theorem jfc {k:Nat} (d:(Bk.mk g k cur r).Ok r.length) (i:W.heap[g]?=some (.cells cur 5)) (f:r.length<=140737488351232):Row W (some ⟨g,0,none⟩) r:=by
 refine ⟨d.bytes,f,aD ⟨g,0,rfl,fun j b=>?_⟩⟩;rw [aw,cell_of i];have e:=congrArg (fun l=>l[j]?) d.here;simp only [ap,ao,if_pos b,Array.getElem?_toList,aq b,Option.map_some] at e;rw [e,j1c b]
end
section
open Go.RowKit Sm Cf
def j4j (c:Cgf):List Int:=((((((([]++be 4 c.ip)++c.mac)++c.omac)++c.nmac)++c.key)++be 4 c.drain)++[((min c.ten.length 255:Nat):Int)])
theorem jae (c:Cgf):cenc c=j4j c++cat (fun i=>tenc (c.ten.getD i ten0)) (min c.ten.length 255):=rfl
theorem jeh {n:Nat} {f:List Tv} (hr:Rw V 33 (.slice a n c) (f.map zc)) (k:∀ z∈f,TLen z.1/\Rws V z) (i:Nat) (hi:i<f.length):∃ b d x,a=some ⟨b,d,none⟩/\V.rangeAt b (d+i*33) x/\x.length=33/\x.toArray.all (·.oneCell')=true/\TV V (.agg x.toArray) ((f.map aa).getD i ten0):=by
 obtain ⟨b,d,rfl,hc⟩:=j5z hr i (by rw [ac];exact hi);obtain ⟨z,hx⟩:∃ z,f[i]?=some z:=⟨_,aq hi⟩;have e:=k z (List.mem_of_getElem? hx);have o:(f.map zc).getD i []=zc z:=by simp [ad,hx]
 rw [o] at hc;have p:(f.map aa).getD i ten0=z.1:=by simp [ad,hx]
 rw [p];exact ⟨b,d,zc z,rfl,fun j u m=>hc j u m,ji e.1 _ _ _,jlf e.2,e.1,z.2.1,z.2.2.1,z.2.2.2,rfl,e.2⟩
theorem jfq {p:World} {k:List Int} {n m:Nat} (h:Ob w W v l L n) (i:Ob W p u k [] m) (j:0<k.length) (x:n+m<=1000000000) (ty:TypeId) :
  ∃ d f,(Builtin.append_ #[86,86] ty #[v,u]).run prog p=.ok d f/\Ob w f d (l++k) L (n+m):=by
 have z:=h.2;have y:=i.2;obtain ⟨a,c,rfl,o⟩:=i.1.sl (by omega);rcases o.row.cells with e|⟨b,off,rfl,-⟩
 ·rw [e] at j;simp at j
 ·obtain ⟨d,f,s,q⟩:=qq (h.1.after i.1.mem.below) ⟨b,off,none⟩ k.length c k rfl o.row (by omega) ty;exact ⟨d,f,s,q,by rw [ar];omega⟩
theorem jel (t:Ten):0<(tenc t).length:=by
 rw [j5p];simp only [ar,List.length_cons,aj];omega
theorem j9n {c:Cgf} (h:CV w v c) (hi:CIn c) (ht:∀ t∈c.ten,TIn t) (hl:c.ten.length<=1000000) :
  Calls prog 73 #[v] w fun e w'=>∃ u,e=.returned u/\Ob w w' u (cenc c) [] 1500000:=by
 obtain ⟨j,u,rfl,zs,O,hr,hq⟩:=h;obtain ⟨g,hg⟩:∃ g,w.heap.size=g:=⟨_,rfl⟩;have U:Mem w (w.alloc (.cells (cc c u).toArray 39)) [(g,.cells (cc c u).toArray 39)]:=(Mem.nil w).push1 hg.symm;have HI:=fun K (hm:(g,aE ([]++(cc c u++[])).toArray 39)∈K)=>jm6 (w:=w) hi ht O hr hq hm;simp only [ah,ai,aj] at HI;obtain ⟨m,X⟩:∃ m:List (Nat×Obj),m=[(g,.cells (cc c u).toArray 39)]:=⟨_,rfl⟩;have hm:(g,aE (cc c u).toArray 39)∈m:=by rw [X];simp
 have gt:∀ o v,(∀ ip a b E d f g a1 b1 c1 d1 f1 g1 Z b2 c2 d2 f2 g2 k1 k2 k3 k4 k5 k6 k7 k8 dr te,c=⟨ip,[a,b,E,d,f,g],[a1,b1,c1,d1,f1,g1],[Z,b2,c2,d2,f2,g2],[k1,k2,k3,k4,k5,k6,k7,k8],dr,te⟩->(cc c u)[o]?=some v)->∀ V,Mem w V m->V.cell? ⟨g,o,none⟩=some v:=by
  intro o v hv V hV;have:=(HI m hm V hV).cell o (cget j hv);rwa [aw] at this
 have D0:Hid (∀ V,Mem w V m->V.cell? ⟨g,0,none⟩=some (.int .u32 c.ip)):=gt 0 (.int .u32 c.ip) (by rintro ip a b E d f g a1 b1 c1 d1 f1 g1 Z b2 c2 d2 f2 g2 k1 k2 k3 k4 k5 k6 k7 k8 dr te rfl;rfl);have I:Hid (∀ V,Mem w V m->V.cell? ⟨g,27,none⟩=some (.int .u32 c.drain)):=gt 27 (.int .u32 c.drain) (by rintro ip a b E d f g a1 b1 c1 d1 f1 g1 Z b2 c2 d2 f2 g2 k1 k2 k3 k4 k5 k6 k7 k8 dr te rfl;rfl);have D:Hid (∀ V,Mem w V m->V.cell? ⟨g,28,none⟩=some u):=gt 28 u (by rintro ip a b E d f g a1 b1 c1 d1 f1 g1 Z b2 c2 d2 f2 g2 k1 k2 k3 k4 k5 k6 k7 k8 dr te rfl;rfl);have RK:Hid (∀ V,Mem w V m->Row V (some ⟨g,1,none⟩) c.mac/\Row V (some ⟨g,7,none⟩) c.omac/\Row V (some ⟨g,13,none⟩) c.nmac/\Row V (some ⟨g,19,none⟩) c.key):=by
  intro V hV;have h:=HI m hm V hV;have a1:=h.row 1 c.mac hi.mac (by rw [j.mac];omega) [.int .u32 c.ip] (c.omac.map (aG .u8)++(c.nmac.map (aG .u8)++(c.key.map (aG .u8)++[.int .u32 c.drain,u]))) rfl rfl;have Z:=h.row 7 c.omac hi.omac (by rw [j.omac];omega) (.int .u32 c.ip::c.mac.map (aG .u8)) (c.nmac.map (aG .u8)++(c.key.map (aG .u8)++[.int .u32 c.drain,u])) (by simp [j.mac]) (by simp [cc]);have a3:=h.row 13 c.nmac hi.nmac (by rw [j.nmac];omega) (.int .u32 c.ip::(c.mac.map (aG .u8)++c.omac.map (aG .u8))) (c.key.map (aG .u8)++[.int .u32 c.drain,u]) (by simp [j.mac,j.omac]) (by simp [cc]);have a4:=h.row 19 c.key hi.key (by rw [j.key];omega) (.int .u32 c.ip::(c.mac.map (aG .u8)++(c.omac.map (aG .u8)++c.nmac.map (aG .u8)))) ([.int .u32 c.drain,u]) (by simp [j.mac,j.omac,j.nmac]) (by simp [cc]);rw [aw] at a1 Z a3 a4;exact ⟨a1,Z,a3,a4⟩
 have HL:Hid (c.mac.length=6/\c.omac.length=6/\c.nmac.length=6/\c.key.length=8):=⟨j.mac,j.omac,j.nmac,j.key⟩;obtain ⟨sa,sc,rfl,c3⟩:=hr;have S:(zs.map zc).length=c.ten.length:=by rw [ac,<-O,ac]
 have HR:Hid (∀ i,i<c.ten.length->∀ V,Mem w V m->∃ b y x,sa=some ⟨b,y,none⟩/\V.rangeAt b (y+i*33) x/\x.length=33/\x.toArray.all (·.oneCell')=true/\TV V (.agg x.toArray) (c.ten.getD i ten0)/\TIn (c.ten.getD i ten0)):=by
  intro i hi V hV;have h:=HI m hm V hV;have c4:i<zs.length:=by rw [ac] at S;omega
  obtain ⟨b,y,x,e1,e2,e3,e4,e5⟩:=jeh h.2.2.2.1 (fun z O=>⟨(h.2.2.2.2 z O).1.len,(h.2.2.2.2 z O).2⟩) i c4;rw [O] at e5;refine ⟨b,y,x,e1,e2,e3,e4,e5,ht _ ?_⟩;rw [List.getD_eq_getElem?_getD,aq hi,Option.getD_some];exact List.getElem_mem _
 rw [S] at D;rw [<-X] at U;clear HI gt c3 hq j hi hm ht O;generalize (cc c (.slice sa (zs.map zc).length sc)).toArray=tl at *;clear X S;rw [jae];obtain ⟨N,hN⟩:∃ N,c.ten.length=N:=⟨_,rfl⟩;obtain ⟨k,hk⟩:∃ k,min N 255=k:=⟨_,rfl⟩;have b0:j4j c=(((((([]++be 4 c.ip)++c.mac)++c.omac)++c.nmac)++c.key)++be 4 c.drain)++[(k:Int)]:=by rw [<-hk,<-hN];rfl
 have a5:Hid (j4j c=(((((([]++be 4 c.ip)++c.mac)++c.omac)++c.nmac)++c.key)++be 4 c.drain)++[(k:Int)]):=b0;rw [hN] at D HR hl ⊢;rw [hk];have HE:Hid (∀ i,cat (fun i=>tenc (c.ten.getD i ten0)) (i+1)=cat (fun i=>tenc (c.ten.getD i ten0)) i++tenc (c.ten.getD i ten0)):=fun i=>rfl;generalize (fun i=>tenc (c.ten.getD i ten0))=enc at *;have HK:Hid (k=min N 255/\N<=1000000):=⟨hk.symm,hl⟩;have c7:k<=255:=by omega
 clear b0 hk hN hl;go_enter func73,ntmps73;go_upto_region 1 with fail;refine j5 (fun V=>Mem w V m) U ?_;intro V0 hM;clear U;have b7:Hid (Ob w V0.drew (.slice none 0 0) [] m 0):=⟨Out.nil hM.drew,av _⟩;have c0:=D0.out _ hM
 go_region_held3 (fun V=>V.cell? ⟨g,0,none⟩=some (.int .u32 c.ip)) (first|go_keep|exact D0.out _ q.mem|exact D0.out _ p.mem)
  (first
   | (go_at_call 99;with_reducible refine (ki b7.out c.ip (by omega)).mono ?_;rintro e W1 ⟨v1,rfl,q⟩)
   | (refine q7 rfl (.tmp 7) (.tmp 9) rfl (by simp [aF]) ⟨g,1,none⟩ 6 6 (by simp [aF]) q c.mac HL.out.1 (RK.out _ q.mem).1 (by omega) ?_;intro v2 W2 p)
   | fail)
 have a0:Hid (Ob w W2 v2 (([]++be 4 c.ip)++c.mac) m 10):=p;clear q p b7 c0 hM D0;go_upto_region 2 with fail
 go_region_held3 (fun V=>True) (trivial)
  (first
   | (refine q7 rfl (.tmp 11) (.tmp 13) rfl (by simp [aF]) ⟨g,7,none⟩ 6 6 (by simp [aF]) a0.out.drew c.omac HL.out.2.1 (RK.out _ a0.out.drew.mem).2.1 (by omega) ?_;intro v3 W3 R)
   | (refine q7 rfl (.tmp 14) (.tmp 16) rfl (by simp [aF]) ⟨g,13,none⟩ 6 6 (by simp [aF]) R c.nmac HL.out.2.2.1 (RK.out _ R.mem).2.2.1 (by omega) ?_;intro v4 W4 b5)
   | fail)
 have G:Hid (Ob w W4 v4 (((([]++be 4 c.ip)++c.mac)++c.omac)++c.nmac) m 22):=b5;clear R b5 a0;have c5:=I.out _ G.out.mem;go_upto_region 3 with fail
 go_region_held3 (fun V=>V.cell? ⟨g,27,none⟩=some (.int .u32 c.drain)) (first|go_keep|exact I.out _ Q.mem|exact I.out _ P.mem)
  (first
   | (refine q7 rfl (.tmp 18) (.tmp 20) rfl (by simp [aF]) ⟨g,19,none⟩ 8 8 (by simp [aF]) G.out.drew c.key HL.out.2.2.2 (RK.out _ G.out.drew.mem).2.2.2 (by omega) ?_;intro v5 W5 Q)
   | (go_at_call 99;with_reducible refine (ki Q c.drain (by omega)).mono ?_;rintro e W6 ⟨v6,rfl,P⟩)
   | fail)
 have A:Hid (Ob w W6 v6 (((((([]++be 4 c.ip)++c.mac)++c.omac)++c.nmac)++c.key)++be 4 c.drain) m 34):=P;clear Q P G RK I HL c5;go_upto_region 4 with fail
 go_cut [3] from 25 (fun u3 w'=>Hid (Ob w w' u3 (j4j c) m 35))
 case first =>
  have C:=HK.out;have d1:(((N:Int)<=255/\¬((255:Int)<N))/\k=N)\/((¬((N:Int)<=255)/\(255:Int)<N)/\k=255):=by omega
  have e1:IntKind.u8.wrap (k:Int)=k:=by rw [yo];omega
  have f1:(k:Int) % 256=k:=by omega
  obtain ⟨v7,W7,hr,hO⟩:=j31 A.out.1 [(k:Int)] (jq (by omega) ku) 1 rfl (by have:=A.out.2;omega) 86;have F:Hid (Ob w W7 v7 (j4j c) m 35):=by rw [a5.out];exact ⟨hO,by have:=A.out.2;simp only [ar] at this ⊢;simp;omega⟩
  simp only [List.map_cons,List.map_nil] at hr;have b6:=D.out _ A.out.mem;clear hO HK a5 HE HR C A D;rcases d1 with ⟨⟨m1,n1⟩,rfl⟩|⟨⟨m1,n1⟩,rfl⟩
  all_goals (try simp only [Int.cast_ofNat_Int] at hr e1 f1)
  all_goals
   go_wp2_with (at_builtin;refine wpList_append_run (.tmp 25) (.tmp 31) 86 86 (by with_reducible rfl) hr rfl rfl (by simp [aF]) (by simp [aF]) ?_)
   go_meet
   case rel=>exact F
 case rest =>
  have F:Hid (Ob w wc u3 (j4j c) m 35):=hcut;clear hcut a5 A;go_wp2_with fail
  go_loopw [3,4] (fun u3 u4 w'=>∃ i:Nat,i<=k/\u4=.int .i64 i/\Hid (Ob w w' u3 (j4j c++cat enc i) m (35+i*5500))) (fun u3 u4 w'=>k-(intOf u4).toNat)
  case atStart=>exact ⟨0,az _,rfl,by rw [cat,ai];exact F⟩
  case round =>
   obtain ⟨i,hi,rfl,s⟩:=hrel;clear F;have b6:=D.out _ s.out.mem;have C:=HK.out;by_cases hlt:i<k
   ·have h1:(i:Int)<N:=by omega
    have h2:(i:Int)<255:=by omega
    have h3:i<N:=by omega
    obtain ⟨b,y,x,rfl,a7,b9,a8,b3,b4⟩:=HR.out i h3 _ s.out.mem;have CT:=j99 b3 b4;have EE:=HE.out i;have J:=jel (c.ten.getD i ten0);generalize tenc (c.ten.getD i ten0)=T at *;have b8:Hid (cat enc (i+1)=cat enc i++T):=EE;have HP:Hid (0<T.length):=J;have a9:(prog.info? 46).map (·.size)=some x.length:=by rw [b9];kernel_rfl
    clear EE b3 b4 C J a8;go_wp2_with (refine wpList_load_mid rfl 46 (.tmp 48) (by with_reducible rfl) b (y+i*33) (by simp [aF]) x _ a7 underlying46 rfl a9 ?_)
    refine CT.mono ?_;rintro e W1 ⟨u1,rfl,q⟩;obtain ⟨v2,W2,a6,p⟩:=jfq s.out q HP.out (by omega) 86;have HH:Hid (Ob w W2 v2 (j4j c++cat enc (i+1)) m (35+(i+1)*5500)):=by
     rw [b8.out,<-List.append_assoc];exact ⟨p.1,ax p.2 (by omega)⟩
    clear q p s b8 CT b6 a7;go_wp2_with (at_builtin;refine wpList_append_run (.tmp 44) (.tmp 50) 86 86 (by with_reducible rfl) a6 rfl rfl (by simp [aF]) (by simp [aF]) ?_)
    go_roundw
    case rel=>exact ⟨i+1,by omega,by go_num,HH⟩
    case measure=>simp [intOf];omega
   ·obtain rfl:i=k:=by omega
    have M:Hid (Ob w wr u3 (j4j c++cat enc i) [] 1500000):=⟨s.out.1.none,ax s.out.2 (by omega)⟩;clear s HR HE;by_cases hN:i<N
    ·have h1:(i:Int)<N:=by omega
     have h2:¬((i:Int)<255):=by omega
     clear C;go_wp2_with fail;go_ret;exact ⟨_,rfl,M.out⟩
    ·have h1:¬((i:Int)<N):=by omega
     clear C;go_wp2_with fail;go_ret;exact ⟨_,rfl,M.out⟩
end
section
open Go.ChangeShapes Go.WideShapes Go.ChangeAt Go.RowKit Go.Joins Sm Cf
structure TBy (t:Ten):Prop where
 key:j6 t.key
 vmac:j6 t.vmac
 host:j6 t.host
structure TRg (t:Ten):Prop where
 vni:0<=t.vni/\t.vni<=4294967295
 vtep:0<=t.vtep/\t.vtep<=4294967295
 lo:0<=t.lo/\t.lo<=65535
 hi:0<=t.hi/\t.hi<=65535
 filter:-9223372036854775808<=t.filter/\t.filter<=9223372036854775807
 sess:-9223372036854775808<=t.sess/\t.sess<=9223372036854775807
 queue:-9223372036854775808<=t.queue/\t.queue<=9223372036854775807
 rate:0<=t.rate/\t.rate<=4294967295
 burst:0<=t.burst/\t.burst<=4294967295
 pool:∀ x∈t.pool,0<=x/\x<=4294967295
 stat:∀ x∈t.stat,(0<=x.1/\x.1<=4294967295)/\0<=x.2/\x.2<=4294967295
 twi:∀ x∈t.twi,(0<=x.1/\x.1<=4294967295)/\0<=x.2/\x.2<=4294967295
section
variable {H:Type} {enc:TypeId×Value->H} {W:World} {base:Nat} {held:Bool}
theorem jd6 {x:DataW H×List MemPlace} (h:aH enc prog W base (fun _=>true) held fuel 43 cs=some x) :
  ∃ (v:Value) (l:List Int),cs=[v]/\Rw W 1 v (ux l)/\∀ x∈l,0<=x/\x<=4294967295:=by
 rcases open_ints underlying43 underlying33 (by kernel_rfl) h with ⟨rfl,_⟩|⟨a,len,cap,zs,rfl,_,hl,hm,hz,_,hcell,hwz⟩
 ·exact ⟨_,[],rfl,⟨none,0,rfl,av _,by omega,fun _=>rfl,aB rfl⟩,by simp⟩
 ·simp only [if_true] at hz;have e:(ux (zs.take len)).length=len:=by simp [ux];omega
  refine ⟨_,zs.take len,rfl,⟨some a,cap,by rw [e],by omega,hm,(fun e=>by cases e),?_⟩,fun x hx=>bounds_u32 (hwz x (List.mem_of_mem_take hx))⟩;by_cases h0:len=0
  ·left;subst h0;simp [ux]
  ·right;obtain ⟨b,m,f⟩:=a;have d:f=none:=by
    have hc:=hcell 0 (by omega);simpa [Addr.add] using aK hc
   subst d;refine ⟨b,m,rfl,fun i hi j u k=>?_⟩;rw [e] at hi;have o:i<(zs.take len).length:=by simp;omega
   have p:(ux (zs.take len)).getD i []=[.int .u32 (zs.getD i 0)]:=by
    rw [ad,ux,ap,ao,if_pos hi,ad,aq (by omega)];rfl
   rw [p] at k
   match j,k with
   | 0,k =>
    simp at k;subst k;have hc:=hcell i (by omega);rw [addr_add] at hc;simpa using hc
theorem j41 {x:DataW H×List MemPlace} (h:aH enc prog W base (fun _=>true) held fuel 44 cs=some x) :
  ∃ (v:Value) (l:List (Int×Int)),cs=[v]/\Rw W 2 v (px l)/\∀ x∈l,(0<=x.1/\x.1<=4294967295)/\0<=x.2/\x.2<=4294967295:=by
 rcases aM underlying44 h with ⟨rfl,_⟩|⟨a,len,cap,m,n,D,Pl,rfl,_,hl,hm,hmm,_,hx⟩
 ·exact ⟨_,[],rfl,⟨none,0,rfl,av _,by omega,fun _=>rfl,aB rfl⟩,by simp⟩
 ·have S:len<=m:=by simp at hmm;omega
  by_cases h0:len=0
  ·subst h0;exact ⟨_,[],rfl,⟨some a,cap,rfl,az _,hm,(fun e=>by cases e),aB rfl⟩,by simp⟩
  ·rw [show prog.cellsOf 122=2 by kernel_rfl] at hx;obtain ⟨b,f,q⟩:=a;have p:q=none:=by
    obtain ⟨s,C,J⟩:=hx 0 (by omega);obtain ⟨_,o,d⟩:=aL C;have hc:=d 0 (by omega);rw [aq (by omega)] at hc;simpa [Addr.add] using aK hc
   subst p;obtain ⟨l,A,I⟩:=j9v (fun i (x:Int×Int)=>W.cell? ⟨b,f+i*2,none⟩=some (.int .u32 x.1)/\W.cell? ⟨b,f+i*2+1,none⟩=some (.int .u32 x.2)/\(0<=x.1/\x.1<=4294967295)/\0<=x.2/\x.2<=4294967295) len (fun i hi=>by
    obtain ⟨s,C,J⟩:=hx i (by omega);obtain ⟨_,o,d⟩:=aL C
    match s,o with
    | [v0,v1],_ =>
     have F:=d 0 (by omega);have E:=d 1 (by omega);rw [aN] at F E;rw [addr_add] at F E;obtain ⟨N,M,G,g0,X⟩:=trod_struct2 underlying122 J;have R:aH enc prog W base (fun _=>true) held G 33 [v0]=some N:=by
      have:=g0;simp only [show prog.cellsOf 33=1 by kernel_rfl] at this;exact this
     have Q:aH enc prog W base (fun _=>true) held G 33 [v1]=some M:=by
      have:=X;simp only [show prog.cellsOf 33=1 by kernel_rfl] at this;exact this
     obtain ⟨P,rfl,z⟩:=j7t underlying33 R;obtain ⟨O,rfl,y⟩:=j7t underlying33 Q;exact ⟨(P,O),by simpa using F,by simpa [aA] using E,bounds_u32 z,bounds_u32 y⟩)
   have e:(px l).length=len:=by simp [px,A]
   refine ⟨_,l,rfl,⟨some ⟨b,f,none⟩,cap,by rw [e],by omega,hm,(fun e=>by cases e),aD ⟨b,f,rfl,fun i hi j u k=>?_⟩⟩,fun x hx=>by
    obtain ⟨i,hi,rfl⟩:=au hx;exact (I i _ (aq hi)).2.2⟩
   rw [e] at hi;have U:(px l).getD i []=[.int .u32 (l[i]'(by omega)).1,.int .u32 (l[i]'(by omega)).2]:=by
    rw [ad,px,ap,aq (by omega)];rfl
   rw [U] at k;obtain ⟨z,y,-⟩:=I i _ (aq (by omega))
   match j,k with
   | 0,k =>
    simp at k;subst k;simpa using z
   | 1,k =>
    simp at k;subst k;exact y
theorem j42 {x:DataW H×List MemPlace} (hf:aH enc prog W base (fun _=>true) held fuel 46 cs=some x) :
  ∃ (t:Ten) (p s q:Value),cs=tc t p s q/\TLen t/\Rw W 1 p (ux t.pool)/\Rw W 2 s (px t.stat)/\Rw W 2 q (px t.twi)/\TBy t/\TRg t:=by
 obtain ⟨n,hl,⟨y0,g0⟩,⟨y1,g1⟩,⟨y2,g2⟩,⟨y3,g3⟩,⟨y4,g4⟩,⟨y5,g5⟩,⟨y6,g6⟩,⟨y7,g7⟩,⟨y8,g8⟩,⟨y9,Z⟩,⟨a5,z⟩,⟨a4,y⟩,⟨a3,m⟩,⟨a2,k⟩,⟨a1,j⟩,⟨a0,i⟩⟩:=j5n underlying46 hf;rw [show prog.cellsOf 46=33 by kernel_rfl] at hl;have c1:prog.cellsOf 9=1:=by kernel_rfl
 have c2:prog.cellsOf 33=1:=by kernel_rfl
 have c3:prog.cellsOf 36=8:=by kernel_rfl
 have X:prog.cellsOf 35=6:=by kernel_rfl
 have c5:prog.cellsOf 43=1:=by kernel_rfl
 have c6:prog.cellsOf 42=1:=by kernel_rfl
 have c7:prog.cellsOf 3=1:=by kernel_rfl
 have c8:prog.cellsOf 44=1:=by kernel_rfl
 simp only [c1,c2,c3,X,c5,c6,c7,c8] at g0 g1 g2 g3 g4 g5 g6 g7 g8 Z z y m k j i;obtain ⟨nm,e0,-⟩:=DataW.trod_string underlying9 g0;obtain ⟨vni,e1,-,w1⟩:=aI underlying33 g1;obtain ⟨key,e2,l2,b2⟩:=open_arr underlying36 c3 g2;obtain ⟨vtep,e3,-,w3⟩:=aI underlying33 g3;obtain ⟨vmac,e4,l4,b4⟩:=open_arr underlying35 X g4;obtain ⟨host,e5,l5,b5⟩:=open_arr underlying35 X g5;obtain ⟨p,d,e6,r6,w6⟩:=jd6 g6;obtain ⟨lo,e7,-,w7⟩:=aI underlying42 g7;obtain ⟨hi,e8,-,w8⟩:=aI underlying42 g8;obtain ⟨fi,e9,-,w9⟩:=aI underlying3 Z;obtain ⟨s,b,U,M,G⟩:=j41 z;obtain ⟨q,I,S,J,F⟩:=j41 y;obtain ⟨se,R,-,E⟩:=aI underlying3 m;obtain ⟨qu,Q,-,D⟩:=aI underlying3 k;obtain ⟨ra,P,-,C⟩:=aI underlying33 j;obtain ⟨bu,O,-,A⟩:=aI underlying33 i;have step:∀ o n N,o+n=N->cs.drop o=(cs.drop o).take n++cs.drop N:=by
  intro o n N e;subst e;rw [<-List.drop_drop,List.take_append_drop]
 refine ⟨⟨nm,vni,key,vtep,vmac,host,d,lo,hi,fi,b,I,se,qu,ra,bu⟩,p,s,q,?_,⟨l2,l4,l5⟩,r6,M,J,⟨b2,b4,b5⟩,⟨bounds_u32 w1,bounds_u32 w3,bounds_u16 w7,bounds_u16 w8,bounds_i64 w9,bounds_i64 E,bounds_i64 D,bounds_u32 C,bounds_u32 A,w6,G,F⟩⟩;have f:cs.drop 33=[]:=by rw [List.drop_eq_nil_iff];omega
 refine (List.drop_zero (l:=cs)).symm.trans ?_;rw [step 0 1 1 rfl,e0,step 1 1 2 rfl,e1,step 2 8 10 rfl,e2,step 10 1 11 rfl,e3,step 11 6 17 rfl,e4,step 17 6 23 rfl,e5,step 23 1 24 rfl,e6,step 24 1 25 rfl,e7,step 25 1 26 rfl,e8,step 26 1 27 rfl,e9,step 27 1 28 rfl,U,step 28 1 29 rfl,S,step 29 1 30 rfl,R,step 30 1 31 rfl,Q,step 31 1 32 rfl,P,step 32 1 33 rfl,O,f];simp only [tc,List.cons_append,ah,ai]
theorem trod_struct3 {f e d:Field} {x:DataW H×List MemPlace} (k:prog.underlying t=some (.struct #[f,e,d])) (h:aH enc prog W base (fun _=>true) held fuel t cs=some x) :
  ∃ n,cs.length=prog.cellsOf t/\(∃ y,aH enc prog W base (fun _=>true) held n f.type ((cs.drop f.offset).take (prog.cellsOf f.type))=some y)/\(∃ y,aH enc prog W base (fun _=>true) held n e.type ((cs.drop e.offset).take (prog.cellsOf e.type))=some y)/\(∃ y,aH enc prog W base (fun _=>true) held n d.type ((cs.drop d.offset).take (prog.cellsOf d.type))=some y):=by
 obtain ⟨xs,n,_,_,m,b,j⟩:=aJ k h;have i:xs.length=3:=b;exact ⟨n,m,⟨_,(j 0 f rfl).trans (aq (by omega))⟩,⟨_,(j 1 e rfl).trans (aq (by omega))⟩,⟨_,(j 2 d rfl).trans (aq (by omega))⟩⟩
theorem j7b {o m k j i f e:Field} {x:DataW H×List MemPlace} (q:prog.underlying t=some (.struct #[o,m,k,j,i,f,e])) (h:aH enc prog W base (fun _=>true) held fuel t cs=some x) :
  ∃ n,cs.length=prog.cellsOf t/\(∃ y,aH enc prog W base (fun _=>true) held n o.type ((cs.drop o.offset).take (prog.cellsOf o.type))=some y)/\(∃ y,aH enc prog W base (fun _=>true) held n m.type ((cs.drop m.offset).take (prog.cellsOf m.type))=some y)/\(∃ y,aH enc prog W base (fun _=>true) held n k.type ((cs.drop k.offset).take (prog.cellsOf k.type))=some y)/\(∃ y,aH enc prog W base (fun _=>true) held n j.type ((cs.drop j.offset).take (prog.cellsOf j.type))=some y)/\(∃ y,aH enc prog W base (fun _=>true) held n i.type ((cs.drop i.offset).take (prog.cellsOf i.type))=some y)/\(∃ y,aH enc prog W base (fun _=>true) held n f.type ((cs.drop f.offset).take (prog.cellsOf f.type))=some y)/\(∃ y,aH enc prog W base (fun _=>true) held n e.type ((cs.drop e.offset).take (prog.cellsOf e.type))=some y):=by
 obtain ⟨xs,n,_,_,s,d,b⟩:=aJ q h;have p:xs.length=7:=d;exact ⟨n,s,⟨_,(b 0 o rfl).trans (aq (by omega))⟩,⟨_,(b 1 m rfl).trans (aq (by omega))⟩,⟨_,(b 2 k rfl).trans (aq (by omega))⟩,⟨_,(b 3 j rfl).trans (aq (by omega))⟩,⟨_,(b 4 i rfl).trans (aq (by omega))⟩,⟨_,(b 5 f rfl).trans (aq (by omega))⟩,⟨_,(b 6 e rfl).trans (aq (by omega))⟩⟩
theorem jfr {x:DataW H×List MemPlace} (h:aH enc prog W base (fun _=>true) held fuel 37 cs=some x) :
  ∃ (v:Value) (ts:List Ten),cs=[v]/\TSV W v ts/\∀ t∈ts,TBy t/\TRg t:=by
 rcases aM underlying37 h with ⟨rfl,_⟩|⟨a,len,cap,m,n,D,Pl,rfl,_,hl,hm,hmm,_,hx⟩
 ·exact ⟨_,[],rfl,⟨[],rfl,⟨none,0,rfl,av _,by omega,fun _=>rfl,aB rfl⟩,by simp⟩,by simp⟩
 ·have a0:len<=m:=by simp at hmm;omega
  by_cases h0:len=0
  ·subst h0;exact ⟨_,[],rfl,⟨[],rfl,⟨some a,cap,rfl,az _,hm,(fun e=>by cases e),aB rfl⟩,by simp⟩,by simp⟩
  ·rw [show prog.cellsOf 46=33 by kernel_rfl] at hx;obtain ⟨b,f,y⟩:=a;have k:y=none:=by
    obtain ⟨E,M,O⟩:=hx 0 (by omega);obtain ⟨_,A,d⟩:=aL M;have hc:=d 0 (by omega);rw [aq (by omega)] at hc;simpa [Addr.add] using aK hc
   subst k;obtain ⟨o,I,G⟩:=j9v (fun i (z:Tv)=>(∀ j u,(zc z)[j]?=some u->W.cell? ⟨b,f+i*33+j,none⟩=some u)/\(TLen z.1/\Rws W z)/\TBy z.1/\TRg z.1) len (fun i hi=>by
    obtain ⟨E,M,O⟩:=hx i (by omega);obtain ⟨_,A,d⟩:=aL M;obtain ⟨t,p,s,q,e,X,U,S,R,Q,P⟩:=j42 O;refine ⟨(t,p,s,q),fun j u hj=>?_,⟨X,U,S,R⟩,Q,P⟩;have C:E[j]?=some u:=by rw [e];exact hj
    have J:j<33:=by
     have:=(an.1 C).1;omega
    have hc:=d j J;rw [C,aN,addr_add] at hc;simpa [aA] using hc)
   have e:(o.map zc).length=len:=by simp [I]
   refine ⟨_,o.map aa,rfl,⟨o,rfl,⟨some ⟨b,f,none⟩,cap,by rw [e],by omega,hm,(fun e=>by cases e),aD ⟨b,f,rfl,fun i hi j u N=>?_⟩⟩,fun z F=>?_⟩,fun t Z=>?_⟩
   ·rw [e] at hi;have hg:(o.map zc).getD i []=zc (o[i]'(by omega)):=by
     rw [ad,ap,aq (by omega)];rfl
    rw [hg] at N;exact (G i _ (aq (by omega))).1 j u N
   ·obtain ⟨i,hi,rfl⟩:=au F;exact (G i _ (aq hi)).2.1
   ·obtain ⟨z,F,rfl⟩:=ab.mp Z;obtain ⟨i,hi,rfl⟩:=au F;exact (G i _ (aq hi)).2.2
structure CRg (c:Cgf):Prop where
 ip:0<=c.ip/\c.ip<=4294967295
 drain:0<=c.drain/\c.drain<=4294967295
end
end
section
open Go.RowKit Sm Cf
end
end Go.Proofs.YtdigofgjhaakmaaGreatDoor
