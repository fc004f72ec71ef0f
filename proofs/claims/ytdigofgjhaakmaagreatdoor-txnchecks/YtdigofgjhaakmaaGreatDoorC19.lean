/- Parts of the proof. -/
import Derived.Test.YtdigofgjhaakmaaGreatDoorC18
set_option linter.all false
set_option maxHeartbeats 40000000
set_option maxRecDepth 100000
open Go.Proofs.Tryz
open Prod renaming fst->a6
open List renaming mem_map->a7,length_map->a8,getD->a9,mem_append_left->aa,perm_iff_count->ab,count_append->ac,nil_append->ad,append_nil->ae,count_cons->af,size_toArray->ag,flatten_cons->ah,getElem?_eq_some_iff->ai,getElem?_take->aj,getElem?_map->ak,getElem?_eq_getElem->al,getElem_of_mem->am,drop_drop->an,take_append_drop->ao,drop_zero->ap,cons_append->aq
open Nat renaming le_refl->ar,zero_add->au,succ_mul->av,zero_le->aw,add_assoc->ax
open Or renaming inl->ay,inr->az
open Go.DataW renaming trod->aA,trod_int->aB
open Go.World renaming cell?_spot->aC,cells?_some->aD
namespace Go.Proofs.YtdigofgjhaakmaaGreatDoor
variable {w V W:World} {v u:Value} {K L Y:List (Nat×Obj)} {cs:List Value} {fuel g B sz c g0 b0 h:Nat} {T t:TypeId} {a:Option Addr} {cur z0:Array Value} {l r:List Int}
section
open Go.RowKit Sm Cf
def TSV (V:World) (v:Value) (ts:List Ten):Prop:=∃ zs:List Tv,zs.map a6=ts/\Rw V 33 v (zs.map zc)/\∀ z∈zs,TLen z.1/\Rws V z
def CV (V:World) (v:Value) (c:Cgf):Prop:=CLen c/\∃ u,v=.agg (cc c u).toArray/\TSV V u c.ten
theorem j7g {b:List Tv}:∀ x∈b.map zc,x≠[]:=by
 intro x hx;obtain ⟨z,-,rfl⟩:=a7.mp hx;simp [zc,tc]
theorem Rws.below {d:World} {z:Tv} (h:Rws V z) (hb:Below B V d) (b:V.heap.size<=B):Rws d z:=⟨h.1.below j2p hb b,h.2.1.below zz hb b,h.2.2.below zz hb b⟩
theorem TSV.at_ {ts:List Ten} (h:TSV w v ts) (hb:Below B w V) (d:w.heap.size<=B):TSV V v ts:=by
 obtain ⟨f,j,i,e⟩:=h;exact ⟨f,j,i.below j7g hb d,fun z b=>⟨(e z b).1,(e z b).2.below hb d⟩⟩
theorem CV.at_ {c:Cgf} (h:CV w v c) (hb:Below B w V) (b:w.heap.size<=B):CV V v c:=by
 obtain ⟨f,u,e,d⟩:=h;exact ⟨f,u,e,d.at_ hb b⟩
theorem TSV.one {ts:List Ten} (h:TSV w v ts):v.oneCell'=true:=by
 obtain ⟨b,-,h,-⟩:=h;exact j26 h
theorem zy (c:Cgf) (h:v.oneCell'=true):(cc c v).toArray.all (·.oneCell')=true:=by
 apply all_oneCell_toArray;intro u b;simp only [cc,List.mem_cons,List.mem_append,a7,List.not_mem_nil,or_false] at b;rcases b with rfl|⟨x,_,rfl⟩|⟨x,_,rfl⟩|⟨x,_,rfl⟩|⟨x,_,rfl⟩|rfl|rfl<;>first|rfl|exact h
theorem jjw {b:List Tz} (k:∀ z∈b,tok z) (F:b.length<=255) (o:Mem w V (tbk h b++K)):TSV V (lv h (b.map tcs)) (b.map a6):=by
 have G:∀ z:Tz,zc (z.1,lv z.2.1 (ux z.1.pool),lv z.2.2.1 (px z.1.stat),lv z.2.2.2 (px z.1.twi))=tcs z:=fun z=>rfl;refine ⟨b.map (fun z=>(z.1,lv z.2.1 (ux z.1.pool),lv z.2.2.1 (px z.1.stat),lv z.2.2.2 (px z.1.twi))),by simp [Function.comp_def],?_,?_⟩
 ·have E:(b.map (fun z:Tz=>(z.1,lv z.2.1 (ux z.1.pool),lv z.2.2.1 (px z.1.stat),lv z.2.2.2 (px z.1.twi)))).map zc=b.map tcs:=by
   rw [List.map_map];rfl
  rw [E];by_cases h0:b=[]
  ·subst h0;exact ⟨none,0,rfl,ar _,by omega,fun _=>rfl,ay rfl⟩
  ·have p:b.map tcs≠[]:=fun e=>h0 (List.map_eq_nil_iff.mp e);rw [j63 h0] at o;rw [j09 p];refine ⟨_,_,rfl,ar _,by rw [a8];omega,(fun e=>by cases e),az ⟨h,0,rfl,fun i hi j u s=>?_⟩⟩;rw [a8] at hi;obtain ⟨A,z,B,rfl,x⟩:=pick b i hi;have D:((A++z::B).map tcs).getD i []=tcs z:=by subst x;simp [a9]
   rw [D] at s;have d:=o.cell 0 rfl (0+i*33+j);rw [d];have:=jv (A.flatMap tcs) (tcs z) (B.flatMap tcs) j u s;rw [jcq (fun z m=>k z (aa _ m)),x] at this;rw [show (A++z::B).flatMap tcs=A.flatMap tcs++(tcs z++B.flatMap tcs) by simp,au];exact this
 ·intro y C;obtain ⟨z,m,rfl⟩:=a7.mp C;have n:=k z m;refine ⟨n.1,?_⟩;obtain ⟨A,B,rfl⟩:=List.append_of_mem m;rw [j63 (by simp)] at o;have f:Mem w V (lb z.2.1 33 (ux z.1.pool)++(lb z.2.2.1 122 (px z.1.stat)++(lb z.2.2.2 122 (px z.1.twi)++(A.flatMap tbs++(B.flatMap tbs++K))))):=(show Mem w V ((A++z::B).flatMap tbs++K) from o.sub).perm (by
   classical
   rw [ab];intro q;simp only [List.flatMap_append,List.flatMap_cons,tbs,ac];omega)
  exact ⟨jgh _ _ f n.2.1,j9v _ _ f.dropA n.2.2.1,j9v _ _ f.dropA.dropA n.2.2.2⟩
theorem jph {c:Cgf} {d:List Tv} (hi:CIn c) (i:∀ t∈c.ten,TIn t) (f:d.map a6=c.ten) (hr:Rw w 33 u (d.map zc)) (k:∀ z∈d,TLen z.1/\Rws w z) {b post:List Value} (m:(g,.cells (b++(cc c u++post)).toArray T (0,0))∈K) :
  ∀ V,Mem w V K->IC c (u,d) V g b.length:=by
 intro V e;refine ⟨hi,fun j v n=>?_,f,e.rw' hr j7g,fun z h=>⟨i _ (by rw [<-f];exact List.mem_map_of_mem h),(k z h).2.below e.below (ar _)⟩⟩;rw [j8 e m];exact jv _ _ _ j v n
def cenc (c:Cgf):List Int:=spC.enc c
theorem j5u {c:Cgf} (h:CV w v c) (hi:CIn c) (m:∀ t∈c.ten,TIn t) (hb:(cenc c).length<=1000000000) :
  Calls prog 88 #[v] w fun e w'=>∃ u,e=.returned u/\Out w w' u (cenc c) []:=by
 obtain ⟨-,u,rfl,k,y,x,s⟩:=h;have f:Mem w (w.alloc (.cells (cc c u).toArray 39)) [(w.heap.size,.cells (cc c u).toArray 39)]:=(Mem.nil w).push1 rfl;have C:=j4h f;obtain ⟨g,N⟩:∃ g,w.heap.size=g:=⟨_,rfl⟩;rw [N] at C;have j:=fun K (M:(g,Obj.cells ([]++(cc c u++[])).toArray 39)∈K)=>jph (w:=w) hi m y x s M;simp only [ad,ae,List.length_nil] at j;have d:Hid (∀ K,(g,Obj.cells (cc c u).toArray 39)∈K->∀ V,Mem w V K->IC c (u,k) V g 0):=j;clear j f y x s hi m;generalize cc c u=F at C d;go_enter func88,ntmps88;go_wp2_with fail;refine C.mono ?_;rintro e V ⟨⟨i,I,G,z,Q,P⟩,E,rfl,o,hF⟩;have D:=hF.wr (E++[(g,.cells F.toArray 39)]) (fun q J=>aa _ J) c (u,k) g 0 (d.out _ (by simp)) (.slice none 0 0) [] V (Out.nil o) (by simpa [cenc] using hb);have R:∀ args V,(callFunc i args).run prog V=.ok (.enter i args) V:=hF.ew;have O:∀ V,(Instr.field 189 (.agg #[.func (.func i) #[] z,.func (.func I) #[] Q,.func (.func G) #[] P]) 0).run prog V=.ok (.func (.func i) #[] z) V:=fun V=>by kernel_rfl
 simp only at D;simp only [Fv.val];clear hF d C o;go_wp2_with fail;refine D.mono ?_;rintro e A ⟨u,rfl,n⟩;go_wp2_with fail;go_ret;refine ⟨u,rfl,?_⟩;rw [ad] at n;have b:∀ K,Out w A u (spC.enc c) K->Out w A u (spC.enc c) []:=by
  intro K
  induction K with
  | nil=>exact id
  | cons p K ih=>exact fun h=>ih h.drop
 exact b _ n
def CVs (n:Nat) (V:World) (v:Value) (c:Cgf):Prop:=∀ w1 V':World,w1.heap.size<=n->Below w1.heap.size w1 V'->(∀ b,n<=b->b<V.heap.size->V'.heap[b]?=V.heap[b]?)->CV V' v c
theorem Mem.move {e f:World} (h:Mem w V L) (j:e.heap.size<=w.heap.size) (hb:Below e.heap.size e f) (i:∀ b,w.heap.size<=b->b<V.heap.size->f.heap[b]?=V.heap[b]?):Mem e f L :=
 ⟨hb,fun p d=>Nat.le_trans j (h.low p d),fun p d=>(i _ (h.low p d) (h.lt d)).trans (h.at_ p d),h.apart⟩
theorem jpy:∀ x g d z V K,(g0,Obj.cells z0 39)∈K->JC w x g 39 [] [] V ((d,.cells z 39)::K)->∃ b,V.heap[g]?=some (.cells b 39)/\b.size=29/\b.all (·.oneCell')=true/\V.heap[d]?=some (.cells z 39)/\Mem w (V.setRow d b) ((d,.cells b 39)::K)/\∀ B,CVs w.heap.size ((V.setRow d b).setRow g0 B) (.agg b) x:=by
 rintro t g d z V K G ⟨j,n,h,f,C,A,e⟩;simp only [ad,ae] at e;have y:f.length<=255:=by rw [<-C,a8] at n;exact n
 have i:=zy t (v:=lv h (f.map tcs)) (by cases f<;>rfl);obtain ⟨b,k⟩:∃ b,(cc t (lv h (f.map tcs))).toArray=b:=⟨_,rfl⟩;rw [k] at e i;have s:Mem w V ((d,.cells z 39)::(g,.cells b 39)::(tbk h f++K)):=e.perm (by
  classical
  rw [ab];intro q;simp only [ac,af];omega)
 have m:=s.get 0 rfl;have p:Mem w (V.setRow d b) ((d,.cells b 39)::(g,.cells b 39)::(tbk h f++K)):=s.wrote 0 rfl (j7 V d z _ _ m);refine ⟨b,e.get 0 rfl,by rw [<-k,ag];exact jc j _,i,m,p.subl ?_,fun B J M I hb F=>⟨j,_,by rw [<-k],?_⟩⟩
 ·exact List.Sublist.cons_cons _ (List.Sublist.cons _ (List.sublist_append_right _ _))
 ·rw [<-C];obtain ⟨E,D,rfl⟩:=List.append_of_mem G;have o:Mem w (V.setRow d b) ((g0,.cells z0 39)::(tbk h f++(E++D))):=(show Mem w (V.setRow d b) (tbk h f++(E++(g0,.cells z0 39)::D)) from p.sub.sub).perm (by
   classical
   rw [ab];intro q;simp only [ac,af];omega)
  exact jjw A y ((o.wrote 0 rfl (j7 _ g0 z0 B _ (o.get 0 rfl))).sub.move I hb F)
theorem jpg {x:Cgf} {b post:List Value} (h:JC w x g T b post V K):Mem w V K:=by
 obtain ⟨k,j,h,e,i,f,d⟩:=h;exact d.sub.dropA
theorem jml (h:Mem w V ((g,.cells cz T (0,0))::K)):JC w cfg0 g T [] [] V K :=
 ⟨j1d,by decide,0,[],rfl,(by simp),h⟩
def cdec (l:List Int):Option Cgf:=match spC.dec l cfg0 with|some (x,[])=>some x | _=>none
def OPC (w:World) (r:Option Cgf) (e:Ending) (w':World):Prop:=Below w.heap.size w w'/\match r with
 | none=>e=.returned (.tuple #[.agg cz,.int .i64 70])
 | some h=>∃ v,e=.returned (.tuple #[v,.int .i64 0])/\CVs w.heap.size w' v h
theorem CV.row {c:Cgf} (h:CV w v c):∃ b:Array Value,v=.agg b/\b.size=29/\b.all (·.oneCell')=true:=by
 obtain ⟨e,u,rfl,d⟩:=h;exact ⟨_,rfl,by rw [ag];exact jc e _,zy c d.one⟩
theorem j3y (hS:Sl w a l c) :
  Calls prog 98 #[.slice a l.length c] w (OPC w (cdec l)):=by
 obtain ⟨g,hg⟩:∃ g,w.heap.size=g:=⟨_,rfl⟩;have G:Mem w (w.alloc (.cells cz 39)) ((g,.cells cz 39)::[]):=(Mem.nil w).push1 hg.symm;have J:=fun {f:Fv} {E:List (Nat×Obj)} {V:World} (k:Mem w V (E++[(g,.cells cz 39)])) (hF:Fw w E IC JC f spC)=>jjk (I:=IC) (Q:=fun x V v=>∃ b,v=.agg b/\b.size=29/\b.all (·.oneCell')=true/\∀ B,CVs w.heap.size (V.setRow g B) v x) k hF.er hF.rd hS cfg0 (fun g V K h=>jml h) (fun x V K h=>jpg h) (fun x g' rb z V K hs h=>by
  obtain ⟨b,h1,U,h3,h4,h5,h6⟩:=jpy (g0:=g) (z0:=cz) x g' rb z V K (hs _ (by simp)) h;exact ⟨b,h1,U,h3,h4,h5,b,rfl,U,h3,h6⟩)
 obtain ⟨R,hR⟩:∃ R,cdec l=R:=⟨_,rfl⟩;have N:Hid (∀ (S P O:Nat) (j c2 c3:Array Value) (E:List (Nat×Obj)) (V:World),Mem w V (E++[(g,.cells cz 39)])->Fw w E IC JC ⟨S,P,O,j,c2,c3⟩ spC ->
     Calls prog 130 #[.agg #[.func (.func S) #[] j,.func (.func P) #[] c2,.func (.func O) #[] c3],.slice a l.length c] V fun e m=>∃ (b:Array Value) (M:Int),e=.returned (.tuple #[.agg b,.int .i64 M])/\b.size=29/\b.all (·.oneCell')=true/\Mem w m (E++[(g,.cells cz 39)]) /\
      (Below w.heap.size w (m.setRow g b)->OPC w R (.returned (.tuple #[.agg b,.int .i64 M])) (m.setRow g b))):=by
  intro S P O j c2 c3 E V k hF;have h:=J k hF;have o:(cz:Array Value).all (·.oneCell')=true:=by kernel_rfl
  rw [<-hR];unfold cdec;cases hd:spC.dec l cfg0 with
  | none =>
   rw [hd] at h;exact h.mono (fun e m h=>⟨cz,70,h.2,rfl,o,h.1,fun hb=>⟨hb,rfl⟩⟩)
  | some x =>
   obtain ⟨s,l'⟩:=x;rw [hd] at h;cases l' with
   | nil =>
    refine h.mono ?_;rintro e m ⟨h1,v,U,b,rfl,h4,h5,h6⟩;exact ⟨b,0,U,h4,h5,h1,fun hb=>⟨hb,_,rfl,h6 b⟩⟩
   | cons x xs=>exact h.mono (fun e m h=>⟨cz,70,h.2,rfl,o,h.1,fun hb=>⟨hb,rfl⟩⟩)
 rw [hR];have C:=j4h G;clear J hS hR;generalize l.length=n at *;go_enter func98,ntmps98;go_upto_region 1 with fail;refine j5 (fun V=>V=w.alloc (.cells cz 39)) rfl ?_;rintro V0 rfl;clear G;go_wp2_with fail;refine C.mono ?_;rintro e V ⟨⟨S,P,O,q1,q2,q3⟩,E,rfl,k,hF⟩;simp only [Fv.val];have CW:=N.out _ _ _ _ _ _ _ _ k hF;clear N C k hF;go_wp2_with fail;refine CW.mono ?_;rintro e X ⟨b,M,rfl,y,Z,F,hP⟩;have i:Mem w X ((g,.cells cz 39)::E):=F.perm List.perm_append_comm;have A:=i.get 0 rfl;have D:Mem w (X.setRow g b) ((g,.cells b 39)::E):=i.wrote 0 rfl (j7 X g _ _ _ A);have d:(prog.info? 39).map (·.size)=some b.size:=by rw [y];kernel_rfl
 have HP:Hid (OPC w R (.returned (.tuple #[.agg b,.int .i64 M])) (X.setRow g b)):=hP D.below;clear CW hP F i;go_wp2_with (refine wpList_store_row rfl 39 (.tmp 2) (.tmp 7) (by with_reducible rfl) g b (by first|rfl|simp [Act.eval]) (by first|rfl|simp [Act.eval]) 39 cz A d (by rw [y];rfl) Z ?_)
 refine bodyPost_ret (v:=.tuple #[.agg b,.int .i64 M]) ?_ rfl HP.out;exact ju (p:=2) (q:=3) (ty:=39) rfl _ _ g _ rfl (run_loadVar_row _ _ 39 39 _ (0,0) _ (D.get 0 rfl) underlying39 rfl d)
theorem j1r {α:Type}:∀ (xs:List (List α)) (i j:Nat) (u:α),(∀ x∈xs,x.length=sz)->(xs.getD i [])[j]?=some u->xs.flatten[i*sz+j]?=some u
 | [],i,j,u,_,h=>by simp [a9] at h
 | x::xs,0,j,u,hx,h=>by
  rw [Nat.zero_mul,au,ah];have b:x[j]?=some u:=h;obtain ⟨f,-⟩:=ai.mp b;rw [List.getElem?_append_left f];exact b
 | x::xs,i+1,j,u,hx,h=>by
  have b:(xs.getD i [])[j]?=some u:=by simpa [a9] using h
  have e:=hx x (List.mem_cons_self ..);rw [ah,List.getElem?_append_right (by rw [e,av];omega),show (i+1)*sz+j-x.length=i*sz+j by rw [e,av];omega];exact j1r xs i j u (fun y d=>hx y (List.mem_cons_of_mem _ d)) b
theorem jnm {xs:List (List Value)} {B:List (Nat×Obj)} (hx:∀ x∈xs,x.length=sz) (h:OwB T sz v xs.length xs.flatten B) (f:Mem w V (B++L)):Rw V sz v xs:=by
 rcases h.2 with ⟨rfl,e,rfl⟩|⟨g,cap,cur,rfl,rfl,h1,h2,h3,h4⟩
 ·have:xs=[]:=List.eq_nil_of_length_eq_zero e;subst this;exact ⟨none,0,rfl,ar _,by omega,fun _=>rfl,ay rfl⟩
 ·refine ⟨some ⟨g,0,none⟩,cap,rfl,h1,by simpa [maxLen] using h2,nofun,az ⟨g,0,rfl,fun i hi j u d=>?_⟩⟩;have b:=j1r xs i j u hx d;rw [<-h4] at b;rw [f.cell 0 rfl,au];rw [aj] at b;split at b
  ·rw [<-Array.getElem?_toList];exact b
  ·cases b
theorem kx {b:Array Oper} {rest:List Oper} {o:Oper} {a:Act} {Q:Exit->Act->World->Prop} (hw:Region.wanted o (yielded b a.tmps)=true) (ty:TypeId) (x:Operand) (f:o.op=.load ty x)
  (g:Nat) (hx:a.eval x=.pointer (some ⟨g,0,none⟩)) (t:TypeId) (cs:Array Value) (d:Nat×Nat) (j:Array Field) (i:w.heap[g]?=some (.cells cs t d))
  (e:prog.underlying ty=some (.struct j)) (hi:(prog.info? ty).map (·.size)=some cs.size)
  (h:wpList prog b Q rest (a.put o.dst (.agg cs)) w):wpList prog b Q (o::rest) a w:=by
 unfold wpList;rw [if_pos hw];exact ay (wp_load_row ty x f g hx t cs d _ i e rfl hi h)
end
section
open Go.RowKit Sm
theorem jn8 (h:RS v [] Y):v=.slice none 0 0/\Y=[]:=by
 rcases h with ⟨h1,_,h2⟩|⟨_,_,_,_,_,h0,_⟩
 ·exact ⟨h1,h2⟩
 ·simp at h0
theorem jdf {k:Nat} (d:(Bk.mk g k cur r).Ok r.length) (i:W.heap[g]?=some (.cells cur 5)) (f:r.length<=140737488351232):Row W (some ⟨g,0,none⟩) r:=by
 refine ⟨d.bytes,f,az ⟨g,0,rfl,fun j b=>?_⟩⟩;rw [au,cell_of i];have e:=congrArg (fun l=>l[j]?) d.here;simp only [ak,aj,if_pos b,Array.getElem?_toList,al b,Option.map_some] at e;rw [e,j0r b]
end
section
open Go.RowKit Sm Cf
def jm2 (c:Cgf):List Int:=((((((([]++be 4 c.ip)++c.mac)++c.omac)++c.nmac)++c.key)++be 4 c.drain)++[((min c.ten.length 255:Nat):Int)])
theorem jf8 (c:Cgf):cenc c=jm2 c++cat (fun i=>tenc (c.ten.getD i ten0)) (min c.ten.length 255):=rfl
theorem jiv {n:Nat} {f:List Tv} (hr:Rw V 33 (.slice a n c) (f.map zc)) (k:∀ z∈f,TLen z.1/\Rws V z) (i:Nat) (hi:i<f.length):∃ b d x,a=some ⟨b,d,none⟩/\V.rangeAt b (d+i*33) x/\x.length=33/\x.toArray.all (·.oneCell')=true/\TV V (.agg x.toArray) ((f.map a6).getD i ten0):=by
 obtain ⟨b,d,rfl,hc⟩:=j7y hr i (by rw [a8];exact hi);obtain ⟨z,hx⟩:∃ z,f[i]?=some z:=⟨_,al hi⟩;have e:=k z (List.mem_of_getElem? hx);have o:(f.map zc).getD i []=zc z:=by simp [a9,hx]
 rw [o] at hc;have p:(f.map a6).getD i ten0=z.1:=by simp [a9,hx]
 rw [p];exact ⟨b,d,zc z,rfl,fun j u m=>hc j u m,ji e.1 _ _ _,jiu e.2,e.1,z.2.1,z.2.2.1,z.2.2.2,rfl,e.2⟩
end
section
open Go.ChangeShapes Go.WideShapes Go.ChangeAt Go.RowKit Go.Joins Sm Cf
structure TBy (t:Ten):Prop where
 key:j6 t.key
 vmac:j6 t.vmac
 host:j6 t.host
structure TRg (t:Ten):Prop where
 vni:0<=t.vni/\t.vni<=4294967295
 vtep:0<=t.vtep/\t.vtep<=4294967295
 lo:0<=t.lo/\t.lo<=65535
 hi:0<=t.hi/\t.hi<=65535
 filter:-9223372036854775808<=t.filter/\t.filter<=9223372036854775807
 sess:-9223372036854775808<=t.sess/\t.sess<=9223372036854775807
 queue:-9223372036854775808<=t.queue/\t.queue<=9223372036854775807
 rate:0<=t.rate/\t.rate<=4294967295
 burst:0<=t.burst/\t.burst<=4294967295
 pool:∀ x∈t.pool,0<=x/\x<=4294967295
 stat:∀ x∈t.stat,(0<=x.1/\x.1<=4294967295)/\0<=x.2/\x.2<=4294967295
 twi:∀ x∈t.twi,(0<=x.1/\x.1<=4294967295)/\0<=x.2/\x.2<=4294967295
section
variable {H:Type} {enc:TypeId×Value->H} {W:World} {base:Nat} {held:Bool}
theorem jbi {x:DataW H×List MemPlace} (h:aA enc prog W base (fun _=>true) held fuel 43 cs=some x) :
  ∃ (v:Value) (l:List Int),cs=[v]/\Rw W 1 v (ux l)/\∀ x∈l,0<=x/\x<=4294967295:=by
 rcases open_ints underlying43 underlying33 (by kernel_rfl) h with ⟨rfl,_⟩|⟨a,len,cap,zs,rfl,_,hl,hm,hz,_,hcell,hwz⟩
 ·exact ⟨_,[],rfl,⟨none,0,rfl,ar _,by omega,fun _=>rfl,ay rfl⟩,by simp⟩
 ·simp only [if_true] at hz;have e:(ux (zs.take len)).length=len:=by simp [ux];omega
  refine ⟨_,zs.take len,rfl,⟨some a,cap,by rw [e],by omega,hm,(fun e=>by cases e),?_⟩,fun x hx=>bounds_u32 (hwz x (List.mem_of_mem_take hx))⟩;by_cases h0:len=0
  ·left;subst h0;simp [ux]
  ·right;obtain ⟨b,m,f⟩:=a;have d:f=none:=by
    have hc:=hcell 0 (by omega);simpa [Addr.add] using aC hc
   subst d;refine ⟨b,m,rfl,fun i hi j u k=>?_⟩;rw [e] at hi;have n:i<(zs.take len).length:=by simp;omega
   have o:(ux (zs.take len)).getD i []=[.int .u32 (zs.getD i 0)]:=by
    rw [a9,ux,ak,aj,if_pos hi,a9,al (by omega)];rfl
   rw [o] at k
   match j,k with
   | 0,k =>
    simp at k;subst k;have hc:=hcell i (by omega);rw [addr_add] at hc;simpa using hc
theorem j36 {x:DataW H×List MemPlace} (h:aA enc prog W base (fun _=>true) held fuel 44 cs=some x) :
  ∃ (v:Value) (l:List (Int×Int)),cs=[v]/\Rw W 2 v (px l)/\∀ x∈l,(0<=x.1/\x.1<=4294967295)/\0<=x.2/\x.2<=4294967295:=by
 rcases Go.Deep.open_slice underlying44 h with ⟨rfl,_⟩|⟨a,len,cap,m,n,D,Pl,rfl,_,hl,hm,hmm,_,hx⟩
 ·exact ⟨_,[],rfl,⟨none,0,rfl,ar _,by omega,fun _=>rfl,ay rfl⟩,by simp⟩
 ·have S:len<=m:=by simp at hmm;omega
  by_cases h0:len=0
  ·subst h0;exact ⟨_,[],rfl,⟨some a,cap,rfl,aw _,hm,(fun e=>by cases e),ay rfl⟩,by simp⟩
  ·rw [show prog.cellsOf 122=2 by kernel_rfl] at hx;obtain ⟨b,f,q⟩:=a;have p:q=none:=by
    obtain ⟨s,C,J⟩:=hx 0 (by omega);obtain ⟨_,o,d⟩:=aD C;have hc:=d 0 (by omega);rw [al (by omega)] at hc;simpa [Addr.add] using aC hc
   subst p;obtain ⟨l,A,I⟩:=j8e (fun i (x:Int×Int)=>W.cell? ⟨b,f+i*2,none⟩=some (.int .u32 x.1)/\W.cell? ⟨b,f+i*2+1,none⟩=some (.int .u32 x.2)/\(0<=x.1/\x.1<=4294967295)/\0<=x.2/\x.2<=4294967295) len (fun i hi=>by
    obtain ⟨s,C,J⟩:=hx i (by omega);obtain ⟨_,o,d⟩:=aD C
    match s,o with
    | [v0,v1],_ =>
     have F:=d 0 (by omega);have E:=d 1 (by omega);rw [Go.Deep.add_add] at F E;rw [addr_add] at F E;obtain ⟨N,M,G,g0,X⟩:=trod_struct2 underlying122 J;have R:aA enc prog W base (fun _=>true) held G 33 [v0]=some N:=by
      have:=g0;simp only [show prog.cellsOf 33=1 by kernel_rfl] at this;exact this
     have Q:aA enc prog W base (fun _=>true) held G 33 [v1]=some M:=by
      have:=X;simp only [show prog.cellsOf 33=1 by kernel_rfl] at this;exact this
     obtain ⟨P,rfl,z⟩:=j6g underlying33 R;obtain ⟨O,rfl,y⟩:=j6g underlying33 Q;exact ⟨(P,O),by simpa using F,by simpa [ax] using E,bounds_u32 z,bounds_u32 y⟩)
   have e:(px l).length=len:=by simp [px,A]
   refine ⟨_,l,rfl,⟨some ⟨b,f,none⟩,cap,by rw [e],by omega,hm,(fun e=>by cases e),az ⟨b,f,rfl,fun i hi j u k=>?_⟩⟩,fun x hx=>by
    obtain ⟨i,hi,rfl⟩:=am hx;exact (I i _ (al hi)).2.2⟩
   rw [e] at hi;have U:(px l).getD i []=[.int .u32 (l[i]'(by omega)).1,.int .u32 (l[i]'(by omega)).2]:=by
    rw [a9,px,ak,al (by omega)];rfl
   rw [U] at k;obtain ⟨z,y,-⟩:=I i _ (al (by omega))
   match j,k with
   | 0,k =>
    simp at k;subst k;simpa using z
   | 1,k =>
    simp at k;subst k;exact y
theorem j88 {x:DataW H×List MemPlace} (hf:aA enc prog W base (fun _=>true) held fuel 46 cs=some x) :
  ∃ (t:Ten) (p s q:Value),cs=tc t p s q/\TLen t/\Rw W 1 p (ux t.pool)/\Rw W 2 s (px t.stat)/\Rw W 2 q (px t.twi)/\TBy t/\TRg t:=by
 obtain ⟨n,hl,⟨y0,g0⟩,⟨y1,g1⟩,⟨y2,g2⟩,⟨y3,g3⟩,⟨y4,g4⟩,⟨y5,g5⟩,⟨y6,g6⟩,⟨y7,g7⟩,⟨y8,g8⟩,⟨y9,Z⟩,⟨a5,z⟩,⟨a4,y⟩,⟨a3,m⟩,⟨a2,k⟩,⟨a1,j⟩,⟨a0,i⟩⟩:=j4o underlying46 hf;rw [show prog.cellsOf 46=33 by kernel_rfl] at hl;have c1:prog.cellsOf 9=1:=by kernel_rfl
 have c2:prog.cellsOf 33=1:=by kernel_rfl
 have c3:prog.cellsOf 36=8:=by kernel_rfl
 have X:prog.cellsOf 35=6:=by kernel_rfl
 have c5:prog.cellsOf 43=1:=by kernel_rfl
 have c6:prog.cellsOf 42=1:=by kernel_rfl
 have c7:prog.cellsOf 3=1:=by kernel_rfl
 have c8:prog.cellsOf 44=1:=by kernel_rfl
 simp only [c1,c2,c3,X,c5,c6,c7,c8] at g0 g1 g2 g3 g4 g5 g6 g7 g8 Z z y m k j i;obtain ⟨nm,e0,-⟩:=DataW.trod_string underlying9 g0;obtain ⟨vni,e1,-,w1⟩:=aB underlying33 g1;obtain ⟨key,e2,l2,b2⟩:=open_arr underlying36 c3 g2;obtain ⟨vtep,e3,-,w3⟩:=aB underlying33 g3;obtain ⟨vmac,e4,l4,b4⟩:=open_arr underlying35 X g4;obtain ⟨host,e5,l5,b5⟩:=open_arr underlying35 X g5;obtain ⟨p,d,e6,r6,w6⟩:=jbi g6;obtain ⟨lo,e7,-,w7⟩:=aB underlying42 g7;obtain ⟨hi,e8,-,w8⟩:=aB underlying42 g8;obtain ⟨fi,e9,-,w9⟩:=aB underlying3 Z;obtain ⟨s,b,U,M,G⟩:=j36 z;obtain ⟨q,I,S,J,F⟩:=j36 y;obtain ⟨se,R,-,E⟩:=aB underlying3 m;obtain ⟨qu,Q,-,D⟩:=aB underlying3 k;obtain ⟨ra,P,-,C⟩:=aB underlying33 j;obtain ⟨bu,O,-,A⟩:=aB underlying33 i;have step:∀ o n N,o+n=N->cs.drop o=(cs.drop o).take n++cs.drop N:=by
  intro o n N e;subst e;rw [<-an,ao]
 refine ⟨⟨nm,vni,key,vtep,vmac,host,d,lo,hi,fi,b,I,se,qu,ra,bu⟩,p,s,q,?_,⟨l2,l4,l5⟩,r6,M,J,⟨b2,b4,b5⟩,⟨bounds_u32 w1,bounds_u32 w3,bounds_u16 w7,bounds_u16 w8,bounds_i64 w9,bounds_i64 E,bounds_i64 D,bounds_u32 C,bounds_u32 A,w6,G,F⟩⟩;have f:cs.drop 33=[]:=by rw [List.drop_eq_nil_iff];omega
 refine (ap (l:=cs)).symm.trans ?_;rw [step 0 1 1 rfl,e0,step 1 1 2 rfl,e1,step 2 8 10 rfl,e2,step 10 1 11 rfl,e3,step 11 6 17 rfl,e4,step 17 6 23 rfl,e5,step 23 1 24 rfl,e6,step 24 1 25 rfl,e7,step 25 1 26 rfl,e8,step 26 1 27 rfl,e9,step 27 1 28 rfl,U,step 28 1 29 rfl,S,step 29 1 30 rfl,R,step 30 1 31 rfl,Q,step 31 1 32 rfl,P,step 32 1 33 rfl,O,f];simp only [tc,aq,ad,ae]
theorem j62 {o m k j i f e:Field} {x:DataW H×List MemPlace} (q:prog.underlying t=some (.struct #[o,m,k,j,i,f,e])) (h:aA enc prog W base (fun _=>true) held fuel t cs=some x) :
  ∃ n,cs.length=prog.cellsOf t/\(∃ y,aA enc prog W base (fun _=>true) held n o.type ((cs.drop o.offset).take (prog.cellsOf o.type))=some y)/\(∃ y,aA enc prog W base (fun _=>true) held n m.type ((cs.drop m.offset).take (prog.cellsOf m.type))=some y)/\(∃ y,aA enc prog W base (fun _=>true) held n k.type ((cs.drop k.offset).take (prog.cellsOf k.type))=some y)/\(∃ y,aA enc prog W base (fun _=>true) held n j.type ((cs.drop j.offset).take (prog.cellsOf j.type))=some y)/\(∃ y,aA enc prog W base (fun _=>true) held n i.type ((cs.drop i.offset).take (prog.cellsOf i.type))=some y)/\(∃ y,aA enc prog W base (fun _=>true) held n f.type ((cs.drop f.offset).take (prog.cellsOf f.type))=some y)/\(∃ y,aA enc prog W base (fun _=>true) held n e.type ((cs.drop e.offset).take (prog.cellsOf e.type))=some y):=by
 obtain ⟨xs,n,_,_,s,d,b⟩:=DataW.trod_struct q h;have p:xs.length=7:=d;exact ⟨n,s,⟨_,(b 0 o rfl).trans (al (by omega))⟩,⟨_,(b 1 m rfl).trans (al (by omega))⟩,⟨_,(b 2 k rfl).trans (al (by omega))⟩,⟨_,(b 3 j rfl).trans (al (by omega))⟩,⟨_,(b 4 i rfl).trans (al (by omega))⟩,⟨_,(b 5 f rfl).trans (al (by omega))⟩,⟨_,(b 6 e rfl).trans (al (by omega))⟩⟩
theorem jdp {x:DataW H×List MemPlace} (h:aA enc prog W base (fun _=>true) held fuel 37 cs=some x) :
  ∃ (v:Value) (ts:List Ten),cs=[v]/\TSV W v ts/\∀ t∈ts,TBy t/\TRg t:=by
 rcases Go.Deep.open_slice underlying37 h with ⟨rfl,_⟩|⟨a,len,cap,m,n,D,Pl,rfl,_,hl,hm,hmm,_,hx⟩
 ·exact ⟨_,[],rfl,⟨[],rfl,⟨none,0,rfl,ar _,by omega,fun _=>rfl,ay rfl⟩,by simp⟩,by simp⟩
 ·have a0:len<=m:=by simp at hmm;omega
  by_cases h0:len=0
  ·subst h0;exact ⟨_,[],rfl,⟨[],rfl,⟨some a,cap,rfl,aw _,hm,(fun e=>by cases e),ay rfl⟩,by simp⟩,by simp⟩
  ·rw [show prog.cellsOf 46=33 by kernel_rfl] at hx;obtain ⟨b,f,y⟩:=a;have k:y=none:=by
    obtain ⟨E,M,O⟩:=hx 0 (by omega);obtain ⟨_,A,d⟩:=aD M;have hc:=d 0 (by omega);rw [al (by omega)] at hc;simpa [Addr.add] using aC hc
   subst k;obtain ⟨o,I,G⟩:=j8e (fun i (z:Tv)=>(∀ j u,(zc z)[j]?=some u->W.cell? ⟨b,f+i*33+j,none⟩=some u)/\(TLen z.1/\Rws W z)/\TBy z.1/\TRg z.1) len (fun i hi=>by
    obtain ⟨E,M,O⟩:=hx i (by omega);obtain ⟨_,A,d⟩:=aD M;obtain ⟨t,p,s,q,e,X,U,S,R,Q,P⟩:=j88 O;refine ⟨(t,p,s,q),fun j u hj=>?_,⟨X,U,S,R⟩,Q,P⟩;have C:E[j]?=some u:=by rw [e];exact hj
    have J:j<33:=by
     have:=(ai.1 C).1;omega
    have hc:=d j J;rw [C,Go.Deep.add_add,addr_add] at hc;simpa [ax] using hc)
   have e:(o.map zc).length=len:=by simp [I]
   refine ⟨_,o.map a6,rfl,⟨o,rfl,⟨some ⟨b,f,none⟩,cap,by rw [e],by omega,hm,(fun e=>by cases e),az ⟨b,f,rfl,fun i hi j u N=>?_⟩⟩,fun z F=>?_⟩,fun t Z=>?_⟩
   ·rw [e] at hi;have hg:(o.map zc).getD i []=zc (o[i]'(by omega)):=by
     rw [a9,ak,al (by omega)];rfl
    rw [hg] at N;exact (G i _ (al (by omega))).1 j u N
   ·obtain ⟨i,hi,rfl⟩:=am F;exact (G i _ (al hi)).2.1
   ·obtain ⟨z,F,rfl⟩:=a7.mp Z;obtain ⟨i,hi,rfl⟩:=am F;exact (G i _ (al hi)).2.2
structure CRg (c:Cgf):Prop where
 ip:0<=c.ip/\c.ip<=4294967295
 drain:0<=c.drain/\c.drain<=4294967295
theorem open_config {r:Reach} {d:DataW H} {p:List MemPlace} (S:Value.okWide prog W r b0 39 v) (h:DataW.Trod enc prog W base (fun _=>true) held 39 v d p) :
  ∃ c:Cgf,CV W v c/\CIn c/\CRg c/\∀ t∈c.ten,TBy t/\TRg t:=by
 obtain ⟨ca,rfl,U⟩:=okWide_struct underlying39 S;obtain ⟨fuel,Z⟩:=h;obtain ⟨cs,j⟩:∃ cs,ca.toList=cs:=⟨_,rfl⟩;have q:aA enc prog W base (fun _=>true) held fuel 39 cs=some (d,p):=by rw [<-j];exact Z
 obtain ⟨n,X,⟨y0,g0⟩,⟨y1,J⟩,⟨y2,I⟩,⟨y3,G⟩,⟨y4,F⟩,⟨y5,E⟩,⟨y6,D⟩⟩:=j62 underlying39 q;rw [show prog.cellsOf 39=29 by kernel_rfl] at X;have c2:prog.cellsOf 33=1:=by kernel_rfl
 have N:prog.cellsOf 36=8:=by kernel_rfl
 have k:prog.cellsOf 35=6:=by kernel_rfl
 have c5:prog.cellsOf 37=1:=by kernel_rfl
 simp only [c2,N,k,c5] at g0 J I G F E D;obtain ⟨C,e0,-,Q⟩:=aB underlying33 g0;obtain ⟨f,e1,A,b1⟩:=open_arr underlying35 k J;obtain ⟨s,e2,z,b2⟩:=open_arr underlying35 k I;obtain ⟨b,e3,y,b3⟩:=open_arr underlying35 k G;obtain ⟨key,e4,x,b4⟩:=open_arr underlying36 N F;obtain ⟨M,e5,-,P⟩:=aB underlying33 E;obtain ⟨u,ts,e6,R,O⟩:=jdp D;have step:∀ o n m,o+n=m->cs.drop o=(cs.drop o).take n++cs.drop m:=by
  intro o n m e;subst e;rw [<-an,ao]
 have i:cs.drop 29=[]:=by rw [List.drop_eq_nil_iff];omega
 refine ⟨⟨C,f,s,b,key,M,ts⟩,⟨⟨A,z,y,x⟩,u,?_,R⟩,⟨⟨A,z,y,x⟩,b1,b2,b3,b4⟩,⟨bounds_u32 Q,bounds_u32 P⟩,O⟩;have e':cs=cc ⟨C,f,s,b,key,M,ts⟩ u:=by
  refine (ap (l:=cs)).symm.trans ?_;rw [step 0 1 1 rfl,e0,step 1 6 7 rfl,e1,step 7 6 13 rfl,e2,step 13 6 19 rfl,e3,step 19 8 27 rfl,e4,step 27 1 28 rfl,e5,step 28 1 29 rfl,e6,i];simp only [cc,aq,ad,ae]
 rw [<-e',<-j]
end
end
section
open Go.RowKit Sm Cf
end
end Go.Proofs.YtdigofgjhaakmaaGreatDoor
