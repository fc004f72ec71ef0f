/- Parts of the proof. -/
import Derived.Test.YtdigofgjhaakmaaGreatDoorF24
import Derived.Lib.ItoaNum
import Derived.Lib.Join
set_option linter.all false
set_option maxHeartbeats 40000000
set_option maxRecDepth 20000
open Go.Proofs.Tryz
open Nat renaming le_refl->a0,mul_one->a3,zero_add->a4,add_zero->a5,zero_le->a6
open Array renaming getElem?_eq_some_iff->a7,empty_append->a8
open List renaming size_toArray->a9,append_toArray->aa,cons_append->ab,nil_append->ac,replicate->ad,length_map->ae,length_append->af,getD->ag,getElem?_eq_getElem->ah,getElem?_eq_some_iff->ai,map_append->aj,getElem_mem->ak,take_add_one->al,mem_append->am,mem_singleton->an,take_length->ao,drop_eq_getElem_cons->ap,length_cons->aq,getElem?_cons_succ->ar
open Go.RowKit.Below renaming refl->au
open Go.Act renaming eval->av
open Go.Lib renaming compact->aw
open Or renaming inr->ax,inl->ay
open Prod renaming fst->az
namespace Go.Proofs.YtdigofgjhaakmaaGreatDoor
variable {caps:Array Value} {v:Value} {w W V:World} {tl xs:List Value} {es:List Int} {g i k gs n j:Nat} {b:Bool} {T e:TypeId} {x:Int}
section
open Go.RowKit Va
structure TBx (w:World) (tl:List Value) (t:Ten) (pa sa qa:Option Addr) (pc sc qc:Nat):Prop where
 len:tl.length=33
 one:tl.toArray.all (·.oneCell')=true
 name:tl[0]?=some (.string t.name)
 vni:tl[1]?=some (.int .u32 t.vni)
 vtep:tl[10]?=some (.int .u32 t.vtep)
 pool:tl[23]?=some (.slice pa t.pool.length pc)
 lo:tl[24]?=some (.int .u16 t.lo)
 hi:tl[25]?=some (.int .u16 t.hi)
 filter:tl[26]?=some (.int .i64 t.filter)
 stat:tl[27]?=some (.slice sa t.stat.length sc)
 twi:tl[28]?=some (.slice qa t.twi.length qc)
 sess:tl[29]?=some (.int .i64 t.sess)
 queue:tl[30]?=some (.int .i64 t.queue)
 rate:tl[31]?=some (.int .u32 t.rate)
 burst:tl[32]?=some (.int .u32 t.burst)
 tv:TV w (.agg tl.toArray) t
 rp:Rw w 1 (.slice pa t.pool.length pc) (ux t.pool)
 rs:Rw w 2 (.slice sa t.stat.length sc) (px t.stat)
 rq:Rw w 2 (.slice qa t.twi.length qc) (px t.twi)
theorem TV.tb {t:Ten} (h:TV w v t):∃ tl C u A B sc z,v=.agg tl.toArray/\TBx w tl t C u A B sc z:=by
 have r:=h;obtain ⟨F,p,s,q,rfl,E,hs,D⟩:=h;have o:=E;have l:=hs;have m:=D;obtain ⟨C,B,rfl,-⟩:=E;obtain ⟨u,sc,rfl,-⟩:=hs;obtain ⟨A,z,rfl,-⟩:=D;have J:(ux t.pool).length=t.pool.length:=by simp [ux]
 have I:(px t.stat).length=t.stat.length:=by simp [px]
 have G:(px t.twi).length=t.twi.length:=by simp [px]
 rw [J] at o r ⊢;rw [I] at l r ⊢;rw [G] at m r ⊢;refine ⟨_,C,u,A,B,sc,z,rfl,ji F _ _ _,?_,?_,?_,?_,?_,?_,?_,?_,?_,?_,?_,?_,?_,?_,r,o,l,m⟩
 ·exact j3n _ rfl rfl rfl
 all_goals
  obtain ⟨n,O,key,N,P,Z,X,Y,hi,fi,st,Q,R,U,S,bu⟩:=t;obtain ⟨M,L,K⟩:=F;obtain ⟨a,b,c,d,f,g,x,y,rfl⟩:=kt M;obtain ⟨a1,b1,c1,d1,f1,g1,rfl⟩:=six6 L;obtain ⟨a2,b2,c2,d2,f2,g2,rfl⟩:=six6 K;rfl
theorem TV.at_' {t:Ten} (h:TV w v t) (hb:Below w.heap.size w V):TV V v t:=by
 obtain ⟨a,p,s,q,e,f,d,c⟩:=h;exact ⟨a,p,s,q,e,f.below j1g hb (a0 _),d.below zj hb (a0 _),c.below zj hb (a0 _)⟩
theorem TBx.later {t:Ten} {l a d:Option Addr} {f sc c:Nat} (h:TBx w tl t l a d f sc c) (hb:Below w.heap.size w V):TBx V tl t l a d f sc c :=
 { h with tv:=h.tv.at_' hb,rp:=h.rp.below j1g hb (a0 _),rs:=h.rs.below zj hb (a0 _),rq:=h.rq.below zj hb (a0 _) }
def TBo (W:World) (g:Nat) (t:Ten):Prop:=∃ tl pa sa qa pc sc qc,W.heap[g]?=some (.cells tl.toArray 46)/\TBx W tl t pa sa qa pc sc qc
theorem TBo.later {t:Ten} (h:TBo W g t) (hb:Below W.heap.size W V):TBo V g t:=by
 obtain ⟨tl,m,c,f,l,sc,d,a,o⟩:=h;exact ⟨tl,m,c,f,l,sc,d,by rw [hb.block g (a7.mp a).1];exact a,o.later hb⟩
theorem jb (h:W.heap[g]?=some (.cells tl.toArray T (0,0))) (a:tl[i]?=some v):W.cell? ⟨g,i,none⟩=some v:=by
 rw [cell_of h];simpa using a
theorem j5b (h:tl.length=33):(prog.info? 46).map (·.size)=some tl.toArray.size:=by rw [a9,h];kernel_rfl
theorem mkf:∀ (a:Fn) (first cap:Array Value) (w:World),(Instr.makeFunc a first cap).run prog w=.ok (.func a first cap) w:=fun _ _ _ _=>rfl
theorem jjb (h:W.cell? ⟨g,0,none⟩=some (.int .u32 x)):PrU W 139 #[.pointer (some ⟨g,0,none⟩)] (fun y=>y==x):=by
 refine ⟨enters_of func139 (by kernel_rfl) rfl,fun y V a=>?_⟩;have c:V.cell? ⟨g,0,none⟩=some (.int .u32 x):=by rw [a.cell (p:=⟨g,0,none⟩) (j9 h)];exact h
 simp only [aa,ab,ac];go_enter func139,ntmps139;go_wp2_with fail;go_ret;exact ⟨by simp,au _ _⟩
theorem jjc {f:Int->Bool} (o:PrU W k caps f) (h:W.cell? ⟨g,0,none⟩=some (.func (.func k) #[] caps)):PrP W 143 #[.pointer (some ⟨g,0,none⟩)] (fun p=>f p.2):=by
 refine ⟨enters_of func143 (by kernel_rfl) rfl,fun y z V l=>?_⟩;have a:=j9 h;have c:V.cell? ⟨g,0,none⟩=some (.func (.func k) #[] caps):=by rw [l.cell (p:=⟨g,0,none⟩) a];exact h
 have d:Below V.heap.size V (V.alloc (.cells #[.int .u32 y,.int .u32 z] 122)):=(au _ _).alloc (a0 _) _;have C:=o.2 z _ (l.trans (d.mono l.size));have r:∀ args V,(callFunc k args).run prog V=.ok (.enter k args) V:=o.1;have m:Hid (Below V.heap.size V (V.alloc (.cells #[.int .u32 y,.int .u32 z] 122))):=d;have q:g<V.heap.size:=by have:=l.size;simp at a;omega
 clear o h l d a;simp only [aa,ab,ac];generalize f z=B at *;go_enter func143,ntmps143;go_wp2_with fail;refine C.mono ?_;rintro e s ⟨rfl,hb⟩;go_wp2_with fail;go_ret;exact ⟨rfl,m.out.trans (hb.mono m.out.size)⟩
theorem j3z {t:Ten} (h:TV w v t) (o:TSm t) {f:Int->Bool} (r:PrU w k caps f) :
  Calls prog 119 #[v,.func (.func k) #[] caps] w fun e w'=>e=.returned (.bool (ow1 t f))/\Below w.heap.size w w':=by
 unfold ow1;obtain ⟨O,l⟩:∃ B,t.pool.any f=B:=⟨_,rfl⟩;obtain ⟨N,d⟩:∃ B,(t.stat.any fun p=>f p.2)=B:=⟨_,rfl⟩;rw [l,d];obtain ⟨tl,S,A,Q,R,sc,P,rfl,hx⟩:=h.tb;obtain ⟨g,q⟩:∃ g,w.heap.size=g:=⟨_,rfl⟩;have E:Mem w ((w.alloc (.cells tl.toArray 46)).alloc (.cells #[.func (.func k) #[] caps] 176)) [(g+1,.cells #[.func (.func k) #[] caps] 176),(g,.cells tl.toArray 46)]:=by
  rw [<-q];exact ql w _ _
 go_enter func119,ntmps119;go_upto_region 1 with fail;refine j5 (fun X=>Mem w X [(g+1,.cells #[.func (.func k) #[] caps] 176),(g,.cells tl.toArray 46)]) (by exact E) ?_;intro V c
 try simp only [q]
 clear E q;have I:V.cell? ⟨g+1,0,none⟩=some (.func (.func k) #[] caps):=c.cell 0 rfl 0;have u:=jb (c.get 1 rfl) hx.pool;have z:=j1d (hx.later c.below).rp o.2.1 (r.later c.below);rw [l] at z;have G:Hid (∀ X,Below V.heap.size V X->X.cell? ⟨g+1,0,none⟩=some (.func (.func k) #[] caps)/\X.cell? ⟨g,27,none⟩=some (.slice A t.stat.length sc)/\Calls prog 142 #[.slice A t.stat.length sc,.func (.func 143) #[] #[.pointer (some ⟨g+1,0,none⟩)]] X fun e w'=>e=.returned (.bool N)/\Below X.heap.size X w'):=by
  intro X K;have a:=c.after K;have D:X.cell? ⟨g+1,0,none⟩=some (.func (.func k) #[] caps):=a.cell 0 rfl 0;have C:=jad (hx.later a.below).rs o.2.2.1 (jjc (r.later a.below) D);rw [d] at C;exact ⟨D,jb (a.get 1 rfl) hx.stat,C⟩
 have y:Hid (Below w.heap.size w V):=c.below;have J:=mkf;clear hx o r c h l d;generalize t.pool.length=Y at *;generalize t.stat.length=U at *;go_wp2_with fail;refine z.mono ?_;rintro e F ⟨rfl,hb⟩;obtain ⟨Z,L,M⟩:=G.out F hb;have m:Hid (Below w.heap.size w F):=y.out.trans (hb.mono y.out.size);clear G y hb z u I;cases O with
 | true =>
  go_wp2_with fail;go_ret;exact ⟨rfl,m.out⟩
 | false =>
  go_wp2_with fail;refine M.mono ?_;rintro e V3 ⟨rfl,s⟩;go_wp2_with fail;go_ret;exact ⟨by simp,m.out.trans (s.mono m.out.size)⟩
theorem jbm {t:Ten} (h:TV w v t) (f:TSm t) (x:Int) :
  Calls prog 113 #[v,.int .u32 x] w fun e w'=>e=.returned (.bool (owns t x))/\Below w.heap.size w w':=by
 unfold owns;obtain ⟨tl,y,q,s,u,sc,r,rfl,hx⟩:=h.tb;obtain ⟨g,d⟩:∃ g,w.heap.size=g:=⟨_,rfl⟩;have l:Mem w ((w.alloc (.cells tl.toArray 46)).alloc (.cells #[.int .u32 x] 33)) [(g+1,.cells #[.int .u32 x] 33),(g,.cells tl.toArray 46)]:=by
  rw [<-d];exact ql w _ _
 have p:=mkf;go_enter func113,ntmps113;go_upto_region 1 with fail;refine j5 (fun X=>Mem w X [(g+1,.cells #[.int .u32 x] 33),(g,.cells tl.toArray 46)]) (by exact l) ?_;intro V a
 try simp only [d]
 clear l d;have o:=a.get 1 rfl;have C:=j3z (hx.later a.below).tv f (jjb (a.cell 0 rfl 0));have m:Hid (Below w.heap.size w V):=a.below;have c:=j5b hx.len;clear hx f a h;generalize tl.toArray=A at *;go_wp2_with (refine wpList_load_row rfl 46 (.tmp 2) (by with_reducible rfl) g (by first|rfl|simp [av]) 46 A (0,0) _ o underlying46 rfl c ?_)
 refine C.mono ?_;rintro e z ⟨rfl,hb⟩;go_wp2_with fail;go_ret;exact ⟨rfl,m.out.trans (hb.mono m.out.size)⟩
end
section
open Go.RowKit Sm Cf Df Go.Sort
namespace Df
theorem jt0:(prog.info? 9).map (fun i=>(i.zero,i.size,i.bytes))=some (some (.string ⟨#[]⟩),1,16):=by kernel_rfl
theorem jf4 (a c cap:Nat) (ss:List (List UInt8)) (w:World) (h:Holds encStr w a c ss.toArray) (d:a<w.heap.size) (f:ss.length<4611686018427387904) :
  Calls prog 102 #[.slice (some ⟨a,c,none⟩) ss.length cap] w fun e w' =>
   e=.returned (.tuple #[])/\∃ n os,w'=grow (putRow encStr (Sort.ahead w n) a c (ss.mergeSort fun x y=>decide (x<=y)).toArray) os :=
 calls_of_every_depth fun D=>AnyS.slices_Sort_string_in Tryz.lays190 D a c cap ss w h d f
theorem jf5 (p:Option Addr) (cap:Nat) (w:World):Calls prog 102 #[.slice p 0 cap] w fun e w'=>e=.returned (.tuple #[])/\w'=w :=
 Any.slices_Sort_string_none Tryz.lays190 p cap w
theorem jhb (c a cap:Nat) (d:List (List UInt8)) (w:World) (l:Holds encStr w c a d.toArray) (h:d.length<=9223372036854775807) (f:d.length<=cap) :
  Calls prog 103 #[.slice (some ⟨c,a,none⟩) d.length cap] w fun e w'=>e=.returned (.slice (some ⟨c,a,none⟩) (aw d).length cap)/\∃ q,w'=putRow encStr (Sort.ahead w q) c a (aw d++ad (d.length-(aw d).length) []).toArray :=
 Any.slices_Compact_string Tryz.lays194 c a cap d w l h f
theorem jhc (p:Option Addr) (cap:Nat) (w:World):Calls prog 103 #[.slice p 0 cap] w fun e w'=>e=.returned (.slice p 0 cap)/\w'=w :=
 Any.slices_Compact_string_empty Tryz.lays194 p cap w
theorem jox (a:List (List UInt8)):(aw a).length<=a.length:=by
 unfold aw Lib.compactUpTo;rw [ae];have:=List.length_filter_le (Lib.keeps a.toArray) (List.range a.length);simpa using this
theorem jk8 (w:World):grow w #[]=w:=by unfold grow;simp
def NV (V:World) (v:Value) (ns:List (List UInt8)):Prop:=Rw V 1 v (ns.map fun n=>[encStr n])
theorem jfn {base cap:Nat} {ts c rs:List (List UInt8)} (h:V.ownsRow base 9 1 (.slice (some ⟨g,0,none⟩) n cap) n (ts.map encStr)) (e:ts=c++rs) (l:n=ts.length):NV V (.slice (some ⟨g,0,none⟩) c.length cap) c:=by
 have m:c.length<=n:=by rw [l,e,af];omega
 obtain ⟨q,p⟩:=h;rcases p with ⟨h0,_⟩|⟨g',cap',cur,hv,hbase,hb,h1,h2,h3,h4⟩
 ·cases h0
 cases hv;refine ⟨some ⟨g,0,none⟩,cap,by rw [ae],by rw [ae];omega,by unfold maxLen at h2;omega,nofun,ax ⟨g,0,rfl,fun i hi j u o=>?_⟩⟩;rw [ae] at hi;have a:([encStr (c.getD i [])])[j]?=some u:=by
  rw [<-o];simp [ag,ah hi]
 have d:j=0:=by
  have:=(ai.mp a).1;simp at this;exact this
 subst d;simp only [List.getElem?_cons_zero,Option.some.injEq] at a;rw [cell_of hb];have f:(cur.toList.take (n*1))[i]?=(ts.map encStr)[i]?:=by rw [h4]
 rw [List.getElem?_take_of_lt (by omega)] at f;rw [<-Array.getElem?_toList];simp only [a3,a4,a5] at f ⊢;rw [f,e,<-a];rw [aj,List.getElem?_append_left (by rw [ae];exact hi)];simp [ag,ah hi]
theorem jt5 {w wr:World} {b:Nat} {M:List Tv} {left:Lit->Bool} {ss:List (List UInt8)} (d:Collected (DM M) left ss) (h:MV wr b n M) (c:∀ a,left a=false) (x:List UInt8):x∈ss ↔ x∈M.map fk:=by
 have:=d.perm h.1 law9 underlying9 c;rw [jos] at this;exact this.mem_iff
theorem jfu {gs:List (Nat×Nat×List Tv)} (hr:Rw w 1 v (gs.map fun p=>[.map (some p.1)])) (hm:∀ p∈gs,MV w p.1 p.2.1 p.2.2) (hk:gs.length<=2) (hn:∀ p∈gs,p.2.1<=10000) (ns:List (List UInt8)) (hns:Srt id ns) (hmem:∀ x,x∈ns ↔ ∃ p∈gs,x∈p.2.2.map fk) :
  Calls prog 78 #[v] w fun e V=>∃ a c,e=.returned (.slice a ns.length c)/\NV V (.slice a ns.length c) ns/\Below w.heap.size w V:=by
 have hr0:=hr;obtain ⟨sa,sc,rfl,hlc,hcb,-⟩:=hr0;rw [ae] at hlc hr ⊢;have HX:Hid (∀ i (hi:i<gs.length),(∃ b off,sa=some ⟨b,off,none⟩/\∀ V,Below w.heap.size w V->V.cell? ⟨b,off+i,none⟩=some (.map (some gs[i].1)))/\MV w gs[i].1 gs[i].2.1 gs[i].2.2/\gs[i].2.1<=10000):=by
  intro i hi;have hz:=ak hi;obtain ⟨b,off,e1,hc⟩:=j5z hr i (by rw [ae];exact hi);refine ⟨⟨b,off,e1,fun V hV=>?_⟩,hm _ hz,hn _ hz⟩;have:=hc 0 (.map (some gs[i].1)) (by simp [ag,ah hi]);rw [a3,a5] at this;rw [hV.cell (p:=⟨b,off+i,none⟩) (j9 this)];exact this
 have HT:Hid (∀ i (hi:i<gs.length) (x:List UInt8),(∃ p∈gs.take (i+1),x∈p.2.2.map fk) ↔ ((∃ p∈gs.take i,x∈p.2.2.map fk)\/x∈gs[i].2.2.map fk)):=by
  intro i hi x;rw [al,ah hi,Option.toList_some];simp only [am,an];constructor
  ·rintro ⟨p,hp|hp,h⟩
   ·exact ay ⟨p,hp,h⟩
   ·subst hp;exact ax h
  ·rintro (⟨p,hp,h⟩|h)
   ·exact ⟨p,ay hp,h⟩
   ·exact ⟨_,ax rfl,h⟩
 have HE:Hid (∀ ss:List (List UInt8),(∀ x,x∈ss ↔ ∃ p∈gs.take gs.length,x∈p.2.2.map fk)->aw (ss.mergeSort (fun x y=>decide (x<=y)))=ns):=by
  intro ss h;refine jjg hns fun x=>?_;rw [h x,hmem x,ao]
 have HE0:Hid ((∀ x:List UInt8,¬∃ p∈gs.take gs.length,x∈p.2.2.map fk)->ns=[]):=by
  intro h;rw [ao] at h;cases hh:ns with
  | nil=>rfl
  | cons x r=>exact absurd ((hmem x).1 (by rw [hh];simp)) (h x)
 clear hr hm hn hmem;obtain ⟨i0,hi0,hz0,hz1,hz2⟩:=info_parts jt0;obtain ⟨N,hN⟩:∃ N,gs.length=N:=⟨_,rfl⟩;rw [hN] at HE HE0 hlc hk;simp only [hN] at HX HT ⊢;have H0:Hid (w.ownsRow w.heap.size 9 1 (.slice none 0 0) ([]:List (List UInt8)).length (([]:List (List UInt8)).map encStr)/\Below w.heap.size w w):=⟨⟨rfl,ay ⟨rfl,rfl⟩⟩,au _ _⟩;go_enter func78,ntmps78;go_wp2_with fail
 go_loopw [3,9] (fun u3 u9 w'=>∃ (i:Nat) (ss:List (List UInt8)),i<=N/\u9=.int .i64 i/\Hid (w'.ownsRow w.heap.size 9 1 u3 ss.length (ss.map encStr)/\ss.length<=10000*i/\(∀ x,x∈ss ↔ ∃ p∈gs.take i,x∈p.2.2.map fk)/\Below w.heap.size w w')) (fun u3 u9 w'=>N-(intOf u9).toNat)
 case atStart=>exact ⟨0,[],a6 _,rfl,H0.out.1,a6 _,by simp,H0.out.2⟩
 case round =>
  obtain ⟨i,ss,hi,rfl,HR⟩:=hrel;clear H0;by_cases hlt:i<N
  ·have h1:(i:Int)<N:=by omega
   obtain ⟨⟨b,off,rfl,hc⟩,hMVw,hnb⟩:=HX.out i hlt;have hT:=HT.out i hlt;have hcell:=hc _ HR.out.2.2.2;have HSS:=HR.out.2.2.1;have HLL:=HR.out.2.1;obtain ⟨hrow0,-,-,hbel0⟩:=HR.out;have hMV:=hMVw.below hbel0 (a0 _);have hbl:=hMVw.1.lt;clear HX HT HE HE0 hc hMVw HR;generalize hge:gs[i]'(by omega)=ge at *;obtain ⟨bm,nm,M⟩:=ge;simp only at hcell hMV hbl hT hnb;obtain ⟨gr,hgr⟩:∃ g,wr.heap.size=g:=⟨_,rfl⟩;have hml:=hMV.size;go_wp2_with (first|(at_range;refine wpList_range_own _ rfl _ 138 rfl 9 46 law9 underlying138 _ bm nm (DM M) rfl hMV.1 ?_;intro w0 hrg0 hg0 hs0)|fail)
   go_frame
   have hsz0:=hbel0.size;have hsz:Go.Maps.size (DM M)=M.length:=by simp [DM,Go.Maps.size]
   rw [hgr] at hrg0 hsz0;have HA:Hid (w0.ranges prog 9 RH bm gr nm (DM M) (Go.Maps.has (DM M)) (Go.Maps.size (DM M))/\w0.ownsRow w.heap.size 9 1 u3 (ss++[]).length ((ss++[]).map encStr)/\Below w.heap.size w w0):=by
    refine ⟨hrg0,by rw [List.append_nil];exact hrow0.kept hg0 (by cases hbk:u3.ownBlock with|none=>exact ay rfl|some k=>exact ax (by simp)),hbel0.grown hg0 (by rw [hgr];exact hsz0) (fun j hj=>by cases hj)⟩
   simp only [hgr];clear hrg0 hg0 hs0 hrow0 hcell
   go_loopw [3] (fun v3 w'=>∃ (left:Lit->Bool) (cnt:Nat) (tt:List (List UInt8)),Hid (w'.ranges prog 9 RH bm gr nm (DM M) left cnt/\tt.length+cnt<=M.length/\w'.ownsRow w.heap.size 9 1 v3 (ss++tt).length ((ss++tt).map encStr)/\Collected (DM M) left tt/\Below w.heap.size w w')) (fun _ w'=>w'.rangeLeft bm gr)
   case atStart=>exact ⟨_,_,[],HA.out.1,by rw [hsz];simp,HA.out.2.1,Collected.start _,HA.out.2.2⟩
   case round =>
    obtain ⟨left,cnt,tt,HR⟩:=hrel;clear HA;obtain ⟨hrg,hcs,hrow,hC,hnx⟩:=HR.out;clear HR;go_wp2_with (first
     | (at_next;refine wpList_next_ranges _ rfl _ rfl 9 law9 RH encStr id (fun key kl hk=>by obtain ⟨x,hx,_⟩:=Maps.keyOf_str underlying9 hk;exact ⟨x,hx⟩) (fun v y hv=>⟨v,rfl⟩) bm gr nm _ _ _ rfl hrg ?_ ?_)
     | fail)
    ·intro hc0 hl0;have HF:Hid (wr.ownsRow w.heap.size 9 1 u3 (ss++tt).length ((ss++tt).map encStr)/\(ss++tt).length<=10000*(i+1)/\(∀ x,x∈ss++tt ↔ ∃ p∈gs.take (i+1),x∈p.2.2.map fk)/\Below w.heap.size w wr):=by
      refine ⟨hrow,by rw [af];omega,fun x=>?_,hnx⟩;rw [am,HSS x,hT x,jt5 (w:=w) hC ⟨hrg.owns,hMV.2⟩ hl0 x]
     clear hrg hrow hC hnx hT HSS hMV hl0;go_wp2_with fail;go_roundw
     case rel=>exact ⟨i+1,ss++tt,by omega,by go_num,HF⟩
     case measure=>simp [intOf];omega
    ·intro x c kl yd yp w2 cnt2 hkey hlk hv hat hrg2 hlt2 hg2 hs2 hen;obtain ⟨x',ex,rfl,_⟩:=Maps.keyOf_str underlying9 hkey;obtain rfl:x=x':=encStr_inj ex;have hrow2:=hrow.kept hg2 (ax (row_ne_iter hrow hrg).symm);clear hs2;have hlen:(ss++tt).length<=40000:=by rw [af];omega
     go_wp2_with (first
      | (at_builtin;refine wpList_append_own _ rfl _ _ 140 rfl w.heap.size 9 i0 (.string ⟨#[]⟩) 1 16 underlying140 hi0 hz0 hz1 hz2 rfl (by decide) _ _ _ rfl (hrow2.alloc _) ⟨w2.heap.size,0,none⟩ 1 1 [encStr x] rfl rfl (cell_one_new _ _ _) (by simp [Value.oneCell',encStr]) (by unfold maxLen at *;omega) (by omega) (by have:=hnx.size;have:=hg2.size;simp;omega) ?_;intro v' w3 hown' hg3 hnil3)
      | fail)
     have hrg3:=(hrg2.alloc _).kept hg3 (row_ne_low hrow2 hbl) (row_ne_iter hrow2 hrg2);have HF:Hid (w3.ranges prog 9 RH bm gr nm (DM M) (fun z=>left z && !z.sameKey (.string x)) cnt2/\(tt++[x]).length+cnt2<=M.length/\w3.ownsRow w.heap.size 9 1 v' (ss++(tt++[x])).length ((ss++(tt++[x])).map encStr)/\Collected (DM M) (fun z=>left z && !z.sameKey (.string x)) (tt++[x])/\Below w.heap.size w w3):=by
      refine ⟨hrg3,by simp;omega,by simpa [Nat.add_assoc] using hown',hC.step hlk hat,?_⟩;exact ((hnx.grown hg2 hnx.size (fun j hj=>by cases hj;omega)).alloc (by have:=hnx.size;have:=hg2.size;omega) _).grown hg3 (by have:=hnx.size;have:=hg2.size;simp;omega) (fun j hj=>(hrow2.lt j hj).1)
     have e1:=hrg3.left_eq;have e2:=hrg.left_eq;clear hrg hrow hC hnx hT HSS hMV hrg2 hrg3 hown' hg3 hnil3 hrow2 hlk hat hen hg2 hv;go_roundw
     case rel=>exact ⟨_,cnt2,tt++[x],HF⟩
     case measure=>rw [e1,e2];exact hlt2
  ·have h1:¬((i:Int)<N):=by omega
   obtain rfl:i=N:=by omega
   obtain ⟨hrow,hll,hss,hnx⟩:=HR.out;clear HX HT HR;rcases hrow.2 with ⟨rfl,h0⟩|⟨g,cap,cur,rfl,hbase,hb,k1,k2,k3,k4⟩
   ·have hs0:ss=[]:=List.eq_nil_of_length_eq_zero h0;have hns0:ns=[]:=HE0.out fun x hx=>by
     have:=(hss x).2 hx;rw [hs0] at this;cases this
    subst hns0;have HF:Hid (NV wr (.slice none 0 0) []/\Below w.heap.size w wr):=⟨⟨none,0,rfl,a0 _,by omega,fun _=>rfl,ay rfl⟩,hnx⟩;clear hrow hss hnx HE HE0;go_wp2_with fail;refine (jf5 none 0 wr).mono ?_;rintro e w' ⟨rfl,rfl⟩;go_wp2_with fail;refine (jhc none 0 w').mono ?_;rintro e w'' ⟨rfl,rfl⟩;go_wp2_with fail;go_ret;exact ⟨none,0,rfl,HF.out.1,HF.out.2⟩
   ·have hH:Holds encStr wr g 0 ss.toArray:=holds_of_block hb (by simpa using k4);have hgl:g<wr.heap.size:=(a7.1 hb).1;have C1:=jf4 g 0 cap ss wr hH hgl (by omega);have hcomp:=HE.out ss hss;have HB:Hid (Below w.heap.size w wr):=hnx;clear hrow hss hnx HE HE0 hH;go_wp2_with fail;refine C1.mono ?_;rintro e w' ⟨rfl,nn,os,hw'⟩;clear C1;have hrow':=ownsRow_sorted (n:=nn) (os:=os) (ss:=ss) (ts:=ss.mergeSort fun x y=>decide (x<=y)) (by simp) hbase hb k1 k2 k3;have hb':wr.grownBy w' (some g):=by rw [hw'];exact grownBy_sorted _
    rw [<-hw'] at hrow';clear hw' hb k3 k4;have hlen:(ss.mergeSort fun x y=>decide (x<=y)).length=ss.length:=List.length_mergeSort ..;generalize (ss.mergeSort fun x y=>decide (x<=y))=ts at *;have HB2:Hid (Below w.heap.size w w'):=HB.out.grown hb' HB.out.size (fun j hj=>by cases hj;exact hbase);have hrow2:=hrow';rcases hrow2.2 with ⟨h0,_⟩|⟨g',cap',cur',hv,hbase',hbk,j1,j2,j3,j4⟩
    ·cases h0
    cases hv;have hH:Holds encStr w' g 0 ts.toArray:=holds_of_block hbk (by rw [hlen];simpa using j4);have C2:=jhb g 0 cap ts w' hH (by omega) (by omega);rw [hlen,hcomp] at C2;have HF:Hid (∀ q V,V=putRow encStr (Sort.ahead w' q) g 0 (ns++ad (ss.length-ns.length) []).toArray->NV V (.slice (some ⟨g,0,none⟩) ns.length cap) ns/\Below w.heap.size w V):=by
     intro q V hV;have hle:ns.length<=ss.length:=by rw [<-hcomp,<-hlen];exact jox ts
     have hts:(ns++ad (ss.length-ns.length) ([]:List UInt8)).length=ss.length:=by simp;omega
     have o1:=ownsRow_sorted (n:=q) (os:=#[]) (ss:=ss) (ts:=ns++ad (ss.length-ns.length) []) hts hbase hbk j1 j2 j3;have o2:w'.grownBy (grow (putRow encStr (Sort.ahead w' q) g 0 (ns++ad (ss.length-ns.length) []).toArray) #[]) (some g):=grownBy_sorted _;rw [jk8,<-hV] at o1 o2;exact ⟨jfn o1 rfl hts.symm,HB2.out.grown o2 HB2.out.size (fun j hj=>by cases hj;exact hbase)⟩
    clear hrow' hrow2 hb' HB HB2 hH hbk j3 j4 hcomp;go_wp2_with fail;refine C2.mono ?_;rintro e w'' ⟨rfl,q,hw2⟩;have HG:=HF.out q w'' hw2;clear HF hw2 C2;go_wp2_with fail;go_ret;exact ⟨_,_,rfl,HG.1,HG.2⟩
end Df
end
section
open Go.RowKit Ad
open Sm (j6)
namespace Ad
end Ad
abbrev z6:List Int:=[0,0,0,0,0,0]
end
section
open Go.RowKit Va
open Ad (nam)
theorem j8x {h:Nat} {e:Int} (c:Ask W k caps b) (f:W.cell? ⟨h,0,none⟩=some (.func (.func k) #[] caps)) (d:W.cell? ⟨g,0,none⟩=some (.int .i64 e)) :
  Rul W 137 #[.pointer (some ⟨h,0,none⟩),.pointer (some ⟨g,0,none⟩)] (ul e b):=by
 refine ⟨enters_of func137 (by kernel_rfl) rfl,fun V a=>?_⟩;have r:V.cell? ⟨h,0,none⟩=some (.func (.func k) #[] caps):=by rw [a.cell (p:=⟨h,0,none⟩) (j9 f)];exact f
 have l:Hid (∀ X,Below V.heap.size V X->X.cell? ⟨g,0,none⟩=some (.int .i64 e)):=by
  intro X m;have hb:=a.trans (m.mono a.size);rw [hb.cell (p:=⟨g,0,none⟩) (j9 d)];exact d
 have C:=c.2 V a;have o:∀ args V,(callFunc k args).run prog V=.ok (.enter k args) V:=c.1;clear c f d a;simp only [aa,ab,ac,a8];simp only [aa,ab,ac,a8] at C;cases b with
 | true =>
  go_enter func137,ntmps137;go_wp2_with fail;refine C.mono ?_;rintro _ X ⟨rfl,hb⟩;clear l;go_wp2_with fail;go_ret;exact ⟨rfl,hb⟩
 | false =>
  go_enter func137,ntmps137;go_wp2_with fail;refine C.mono ?_;rintro _ X ⟨rfl,hb⟩;have q:=l.out X hb;clear l;go_wp2_with fail;go_ret;exact ⟨rfl,hb⟩
def Mkd (W:World) (r:Int) (e:Ending) (V:World):Prop:=∃ k caps,e=.returned (.func (.func k) #[] caps)/\Rul V k caps r/\Below W.heap.size W V
theorem jh (c:Ask W k caps b) (e:Int):Calls prog 105 #[.int .i64 e,.func (.func k) #[] caps] W (Mkd W (ul e b)):=by
 have f:=mkf;obtain ⟨g,h⟩:∃ g,W.heap.size=g:=⟨_,rfl⟩;have a:=ql W (.cells #[.int .i64 e] 28) (.cells #[.func (.func k) #[] caps] 23);have hr:Rul ((W.alloc (.cells #[.int .i64 e] 28)).alloc (.cells #[.func (.func k) #[] caps] 23)) 137 #[.pointer (some ⟨W.heap.size+1,0,none⟩),.pointer (some ⟨W.heap.size,0,none⟩)] (ul e b):=j8x (c.later a.below) (a.cell 0 rfl 0) (a.cell 1 rfl 0);have d:Hid (Rul ((W.alloc (.cells #[.int .i64 e] 28)).alloc (.cells #[.func (.func k) #[] caps] 23)) 137 #[.pointer (some ⟨W.heap.size+1,0,none⟩),.pointer (some ⟨W.heap.size,0,none⟩)] (ul e b)/\Below W.heap.size W ((W.alloc (.cells #[.int .i64 e] 28)).alloc (.cells #[.func (.func k) #[] caps] 23))):=⟨hr,a.below⟩;clear c a hr h;generalize ul e b=R at *;go_enter func105,ntmps105;go_wp2_with fail;go_ret;exact ⟨_,_,rfl,d.out.1,d.out.2⟩
theorem jec {h:Nat} (a:Ask W k caps b) (d:W.cell? ⟨h,0,none⟩=some (.func (.func k) #[] caps)) :
  Ask W 140 #[.pointer (some ⟨h,0,none⟩)] (!b):=by
 refine ⟨enters_of func140 (by kernel_rfl) rfl,fun V c=>?_⟩;have l:V.cell? ⟨h,0,none⟩=some (.func (.func k) #[] caps):=by rw [c.cell (p:=⟨h,0,none⟩) (j9 d)];exact d
 have C:=a.2 V c;have f:∀ args V,(callFunc k args).run prog V=.ok (.enter k args) V:=a.1;clear a d c;simp only [aa,ab,ac,a8];simp only [aa,ab,ac,a8] at C;go_enter func140,ntmps140;go_wp2_with fail;refine C.mono ?_;rintro _ X ⟨rfl,hb⟩;go_wp2_with fail;go_ret;exact ⟨rfl,hb⟩
theorem j2u (f:Ask W k caps b) (e:Int):Calls prog 116 #[.int .i64 e,.func (.func k) #[] caps] W (Mkd W (wn e b)):=by
 have m:=mkf;have a:Mem W (W.alloc (.cells #[.func (.func k) #[] caps] 23)) [(W.heap.size,.cells #[.func (.func k) #[] caps] 23)]:=(Mem.nil W).push1 rfl;have C:=jh (jec (f.later a.below) (a.cell 0 rfl 0)) e;have d:Hid (Below W.heap.size W (W.alloc (.cells #[.func (.func k) #[] caps] 23))):=a.below;unfold wn;clear f a;generalize ul e (!b)=R at *;go_enter func116,ntmps116;go_wp2_with fail;refine C.mono ?_;rintro _ X ⟨l,c,rfl,hr,hb⟩;have h:Hid (Rul X l c R/\Below W.heap.size W X):=⟨hr,d.out.trans (hb.mono d.out.size)⟩;clear hr hb d C;go_wp2_with fail;go_ret;exact ⟨_,_,rfl,h.out.1,h.out.2⟩
theorem jkb (hi:i<es.length) (a:es.getD i 0=0):fnz (es.drop i)=fnz (es.drop (i+1)):=by
 rw [ap hi,j0d];simpa [ag,ah hi] using a
theorem jrk (hi:i<es.length) (a:es.getD i 0≠0):fnz (es.drop i)=es.getD i 0:=by
 rw [ap hi,j5c]
 ·simp [ag,ah hi]
 ·simpa [ag,ah hi] using a
theorem j4f (F:es.length=n) (E:n<=1000) (h:∀ i,i<n->∃ k caps,W.cell? ⟨g,i,none⟩=some (.func (.func k) #[] caps)/\Rul W k caps (es.getD i 0)) :
  Calls prog 82 #[.slice (some ⟨g,0,none⟩) n n] W fun e V=>e=.returned (.int .i64 (fnz es))/\Below W.heap.size W V:=by
 have s:Hid (∀ i,i<n->∃ k caps,W.cell? ⟨g,i,none⟩=some (.func (.func k) #[] caps)/\Rul W k caps (es.getD i 0)):=h;have t:Hid (∀ i,i<n->es.getD i 0=0->fnz (es.drop i)=fnz es->fnz (es.drop (i+1))=fnz es):=fun i hi f d=>by rw [<-jkb (by omega) f];exact d
 have r:Hid (∀ i,i<n->es.getD i 0≠0->fnz (es.drop i)=fnz es->fnz es=es.getD i 0):=fun i hi f d=>by rw [<-d];exact jrk (by omega) f
 have y:Hid (fnz (es.drop n)=fnz es->fnz es=0):=fun d=>by rw [<-d,List.drop_eq_nil_of_le (by omega)];rfl
 have z:Hid (fnz (es.drop 0)=fnz es/\Below W.heap.size W W):=⟨rfl,au _ _⟩;clear h F;generalize fnz es=R at *;go_enter func82,ntmps82;go_wp2_with fail
 go_loopw [8] (fun u8 w'=>∃ i:Nat,i<=n/\u8=.int .i64 i/\Hid (fnz (es.drop i)=R/\Below W.heap.size W w')) (fun u8 w'=>n-(intOf u8).toNat)
 case atStart=>exact ⟨0,a6 _,rfl,z⟩
 case round =>
  obtain ⟨i,hi,rfl,m⟩:=hrel;by_cases hlt:i<n
  ·have d:(i:Int)<n:=by omega
   obtain ⟨k,caps,q,hr⟩:=s.out i hlt;have a:=m.out.2;have B:wr.cell? ⟨g,i,none⟩=some (.func (.func k) #[] caps):=by rw [a.cell (p:=⟨g,i,none⟩) (j9 q)];exact q
   have C:=hr.2 wr a;have G:∀ args V,(callFunc k args).run prog V=.ok (.enter k args) V:=hr.1;simp only [aa,ab,ac,a8] at C;have o:Hid (es.getD i 0=0->fnz (es.drop (i+1))=R):=fun f=>t.out i hlt f m.out.1;have l:Hid (es.getD i 0≠0->R=es.getD i 0):=fun f=>r.out i hlt f m.out.1;have c:Hid (Below W.heap.size W wr):=a;clear s t r y z m hr a q;generalize es.getD i 0=x at *;by_cases hx:x=0
   ·have A:=o.out hx;subst hx;go_wp2_with fail;refine C.mono ?_;rintro _ X ⟨rfl,hb⟩;have u:Hid (fnz (es.drop (i+1))=R/\Below W.heap.size W X):=⟨A,c.out.trans (hb.mono c.out.size)⟩;clear A hb C c o l B;go_wp2_with fail;go_roundw
    case rel=>exact ⟨i+1,by omega,by go_num,u⟩
    case measure=>simp [intOf];omega
   ·obtain rfl:=l.out hx;have D:(R != 0)=true:=by simp [hx]
    go_wp2_with fail;refine C.mono ?_;rintro _ X ⟨rfl,hb⟩;have u:Hid (Below W.heap.size W X):=c.out.trans (hb.mono c.out.size);clear hb C c o l B;go_wp2_with fail;go_ret;exact ⟨rfl,u.out⟩
  ·have d:¬((i:Int)<n):=by omega
   obtain rfl:i=n:=by omega
   obtain rfl:=y.out m.out.1;have c:Hid (Below W.heap.size W wr):=m.out.2;clear s t r y z m;go_wp2_with fail;go_ret;exact ⟨rfl,c.out⟩
end
section
open Go.RowKit Sm Cf Df
namespace Df
abbrev Hv:=Chg×Value×Value×Value
def yc (y:Hv):List Value:=hc y.1 y.2.1 y.2.2.1 y.2.2.2
def yz (y:Hv):Tv:=(y.1.t,y.2)
theorem jea (y:Hv):yc y=.bool y.1.put::.string y.1.name::zc (yz y):=rfl
theorem j03 {y:Hv} (h:TLen y.1.t):(yc y).length=35:=by
 have:=ji h y.2.1 y.2.2.1 y.2.2.2;rw [jea];simp only [aq];show (tc y.1.t y.2.1 y.2.2.1 y.2.2.2).length+1+1=35;omega
structure YV (w:World) (v:Value) (ys:List Hv):Prop where
 row:Rw w 35 v (ys.map yc)
 each:∀ y∈ys,TLen y.1.t/\Rws w (yz y)
theorem jpn {y:Hv} (h:Rws w (yz y)):(yc y).toArray.all (·.oneCell')=true:=by
 have:=j3h h;rw [Array.all_eq_true_iff_forall_mem] at this ⊢;intro x hx;rw [jea] at hx;simp only [List.mem_toArray,List.mem_cons] at hx;rcases hx with rfl|rfl|hx
 ·rfl
 ·rfl
 ·exact this x (by simpa using hx)
theorem YV.parts {c:List Hv} (h:YV w v c):∃ d sc,v=.slice d c.length sc/\c.length<=sc/\sc<=9223372036854775807/\∀ i (hi:i<c.length),∃ b a,d=some ⟨b,a,none⟩/\∀ V,Below w.heap.size w V->V.rangeAt b (a+i*35) (yc c[i]):=by
 obtain ⟨hr,r⟩:=h;have f:=hr;obtain ⟨d,sc,rfl,l,hb,-⟩:=f;rw [ae] at l hr ⊢;refine ⟨d,sc,rfl,l,hb,fun i hi=>?_⟩;obtain ⟨b,a,q,hc⟩:=j5z hr i (by rw [ae];exact hi);refine ⟨b,a,q,fun V o j u m=>?_⟩;have hx:(c.map yc).getD i []=yc c[i]:=by simp [ag,ah hi]
 rw [hx] at hc;have h:=hc j u m;rw [o.cell (p:=⟨b,a+i*35+j,none⟩) (j9 h)];exact h
def stz (M:List Tv) (y:Hv):List Tv:=if y.1.put then put fk (yz y) true M else del fk y.1.name.data.toList M
def apz (zs:List Tv) (ys:List Hv):List Tv:=ys.foldl stz (byn fk zs)
theorem jmx (M:List Tv) (y:Hv):(stz M y).map az=stp (M.map az) y.1:=by
 unfold stz stp;split
 ·exact j9s (f:=fk) (g:=nk) (h:=az) (fun _=>rfl) (yz y) true M
 ·exact jo1 (f:=fk) (g:=nk) (h:=az) (fun _=>rfl) _ M
theorem jif (a:List Hv):∀ M:List Tv,(a.foldl stz M).map az=(a.map az).foldl stp (M.map az):=by
 induction a with
 | nil=>intro M;rfl
 | cons y a ih=>intro M;rw [List.foldl_cons,ih,jmx];rfl
theorem jp7 (a:List Tv):(byn fk a).map az=byn nk (a.map az):=jo2 (f:=fk) (g:=nk) (h:=az) (fun _=>rfl) a
theorem jaj (a:List Tv) (c:List Hv):(apz a c).map az=app (a.map az) (c.map az):=by
 unfold apz app;rw [jif,jp7]
theorem jcc {c:List Tv} {a:List Hv} (hi:i<a.length):apz c (a.take (i+1))=stz (apz c (a.take i)) a[i]:=by
 unfold apz;rw [al,ah hi,Option.toList_some,List.foldl_append];rfl
theorem jny {M:List Tv} {y:Hv} {x:Tv} (h:x∈stz M y):x∈M\/x=yz y:=by
 unfold stz at h;split at h
 ·rcases j6c h with h|h
  ·exact ax h
  ·exact ay h
 ·exact ay (jg1.1 h).1
theorem j9r {c:List Tv} {a:List Hv} {x:Tv} (h:x∈apz c a):x∈c\/∃ y∈a,x=yz y:=by
 unfold apz at h;have key:∀ (a:List Hv) (M:List Tv),x∈a.foldl stz M->x∈M\/∃ y∈a,x=yz y:=by
  intro a
  induction a with
  | nil=>intro M h;exact ay h
  | cons y a ih =>
   intro M h;rcases ih _ h with h|⟨z,hz,e⟩
   ·rcases jny h with h|h
    ·exact ay h
    ·exact ax ⟨y,by simp,h⟩
   ·exact ax ⟨z,by simp [hz],e⟩
 rcases key a _ h with h|h
 ·exact ay (j6d h)
 ·exact ax h
theorem _root_.Go.Proofs.YtdigofgjhaakmaaGreatDoor.Ow.join {sz:Nat} {L K:List (Nat×Obj)} (h:Ow w W e sz v n xs L) (k:Mem W V K):Ow w V e sz v n xs (L++K):=by
 refine ⟨h.1,?_⟩;rcases h.2 with ⟨rfl,rfl,hm⟩|⟨g,cap,cur,rfl,hm,r⟩
 ·exact ay ⟨rfl,rfl,hm.join k⟩
 ·exact ax ⟨g,cap,cur,rfl,hm.join k,r⟩
theorem j4e {a:List Tv} (h:∀ z∈a,TLen z.1):(a.map zc).flatten.length=a.length*33:=by
 induction a with
 | nil=>simp
 | cons z a ih =>
  have e:=ji (h z (by simp)) z.2.1 z.2.2.1 z.2.2.2;have d:(zc z).length=33:=e;rw [List.map_cons,List.flatten_cons,af,d,ih fun y c=>h y (by simp [c]),aq];omega
theorem jln {xs:List Tv} {C l:List (Nat×Obj)} {z:Tv} (s:Ow w W 46 33 v xs.length (xs.map zc).flatten C) (r:∀ z∈xs,ZB z C) (t:Mem W V l) (o:ZB z l) (F:xs.length<=100000) (q:V.heap.size=gs) :
  ∃ a m c h,(Builtin.append_ #[37,37] 37 #[v,.slice (some ⟨gs,0,none⟩) 1 1]).run prog (V.alloc (.cells (zc z).toArray 46))=.ok (.slice a m c) h /\
   Ow w h 46 33 (.slice a m c) (xs++[z]).length ((xs++[z]).map zc).flatten (C++l)/\∀ y∈xs++[z],ZB y (C++l):=by
 subst q;have D:=(s.join t).after ((au V.heap.size V).alloc (a0 _) (.cells (zc z).toArray 46));obtain ⟨E,h,hr,f⟩:=yi (ty:=37) underlying37 j87 (by kernel_rfl) (by decide) D ⟨V.heap.size,0,none⟩ 1 1 (zc z) (by rw [show (zc z).length=33 from ji o.1 _ _ _]) (fun j u p=>by
  rw [Addr.add_mid,a4,World.cell?_alloc_new];simpa using p) (jar o) (by unfold maxLen;omega) (by omega)
 obtain ⟨B,A,-⟩:=f.owb;obtain ⟨a,m,c,rfl⟩:=js A;refine ⟨a,m,c,h,hr,?_,fun y d=>?_⟩
 ·rw [af,aj,List.flatten_append];simpa using f
 ·rcases am.1 d with d|d
  ·exact (r y d).more fun x hx=>by simp [hx]
  ·rw [an] at d;subst d;exact o.more fun x hx=>by simp [hx]
end Df
namespace Df
def Nf (t:Ten):Prop:=t.name.size<=1000000/\TFew t
theorem jnq (h:Below w.heap.size w w):Rw (w.alloc (.cells #[.map (some g)] 138)) 1 (.slice (some ⟨w.heap.size,0,none⟩) 1 1) [[.map (some g)]]:=by
 refine ⟨some ⟨w.heap.size,0,none⟩,1,rfl,a0 _,by omega,nofun,ax ⟨w.heap.size,0,rfl,fun i hi j u d=>?_⟩⟩;have c:i=0:=by simp at hi;exact hi
 subst c;have a:j=0:=by
  have:=(ai.mp d).1;simp [ag] at this;exact this
 subst a;rw [World.cell?_alloc_new];simpa [ag] using d
theorem jpp {M:List Tv} (h:Srt fk M) (a:j<M.length):vat M (fk M[j])=tv M[j]:=by
 unfold vat;rw [jbu h (ak a)]
theorem jki (z:Tv):encStr (fk z)=.string z.1.name:=by
 show Value.string ⟨(nk z.1).toArray⟩=_;rw [jnx]
theorem jhr {u:Value} {zs:List Tv} {ys:List Hv} (hz:ZV w v zs) (hy:YV w u ys) (hzn:∀ z∈zs,Nf z.1) (hyn:∀ y∈ys,Nf y.1.t/\y.1.name.size<=1000000) (hm:zs.length<=1000) (hk:ys.length<=1000) :
  Calls prog 55 #[v,u] w fun e V=>∃ r,e=.returned r/\∃ B C,TsB r (app (zs.map az) (ys.map az)) B C/\Mem w V (B++C):=by
 have CB:=jdz hz (fun z h=>(hzn z h).1) hm;obtain ⟨za,zk,rfl,-,-,-⟩:=hz.parts;obtain ⟨sa,sc,rfl,hlc,hcb,hx⟩:=hy.parts;have HX:Hid (∀ i (hi:i<ys.length),(∃ b off,sa=some ⟨b,off,none⟩/\∀ V,Below w.heap.size w V->V.rangeAt b (off+i*35) (yc ys[i]))/\TLen ys[i].1.t/\(yc ys[i]).toArray.all (·.oneCell')=true/\ys[i].1.t.name.size<=maxLen/\ys[i].1.name.size<=maxLen):=by
  intro i hi;have hm:=ak hi;have:=hyn _ hm;exact ⟨hx i hi,(hy.each _ hm).1,jpn (hy.each _ hm).2,by have:=this.1.1;unfold maxLen;omega,by have:=this.2;unfold maxLen;omega⟩
 have HT:Hid (∀ i (hi:i<ys.length),apz zs (ys.take (i+1))=stz (apz zs (ys.take i)) ys[i]):=fun i hi=>jcc hi;have HT0:Hid (apz zs (ys.take ys.length)=apz zs ys):=by show _=_;rw [ao]
 have HM:Hid (∀ z∈apz zs ys,TLen z.1/\Rws w z/\TFew z.1/\z.1.name.size<=maxLen):=by
  intro z h;rcases j9r h with h|⟨y,h1,e⟩
  ·exact ⟨(hz.each z h).1,(hz.each z h).2,(hzn z h).2,by have:=(hzn z h).1;unfold maxLen;omega⟩
  ·subst e;exact ⟨(hy.each y h1).1,(hy.each y h1).2,(hyn y h1).1.2,by have:=(hyn y h1).1.1;show y.1.t.name.size<=_;unfold maxLen;omega⟩
 have HR0:Hid ((apz zs ys).map az=app (zs.map az) (ys.map az)):=jaj zs ys;rw [<-HR0.out];clear hx hz hy hzn hyn HR0;obtain ⟨N,hN⟩:∃ N,zs.length=N:=⟨_,rfl⟩;obtain ⟨K,hK⟩:∃ K,ys.length=K:=⟨_,rfl⟩;rw [hN] at CB hm ⊢;rw [hK] at HT0 hlc hk;simp only [hK] at HX HT ⊢;go_enter func55,ntmps55;go_wp2_with fail;refine CB.mono ?_;rintro e V0 ⟨g,rfl,hgw,hMV0,hb0⟩;have HV0:Hid (MV V0 g (N+0) (apz zs (ys.take 0))/\Below w.heap.size w V0):=⟨hMV0,hb0⟩;clear CB hMV0 hb0;go_wp2_with fail
 go_loopw [15] (fun u15 w'=>∃ i:Nat,i<=K/\u15=.int .i64 i/\Hid (MV w' g (N+i) (apz zs (ys.take i))/\Below w.heap.size w w')) (fun u15 w'=>K-(intOf u15).toNat)
 case atStart=>exact ⟨0,a6 _,rfl,HV0⟩
 case round =>
  obtain ⟨i,hi,rfl,HR⟩:=hrel;clear HV0;by_cases hlt:i<K
  ·have h1:(i:Int)<K:=by omega
   obtain ⟨⟨b,off,rfl,hV⟩,hl,ho,hs,hs'⟩:=HX.out i hlt;have hra:=hV _ HR.out.2;have hT:=HT.out i hlt;clear hV HX HT HT0 HM;generalize hye:ys[i]'(by omega)=y at *;obtain ⟨M,hMe⟩:∃ M,apz zs (ys.take i)=M:=⟨_,rfl⟩;rw [hMe] at HR hT;clear hMe;have hi35:(prog.info? 48).map (·.size)=some (yc y).length:=by rw [j03 hl];kernel_rfl
   have hj35:(prog.info? 48).map (·.size)=some (yc y).toArray.size:=by rw [a9,j03 hl];kernel_rfl
   have hs35:hz0.size=(yc y).toArray.size:=by rw [show (yc y).toArray.size=35 by rw [a9];exact j03 hl];rfl
   obtain ⟨gt,hgt⟩:∃ g,wr.heap.size=g:=⟨_,rfl⟩;have hk1:(wr.alloc (.cells hz0 48)).heap[gt]?=some (.cells hz0 48):=by rw [<-hgt];exact heap_alloc_new _ _
   have HF:Hid (Mem wr ((wr.alloc (.cells hz0 48)).setRow gt (yc y).toArray) [(gt,.cells (yc y).toArray 48)]):=by
    rw [<-hgt,World.setRow_alloc_new];exact (Mem.nil wr).push1 rfl
   go_upto_region 5 with (first|(refine wpList_load_mid rfl 48 (.tmp 17) (by with_reducible rfl) b (off+i*35) (by simp [av]) (yc y) _ hra underlying48 rfl hi35 ?_)|(refine wpList_store_row rfl 48 (.tmp 7) (.tmp 18) (by with_reducible rfl) gt (yc y).toArray (by simp [av];try exact hgt) (by first|rfl|simp [av]) 48 hz0 hk1 hj35 hs35 ho ?_)|fail)
   refine j5 (fun X=>Mem wr X [(gt,.cells (yc y).toArray 48)]) (by exact HF.out) ?_;intro V1 hM1
   try simp only [hgt]
   clear HF hk1 hra hi35 hj35 hs35 ho;have hMV1:MV V1 g (N+i) M:=HR.out.1.below hM1.below (a0 _);have hc0:V1.cell? ⟨gt,0,none⟩=some (.bool y.1.put):=by rw [hM1.cell 0 rfl];rfl
   have hc1:V1.cell? ⟨gt,1,none⟩=some (.string y.1.name):=by rw [hM1.cell 0 rfl];rfl
   have hc2:V1.cell? ⟨gt,2,none⟩=some (.string y.1.t.name):=by rw [hM1.cell 0 rfl];rfl
   have hra2:V1.rangeAt gt 2 (zc (yz y)):=fun j x hj=>by
    rw [hM1.cell 0 rfl,List.getElem?_toArray,jea];rw [show 2+j=j+1+1 by omega,ar,ar];exact hj
   have HB1:Hid (Below w.heap.size w V1):=HR.out.2.trans (hM1.below.mono HR.out.2.size);have hil:N+i<maxLen:=by unfold maxLen;omega
   have hi33:(prog.info? 46).map (·.size)=some (zc (yz y)).length:=by rw [show (zc (yz y)).length=33 from ji hl _ _ _];kernel_rfl
   clear hM1 HR;by_cases hp:y.1.put=true
   ·rw [hp] at hc0;have HF:Hid (∀ W,MV W g (N+i+1) (put fk (yz y) true M)->V1.grownBy W (some g)->MV W g (N+(i+1)) (apz zs (ys.take (i+1)))/\Below w.heap.size w W):=by
     intro W k1 k2;refine ⟨by rw [hT,stz,if_pos hp];exact k1,HB1.out.grown k2 HB1.out.size (fun j hj=>by cases hj;exact hgw)⟩
    clear HB1 hT;go_wp2_with (first|(refine wpList_load_mid rfl 46 (.tmp 25) (by with_reducible rfl) gt 2 (by simp [av]) (zc (yz y)) _ hra2 underlying46 rfl hi33 ?_)|(at_mapUpdate;refine jat rfl _ _ _ rfl (b:=g) (n:=N+i) (M:=M) (by first|rfl|simp [av]) hMV1 hil (yz y) hs (by first|rfl|simp [av,yz]) (by first|rfl|simp [av,tv]) ?_;intro W hW1 hW2)|fail)
    have HF2:=HF.out W hW1 hW2;clear HF hW1 hW2 hMV1 hra2;go_roundw
    case rel=>exact ⟨i+1,by omega,by go_num,HF2⟩
    case measure=>simp [intOf];omega
   ·have hp':y.1.put=false:=by simpa using hp
    rw [hp'] at hc0;have HF:Hid (∀ W,MV W g (N+i) (del fk y.1.name.data.toList M)->V1.grownBy W (some g)->MV W g (N+(i+1)) (apz zs (ys.take (i+1)))/\Below w.heap.size w W):=by
     intro W k1 k2;refine ⟨by rw [hT,stz,if_neg hp];exact k1.mono (by omega),HB1.out.grown k2 HB1.out.size (fun j hj=>by cases hj;exact hgw)⟩
    clear HB1 hT;go_wp2_with (first|(at_delete;refine jm8 rfl _ _ rfl (b:=g) (n:=N+i) (M:=M) (by first|rfl|simp [av]) hMV1 (s:=y.1.name) hs' (by first|rfl|simp [av]) ?_;intro W hW1 hW2)|fail)
    have HF2:=HF.out W hW1 hW2;clear HF hW1 hW2 hMV1 hra2;go_roundw
    case rel=>exact ⟨i+1,by omega,by go_num,HF2⟩
    case measure=>simp [intOf];omega
  ·have h1:¬((i:Int)<K):=by omega
   obtain rfl:i=K:=by omega
   have hMV:=HR.out.1;have hbel:=HR.out.2;rw [HT0.out] at hMV;clear HX HT HT0 HR;obtain ⟨M,hMe⟩:∃ M,apz zs ys=M:=⟨_,rfl⟩;rw [hMe] at hMV HM;have HMe:Hid (apz zs ys=M):=hMe;clear hMe;have hle:=hMV.size;have hM1:MV (wr.alloc (.cells #[.map (some g)] 138)) g (N+i) M:=hMV.below ((au wr.heap.size wr).alloc (a0 _) _) (a0 _);have CN:=jfu (gs:=[(g,N+i,M)]) (jnq (w:=wr) (g:=g) (au _ _)) (by intro p hp;rw [an] at hp;subst hp;exact hM1) (by simp) (by intro p hp;rw [an] at hp;subst hp;simp;omega) (M.map fk) (List.pairwise_map.2 hMV.2) (by intro x;simp);rw [ae] at CN;have hb1:Below w.heap.size w (wr.alloc (.cells #[.map (some g)] 138)):=hbel.alloc hbel.size _;have HN:Hid (∀ V a c,NV V (.slice a M.length c) (M.map fk)->Below (wr.alloc (.cells #[.map (some g)] 138)).heap.size (wr.alloc (.cells #[.map (some g)] 138)) V->MV V g (N+i) M/\Below w.heap.size w V/\∀ j (hj:j<M.length),∃ b off,a=some ⟨b,off,none⟩/\∀ X,Below V.heap.size V X->X.cell? ⟨b,off+j,none⟩=some (.string M[j].1.name)):=by
    intro V a c k1 k2;refine ⟨hM1.below k2 (a0 _),hb1.trans (k2.mono hb1.size),fun j hj=>?_⟩;have k1':Rw V 1 (.slice a M.length c) ((M.map fk).map fun n=>[encStr n]):=k1;obtain ⟨b,off,e,hc⟩:=j5z k1' j (by simpa using hj);refine ⟨b,off,e,fun X hX=>?_⟩;have:=hc 0 (.string M[j].1.name) (by simp [ag,ah hj,jki]);rw [a3,a5] at this;rw [hX.cell (p:=⟨b,off+j,none⟩) (j9 this)];exact this
   clear hM1 hb1 hbel;have hsrt:=hMV.2;clear hMV;go_wp2_with fail;refine CN.mono ?_;rintro e W0 ⟨na,nc,rfl,hNV,hbN⟩;obtain ⟨hMV0,hbw,hcell⟩:=HN.out W0 na nc hNV hbN;clear HN CN hNV hbN;have HC:Hid (∀ j (hj:j<M.length),∃ b off,na=some ⟨b,off,none⟩/\∀ X,Below W0.heap.size W0 X->X.cell? ⟨b,off+j,none⟩=some (.string M[j].1.name)):=hcell;have HV0:Hid (MV W0 g (N+i) M/\Below w.heap.size w W0):=⟨hMV0,hbw⟩;have H0:Hid (Ow W0 W0 46 33 (.slice none 0 0) ([]:List Tv).length ((([]:List Tv)).map zc).flatten []):=Ow.nil (Mem.nil W0);have HZ:Hid (∀ j (hj:j<M.length),TLen M[j].1/\TFew M[j].1/\M[j].1.name.size<=maxLen/\Rws W0 M[j]/\vat M M[j].1.name.data.toList=tv M[j]):=by
    intro j hj;have:=HM.out _ (ak hj);exact ⟨this.1,this.2.2.1,this.2.2.2,Rws.at_ this.2.1 hbw,jpp hsrt hj⟩
   have HT:Hid (∀ j (hj:j<M.length),(M.map az).take (j+1)=(M.map az).take j++[M[j].1]):=by
    intro j hj;rw [al,List.getElem?_map,ah hj];rfl
   have HTE:Hid ((M.map az).take M.length=M.map az):=by show _=_;rw [List.take_of_length_le (by simp)]
   clear HM hcell hMV0 hbw hsrt;obtain ⟨L,hL⟩:∃ L,M.length=L:=⟨_,rfl⟩;rw [hL] at hle HTE;simp only [hL] at HC HZ HT ⊢;go_wp2_with fail
   go_loopw [8,35] (fun u8 u35 w'=>∃ (j:Nat) (a:Option Addr) (m c:Nat) (xs:List Tv) (C:List (Nat×Obj)),j<=L/\u35=.int .i64 j/\u8=.slice a m c/\Hid (Ow W0 w' 46 33 (.slice a m c) xs.length (xs.map zc).flatten C/\(∀ z∈xs,ZB z C)/\xs.map az=(M.map az).take j/\xs.length=j)) (fun u8 u35 w'=>L-(intOf u35).toNat)
   case atStart=>exact ⟨0,none,0,0,[],[],a6 _,rfl,rfl,H0.out,by simp,by simp,rfl⟩
   case round =>
    obtain ⟨j,a,m,c,xs,C,hj,rfl,rfl,HR⟩:=hrel;clear H0;by_cases hlt2:j<L
    ·have h2:(j:Int)<L:=by omega
     obtain ⟨nb,noff,rfl,hcj⟩:=HC.out j hlt2;obtain ⟨hO,hZB,hfst,hxl⟩:=HR.out;have hbW:=hO.mem.below;have hcell:=hcj _ hbW;obtain ⟨hl,hf,hs,hr,hv⟩:=HZ.out j hlt2;have hT:=HT.out j hlt2;clear hcj HC HZ HT HTE HR;have hjM:j<M.length:=by omega
     generalize M[j]'hjM=z at *;have hMV:=HV0.out.1.below hbW (a0 _);have CC:=j5e hl (Rws.at_ hr hbW) hf;have HF:Hid (∀ (z':Tv) (C':List (Nat×Obj)) (V:World),z'.1=z.1->ZB z' C'->Mem wr V C'->(Instr.buildSlice 37 1 #[(0,tv z')]).run prog V=.ok (.slice (some ⟨V.heap.size,0,none⟩) 1 1) (V.alloc (.cells (zc z').toArray 46)) /\
       ∃ a' m' c' V',(Builtin.append_ #[37,37] 37 #[.slice a m c,.slice (some ⟨V.heap.size,0,none⟩) 1 1]).run prog (V.alloc (.cells (zc z').toArray 46))=.ok (.slice a' m' c') V' /\
       Ow W0 V' 46 33 (.slice a' m' c') (xs++[z']).length ((xs++[z']).map zc).flatten (C++C')/\(∀ z∈xs++[z'],ZB z (C++C'))/\(xs++[z']).map az=(M.map az).take (j+1)/\(xs++[z']).length=j+1):=by
      intro z' C' V k1 k2 k3;refine ⟨j4l z' k2.1 V,?_⟩;obtain ⟨a',m',c',V',e1,e2,e3⟩:=jln hO hZB k3 k2 (by omega) rfl;refine ⟨a',m',c',V',e1,e2,e3,?_,by rw [af,hxl];rfl⟩;rw [hT,aj,hfst,List.map_singleton,k1]
     clear hO hZB hfst hxl hbW hT hr hf;go_wp2_with (first|(at_lookup;refine jm7 rfl _ _ rfl (b:=g) (n:=N+i) (M:=M) (by first|rfl|simp [av]) hMV (s:=z.1.name) hs (by first|rfl|simp [av]) ?_;rw [hv])|fail)
     refine CC.mono ?_;rintro e V1 ⟨z',C',rfl,hz1,hz2,hz3⟩;obtain ⟨hbs,a',m',c',V2,hr2,hOF⟩:=HF.out z' C' V1 hz1 hz2 hz3;have HO2:Hid (Ow W0 V2 46 33 (.slice a' m' c') (xs++[z']).length ((xs++[z']).map zc).flatten (C++C')/\(∀ z∈xs++[z'],ZB z (C++C'))/\(xs++[z']).map az=(M.map az).take (j+1)/\(xs++[z']).length=j+1):=hOF;clear HF CC hOF hMV hz1 hz2 hz3 hcell;go_wp2_with (first|(refine j20 rfl 37 1 #[(0,.tmp 43)] (by with_reducible rfl) hbs (by first|rfl|simp [av]) ?_)|(at_builtin;refine wpList_append_run (.tmp 39) (.tmp 44) 37 37 (by with_reducible rfl) hr2 rfl rfl (by first|rfl|simp [av]) (by first|rfl|simp [av]) ?_)|fail)
     go_roundw
     case rel=>exact ⟨j+1,a',m',c',xs++[z'],C++C',by omega,by go_num,rfl,HO2⟩
     case measure=>simp [intOf];omega
    ·have h2:¬((j:Int)<L):=by omega
     obtain rfl:j=L:=by omega
     have HF:Hid (∃ B C,TsB (.slice a m c) ((apz zs ys).map az) B C/\Mem w wr (B++C)):=by
      rw [HMe.out];obtain ⟨hO,hZB,hfst,hxl⟩:=HR.out;obtain ⟨B,hB,hM⟩:=hO.owb;refine ⟨B,C,⟨xs,by rw [hfst,HTE.out],hB,hZB⟩,?_⟩;exact ⟨HV0.out.2.trans (hM.below.mono HV0.out.2.size),fun x hx=>Nat.le_trans HV0.out.2.size (hM.low x hx),hM.at_,hM.apart⟩
     clear HR HC HZ HT HTE HV0;go_wp2_with fail;go_ret;exact ⟨_,rfl,HF.out⟩
end Df
end
section
namespace Ad
open Go.Lib (decDigits)
end Ad
end
section
open Go.RowKit Go.ChangeShapes Go.WideShapes Sm Cf Df
section
variable {H:Type} {enc:TypeId×Value->H} {W:World} {base:Nat} {held:Bool}
end
end
end Go.Proofs.YtdigofgjhaakmaaGreatDoor
