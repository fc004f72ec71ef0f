/- Parts of the proof. -/
import Derived.Test.YtdigofgjhaakmaaGreatDoorF28
set_option linter.all false
set_option maxHeartbeats 40000000
set_option maxRecDepth 20000
open Go.Proofs.Tryz
open Go.Value renaming int->aa,slice->ab
open List renaming length_drop->ac,getD->ae,eq_nil_of_length_eq_zero->af,append_nil->ag,singleton_append->ah,getElem?_eq_getElem->ai,mem_map->aj
open Nat renaming add_assoc->ak,zero_le->al,le_refl->am,zero_add->an
open Go.Act renaming eval->ao
namespace Go.Proofs.YtdigofgjhaakmaaGreatDoor
variable {v u:Value} {L:List (Nat×Obj)} {l:List Int} {a:Option Addr} {w W V:World} {cl:List Value} {n c:Nat}
section
open Go.RowKit Sm Cf
def s0A:Array Value:=(.int .u64 0::cz.toList).toArray
theorem jf9:s0A.all (·.oneCell')=true:=by kernel_rfl
theorem j53 {c:Cgf} (ver:Int) (b:u.oneCell'=true):(aa .u64 ver::cc c u).toArray.all (·.oneCell')=true:=by
 have:=zx c b;rw [Array.all_eq_true_iff_forall_mem] at this ⊢;intro x hx;simp only [List.mem_toArray,List.mem_cons] at hx;rcases hx with rfl|hx
 ·rfl
 ·exact this x (by simpa using hx)
theorem cv_u {c:Cgf} (h:CV V v c):∃ u,v=.agg (cc c u).toArray/\u.oneCell'=true:=by
 obtain ⟨-,u,e,h⟩:=h;exact ⟨u,e,h.one⟩
theorem jn6 (ver x:Int):(aa .u64 ver::cl).toArray.setIfInBounds 0 (.int .u64 x)=(aa .u64 x::cl).toArray:=by simp
def RdP (w:World) (ver:Int) (c:Cgf) (e:Ending) (V:World):Prop:=∃ u K,e=.returned (.tuple #[.agg (.int .u64 ver::cc c u).toArray,.int .i64 0])/\Mem w V K/\∀ w1:World,w1.heap.size<=w.heap.size->On w1 K (fun X=>CV X (.agg (cc c u).toArray) c)
theorem jqi {G:Nat} (D:Sl w a l G) (hn:l.length=n) (h8:8<=n) {c:Cgf} (hd:cdec (l.drop 8)=some c) :
 Calls prog 71 #[.slice a n G] w (RdP w (num (l.take 8)) c):=by
 obtain ⟨ad,rfl⟩:∃ ad,a=some ad:=by
  cases a with
  | none=>have:=D.nil rfl;have:=D.le;omega
  | some ad=>exact ⟨ad,rfl⟩
 rcases D.row.cells with e|⟨b,off,e,hc⟩
 ·rw [e] at hn;simp at hn;omega
 simp only [Option.some.injEq] at e;subst e;have c3:=D.le;have c4:=D.big;obtain ⟨f,P⟩:∃ g,w.heap.size=g:=⟨_,rfl⟩;have a1:Hid (∀ V,Below w.heap.size w V->∀ i,i<8->V.cell? ⟨b,off+i,none⟩=some (.int .u8 (l.getD i 0))):=fun V hV i hi=>by
  have h:=hc i (by omega);rw [hV.cell (p:=⟨b,off+i,none⟩) (j9 h)];exact h
 have HB:Hid (j6 l):=D.row.bytes;have a0:Hid (∀ V,Below w.heap.size w V->Calls prog 98 #[.slice (if G=8 then some ⟨b,off,none⟩ else some ⟨b,off+8,none⟩) (n-8) (G-8)] V (OPC V (some c))):=by
  intro V hV;have hs:Sl V (if G=8 then some ⟨b,off,none⟩ else some ⟨b,off+8,none⟩) (l.drop 8) (G-8):=by
   have hl:(l.drop 8).length=n-8:=by rw [ac,hn]
   refine ⟨⟨fun i=>?_,by have:=D.row.len;omega,?_⟩,by omega,by omega,fun e=>by split at e<;>cases e⟩
   ·have:(l.drop 8).getD i 0=l.getD (8+i) 0:=by simp [ae]
    rw [this];exact D.row.bytes _
   ·by_cases h0:n=8
    ·left;exact af (by omega)
    ·right;refine ⟨b,off+8,by rw [if_neg (by omega)],fun i hi=>?_⟩;have h:=hc (8+i) (by omega);have e2:(l.drop 8).getD i 0=l.getD (8+i) 0:=by simp [ae]
     rw [e2,hV.cell (p:=⟨b,off+8+i,none⟩) (by rw [ak];exact j9 h),ak];exact h
  have:=j4y hs;rw [hd,ac,hn] at this;exact this
 obtain ⟨N,hN⟩:∃ N,num (l.take 8)=N:=⟨_,rfl⟩;rw [hN];have HN:Hid (∀ i,i<8->num (l.take (i+1))=num (l.take i)*256+l.getD i 0/\0<=num (l.take i)/\num (l.take i)<72057594037927936):=by
  intro i hi;refine ⟨jbo l i (by omega),?_⟩;have hr:=j0m (j0e HB.out i);rw [List.length_take,Nat.min_eq_left (by omega)] at hr;have hp:(256:Int) ^ i<=256 ^ 7:=by
   match i,hi with
   | 0,_=>decide
   | 1,_=>decide
   | 2,_=>decide
   | 3,_=>decide
   | 4,_=>decide
   | 5,_=>decide
   | 6,_=>decide
   | 7,_=>decide
  have e6:(256:Int) ^ 7=72057594037927936:=by decide
  omega
 have b0:Hid (num (l.take 8)=N):=hN;clear hc D hd hN;have c7:(8:Int)<=n:=by omega
 have d0:(8:Int)<=G:=by omega
 have c5:(n:Int)<=G:=by omega
 have c9:¬((n:Int)<8):=by omega
 have a6:(prog.info? stS).map (·.size)=some s0A.size:=by kernel_rfl
 have d1:s0A.size=s0A.size:=rfl;have a8:Mem w (w.alloc (.cells s0A stS)) [(f,.cells s0A stS (0,0))]:=(Mem.nil w).push1 P.symm;go_enter func71,ntmps71;go_upto_region 1 with fail;refine j5 (fun X=>Mem w X [(f,.cells s0A stS (0,0))]) (by exact a8) ?_;intro V0 j
 try simp only [P]
 clear a8 P;obtain ⟨d,o⟩:∃ g,V0.heap.size=g:=⟨_,rfl⟩;have a5:(V0.alloc (.cells s0A stS)).heap[d]?=some (.cells s0A stS (0,0)):=by rw [<-o];exact heap_alloc_new _ _
 have b3:Hid (Mem w ((V0.alloc (.cells s0A stS)).setRow d s0A) [(d,.cells s0A stS (0,0)),(f,.cells s0A stS (0,0))]):=by
  rw [<-o,World.setRow_alloc_new];exact j.front _ rfl
 clear j;go_upto_region 4 with (refine wpList_store_row rfl stS (.tmp 4) (.tmp 13) (by with_reducible rfl) d s0A (by simp [ao];try exact o) (by first|rfl|simp [ao]) stS s0A a5 a6 rfl jf9 ?_)
 refine j5 (fun X=>Mem w X [(d,.cells s0A stS (0,0)),(f,.cells s0A stS (0,0))]) (by exact b3.out) ?_;intro V1 j
 try simp only [o]
 clear b3 o a5;have HM:Hid (Mem w V1 [(d,.cells (aa .u64 (num (l.take 0))::cz.toList).toArray stS (0,0)),(f,.cells s0A stS (0,0))]):=j;clear j;go_wp2_with fail
 go_loopw [17] (fun u17 w'=>∃ i:Nat,i<=8/\u17=.int .i64 i/\Hid (Mem w w' [(d,.cells (aa .u64 (num (l.take i))::cz.toList).toArray stS (0,0)),(f,.cells s0A stS (0,0))])) (fun u17 w'=>8-(intOf u17).toNat)
 case atStart=>exact ⟨0,al _,rfl,HM⟩
 case round =>
  obtain ⟨i,hi,rfl,Y⟩:=hrel;clear HM;by_cases hlt:i<8
  ·have h1:(i:Int)<8:=by omega
   have b8:=a1.out _ Y.out.below i hlt;have hb:=HB.out i;obtain ⟨O,b5,b4⟩:=HN.out i hlt;have c0:wr.cell? ⟨d,0,none⟩=some (.int .u64 (num (l.take i))):=by rw [Y.out.cell 0 rfl];rfl
   have f0:=Y.out.free 0 rfl 0;have t:=Y.out.set 0 rfl 0 (.int .u64 (num (l.take (i+1))));simp only [List.set_cons_zero] at t;rw [jn6,O] at t;have HT:Hid (num (l.take (i+1))=num (l.take i)*256+l.getD i 0):=O;clear O;generalize num (l.take i)=x at *;generalize l.getD i 0=y at *;have e1:IntKind.u64.wrap (x*256)=x*256:=by rw [qj];omega
   have e2:IntKind.u64.wrap y=y:=by rw [qj];omega
   have e3:=j84 x y ⟨b5,b4⟩ hb;have e4:x*256 % 18446744073709551616=x*256:=by omega
   have e5:y % 18446744073709551616=y:=by omega
   have c1:Hid (Mem w (wr.setCell ⟨d,0,none⟩ (.int .u64 (x*256+y))) [(d,.cells (aa .u64 (x*256+y)::cz.toList).toArray stS (0,0)),(f,.cells s0A stS (0,0))]):=t;clear t a1 a0 HN Y;go_wp2_with fail;go_roundw
   case rel=>exact ⟨i+1,by omega,by go_num,by rw [HT.out];exact c1⟩
   case measure=>simp [intOf];omega
  ·have h1:¬((i:Int)<8):=by omega
   obtain rfl:i=8:=by omega
   have j:=Y.out;rw [b0.out] at j;clear Y HN a1 b0;have C:=a0.out wr j.below;have HM:Hid (Mem w wr [(d,.cells (aa .u64 N::cz.toList).toArray stS (0,0)),(f,.cells s0A stS (0,0))]):=j;clear j a0;obtain ⟨ta,b6⟩:∃ ta,(if G=8 then some (⟨b,off,none⟩:Addr) else some ⟨b,off+8,none⟩)=ta:=⟨_,rfl⟩;rw [b6] at C;go_wp2_with fail;refine C.mono ?_;rintro e V2 hO;obtain ⟨hb2,v,rfl,a7⟩:=hO;have a3:=HM.out.below.size;have s:∀ w1:World,w1.heap.size<=w.heap.size->On w1 (nws wr.heap.size V2) (fun X=>CV X v c):=fun w1 h1=>a7.on (Nat.le_trans h1 a3);have E:=HM.out.more (jns hb2);have r:=s w (am _) V2 E.below (fun x hx=>(j9q hx).2);obtain ⟨u,rfl,hu⟩:=cv_u r;have b7:=r.1;obtain ⟨A,hA⟩:∃ A,(cc c u).toArray=A:=⟨_,rfl⟩;have k:A.size=29:=by rw [<-hA,List.size_toArray];exact je b7 _
   have I:A.all (·.oneCell')=true:=by rw [<-hA];exact zx c hu
   have M:(prog.info? 39).map (·.size)=some A.size:=by rw [k];kernel_rfl
   obtain ⟨K,hK⟩:∃ K,nws wr.heap.size V2=K:=⟨_,rfl⟩;rw [hK] at s E;have Z:Hid ((∀ w1:World,w1.heap.size<=w.heap.size->On w1 K (fun X=>CV X (.agg (cc c u).toArray) c))/\(cc c u).toArray=A/\(j53 (c:=c) (u:=u) N hu=j53 (c:=c) (u:=u) N hu)):=⟨s,hA,rfl⟩;obtain ⟨F,m⟩:∃ g,V2.heap.size=g:=⟨_,rfl⟩;have a4:(V2.alloc (.cells cz 39)).heap[F]?=some (.cells cz 39):=by rw [<-m];exact heap_alloc_new _ _
   have b2:Hid (Mem w ((V2.alloc (.cells cz 39)).setRow F A) ((F,.cells A 39)::(K++[(d,.cells (aa .u64 N::cz.toList).toArray stS (0,0)),(f,.cells s0A stS (0,0))]))):=by
    rw [<-m,World.setRow_alloc_new];exact E.front _ rfl
   rw [hA];have H:(cz:Array Value).size=A.size:=by rw [k];rfl
   have a9:(aa .u64 N::A.toList).toArray.size=30:=by simp [k]
   have b9:(aa .u64 N::A.toList).toArray.all (·.oneCell')=true:=by rw [<-hA];exact j53 N hu
   clear E a7 r s C HM hA hK hb2;go_upto_region 10 with (refine wpList_store_row rfl 39 (.tmp 7) (.tmp 33) (by with_reducible rfl) F A (by simp [ao];try exact m) (by first|rfl|simp [ao]) 39 cz a4 M H I ?_)
   refine j5 (fun X=>Mem w X ((F,.cells A 39)::(K++[(d,.cells (aa .u64 N::cz.toList).toArray stS (0,0)),(f,.cells s0A stS (0,0))]))) (by exact b2.out) ?_;intro V3 U
   try simp only [m]
   clear b2 a4 m H;have k7:=U.get 0 rfl;have S:Mem w V3 ((d,.cells (([aa .u64 N])++(cz.toList++[])).toArray stS (0,0))::(f,.cells s0A stS (0,0))::(F,.cells A 39)::K):=U.perm (by
    classical
    rw [List.perm_iff_count];intro z;simp only [List.count_append,List.count_cons,List.count_nil,ag,ah];omega)
   have a2:V3.there d 1 A.size:=j44 S (by rw [k];exact am 30);have R:=j45 A.toList cz.toList [aa .u64 N] V3 (by rw [Array.length_toList,Array.length_toList,k];rfl) S;rw [ag,ah,List.length_singleton] at R;have b1:Hid (Mem w (V3.setCells d 1 A.toList) ((d,.cells (aa .u64 N::A.toList).toArray stS (0,0))::(f,.cells s0A stS (0,0))::(F,.cells A 39)::K)):=R;clear U S R;have CF:=jk 0 V3;go_wp2_with fail;refine CF.mono ?_;rintro e _ ⟨rfl,rfl⟩;have hz0:((0:Int) != 0)=false:=rfl;go_upto_region 13 with (first|(refine wpList_load_row rfl 39 (.tmp 7) (by with_reducible rfl) F (by first|rfl|simp [ao]) 39 A (0,0) _ k7 underlying39 rfl M ?_)|(refine wpList_store_mid rfl 39 (.tmp 41) (.tmp 40) (by with_reducible rfl) d 1 A (by first|rfl|simp [ao]) (by first|rfl|simp [ao]) a2 M I ?_)|fail)
   refine j5 (fun X=>Mem w X ((d,.cells (aa .u64 N::A.toList).toArray stS (0,0))::(f,.cells s0A stS (0,0))::(F,.cells A 39)::K)) (by exact b1.out) ?_;intro V4 j;clear b1 a2 k7;have k4:=j.get 0 rfl;have k2:=j.get 1 rfl;have Q:=j.wrote 1 rfl (j8 V4 f _ (aa .u64 N::A.toList).toArray _ k2);have hR:RdP w N c (.returned (.tuple #[.agg (aa .u64 N::A.toList).toArray,.int .i64 0])) (V4.setRow f (aa .u64 N::A.toList).toArray):=by
    refine ⟨u,K,by rw [<-Z.out.2.1],Q.sub.sub.sub,Z.out.1⟩
   have k6:(V4.setRow f (aa .u64 N::A.toList).toArray).heap[f]?=some (.cells (aa .u64 N::A.toList).toArray stS (0,0)):=Q.get 1 rfl;generalize hB:(aa .u64 N::A.toList).toArray=B at *;have J:(prog.info? stS).map (·.size)=some B.size:=by rw [a9];kernel_rfl
   have z30:s0A.size=B.size:=by rw [a9];rfl
   have c2:Hid (RdP w N c (.returned (.tuple #[.agg B,.int .i64 0])) (V4.setRow f B)):=hR;clear j Q Z hR hB;go_wp2_with (first|(refine wpList_load_row rfl stS (.tmp 4) (by with_reducible rfl) d (by first|rfl|simp [ao]) stS B (0,0) _ k4 underlying96 rfl J ?_)|(refine wpList_store_row rfl stS (.tmp 2) (.tmp 42) (by with_reducible rfl) f B (by first|rfl|simp [ao]) (by first|rfl|simp [ao]) stS s0A k2 J z30 b9 ?_)|fail)
   refine bodyPost_ret (v:=.tuple #[.agg B,.int .i64 0]) ?_ rfl c2.out;exact jx (p:=2) (q:=3) (ty:=stS) rfl _ _ f _ rfl (run_loadVar_row _ _ stS stS _ (0,0) _ k6 underlying96 rfl J)
end
section
open Go.RowKit Va
theorem j3k (l:List Int):(ux l).flatten=l.map (aa .u32):=by
 induction l with
 | nil=>rfl
 | cons x l ih=>simp only [ux,List.map_cons,List.flatten_cons] at ih ⊢;rw [ih];rfl
theorem j72 (r:Mem w W L) (h:Rw W 1 (.slice a l.length c) (ux l)) (y:l.length<=1000000) :
  ∃ o q,(Builtin.append_ #[43,43] 43 #[.slice none 0 0,.slice a l.length c]).run prog W=.ok o q/\Ow w q 33 1 o l.length (ux l).flatten L:=by
 have f:Ow w W 33 1 (.slice none 0 0) 0 [] L:=Ow.nil r;have z:(ux l).length=l.length:=by simp [ux]
 obtain ⟨D,C,e,B,A,t,s⟩:=h;simp only [ab.injEq] at e;obtain ⟨rfl,-,rfl⟩:=e;cases a with
 | none =>
  have hc:c=0:=t rfl;have k:l=[]:=af (by omega);subst hc;subst k;obtain ⟨i,hi,-,-,-⟩:=info_parts j86;exact ⟨_,_,run_append_owned_none (P:=prog) W w.heap.size 43 43 33 i 1 underlying43 hi _ _ _ f.owns,f⟩
 | some ad =>
  have:=yi (ty:=43) underlying43 j86 rfl (by decide) f ad l.length c (ux l).flatten (by rw [j3k];simp) (by
   intro j u d;rcases s with e|⟨b,off,e,hc⟩
   ·rw [e] at d;simp at d
   ·cases e;rw [j3k] at d;have m:j<l.length:=by
     have:=(List.getElem?_eq_some_iff.mp d).1;simpa using this
    have:=hc j (by omega) 0 u (by
     rw [<-d];simp [ux,ae,ai m])
    rw [Addr.add_mid];simpa using this) (by
   intro u p;rw [j3k] at p;obtain ⟨x,-,rfl⟩:=aj.mp p;rfl) (by unfold maxLen;omega) (by omega)
  rw [an,List.nil_append] at this;exact this
theorem jsu (h:Ow w W 33 1 v n (ux l).flatten L) (d:n=l.length):Rw W 1 v (ux l):=by
 obtain ⟨B,b,f⟩:=h.owb;have e:(ux l).length=n:=by simp [ux,d]
 rw [<-e] at b;exact jqo (by intro x hx;obtain ⟨y,-,rfl⟩:=aj.mp hx;rfl) b f
theorem jcz {t:Ten} (h:TV w v t) (z:TSm t) :
  Calls prog 64 #[v] w fun e w'=>∃ u,e=.returned u/\Rw w' 1 u (ux (t.pool++snd' t.stat))/\Below w.heap.size w w':=by
 obtain ⟨r,pa,Z,qa,pc,sc,qc,rfl,hx⟩:=h.tb;obtain ⟨g,O⟩:∃ g,w.heap.size=g:=⟨_,rfl⟩;have p:Hid (Mem w (w.alloc (.cells r.toArray 46)) [(g,.cells r.toArray 46)]):=(Mem.nil w).push1 O.symm;obtain ⟨a2,a0,e,-,-,s⟩:=rw_p hx.rs;simp only [ab.injEq] at e;obtain ⟨rfl,-,rfl⟩:=e;have H:Hid (∀ X,Mem w X [(g,.cells r.toArray 46)]->X.cell? ⟨g,27,none⟩=some (.slice Z t.stat.length sc)/\X.cell? ⟨g,23,none⟩=some (.slice pa t.pool.length pc)/\(∀ i,i<t.stat.length->∃ b f,Z=some ⟨b,f,none⟩/\X.cell? ⟨b,f+i*2+1,none⟩=some (.int .u32 (t.stat.getD i (0,0)).2))/\∃ Y W',(Builtin.append_ #[43,43] 43 #[.slice none 0 0,.slice pa t.pool.length pc]).run prog X=.ok Y W'/\Ow w W' 33 1 Y t.pool.length (ux t.pool).flatten [(g,.cells r.toArray 46)]):=by
  intro X B;refine ⟨jb (B.get 0 rfl) hx.stat,jb (B.get 0 rfl) hx.pool,fun i hi=>?_,j72 B (hx.later B.below).rp z.2.1⟩;obtain ⟨b,f,Q,h2⟩:=s i hi;exact ⟨b,f,Q,(h2 X B.below).2⟩
 have hN:t.stat.length<=300+999700:=z.2.2.1;have I:Hid (t.pool.length<=1000000/\t.stat.length<=1000000):=⟨z.2.1,z.2.2.1⟩;have S:Hid (∀ i,i<t.stat.length->(ux (t.pool++(snd' t.stat).take (i+1))).flatten=(ux (t.pool++(snd' t.stat).take i)).flatten++[.int .u32 (t.stat.getD i (0,0)).2]):=by
  intro i hi;rw [j3k,j3k,List.take_add_one];simp [snd',ae,ai hi]
 have G:Hid (t.pool++(snd' t.stat).take t.stat.length=t.pool++snd' t.stat/\(t.pool++snd' t.stat).length=t.pool.length+t.stat.length/\(ux (t.pool++(snd' t.stat).take 0)).flatten=(ux t.pool).flatten):=⟨by rw [List.take_of_length_le (by simp [snd'])],by simp [snd'],by simp⟩;clear h z hx s;obtain ⟨A,hA⟩:∃ A,r.toArray=A:=⟨_,rfl⟩;rw [hA] at p H ⊢;clear hA;generalize t.pool.length=M at *;generalize t.stat.length=n at *;go_enter func64,ntmps64;go_upto_region 1 with fail;refine j5 (fun X=>Mem w X [(g,.cells A 46)]) (by exact p.out) ?_;intro V hM
 try simp only [O]
 clear p O;obtain ⟨-,R,-,v1,V1,x,o⟩:=H.out V hM;obtain ⟨B1,E,-⟩:=o.owb;obtain ⟨a1,m1,c1,rfl⟩:=js E;have U:Hid (Ow w V1 33 1 (.slice a1 m1 c1) (M+0) (ux (t.pool++(snd' t.stat).take 0)).flatten [(g,.cells A 46)]):=by rw [G.out.2.2];exact o
 clear hM o E;go_wp2_with (at_builtin;refine wpList_append_run _ (.tmp 6) 43 43 (by with_reducible rfl) x rfl rfl (by first|rfl|simp [ao]) (by first|rfl|simp [ao]) ?_)
 clear x R
 go_loopw [3,4] (fun u3 u4 w'=>∃ (i:Nat) (a:Option Addr) (m c:Nat),i<=n/\u4=.int .i64 i/\u3=.slice a m c/\Hid (Ow w w' 33 1 (.slice a m c) (M+i) (ux (t.pool++(snd' t.stat).take i)).flatten [(g,.cells A 46)])) (fun u3 u4 w'=>n-(intOf u4).toNat)
 case atStart=>exact ⟨0,a1,m1,c1,al _,rfl,rfl,U⟩
 case round =>
  obtain ⟨i,a,m,c,hi,rfl,rfl,q⟩:=hrel;obtain ⟨a3,-,d,-⟩:=H.out _ q.out.mem;by_cases hlt:i<n
  ·have Q:(i:Int)<n:=by omega
   obtain ⟨b,f,rfl,d0⟩:=d i hlt;have F:=S.out i hlt;generalize (t.stat.getD i (0,0)).2=y at *;have C:=q.out.after ((Below.refl wr.heap.size wr).alloc (am _) (.cells #[.int .u32 y] 33));obtain ⟨v4,V4,N,k⟩:=yi (ty:=43) underlying43 j86 rfl (by decide) C ⟨wr.heap.size,0,none⟩ 1 1 [.int .u32 y] rfl (fun j u hj=>by
    rw [Addr.add_mid,an,World.cell?_alloc_new];simpa using hj) (by simp;rfl) (by have:=I.out;unfold maxLen;omega) (by have:=I.out;omega)
   obtain ⟨B4,D,-⟩:=k.owb;obtain ⟨a4,m4,c4,rfl⟩:=js D;have J:Hid (Ow w V4 33 1 (.slice a4 m4 c4) (M+(i+1)) (ux (t.pool++(snd' t.stat).take (i+1))).flatten [(g,.cells A 46)]):=by rw [F,<-ak];exact k
   clear C k D F d H S G U q I;go_wp2_with (at_builtin;refine wpList_append_run (.tmp 15) (.tmp 22) 43 43 (by with_reducible rfl) N rfl rfl (by first|rfl|simp [ao]) (by first|rfl|simp [ao]) ?_)
   go_roundw
   case rel=>exact ⟨i+1,a4,m4,c4,by omega,by go_num,rfl,J⟩
   case measure=>simp [intOf];omega
  ·have Q:¬((i:Int)<n):=by omega
   obtain rfl:i=n:=by omega
   have P:=q.out;rw [G.out.1] at P;have J:Hid (Rw wr 1 (.slice a m c) (ux (t.pool++snd' t.stat))/\Below w.heap.size w wr):=⟨jsu P G.out.2.1.symm,q.out.mem.below⟩;clear P d H S G U q I;go_wp2_with fail;go_ret;exact ⟨_,rfl,J.out.1,J.out.2⟩
end
section
open Go.RowKit Va
open Ad (nam)
theorem j2n {t:Ten} (p:Vs W) (h:TV W v t) (q:TSm t):Calls prog 101 #[v] W fun e V=>e=.returned (.int .i64 (tchk t))/\Below W.heap.size W V:=by
 obtain ⟨b,I,E,G,H,sc,F,rfl,hx⟩:=h.tb;obtain ⟨g,m⟩:∃ g,W.heap.size=g:=⟨_,rfl⟩;have d:Mem W (W.alloc (.cells b.toArray 46)) [(g,.cells b.toArray 46)]:=(Mem.nil W).push1 m.symm;have f:Hid (Mem W (W.alloc (.cells b.toArray 46)) [(g,.cells b.toArray 46)]):=d;have y:Hid (∀ X,Below W.heap.size W X->Calls prog 134 #[.agg b.toArray] X (Rls X (Va.trs t))):=fun X r=>jcm (p.below r) (hx.later r).tv q;have k:=j5b hx.len;have B:Hid ((Va.trs t).length=17):=rfl;unfold tchk;clear p h q hx d;generalize Va.trs t=ES at *;generalize b.toArray=A at *;go_enter func101,ntmps101;go_upto_region 1 with fail;refine j5 (fun X=>Mem W X [(g,.cells A 46)]) (by exact f.out) ?_;intro V j
 try simp only [m]
 clear f m;have z:=j.get 0 rfl;have C:=y.out V j.below;have o:Hid (Below W.heap.size W V):=j.below;clear y j;go_wp2_with (refine wpList_load_row rfl 46 (.tmp 1) (by with_reducible rfl) g (by first|rfl|simp [ao]) 46 A (0,0) _ z underlying46 rfl k ?_)
 refine C.mono ?_;rintro _ X ⟨J,rfl,x,s⟩;have D:=j4f rfl (by rw [B.out];omega) x;have i:Hid (Below W.heap.size W X):=o.out.trans (s.mono o.out.size);clear C x s o;go_wp2_with fail;refine D.mono ?_;rintro _ M ⟨rfl,hb⟩;go_wp2_with fail;go_ret;exact ⟨rfl,i.out.trans (hb.mono i.out.size)⟩
end
section
open Go.RowKit La Ad
open Sm (j6)
namespace La
def adr (a b c d:Int):Int:=a*16777216+b*65536+c*256+d
theorem j4p {a b c d:Int} (e:0<=a/\a<=255) (hb:0<=b/\b<=255) (hc:0<=c/\c<=255) (hd:0<=d/\d<=255):R32 (adr a b c d):=by unfold R32 adr;omega
structure SRg (lo hi fi se qu ra bu:Int):Prop where
 lo:0<=lo/\lo<=9999
 hi:0<=hi/\hi<=9999
 fi:0<=fi/\fi<=2
 se:0<=se/\se<=99
 qu:0<=qu/\qu<=99
 ra:0<=ra/\ra<=99
 bu:0<=bu/\bu<=99
end La
theorem yx (w:World) (a b c d:Int) (f:0<=a/\a<=255) (hb:0<=b/\b<=255) (hc:0<=c/\c<=255) (hd:0<=d/\d<=255) :
  Calls prog 66 #[.int .u8 a,.int .u8 b,.int .u8 c,.int .u8 d] w fun e w'=>e=.returned (.int .u32 (adr a b c d))/\w=w':=by
 have p:bits .or .u32 (a*16777216) (b*65536)=a*16777216+b*65536 :=
  bits_join .u32 32 (by decide) wraps_u32 24 (a*16777216) (b*65536) (by omega) (by omega) (by omega) (by omega) (by omega) (by omega)
 have o:bits .or .u32 (a*16777216+b*65536) (c*256)=a*16777216+b*65536+c*256 :=
  bits_join .u32 32 (by decide) wraps_u32 16 (a*16777216+b*65536) (c*256) (by omega) (by omega) (by omega) (by omega) (by omega) (by omega)
 have m:bits .or .u32 (a*16777216+b*65536+c*256) d=a*16777216+b*65536+c*256+d :=
  bits_join .u32 32 (by decide) wraps_u32 8 (a*16777216+b*65536+c*256) d (by omega) (by omega) (by omega) (by omega) (by omega) (by omega)
 have k:=jg a f.1 (by omega);have j:=jg b hb.1 (by omega);have i:=jg c hc.1 (by omega);have h:=jg d hd.1 (by omega);have u1:=jg (a*16777216) (by omega) (by omega);have u2:=jg (b*65536) (by omega) (by omega);have u3:=jg (c*256) (by omega) (by omega);clear f hb hc hd;go_enter func66,ntmps66
 go_wp2
 go_ret;exact ⟨rfl,rfl⟩
end
section
open Go.RowKit La Ad
section
variable {w V:World} {g:Nat} {post:List Value} {T:TypeId} {σ:Sg} {W K:List (Nat×Obj)}
end
end
section
open Go.RowKit Sm Cf Df
namespace Df
end Df
end
end Go.Proofs.YtdigofgjhaakmaaGreatDoor
