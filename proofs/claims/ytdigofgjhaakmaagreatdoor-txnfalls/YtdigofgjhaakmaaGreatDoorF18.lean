/- Parts of the proof. -/
import Derived.Test.YtdigofgjhaakmaaGreatDoorF17
import Derived.Test.YtdigofgjhaakmaaGreatDoorF16
set_option linter.all false
set_option maxHeartbeats 40000000
set_option maxRecDepth 20000
open Go.Proofs.Tryz
open List renaming getLastD_eq_getLast?->aa,eq_nil_or_concat->ab,perm_middle->ac,append_assoc->ad,perm_append_comm->af,flatMap_cons->ag,flatMap_nil->ah,cons_append->ai,nil_append->aj,append_nil->ak,mem_cons_self->al,mem_cons_of_mem->am,replicate->an,getD->ao,getElem?_replicate->ap,mem_append_left->ar
open Go.IntKind renaming u64->au,wrap->aw,bits->ax,signed->ay,wrap_i64->az,i64->aA
open List.Perm renaming cons->aB,swap->aD,append_left->aE
open Or renaming inl->aF,inr->aG
open Nat renaming le_refl->aH,le_one_iff_eq_zero_or_eq_one->aI,sub_zero->aJ,sub_self->aK
open Int renaming toNat_natCast->aL
namespace Go.Proofs.YtdigofgjhaakmaaGreatDoor
variable {bl all bl':List (List Int)} {B t c:Int} {r l:List Int} {K Y L:List (Nat×Obj)} {a av:Option Addr} {W' w W:World} {n s m:Nat} {ga:Addr} {u v:Value}
section
open Go.RowKit Sm
theorem jnd {b:Nat} {x:En} (h:rd bl b=some x):x.s=b:=by
 unfold rd at h;split at h
 ·cases h
 ·simp only [Option.map_eq_some_iff] at h;obtain ⟨r,-,rfl⟩:=h;rfl
theorem jnt (bl:List (List Int)):(nw (fd bl)).s<=1:=by
 unfold nw;rw [aa];cases hx:(fd bl).getLast? with
 | none=>simp [En.zero]
 | some x =>
  have:=List.mem_of_getLast? hx;rcases jlu this with e|e<;>simp [jnd e]
theorem j16.mono {p h:Nat} {e:List (Nat×Obj)} (g:j16 w p h m L a r) (hs:∀ x∈L,x∈e):j16 w p h m e a r :=
 fun W' j d b i H f=>g W' j d b i H fun x hx=>f x (hs x hx)
theorem jlo (e:4<=n) (b:n<=64) (f:256<=m) (d:m<=65536) (hr:r.length<=room n m) (hb:j6 r) (hc:0<=(lnxt t c (nw (fd bl)) r).c):EnOk n m (lnxt t c (nw (fd bl)) r):=by
 refine ⟨by simp only [lnxt];omega,?_,⟨hc,?_⟩,?_,hb,e,b,f,d⟩
 ·simp only [lnxt];have:au.wrap ((nw (fd bl)).t+1)=((nw (fd bl)).t+1) % 18446744073709551616:=by simp [aw,ax,ay]
  rw [this];omega
 ·simp only [lnxt];rw [az];omega
 ·simp only [lnxt];unfold room at hr;rw [if_pos ⟨e,f⟩] at hr;omega
section
variable {w W:World} {p h m:Nat} {D:Dk} {hc:Array Value} {ks:List Bk} {L:List (Nat×Obj)} {pl:Nat} {t c:Int} {v:Value}
theorem j1t (H:DkAt w W p h m D hc ks ((pl,.cells (lgA p t c v) lgT (0,0))::L)) (j:Nat):W.cell? ⟨pl,j,none⟩=(lgA p t c v)[j]?:=cell_of (H.has (x:=(pl,.cells (lgA p t c v) lgT (0,0))) (by simp)) j
theorem je4 (H:DkAt w W p h m D hc ks ((pl,.cells (lgA p t c v) lgT (0,0))::L)) (a:Option Addr) (k cap:Nat) (d:room ks.length m<k) :
  Calls prog 60 #[.pointer (some ⟨pl,0,none⟩),.slice a k cap] W fun e W'=>e=.returned (.int .i64 51)/\W=W':=by
 have b:=j1t H 0;simp at b;have hr:=j49 H;generalize room ks.length m=R at *;have q:(R:Int)<(k:Int):=by omega
 clear H;go_enter func60,ntmps60;go_wp2_with fail;refine hr.mono ?_;rintro e w' ⟨rfl,rfl⟩
 go_wp2
 go_ret;exact ⟨rfl,rfl⟩
structure ApEnd (w W:World) (p h m:Nat) (D0:Dk) (hc:Array Value) (bl:List (List Int)) (L:List (Nat×Obj)) (pl:Nat) (t c:Int) (v:Value) (e:En) (err:Int) (D:Dk) (ks:List Bk) (c':Int) (v':Value) (X K:List (Nat×Obj)):Prop where
 at_:DkAt w W p h m D hc ks ((pl,.cells (lgA p e.t c' v') lgT (0,0))::(X++(K++L)))
 ok:(err=0/\D.dead=false/\(D0.set=false->D=D0)/\ks.map Bk.b=yj m e bl (npc (m-64) e.r.length)/\c'=e.c/\OwnV v' e.r X)\/(err=42/\D=gone/\D0.set=true/\Left m e bl (ks.map Bk.b)/\c'=c/\v'=v/\X=[])
theorem jal (H:DkAt w W p h m D hc ks ((pl,.cells (lgA p t c v) lgT (0,0))::L)) (hG:Gl w ga) (hd:D.dead=false) (hn:4<=ks.length) (hm:256<=m) {k cap:Nat} (hr:r.length=k) (hk:k<=room ks.length m) (a7:k<=cap) (b9:(a=none/\cap=0)\/∃ b b8,a=some ⟨b,b8,none⟩)
  (hB:j16 w p h m L a r) (hb:j6 r) (a6:0<=(lnxt t c (nw (fd (ks.map Bk.b))) r).c) {kv cv:Nat} (hv:v=.slice av kv cv) :
  Calls prog 60 #[.pointer (some ⟨pl,0,none⟩),.slice a k cap] W fun ev W'=>∃ A,ev=.returned (.int .i64 A)/\∃ S y c' v' X K,ApEnd w W' p h m D hc (ks.map Bk.b) L pl t c v (lnxt t c (nw (fd (ks.map Bk.b))) r) A S y c' v' X K:=by
 have k0:=j1t H 0;simp at k0;have c0:=j49 H;have hf:=j8a H (hG.on H.st.mem) hd hn hm;have a5:=jlo (t:=t) (c:=c) (bl:=ks.map Bk.b) hn H.top hm H.mhi (by rw [hr];exact hk) hb a6;have a2:=jnt (ks.map Bk.b);have HL:=jlv (ks.map Bk.b);have q:¬((room ks.length m:Nat):Int)<(k:Int):=by omega
 generalize room ks.length m=R at *;have HH:Hid (DkAt w W p h m D hc ks ((pl,.cells (lgA p t c v) lgT (0,0))::L)):=H;have b2:Hid (EnOk ks.length m (lnxt t c (nw (fd (ks.map Bk.b))) r)):=a5;have b3:Hid (j16 w p h m L a r):=hB;generalize c3:fd (ks.map Bk.b)=FD at *;generalize a3:nw FD=nq at *;have a9:Hid (nw FD=nq):=a3;obtain ⟨e,C⟩:∃ e,e=lnxt t c nq r:=⟨_,rfl⟩;rw [<-C];have b0:Hid (e=lnxt t c nq r):=C;have c7:Hid (EnOk ks.length m e):=by rw [C];exact b2.out
 have a0:Hid (e.r=r):=by rw [C];rfl
 clear H c3 a5 hB a6 hG a3 C b2;go_enter func60,ntmps60;go_wp2_with fail;refine c0.mono ?_;rintro e3 w' ⟨rfl,rfl⟩;go_wp2_with fail;refine hf.mono ?_;rintro e3 w2 ⟨v2,rfl,l,hl,Y,hE,K2,U⟩;have a4:l.length<=2:=by rw [<-List.length_map (f:=Prod.fst),hl];exact HL
 have hN:=j2g hE U a4;have T:=jbx l;rw [hl,a9.out] at T;have J:∃ aq kq cq,(j1u l).2=.slice aq kq cq:=by
  rcases ab l with e|⟨l',x,e⟩
  ·subst e;exact ⟨none,0,0,rfl⟩
  ·subst e;have:j1u (l'.concat x)=x:=by simp [j1u]
   rw [this];obtain ⟨a1,c1,e1⟩:=jgw hE (x:=x) (by simp);exact ⟨_,_,_,e1⟩
 obtain ⟨aq,kq,cq,J⟩:=J;rw [T,J] at hN;have H2:=HH.out.join U;obtain ⟨ae,ce,ee⟩:=hE.shape;subst ee;have HQ:Hid (∀ V K,Mem w2 V K->Calls prog 85 #[.pointer (some ⟨pl,0,none⟩),.agg (enA nq.s nq.t nq.c (.slice aq kq cq)),.slice a k cap] V fun e3 W'=>e3=.returned (.agg (enA e.s e.t e.c (.slice a k cap)))/\∃ K,Mem V W' K):=fun V K hV=>by
  rw [b0.out];exact jjf ((H2.join hV).has (x:=(pl,.cells (lgA p t c v) lgT (0,0))) (by simp)) nq a2 aq kq cq a k cap r hr
 have b5:Hid (DkAt w w2 p h m D hc ks ((Y++K2)++((pl,.cells (lgA p t c v) lgT (0,0))::L))):=H2;clear hf hE U hl T J H2 HL a2 HH a4 b0 a9;go_wp2_with fail;refine hN.mono ?_;rintro e3 w3 ⟨rfl,G,h3⟩;go_wp2_with fail;refine (HQ.out w3 G h3).mono ?_;rintro e3 w4 ⟨rfl,O,h4⟩;go_upto_region 7 with fail;have HA:DkAt w (w4.alloc (.cells (enA e.s e.t e.c (.slice a k cap)) enT)) p h m D hc ks ((pl,.cells (lgA p t c v) lgT (0,0))::((w4.heap.size,.cells (enA e.s e.t e.c (.slice a k cap)) enT (0,0))::((O++(G++(Y++K2)))++L))):=by
  have h5:=((b5.out.join h3).join h4).join (K:=[(w4.heap.size,.cells (enA e.s e.t e.c (.slice a k cap)) enT (0,0))]) ((Mem.nil w4).push1 rfl);refine h5.on (h5.st.perm ?_);have e9:∀ (P B:Nat×Obj) (O G Z L:List (Nat×Obj)),([B]++(O++(G++(Z++(P::L))))).Perm (P::(B::((O++(G++Z))++L))):=by
   intro P B O G Z L;have e8:([B]++(O++(G++(Z++(P::L)))))=(B::(O++(G++Z)))++(P::L):=by simp
   rw [e8];exact ac
  exact e9 _ _ _ _ _ _
 refine j5 (fun V=>DkAt w V p h m D hc ks ((pl,.cells (lgA p t c v) lgT (0,0))::((w4.heap.size,.cells (enA e.s e.t e.c (.slice a k cap)) enT (0,0))::((O++(G++(Y++K2)))++L)))) HA ?_;clear HA;intro wB HB;generalize w4.heap.size=d at *;generalize O++(G++(Y++K2))=M at *;clear h3 h4 b5 HQ hN;have x1:wB.cell? ⟨d,1,none⟩=some (.int .u64 e.t):=cell_of (HB.has (x:=(d,.cells (enA e.s e.t e.c (.slice a k cap)) enT (0,0))) (by simp)) 1;have y1:wB.cell? ⟨pl,1,none⟩=some (.int .u64 t):=j1t HB 1;have yf:wB.frozen? ⟨pl,1,none⟩=false:=HB.st.extraFree 1;have b4:Hid (DkAt w (wB.setCell ⟨pl,1,none⟩ (.int .u64 e.t)) p h m D hc ks ((pl,.cells (lgA p e.t c v) lgT (0,0))::((d,.cells (enA e.s e.t e.c (.slice a k cap)) enT (0,0))::(M++L)))):=HB.on (HB.st.extraSet 1 (.int .u64 e.t));clear HB;go_upto_region 8 with fail;refine j5 (fun V=>DkAt w V p h m D hc ks ((pl,.cells (lgA p e.t c v) lgT (0,0))::((d,.cells (enA e.s e.t e.c (.slice a k cap)) enT (0,0))::(M++L)))) b4.out ?_;clear b4 x1 y1 yf;intro wC HC;have HS:Hid (∀ V S y K,DkAt w V p h m S hc y (K++((pl,.cells (lgA p e.t c v) lgT (0,0))::((d,.cells (enA e.s e.t e.c (.slice a k cap)) enT (0,0))::(M++L))))->V.cell? ⟨pl,0,none⟩=some (.pointer (some ⟨p,0,none⟩))/\V.cell? ⟨d,0,none⟩=some (.int .i64 e.s)/\V.cell? ⟨d,1,none⟩=some (.int .u64 e.t)/\V.cell? ⟨d,2,none⟩=some (.int .i64 e.c)/\V.cell? ⟨d,3,none⟩=some (.slice a k cap)):=by
  intro V S y K hV;have g1:=hV.has (x:=(pl,.cells (lgA p e.t c v) lgT (0,0))) (by simp);have g2:=hV.has (x:=(d,.cells (enA e.s e.t e.c (.slice a k cap)) enT (0,0))) (by simp);exact ⟨cell_of g1 0,cell_of g2 0,cell_of g2 1,cell_of g2 2,cell_of g2 3⟩
 obtain ⟨u0,u1,u2,u3,u4⟩:=HS.out wC D ks [] HC;have a8:Hid (Calls prog 86 #[.pointer (some ⟨p,0,none⟩),.agg (enA e.s e.t e.c (.slice a k cap))] wC.drew fun ev W'=>∃ A,ev=.returned (.int .i64 A)/\∃ S y K,WrEnd w W' p h m D hc (ks.map Bk.b) ((pl,.cells (lgA p e.t c v) lgT (0,0))::((d,.cells (enA e.s e.t e.c (.slice a k cap)) enT (0,0))::(M++L))) e A S y K) :=
  jeb (HC.on HC.st.drew) hd e c7.out (by rw [a0.out];exact hr) a7 b9 (by rw [a0.out];exact b3.out.mono (fun q hq=>by simp [hq]))
 clear HC
 go_region_held3 (fun w'=>w'.cell? ⟨pl,0,none⟩=some (.pointer (some ⟨p,0,none⟩))/\w'.cell? ⟨d,0,none⟩=some (.int .i64 e.s)/\w'.cell? ⟨d,1,none⟩=some (.int .u64 e.t)/\w'.cell? ⟨d,2,none⟩=some (.int .i64 e.c)/\w'.cell? ⟨d,3,none⟩=some (.slice a k cap))
  (first|go_keep|assumption|exact HS.out _ _ _ _ o.at_)
  (first|(go_at_call 86;with_reducible refine a8.out.mono ?_;rintro e3 I ⟨A,rfl,D7,i,K7,o⟩))
 rcases o.ok with ⟨rfl,z1,z2,z3⟩|⟨rfl,z1,z2,z3⟩
 ·have H7:=o.at_;have z:DkAt w I p h m D7 hc i ((pl,.cells (lgA p e.t c v) lgT (0,0))::((d,.cells (enA e.s e.t e.c (.slice a k cap)) enT (0,0))::((K7++M)++L))):=by
   refine H7.on (H7.st.perm ?_);have e9:∀ (P B:Nat×Obj) (K Z L:List (Nat×Obj)),(K++(P::(B::(Z++L)))).Perm (P::(B::((K++Z)++L))):=by
    intro P B K Z L;refine ac.trans (aB P (ac.trans (aB B ?_)));rw [ad]
   exact e9 _ _ _ _ _
  have x2:I.cell? ⟨d,2,none⟩=some (.int .i64 e.c):=cell_of (z.has (x:=(d,.cells (enA e.s e.t e.c (.slice a k cap)) enT (0,0))) (by simp)) 2;have c2:d<I.drew.heap.size:=j9 x2;have b6:I.drew.cell? ⟨d,2,none⟩=some (.int .i64 e.c):=x2;have Q:Row I.drew a r:=j0v (b3.out _ _ _ _ _ z (fun q hq=>by simp [hq]));have c4:Hid (Calls prog 87 #[.slice a k cap] I.drew fun e W'=>∃ g,e=.returned (.slice (some ⟨g,0,none⟩) k k)/\Mem I.drew W' [(g,.cells (bs r) 5)]):=j0p hr Q cap;have c5:Hid (∀ V g,Mem I.drew V [(g,.cells (bs r) 5)]->V.cell? ⟨pl,2,none⟩=some (.int .i64 c)/\V.cell? ⟨pl,3,none⟩=some v/\(∀ j,V.frozen? ⟨pl,j,none⟩=false)/\DkAt w ((V.setCell ⟨pl,2,none⟩ (.int .i64 e.c)).setCell ⟨pl,3,none⟩ (.slice (some ⟨g,0,none⟩) k k)) p h m D7 hc i ((pl,.cells (lgA p e.t e.c (.slice (some ⟨g,0,none⟩) k k)) lgT (0,0))::([(g,.cells (bs r) 5)]++((d,.cells (enA e.s e.t e.c (.slice a k cap)) enT (0,0))::((K7++M)++L))))):=by
   intro V g hV;have H8:=(z.on z.st.drew).join hV;have F:DkAt w V p h m D7 hc i ((pl,.cells (lgA p e.t c v) lgT (0,0))::([(g,.cells (bs r) 5)]++((d,.cells (enA e.s e.t e.c (.slice a k cap)) enT (0,0))::((K7++M)++L)))):=H8.on (H8.st.perm (aD _ _ _));refine ⟨j1t F 2,j1t F 3,fun j=>F.st.extraFree j,F.on ?_⟩;exact (F.st.extraSet 2 (.int .i64 e.c)).extraSet 3 (.slice (some ⟨g,0,none⟩) k k)
  have c9:pl≠d:=by
   have:=z.st.mem.ne (i.length+2) (i.length+3) (g:=pl) (k:=d) z.st.extra (by
    show (i.map Bk.ob++_)[i.length+1]?=_;rw [List.getElem?_append_right (by simp)];simp;rfl) (by omega)
   exact this
  have E:Hid (D7.dead=false/\(D.set=false->D7=D)/\i.map Bk.b=yj m e (ks.map Bk.b) (npc (m-64) e.r.length)):=⟨z1,z2,z3⟩;clear o H7 z Q z1 z2 z3 HS a8 u0 u1 u2 u3 u4;go_upto_region 11 with fail;subst hv
  go_region_held3 (fun w'=>w'.cell? ⟨d,2,none⟩=some (.int .i64 e.c)) (first|go_keep|assumption|exact (q8.old c2).trans b6)
   (first|(go_at_call 87;with_reducible refine c4.out.mono ?_;rintro e3 w8 ⟨g8,rfl,q8⟩;obtain ⟨v2,v3,vf,vD⟩:=c5.out _ _ q8))
  all_goals go_wp2
  all_goals go_ret
  refine ⟨0,rfl,D7,i,e.c,.slice (some ⟨g8,0,none⟩) k k,[(g8,.cells (bs r) 5)],(d,.cells (enA e.s e.t e.c (.slice a k cap)) enT (0,0))::(K7++M),⟨?_,aF ⟨rfl,E.out.1,E.out.2.1,E.out.2.2,rfl,?_⟩⟩⟩
  ·exact vD
  ·rw [a0.out];refine aG ⟨Bk.mk g8 k (bs r) r,by rw [hr],rfl,⟨by rw [hr];exact aH _,by rw [jhn,hr];exact aH _,?_,rfl,hb⟩,rfl⟩;show List.take _ (List.map _ _)=_;exact List.take_of_length_le (by simp)
 ·have H7:=o.at_;have b1:Hid (∃ S y c' v' X K,ApEnd w I p h m D hc (ks.map Bk.b) L pl t c v e 42 S y c' v' X K):=by
   refine ⟨D7,i,c,v,[],(K7++((d,.cells (enA e.s e.t e.c (.slice a k cap)) enT (0,0))::M)),⟨?_,aG ⟨rfl,z1,z2,z3,rfl,rfl,rfl⟩⟩⟩;refine H7.on (H7.st.perm ?_);have e9:∀ (P B:Nat×Obj) (K Z L:List (Nat×Obj)),(K++(P::(B::(Z++L)))).Perm (P::([]++((K++(B::Z))++L))):=by
    intro P B K Z L;refine ac.trans (aB P ?_);simp
   exact e9 _ _ _ _ _
  clear o H7 z1 z2 z3
  go_wp2
  go_ret;exact ⟨42,rfl,b1.out⟩
end
end
section
open Go.RowKit Sm Cf
theorem j5g (h:Mem w W L) :
  Calls prog 124 #[] W fun e W'=>∃ f E,e=.returned f.val/\Mem w W' (E++L)/\Fw w E IC JC f spC:=by
 have y:Mem w (W.alloc (.cells #[.nilFunc,.nilFunc,.nilFunc] 189)) ((W.heap.size,.cells #[.nilFunc,.nilFunc,.nilFunc] 189)::([]++L)):=(h.push W.heap.size _ rfl).perm af;obtain ⟨o,g1⟩:∃ o,W.heap.size=o:=⟨_,rfl⟩;rw [g1] at y;clear h;go_enter func124,ntmps124;have C1:=jt9 y;go_wp2_with fail;refine C1.mono ?_;rintro e V1 ⟨⟨d8,d7,d6,a9,a8,a7⟩,E1,rfl,f0,S1,f9⟩;have F1:Hid (Fw w E1 _ _ ⟨d8,d7,d6,a9,a8,a7⟩ _):=f9;have T1:Hid (Sub [] E1):=S1;simp only [Fv.val];clear C1 y f9 S1;have C2:=jsd f0;go_wp2_with fail;refine C2.mono ?_;rintro e V2 ⟨⟨d5,d4,d3,a6,a5,a4⟩,E2,rfl,b,S2,f8⟩;have F2:Hid (Fw w E2 _ _ ⟨d5,d4,d3,a6,a5,a4⟩ _):=f8;have T2:Hid (Sub E1 E2):=S2;simp only [Fv.val];clear C2 f0 f8 S2;have C3:=jsc b;go_wp2_with fail;refine C3.mono ?_;rintro e V3 ⟨⟨d2,d1,d0,a3,a2,a1⟩,E3,rfl,j,S3,f7⟩;have F3:Hid (Fw w E3 _ _ ⟨d2,d1,d0,a3,a2,a1⟩ _):=f7;have T3:Hid (Sub E2 E3):=S3;simp only [Fv.val];clear C3 b f7 S3;have C4:=jp4 j;go_wp2_with fail;refine C4.mono ?_;rintro e V4 ⟨⟨c9,c7,c5,a0,Z,X⟩,E4,rfl,e9,S4,f6⟩;have F4:Hid (Fw w E4 _ _ ⟨c9,c7,c5,a0,Z,X⟩ _):=f6;have T4:Hid (Sub E3 E4):=S4;simp only [Fv.val];clear C4 j f6 S4;have C5:=jse e9;go_wp2_with fail;refine C5.mono ?_;rintro e V5 ⟨⟨c4,c3,c2,U,S,R⟩,E5,rfl,e8,S5,f5⟩;have F5:Hid (Fw w E5 _ _ ⟨c4,c3,c2,U,S,R⟩ _):=f5;have T5:Hid (Sub E4 E5):=S5;simp only [Fv.val];clear C5 e9 f5 S5;have C6:=jkz e8;go_wp2_with fail;refine C6.mono ?_;rintro e V6 ⟨⟨c1,c0,b9,Q,P,O⟩,E6,rfl,e7,S6,f4⟩;have F6:Hid (Fw w E6 _ _ ⟨c1,c0,b9,Q,P,O⟩ _):=f4;have T6:Hid (Sub E5 E6):=S6;simp only [Fv.val];clear C6 e8 f4 S6;have C7:=jsg e7;go_wp2_with fail;refine C7.mono ?_;rintro e V7 ⟨⟨b8,b7,b6,M,J,I⟩,E7,rfl,e6,S7,f3⟩;have F7:Hid (Fw w E7 _ _ ⟨b8,b7,b6,M,J,I⟩ _):=f3;have T7:Hid (Sub E6 E7):=S7;simp only [Fv.val];clear C7 e7 f3 S7;have C8:=jkw e6;go_wp2_with fail;refine C8.mono ?_;rintro e V8 ⟨⟨b5,b4,b3,H,G,F⟩,E8,rfl,e5,S8,f2⟩;have F8:Hid (Fd w E8 _ _ ⟨b5,b4,b3,H,G,F⟩ _):=f2;have T8:Hid (Sub E7 E8):=S8;simp only [Fv.val];clear C8 e6 f2 S8;have C9:=jsf e5 ⟨b5,b4,b3,H,G,F⟩ F8.out;simp only [Fv.val] at C9;go_wp2_with fail;refine C9.mono ?_;rintro e V9 ⟨⟨b2,b1,b0,C,A,z⟩,d,rfl,e4,S9,f1⟩;have F9:Hid (Fw w d _ _ ⟨b2,b1,b0,C,A,z⟩ _):=f1;have T9:Hid (Sub E8 d):=S9;simp only;clear C9 e5 f1 S9;obtain ⟨lb,g2⟩:∃ lb,V9.heap.size=lb:=⟨_,rfl⟩;obtain ⟨k,i⟩:∃ k:List Fv,k=[⟨d8,d7,d6,a9,a8,a7⟩,⟨d5,d4,d3,a6,a5,a4⟩,⟨d2,d1,d0,a3,a2,a1⟩,⟨c9,c7,c5,a0,Z,X⟩,⟨c4,c3,c2,U,S,R⟩,⟨c1,c0,b9,Q,P,O⟩,⟨b8,b7,b6,M,J,I⟩,⟨b2,b1,b0,C,A,z⟩]:=⟨_,rfl⟩;have d9:Mem w (V9.alloc (.cells (k.flatMap Fv.cells).toArray 189)) ((lb,.cells (k.flatMap Fv.cells).toArray 189)::(o,.cells #[.nilFunc,.nilFunc,.nilFunc] 189)::(d++L)) :=
  (e4.push lb _ g2.symm).perm af
 have Cx:=jjm d9 lb 8;have HA:Hid (FwAll w d IC JC k csp):=by
  have U9:Sub d d:=Sub.refl _;have U8:Sub E8 d:=T9.out.trans U9;have U7:Sub E7 d:=T8.out.trans U8;have U6:Sub E6 d:=T7.out.trans U7;have U5:Sub E5 d:=T6.out.trans U6;have U4:Sub E4 d:=T5.out.trans U5;have U3:Sub E3 d:=T4.out.trans U4;have U2:Sub E2 d:=T3.out.trans U3;have U1:Sub E1 d:=T2.out.trans U2;rw [i];exact .cons (F1.out.more U1) (.cons (F2.out.more U2) (.cons (F3.out.more U3) (.cons (F4.out.more U4) (.cons (F5.out.more U5) (.cons (F6.out.more U6) (.cons (F7.out.more U7) (.cons (F9.out.more U9) (.nil))))))))
 clear d9 e4 F1 T1 F2 T2 F3 T3 F4 T4 F5 T5 F6 T6 F7 T7 F8 T8 F9 T9;rw [i] at Cx;simp only [ag,ah,Fv.cells,ai,aj,ak] at Cx;go_wp2_with fail;refine Cx.mono ?_;rintro e V ⟨cb,rfl,hM⟩;obtain ⟨E,hE⟩:∃ E:List (Nat×Obj),E=(cb,.cells #[.slice (some ⟨lb,0,none⟩) 8 8] 248)::(lb,.cells (k.flatMap Fv.cells).toArray 189)::d:=⟨_,rfl⟩;have b:Mem w V ((o,.cells #[.nilFunc,.nilFunc,.nilFunc] 189)::(E++L)):=by
  rw [hE,i];simp only [ag,ah,Fv.cells,ai,aj,ak];exact hM.perm (ac (l₁:=[_,_]))
 have HF:Hid (Fw w E IC JC (j4d cb) spC):=by
  refine jk9 cb lb 8 k csp (by rw [i];rfl) (by omega) (by rw [hE];exact al ..) (by rw [hE];exact am _ (al ..)) ?_ ?_ ?_
  ·have:∀ k ss,FwAll w d IC JC k ss->FwAll w E IC JC k ss:=by
    intro k ss hA
    induction hA with
    | nil=>exact .nil
    | cons h1 _ ih=>exact .cons (h1.more (by rw [hE];exact fun q hq=>am _ (am _ hq))) ih
   exact this _ _ HA.out
  ·rintro x g T g0 post V V' K ⟨h1,h2,h,zs,h3,h4,h5⟩ hB;exact ⟨h1,h2,h,zs,h3,h4,h5.after hB⟩
  ·rintro x g T g0 post V K ⟨h1,h2,h,zs,h3,h4,h5⟩;exact h5.sub.dropA
 clear Cx hM hE i HA;generalize j4d cb=f at HF;obtain ⟨m1,m2,m3,n1,n2,n3⟩:=f;have j:=b.put3 (.func (.func m1) #[] n1) (.func (.func m2) #[] n2) (.func (.func m3) #[] n3);have e0:V.cell? ⟨o,0,none⟩=some .nilFunc:=b.cell 0 rfl 0;have e1:V.cell? ⟨o,1,none⟩=some .nilFunc:=b.cell 0 rfl 1;have e2:V.cell? ⟨o,2,none⟩=some .nilFunc:=b.cell 0 rfl 2;have e3:=b.free 0 rfl;clear b;simp only [Fv.val];go_wp2_with fail;refine bodyPost_ret (v:=.agg #[.func (.func m1) #[] n1,.func (.func m2) #[] n2,.func (.func m3) #[] n3]) ?_ rfl ⟨⟨m1,m2,m3,n1,n2,n3⟩,_::E,rfl,j,HF.out.more (fun q hq=>am _ hq)⟩;exact results_cell_row (p:=0) (ty:=189) rfl _ _ o 189 _ (0,0) _ rfl (j.get 0 rfl) underlying189 rfl (by kernel_rfl)
end
section
open Sm
def Syn (B:Int) (all:List (List Int)) (bl:List (List Int)):Prop :=
 (all=[]/\rd bl 0=none/\rd bl 1=none) \/
 ∃ q:En,q.s<=1/\rd bl q.s=some q/\q.c=all.length/\all.getLast?=some q.r/\1<=q.t/\q.t<=B /\
  (rd bl (1-q.s)=none\/∃ o:En,rd bl (1-q.s)=some o/\0<=o.t/\o.t<q.t/\0<=o.c/\o.c<=1000000/\(o.c+1=q.c->all.dropLast.getLast?=some o.r))
theorem j48 {a b:Int} (g:0<=a) (f:a<=1000000) (hb:0<=b) (d:b<=1000000):ltr a b=decide (b<a):=by
 unfold ltr;have e:au.wrap (a-b)=(a-b) % 18446744073709551616:=by simp [aw,ax,ay]
 rw [e,az];by_cases h:b<a
 ·rw [decide_eq_true h,decide_eq_true (by omega)]
 ·rw [decide_eq_false h,decide_eq_false (by omega)]
theorem jop {q:En} (hs:q.s<=1) (h:rd bl q.s=some q) (d:rd bl (1-q.s)=none\/∃ o:En,rd bl (1-q.s)=some o/\0<=o.t/\o.t<q.t) (f:q.t<=1000000):fd bl=(rd bl (1-q.s)).toList++[q]:=by
 unfold fd;rcases aI.mp hs with e|e
 ·rw [e] at h d ⊢;rw [h];rcases d with d|⟨o,d,h1,h2⟩
  ·simp only [aJ] at d ⊢;rw [d];rfl
  ·simp only [aJ] at d ⊢;rw [d];simp only [j48 (a:=q.t) (b:=o.t) (by omega) f h1 (by omega),decide_eq_true h2,if_true];rfl
 ·rw [e] at h d ⊢;rw [h];rcases d with d|⟨o,d,h1,h2⟩
  ·simp only [aK] at d ⊢;rw [d];rfl
  ·simp only [aK] at d ⊢;rw [d];have:¬q.t<o.t:=by omega
   simp only [j48 (a:=o.t) (b:=q.t) h1 (by omega) (by omega) f,decide_eq_false this];rfl
theorem jli (h:Syn B all bl) (b:B<=1000000):(all=[]/\fd bl=[])\/∃ q:En,q.s<=1/\rd bl q.s=some q/\q.c=all.length/\all.getLast?=some q.r/\1<=q.t/\q.t<=B/\(fd bl=[q]\/∃ o:En,fd bl=[o,q]/\rd bl (1-q.s)=some o/\0<=o.c/\o.c<=1000000/\(o.c+1=q.c->all.dropLast.getLast?=some o.r)):=by
 rcases h with ⟨h1,h2,h3⟩|⟨q,h1,h2,h3,h4,h5,h6,h7⟩
 ·left;exact ⟨h1,by unfold fd;rw [h2,h3]⟩
 ·right;refine ⟨q,h1,h2,h3,h4,h5,h6,?_⟩;rcases h7 with h7|⟨o,h7,h8,h9,h10,h11,h12⟩
  ·left;rw [jop h1 h2 (aF h7) (by omega),h7];rfl
  ·right;exact ⟨o,by rw [jop h1 h2 (aG ⟨o,h7,h8,h9⟩) (by omega),h7];rfl,h7,h10,h11,h12⟩
theorem jeu (h:Syn B all bl) (d:B<=1000000) (b:0<=B):(nw (fd bl)).c=all.length/\(nw (fd bl)).r=all.getLastD []/\0<=(nw (fd bl)).t/\(nw (fd bl)).t<=B:=by
 rcases jli h d with ⟨rfl,e⟩|⟨q,h1,h2,h3,h4,h5,h6,e|⟨o,e,_⟩⟩
 ·rw [e];exact ⟨rfl,rfl,Int.le_refl _,b⟩
 ·rw [e,aa,h4];exact ⟨h3,rfl,by show 0<=q.t;omega,h6⟩
 ·rw [e,aa,h4];exact ⟨h3,rfl,by show 0<=q.t;omega,h6⟩
def Ends (got all:List (List Int)):Prop:=got.length<=all.length/\(got=[]->all=[])/\got=all.drop (all.length-got.length)
theorem jc2 (h:all.getLast?=some r):Ends [r] all:=by
 rcases ab all with e|⟨l,x,e⟩
 ·subst e;simp at h
 ·subst e;simp at h;subst h;refine ⟨by simp,by simp,?_⟩;simp
theorem jkh {s:List Int} (h:all.getLast?=some r) (b:all.dropLast.getLast?=some s):Ends [s,r] all:=by
 rcases ab all with e|⟨l,x,e⟩
 ·subst e;simp at h
 ·subst e;simp at h b;subst h;rcases ab l with e|⟨l',y,e⟩
  ·subst e;simp at b
  ·subst e;simp at b;subst b;refine ⟨by simp,by simp,?_⟩;simp
theorem jpy (h:Syn B all bl) (b:B<=1000000):Ends (kp (fd bl)) all:=by
 rcases jli h b with ⟨rfl,e⟩|⟨q,h1,h2,h3,h4,h5,h6,e|⟨o,e,h7,h8,h9,h10⟩⟩
 ·rw [e];exact ⟨by simp [kp,kpL],fun _=>rfl,by simp [kp,kpL]⟩
 ·rw [e];exact jc2 h4
 ·rw [e];have d:kp [o,q]=(if aA.wrap (o.c+1)=q.c then [o.r] else [])++[q.r]:=rfl;rw [d,show aA.wrap (o.c+1)=o.c+1 by rw [az];omega];by_cases hc:o.c+1=q.c
  ·rw [if_pos hc];exact jkh h4 (h10 hc)
  ·rw [if_neg hc];exact jc2 h4
theorem jeg (m:Nat) (b:0<m):unf (an m 0)=none:=by
 refine j5m _ ?_;obtain ⟨k,rfl⟩:∃ k,m=k+1:=⟨m-1,by omega⟩;simp [List.replicate_succ]
theorem jmf:unf []=none:=j5m _ (by simp)
theorem jbj (n m b:Nat) (d:0<m):rd (an n (an m 0)) b=none:=by
 refine jiz ?_;by_cases h:b*sbk (an n (an m (0:Int))).length<n
 ·have:(an n (an m (0:Int))).getD (b*sbk (an n (an m (0:Int))).length) []=an m 0:=by
   rw [ao,ap,if_pos h];rfl
  rw [this];exact jeg m d
 ·have:(an n (an m (0:Int))).getD (b*sbk (an n (an m (0:Int))).length) []=[]:=by
   rw [ao,ap,if_neg h];rfl
  rw [this];exact jmf
theorem jmv (n m:Nat) (b:0<m):Syn 0 [] (an n (an m 0)):=aF ⟨rfl,jbj n m 0 b,jbj n m 1 b⟩
theorem jib {C:Int} (h:Syn B all bl) (b:B<=C):Syn C all bl:=by
 rcases h with h|⟨q,h1,h2,h3,h4,h5,h6,h7⟩
 ·exact aF h
 ·exact aG ⟨q,h1,h2,h3,h4,h5,by omega,h7⟩
theorem j91 (h:Syn B all bl) (q:B<=900000) (d:0<=B) (o:all.length<=900000) (g:t=(nw (fd bl)).t) (hc:c=(nw (fd bl)).c) (r:List Int) :
  (lnxt t c (nw (fd bl)) r).s=1-(nw (fd bl)).s/\(lnxt t c (nw (fd bl)) r).t=t+1/\(lnxt t c (nw (fd bl)) r).c=all.length+1/\(lnxt t c (nw (fd bl)) r).r=r:=by
 obtain ⟨k,j,f,i⟩:=jeu h (by omega) d;refine ⟨rfl,?_,?_,rfl⟩
 ·simp only [lnxt,g];have e:au.wrap ((nw (fd bl)).t+1)=((nw (fd bl)).t+1) % 18446744073709551616:=by simp [aw,ax,ay]
  rw [e];omega
 ·have b:ltr (nw (fd bl)).t t=false:=by rw [j48 f (by omega) (by omega) (by omega)];exact decide_eq_false (by omega)
  simp only [lnxt,b,hc];rw [if_neg (by decide),az];omega
theorem jnu {q:En} (hs:q.s<=1) (h:rd bl q.s=some q) (d:rd bl (1-q.s)=none\/∃ o:En,rd bl (1-q.s)=some o/\0<=o.t/\o.t<q.t) (b:q.t<=1000000):nw (fd bl)=q:=by
 rw [jop hs h d b,nw,aa,List.getLast?_append];rfl
theorem j7l (h:Syn B all bl) (b:B<=1000000):(all=[]/\nw (fd bl)=En.zero/\rd bl 0=none/\rd bl 1=none)\/(rd bl (nw (fd bl)).s=some (nw (fd bl))/\(nw (fd bl)).s<=1/\all≠[]):=by
 rcases h with ⟨h1,h2,h3⟩|⟨q,h1,h2,h3,h4,h5,h6,h7⟩
 ·left;exact ⟨h1,by unfold fd;rw [h2,h3];rfl,h2,h3⟩
 ·right;have:nw (fd bl)=q:=jnu h1 h2 (by
   rcases h7 with h7|⟨o,h7,h8,h9,_⟩
   ·exact aF h7
   ·exact aG ⟨o,h7,h8,h9⟩) (by omega)
  rw [this];exact ⟨h2,h1,fun e=>by rw [e] at h4;simp at h4⟩
theorem j7k (h:Syn B all bl) (F:B<=900000) (f:0<=B) (E:all.length<=900000) (C:t=(nw (fd bl)).t) (hc:c=(nw (fd bl)).c) (r:List Int)
  (j:rd bl' (lnxt t c (nw (fd bl)) r).s=some (lnxt t c (nw (fd bl)) r)) (G:rd bl' (1-(lnxt t c (nw (fd bl)) r).s)=rd bl (1-(lnxt t c (nw (fd bl)) r).s)):Syn (B+1) (all++[r]) bl'/\nw (fd bl')=lnxt t c (nw (fd bl)) r:=by
 obtain ⟨I,H,x,k⟩:=j91 h F f E C hc r;obtain ⟨M,A,y,J⟩:=jeu h (by omega) f;have i:=j7l h (by omega);generalize O:lnxt t c (nw (fd bl)) r=e at *;have d:e.s<=1:=by omega
 have b:rd bl' (1-e.s)=none\/∃ o:En,rd bl' (1-e.s)=some o/\0<=o.t/\o.t<e.t/\0<=o.c/\o.c<=1000000/\(o.c+1=e.c->(all++[r]).dropLast.getLast?=some o.r):=by
  rw [G];rcases i with ⟨a1,a2,a3,a4⟩|⟨a1,a2,a3⟩
  ·left;rcases aI.mp (show 1-e.s<=1 by omega) with g|g<;>rw [g]
   ·exact a3
   ·exact a4
  ·right;have g:1-e.s=(nw (fd bl)).s:=by omega
   rw [g];refine ⟨_,a1,y,by omega,by omega,by omega,fun _=>?_⟩;rw [List.dropLast_concat,A];rw [aa];cases hx:all.getLast? with
   | none=>exact absurd (List.getLast?_eq_none_iff.mp hx) a3
   | some z=>rfl
 refine ⟨aG ⟨e,d,j,by rw [x];simp,by rw [List.getLast?_concat,k],by omega,by omega,b⟩,?_⟩;exact jnu d j (by
  rcases b with q|⟨o,q1,q2,q3,_⟩
  ·exact aF q
  ·exact aG ⟨o,q1,q2,q3⟩) (by omega)
theorem jic (h:Syn B all bl) (k:B<=900000) (hs:s=1-(nw (fd bl)).s) (d:rd bl' s=none) (b:rd bl' (1-s)=rd bl (1-s)):Syn B all bl':=by
 have g:=j7l h (by omega);rcases h with ⟨a1,a2,a3⟩|⟨q,b1,b2,b3,b4,b5,b6,b7⟩
 ·left;refine ⟨a1,?_,?_⟩
  ·rcases aI.mp (show s<=1 by omega) with e|e
   ·rw [e] at d;exact d
   ·rw [e] at b;rw [show (0:Nat)=1-1 by rfl,b];exact a2
  ·rcases aI.mp (show s<=1 by omega) with e|e
   ·rw [e] at b;rw [show (1:Nat)=1-0 by rfl,b];exact a3
   ·rw [e] at d;exact d
 ·have i:nw (fd bl)=q:=jnu b1 b2 (by
   rcases b7 with h7|⟨o,h7,h8,h9,_⟩
   ·exact aF h7
   ·exact aG ⟨o,h7,h8,h9⟩) (by omega)
  rw [i] at hs;have f:1-s=q.s:=by omega
  have j:1-q.s=s:=by omega
  refine aG ⟨q,b1,by rw [<-f,b,f];exact b2,b3,b4,b5,b6,aF (by rw [j];exact d)⟩
theorem jia (h:Syn B all bl) (hs:s<=1) (d:rd bl' s=rd bl s) (b:rd bl' (1-s)=rd bl (1-s)):Syn B all bl':=by
 have i:rd bl' 0=rd bl 0:=by
  rcases aI.mp hs with e|e
  ·rw [e] at d;exact d
  ·rw [e] at b;exact b
 have g:rd bl' 1=rd bl 1:=by
  rcases aI.mp hs with e|e
  ·rw [e] at b;exact b
  ·rw [e] at d;exact d
 have f:∀ k,k<=1->rd bl' k=rd bl k:=by
  intro k j;rcases aI.mp j with e|e<;>rw [e]
  ·exact i
  ·exact g
 rcases h with ⟨a1,a2,a3⟩|⟨q,b1,b2,b3,b4,b5,b6,b7⟩
 ·exact aF ⟨a1,by rw [i];exact a2,by rw [g];exact a3⟩
 ·exact aG ⟨q,b1,by rw [f _ b1];exact b2,b3,b4,b5,b6,by rw [f _ (by omega)];exact b7⟩
theorem jpx (h:Syn B all bl) (i:B<=900000) (b:0<=B) (g:all.length<=900000) (f:t=(nw (fd bl)).t) (hc:c=(nw (fd bl)).c) (e:EnOk n m (lnxt t c (nw (fd bl)) r)) (d:bl.length=n) :
  Syn (B+1) (all++[r]) (yj m (lnxt t c (nw (fd bl)) r) bl (npc (m-64) (lnxt t c (nw (fd bl)) r).r.length))/\nw (fd (yj m (lnxt t c (nw (fd bl)) r) bl (npc (m-64) (lnxt t c (nw (fd bl)) r).r.length)))=lnxt t c (nw (fd bl)) r :=
 j7k h i b g f hc r (Left.whole e d) (Left.other e d .all)
theorem jid (h:Syn B all bl) (i:B<=900000) (d:0<=B) (o:all.length<=900000) (j:t=(nw (fd bl)).t) (hc:c=(nw (fd bl)).c) (g:EnOk n m (lnxt t c (nw (fd bl)) r)) (k:bl.length=n) (hb:∀ b∈bl,b.length=m)
  (q:Left m (lnxt t c (nw (fd bl)) r) bl bl'):Syn B all bl'\/Syn (B+1) (all++[r]) bl':=by
 have f:=Left.other g k q;have hs:=(j91 h i d o j hc r).1;rcases Left.own g k hb q with e|e|e
 ·left;exact jia h g.s e f
 ·left;exact jic h i hs e f
 ·right;exact (j7k h i d o j hc r e f).1
end
section
open Go.RowKit Sm Cf
theorem jbf (V:World) (n:Nat):Rw V n nilV []:=⟨none,0,rfl,aH _,by omega,fun _=>rfl,aF rfl⟩
theorem Out.sl (h:Out w W u l K) (d:l.length<=1000000000):∃ a c,u=.slice a l.length c/\Sl W a l c:=by
 obtain ⟨hb,f,b⟩:=h;rcases b with ⟨rfl,e,hm⟩|⟨g,cap,cur,rfl,hm,hnc,hcm,hcs,htake⟩
 ·have:l=[]:=List.length_eq_zero_iff.mp e;subst this;exact ⟨Option.none,0,rfl,⟨j7p W Option.none,aH _,by omega,fun _=>rfl⟩⟩
 ·refine ⟨_,cap,rfl,⟨⟨hb,by omega,aG ⟨g,0,rfl,fun i hi=>?_⟩⟩,hnc,by simpa [maxLen] using hcm,fun e=>by cases e⟩⟩;rw [Nat.zero_add,hm.cell 0 rfl];have:=congrArg (fun x=>x[i]?) htake;simp only [List.getElem?_take,Nat.mul_one,if_pos hi,List.getElem?_map,List.getElem?_eq_getElem hi,Option.map_some,Array.getElem?_toList] at this;rw [this,j1c hi]
theorem jm9 {α ρ:Type} {E:List (Nat×Obj)} {I:Rp α ρ} {J:St' α} {f:Fv} {s:Sp α} {c:Nat} (h:Mem w W (E++L)) (er:Ent f.kr)
  (a1:∀ K,Sub E K->∀ x g T S post a l c V,J w x g T S post V K->Sl w a l c->Calls prog f.kr (#[.slice a l.length c,.pointer (some ⟨g,S.length,none⟩)]++f.cr) V (qh w K (fun y V'=>J w y g T S post V' K) (s.dec l x)))
  (hS:Sl w a l c) (x0:α) (hz:∀ g V K,Mem w V ((g,.cells cz 39)::K)->J w x0 g 39 [] [] V K) (Q:α->World->Value->Prop) (a6:∀ x V K,J w x (W.heap.size+1+1) 39 [] [] V K->Mem w V K)
  (G:∀ x g o z V K,Sub (E++L) K->J w x g 39 [] [] V ((o,.cells z 39)::K)->∃ i,V.heap[g]?=some (.cells i 39)/\i.size=29/\i.all (·.oneCell')=true/\V.heap[o]?=some (.cells z 39)/\Mem w (V.setRow o i) ((o,.cells i 39)::K)/\Q x (V.setRow o i) (.agg i)) :
  Calls prog 130 #[f.val,.slice a l.length c] W fun e W'=>Mem w W' (E++L)/\match s.dec l x0 with
   | some (x,[])=>∃ v,e=.returned (.tuple #[v,.int .i64 0])/\Q x W' v
   | _=>e=.returned (.tuple #[.agg cz,.int .i64 70]):=by
 obtain ⟨Z,H,X,c1,c2,c3⟩:=f;obtain ⟨d,a4⟩:∃ d,W.heap.size=d:=⟨_,rfl⟩;rw [a4] at a6;have a5:Mem w ((((W.alloc (.cells #[.func (.func Z) #[] c1,.func (.func H) #[] c2,.func (.func X) #[] c3] 189)).alloc (.cells cz 39)).alloc (.cells cz 39)).alloc (.cells cz 39))
   ((d+1+1,.cells cz 39)::(d+1,.cells cz 39)::(d+1+1+1,.cells cz 39)::(d,.cells #[.func (.func Z) #[] c1,.func (.func H) #[] c2,.func (.func X) #[] c3] 189)::(E++L)):=by
  have h1:=(((h.push d (.cells #[.func (.func Z) #[] c1,.func (.func H) #[] c2,.func (.func X) #[] c3] 189) a4.symm).push (d+1) (.cells cz 39) (by simp;omega)).push (d+1+1) (.cells cz 39) (by simp;omega)).push (d+1+1+1) (.cells cz 39) (by simp;omega);refine h1.perm ?_
  classical
  rw [List.perm_iff_count];intro q;simp only [List.count_append,List.count_cons,List.count_nil];omega
 have a7:=hz (d+1+1) _ _ a5;have P:=a1 ((d+1,.cells cz 39)::(d+1+1+1,.cells cz 39)::(d,.cells #[.func (.func Z) #[] c1,.func (.func H) #[] c2,.func (.func X) #[] c3] 189)::(E++L)) (fun q hq=>am _ (am _ (am _ (ar _ hq)))) x0 (d+1+1) 39 [] [] a l c _ a7 hS;have eg:∀ args V,(callFunc H args).run prog V=.ok (.enter H args) V:=er;simp only [List.length_nil] at P;obtain ⟨R,hR⟩:∃ R,s.dec l x0=R:=⟨_,rfl⟩;rw [hR] at P ⊢;simp only [Fv.val];have a8:=G;have HF:Hid (∀ x g o z V K,Sub (E++L) K->J w x g 39 [] [] V ((o,.cells z 39)::K)->∃ i,V.heap[g]?=some (.cells i 39)/\i.size=29/\i.all (·.oneCell')=true/\V.heap[o]?=some (.cells z 39)/\Mem w (V.setRow o i) ((o,.cells i 39)::K)/\Q x (V.setRow o i) (.agg i)):=G;clear a1 G a8 hz a7 a5 hR h er;have k:(prog.info? 39).map (·.size)=some (cz).size:=by kernel_rfl
 generalize l.length=n at *;have key:∀ V M,Mem w V ((d+1,.cells cz 39)::(d+1+1+1,.cells cz 39)::M)->V.heap[d+1]?=some (.cells cz 39)/\V.heap[d+1+1+1]?=some (.cells cz 39)/\Mem w (V.setRow (d+1) cz) ((d+1,.cells cz 39)::(d+1+1+1,.cells cz 39)::M):=by
  intro V M hV;exact ⟨hV.get 0 rfl,hV.get 1 rfl,hV.wrote 0 rfl (j8 V (d+1) _ _ _ (hV.get 0 rfl))⟩
 have KY:Hid (∀ V M,Mem w V ((d+1,.cells cz 39)::(d+1+1+1,.cells cz 39)::M)->V.heap[d+1]?=some (.cells cz 39)/\V.heap[d+1+1+1]?=some (.cells cz 39)/\Mem w (V.setRow (d+1) cz) ((d+1,.cells cz 39)::(d+1+1+1,.cells cz 39)::M)):=key;clear key;have C:(cz:Array Value).all (·.oneCell')=true:=by kernel_rfl
 have O:∀ V A,Mem w V ((d+1,A)::(d+1+1+1,.cells cz 39)::(d,.cells #[.func (.func Z) #[] c1,.func (.func H) #[] c2,.func (.func X) #[] c3] 189)::(E++L))->Mem w V (E++L):=fun V A h=>h.sub.sub.sub;have HS:Hid (∀ V A,Mem w V ((d+1,A)::(d+1+1+1,.cells cz 39)::(d,.cells #[.func (.func Z) #[] c1,.func (.func H) #[] c2,.func (.func X) #[] c3] 189)::(E++L))->Mem w V (E++L)):=O;clear O;cases R with
 | none =>
  go_enter func130,ntmps130;go_wp2_with fail;refine P.mono ?_;rintro e V ⟨rfl,hM⟩;obtain ⟨g1,g2,j⟩:=KY.out V _ hM;clear P;go_wp2_with (first|(refine wpList_load_row rfl 39 (.tmp 7) (by with_reducible rfl) (d+1+1+1) rfl 39 _ (0,0) _ g2 underlying39 rfl k ?_)|(refine wpList_store_row rfl 39 (.tmp 4) (.tmp 24) (by with_reducible rfl) (d+1) cz rfl rfl 39 _ g1 k rfl C ?_))
  refine bodyPost_ret (v:=.tuple #[.agg cz,.int .i64 70]) ?_ rfl ⟨HS.out _ _ j,rfl⟩;exact jx (p:=4) (q:=5) (ty:=39) rfl _ _ (d+1) _ rfl (run_loadVar_row _ _ 39 39 _ (0,0) _ (j.get 0 rfl) underlying39 rfl k)
 | some y =>
  obtain ⟨x,l'⟩:=y;cases l' with
  | nil =>
   go_enter func130,ntmps130;go_wp2_with fail;refine P.mono ?_;rintro e V ⟨a2,b0,rfl,U,hJ⟩;obtain ⟨i,hg,a0,a3,a9,j,hQ⟩:=HF.out _ _ _ _ _ _ (fun q hq=>am _ (am _ hq)) hJ;have F:(prog.info? 39).map (·.size)=some i.size:=by rw [a0];kernel_rfl
   have HQ:Hid (Q x (V.setRow (d+1) i) (.agg i)):=hQ;clear P hJ U HF hQ KY;go_wp2_with (first|(refine wpList_load_row rfl 39 (.tmp 6) (by with_reducible rfl) (d+1+1) rfl 39 i (0,0) _ hg underlying39 rfl F ?_)|(refine wpList_store_row rfl 39 (.tmp 4) (.tmp 25) (by with_reducible rfl) (d+1) i rfl rfl 39 _ a9 F (by rw [a0];rfl) a3 ?_))
   refine bodyPost_ret (v:=.tuple #[.agg i,.int .i64 0]) ?_ rfl ⟨HS.out _ _ j,_,rfl,HQ.out⟩;exact jx (p:=4) (q:=5) (ty:=39) rfl _ _ (d+1) _ rfl (run_loadVar_row _ _ 39 39 _ (0,0) _ (j.get 0 rfl) underlying39 rfl F)
  | cons b r =>
   go_enter func130,ntmps130;go_wp2_with fail;refine P.mono ?_;rintro e V ⟨a2,b0,rfl,U,hJ⟩;have hM:=a6 _ _ _ hJ;obtain ⟨g1,g2,j⟩:=KY.out V _ hM;have b1:(0:Int)<((b::r).length:Int):=by simp only [List.length_cons];omega
   clear P hJ U HF hM;generalize (b::r).length=m at *;go_wp2_with (first|(refine wpList_load_row rfl 39 (.tmp 7) (by with_reducible rfl) (d+1+1+1) rfl 39 _ (0,0) _ g2 underlying39 rfl k ?_)|(refine wpList_store_row rfl 39 (.tmp 4) (.tmp 24) (by with_reducible rfl) (d+1) cz rfl rfl 39 _ g1 k rfl C ?_))
   refine bodyPost_ret (v:=.tuple #[.agg cz,.int .i64 70]) ?_ rfl ⟨HS.out _ _ j,rfl⟩;exact jx (p:=4) (q:=5) (ty:=39) rfl _ _ (d+1) _ rfl (run_loadVar_row _ _ 39 39 _ (0,0) _ (j.get 0 rfl) underlying39 rfl k)
end
section
open Go.RowKit Sm
structure Sd (w W:World) (p h m N:Nat) (D:Dk) (B:Int) (all:List (List Int)) (L:List (Nat×Obj)):Prop where
 at_:∃ hc ks K,DkAt w W p h m D hc ks (L++K)/\ks.length=N/\Syn B all (ks.map Bk.b)
structure Sy (w W:World) (p h m N:Nat) (D:Dk) (pl:Nat) (B:Int) (all:List (List Int)) (L:List (Nat×Obj)):Prop where
 at_:∃ hc ks v X K,DkAt w W p h m D hc ks ((pl,.cells (lgA p (nw (fd (ks.map Bk.b))).t (nw (fd (ks.map Bk.b))).c v) lgT (0,0))::(X++(L++K)))/\ks.length=N/\Syn B all (ks.map Bk.b)/\OwnV v (all.getLastD []) X
structure So (w W:World) (p h m N:Nat) (D:Dk) (pl:Nat) (L:List (Nat×Obj)):Prop where
 at_:∃ hc ks t c v K,DkAt w W p h m D hc ks ((pl,.cells (lgA p t c v) lgT (0,0))::(L++K))/\ks.length=N
section
variable {w W:World} {p h m N:Nat} {D:Dk} {pl:Nat} {B:Int} {all:List (List Int)} {L:List (Nat×Obj)}
theorem Sy.sd (H:Sy w W p h m N D pl B all L):Sd w W p h m N D B all L:=by
 obtain ⟨hc,ks,v,X,K,d,f,e,k⟩:=H.at_;refine ⟨hc,ks,K++((pl,.cells (lgA p (nw (fd (ks.map Bk.b))).t (nw (fd (ks.map Bk.b))).c v) lgT (0,0))::X),d.on (d.st.perm ?_),f,e⟩;have g:∀ (P:Nat×Obj) (X L K:List (Nat×Obj)),(P::(X++(L++K))).Perm (L++(K++(P::X))):=by
  intro P X L K;have j:(P::(X++(L++K)))=(P::X)++(L++K):=rfl;have i:L++(K++(P::X))=(L++K)++(P::X):=by simp
  rw [j,i];exact af
 exact g _ _ _ _
theorem Sd.join (H:Sd w W p h m N D B all L) (k:Mem W W' K):Sd w W' p h m N D B all L:=by
 obtain ⟨hc,ks,b,g,f,e⟩:=H.at_;have d:=g.join k;exact ⟨hc,ks,b++K,d.on (d.st.perm (by rw [show L++(b++K)=(L++b)++K by simp];exact af)),f,e⟩
theorem Sy.join (H:Sy w W p h m N D pl B all L) (k:Mem W W' K):Sy w W' p h m N D pl B all L:=by
 obtain ⟨hc,ks,v,X,b,i,g,f,e⟩:=H.at_;have d:=i.join k;refine ⟨hc,ks,v,X,b++K,d.on (d.st.perm ?_),g,f,e⟩;have j:∀ (P:Nat×Obj) (K X L b:List (Nat×Obj)),(K++(P::(X++(L++b)))).Perm (P::(X++(L++(b++K)))):=by
  intro P K X L b;refine ac.trans (aB P ?_);have o:X++(L++(b++K))=(X++(L++b))++K:=by simp
  rw [o];exact af
 exact j _ _ _ _ _
theorem Sd.has (H:Sd w W p h m N D B all L) {x:Nat×Obj} (hx:x∈L):W.heap[x.1]?=some x.2:=by
 obtain ⟨hc,ks,f,b,e,d⟩:=H.at_;exact b.has (ar _ hx)
theorem Sy.has (H:Sy w W p h m N D pl B all L) {x:Nat×Obj} (hx:x∈L):W.heap[x.1]?=some x.2:=H.sd.has hx
theorem Sy.push (H:Sy w W p h m N D pl B all L) (k:Mem W W' K):Sy w W' p h m N D pl B all (K++L):=by
 obtain ⟨hc,ks,v,X,b,i,g,f,e⟩:=H.at_;have d:=i.join k;refine ⟨hc,ks,v,X,b,d.on (d.st.perm ?_),g,f,e⟩;have j:∀ (P:Nat×Obj) (K X L b:List (Nat×Obj)),(K++(P::(X++(L++b)))).Perm (P::(X++((K++L)++b))):=by
  intro P K X L b;refine ac.trans (aB P ?_);rw [ad];exact jv _ _ _
 exact j _ _ _ _ _
theorem Sd.sub (H:Sd w W p h m N D B all (Y++L)):Sd w W p h m N D B all L:=by
 obtain ⟨hc,ks,f,b,e,d⟩:=H.at_;exact ⟨hc,ks,f++Y,b.on (b.st.perm (by rw [<-ad,ad];exact af)),e,d⟩
theorem Sy.sub (H:Sy w W p h m N D pl B all (Y++L)):Sy w W p h m N D pl B all L:=by
 obtain ⟨hc,ks,v,X,g,b,f,e,d⟩:=H.at_;refine ⟨hc,ks,v,X,g++Y,b.on (b.st.perm (aB _ (aE X ?_))),f,e,d⟩;rw [<-ad,ad];exact af
theorem jlk {x y:Int} (hx:dbd x 1 64=n) (b:dbd y 64 65536=m) (W:World) :
  Calls prog 10 #[.int .i64 x,.int .i64 y] W fun e W'=>∃ p,e=.returned (.pointer (some ⟨p,0,none⟩))/\∃ h,Sd W W' p h m n ⟨false,false,0,0⟩ 0 [] []:=by
 refine (jkm (Mem.nil W) x y).mono ?_;rintro e W' ⟨p,rfl,h,hc,ks,H,hb⟩;rw [hx,b,aL,aL] at hb;rw [b,aL] at H;refine ⟨p,rfl,h,hc,ks,[],H,?_,?_⟩
 ·have:=congrArg List.length hb;simpa using this
 ·rw [hb];exact jmv n m (by have:=H.mlo;omega)
theorem jn7 (H:Sd w W p h m N D B all L):Calls prog 14 #[.pointer (some ⟨p,0,none⟩)] W fun e W'=>e=.returned (.int .i64 (room N m))/\W=W':=by
 obtain ⟨hc,ks,K,d,b,f⟩:=H.at_;subst b;exact j49 d
theorem jf8 (H:Sd w W p h m N D B all L):Calls prog 21 #[.pointer (some ⟨p,0,none⟩)] W fun e W'=>e=.returned (.bool D.dead)/\W=W':=by
 obtain ⟨hc,ks,K,b,f,d⟩:=H.at_;exact jh5 b
theorem jin (H:Sd w W p h m N D B all L):Calls prog 24 #[.pointer (some ⟨p,0,none⟩)] W fun e W'=>e=.returned (.tuple #[])/\Sd w W' p h m N ⟨false,false,0,0⟩ B all L:=by
 obtain ⟨hc,ks,K,g,f,d⟩:=H.at_;refine (jdp g).mono ?_;rintro e W' ⟨rfl,b⟩;exact ⟨rfl,hc,ks,K,b,f,d⟩
theorem jpz (H:Sy w W p h m N D pl B all L) (n q:Int) (b:n<=9223372036854775807):Calls prog 19 #[.pointer (some ⟨p,0,none⟩),.int .i64 n,.int .i64 q] W fun e W'=>e=.returned (.tuple #[])/\Sy w W' p h m N ⟨D.dead,true,max n 0,dbd q 0 m⟩ pl B all L:=by
 obtain ⟨hc,ks,v,X,K,j,i,g,f⟩:=H.at_;refine (jko j n q b).mono ?_;rintro e W' ⟨rfl,d⟩;exact ⟨rfl,hc,ks,v,X,K,d,i,g,f⟩
theorem jq0 (H:Sy w W p h m N D pl B all L) (a:Option Addr) (k cap:Nat) (b:room N m<k) :
  Calls prog 60 #[.pointer (some ⟨pl,0,none⟩),.slice a k cap] W fun e W'=>e=.returned (.int .i64 51)/\W=W':=by
 obtain ⟨hc,ks,v,X,K,f,d,i,g⟩:=H.at_;subst d;exact je4 f a k cap b
theorem room_le (n m:Nat):room n m<=16384:=by unfold room;split<;>omega
end
end
section
open Go.RowKit Sm Cf
instance (t z:Ten):Decidable (jaq t z):=by unfold jaq;infer_instance
theorem Rw.at_ {V:World} {xs:List (List Value)} (h:Rw w n v xs) (b:∀ x∈xs,x≠[]) (hb:Below w.heap.size w V):Rw V n v xs:=h.below b hb (aH _)
end
end Go.Proofs.YtdigofgjhaakmaaGreatDoor
