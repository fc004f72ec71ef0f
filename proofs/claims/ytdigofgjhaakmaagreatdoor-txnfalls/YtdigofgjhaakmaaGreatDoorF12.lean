/- Parts of the proof. -/
import Derived.Test.YtdigofgjhaakmaaGreatDoorF11
set_option linter.all false
set_option maxHeartbeats 40000000
set_option maxRecDepth 20000
open Go.Proofs.Tryz
open List renaming getElem?_take->aa,append_assoc->ab,map_append->ac,perm_append_comm->ae,flatMap_cons->af,flatMap_nil->ag,cons_append->ah,nil_append->ai,append_nil->aj,perm_middle->ak,mem_cons_self->al,mem_cons_of_mem->am,getLastD_eq_getLast?->an,mem_singleton->ap
open Prod renaming fst->aq
open List.Perm renaming append_left->ar,refl->au,swap->av
namespace Go.Proofs.YtdigofgjhaakmaaGreatDoor
variable {Y K L:List (Nat×Obj)} {bl:List (List Int)} {v:Value} {w W w2:World} {g:Nat} {r:List Int} {T:TypeId} {ad a:Addr}
section
open Go.RowKit Sm
def lfnd (bl:List (List Int)):Nat->List En
 | 0=>[]
 | i+1=>lfnd bl i++(rd bl i).toList
theorem jom (bl:List (List Int)) (i:Nat):(lfnd bl i).length<=i:=by
 induction i with
 | zero=>simp [lfnd]
 | succ i ih=>cases h:rd bl i<;>simp [lfnd,h]<;>omega
theorem jrl {x y:En} (h:lfnd bl 2=[x,y]):fd bl=if ltr x.t y.t then [y,x] else [x,y]:=by
 unfold fd;simp only [lfnd] at h;cases h0:rd bl 0<;>cases h1:rd bl 1<;>rw [h0,h1] at h<;>simp at h;obtain ⟨rfl,rfl⟩:=h;rfl
theorem joq (h:(lfnd bl 2).length≠2):fd bl=lfnd bl 2:=by
 unfold fd;simp only [lfnd] at h ⊢;cases h0:rd bl 0<;>cases h1:rd bl 1<;>rw [h0,h1] at h<;>simp at h ⊢
theorem jgx {x y:En×Value} (h:ES v [x,y] Y) (d:Mem w W (Y++K)) :
  ∃ g cap c k i,v=.slice (some ⟨g,0,none⟩) 2 cap/\2<=cap/\cap*4<=c.size/\c.toList.take 8=enC x++enC y/\OwnV x.2 x.1.r k/\OwnV y.2 y.1.r i/\Y=(g,.cells c enT (0,0))::(k++i)/\(∀ j,j<8->W.cell? ⟨g,j,none⟩=(enC x++enC y)[j]?)/\∀ j,W.frozen? ⟨g,j,none⟩=false:=by
 rcases h with ⟨_,e,_⟩|⟨g,cap,c,Xs,rfl,_,h1,h2,h3,h4,rfl⟩
 ·cases e
 ·cases h4 with
  | cons a t =>
   cases t with
   | cons b t2 =>
    cases t2;have f:c.toList.take 8=enC x++enC y:=by
     have:=h3;simpa [enCs] using this
    refine ⟨g,cap,c,_,_,rfl,h1,h2,f,a,b,by simp,fun j l=>?_,fun j=>?_⟩
    ·rw [d.cell 0 rfl j,<-f,aa,if_pos l];simp
    ·exact d.free 0 rfl j
theorem set8 (j:Array Value) (h:8<=j.size) (a b c d e f g i:Value):((((((((j.setIfInBounds 0 a).setIfInBounds 1 b).setIfInBounds 2 c).setIfInBounds 3 d).setIfInBounds 4 e).setIfInBounds 5 f).setIfInBounds 6 g).setIfInBounds 7 i).toList.take 8=[a,b,c,d,e,f,g,i]:=by
 obtain ⟨l⟩:=j
 match l,h with
 | c0::c1::c2::c3::c4::c5::c6::c7::r,_=>simp
section
variable {w W:World} {p h m:Nat} {D:Dk} {hc:Array Value} {ks:List Bk} {L:List (Nat×Obj)}
theorem j8a (H:DkAt w W p h m D hc ks L) (hG:Gl W a) (hd:D.dead=false) (hn:4<=ks.length) (hm:256<=m) :
  Calls prog 68 #[.pointer (some ⟨p,0,none⟩)] W fun e W'=>∃ v,e=.returned (.tuple #[v,.int .i64 0])/\∃ l,l.map aq=fd (ks.map Bk.b)/\∃ Y,ES v l Y/\∃ K,Mem W W' (Y++K):=by
 have HR:Hid (∀ V K,Mem W V K->∀ i:Nat,i<=1->Calls prog 95 #[.pointer (some ⟨p,0,none⟩),.int .i64 i] V fun e W'=>∃ Z,e=.returned (rdV (.iface 342 (.pointer (some a))) Z (rd (ks.map Bk.b) i))/\∃ X K,Mem V W' (X++K)/\∀ x,rd (ks.map Bk.b) i=some x->OwnV Z x.r X) :=
  fun V K hV i hi=>jnf (H.join hV) hd hn hm (hG.on hV).sent i hi
 have HG:Hid (Gl W a):=hG;generalize ks.map Bk.b=bl at *;clear hG H;generalize hF:fd bl=FD;have HF:Hid (fd bl=FD):=hF;clear hF;go_enter func68,ntmps68;go_wp2_with fail
 go_loopw [4,9] (fun o u wr=>∃ i:Nat,u=.int .i64 i/\i<=2/\∃ l Y K,l.map aq=lfnd bl i/\ES o l Y/\Mem W wr (Y++K)) (fun _ u _=>2-(intOf u).toNat)
 case atStart=>exact ⟨0,rfl,by omega,[],[],[],rfl,Or.inl ⟨rfl,rfl,rfl⟩,Mem.nil W⟩
 case round =>
  obtain ⟨i,rfl,hi,l,Y,K,J,N,M⟩:=hrel;have a8:l.length<=i:=by have:=jom bl i;rw [<-J] at this;simpa using this
  by_cases hlt:i<2
  ·have hr:=HR.out _ _ M i (by omega);cases hrd:rd bl i with
   | none =>
    rw [hrd] at hr;simp only [rdV] at hr;have HL:Hid (l.map aq=lfnd bl (i+1)):=by show _=_;rw [J,lfnd,hrd];simp
    have HE:Hid (ES u4 l Y):=N;have U:Hid (Mem W wr (Y++K)):=M;clear J N hrd M;go_wp2_with fail;refine hr.mono ?_;rintro e w2 ⟨Z,rfl,X,K2,R,-⟩;go_upto_region 8 with fail;refine j5 (fun V=>Mem wr V (X++K2++[(w2.heap.size,.cells en0 enT (0,0))]++[(w2.heap.size+1,.cells #[.int .i64 0] 28)])) ((R.alloc _).push (w2.heap.size+1) _ (by simp)) ?_;intro B hx;have A:=U.out.join hx;have gx:=HG.out.on A;have s1:=gx.sent;have hI:=jod a B;have S:Hid (Mem W B (Y++(K++(X++K2++[(w2.heap.size,.cells en0 enT (0,0))]++[(w2.heap.size+1,.cells #[.int .i64 0] 28)])))):=by rw [<-ab];exact A
    clear hx A gx R hr;go_wp2_with fail;refine hI.mono ?_;rintro e w' ⟨rfl,rfl⟩;go_wp2_with fail;go_roundw
    case rel=>exact ⟨i+1,by go_num,by omega,l,Y,_,HL.out,HE.out,S.out⟩
    case measure=>simp [intOf];omega
   | some x =>
    rw [hrd] at hr;simp only [rdV] at hr;have HL:Hid (∀ Z:Value,(l++[(x,Z)]).map aq=lfnd bl (i+1)):=by intro Z;rw [lfnd,hrd,ac,J];simp
    have HE:Hid (ES u4 l Y):=N;have U:Hid (Mem W wr (Y++K)):=M;clear J N hrd M;obtain ⟨xs,f,q,d⟩:=x;simp only at hr;go_wp2_with fail;refine hr.mono ?_;rintro e w2 ⟨Z,rfl,X,K2,R,hO⟩;have a1:OwnV Z d X:=hO _ rfl;obtain ⟨E,cv,ev,-⟩:=a1.shape;subst ev;clear hO;go_upto_region 8 with fail;refine j5 (fun V=>Mem wr V (X++K2++[(w2.heap.size,.cells (enA xs f q (.slice E d.length cv)) enT (0,0))]++[(w2.heap.size+1,.cells #[.int .i64 0] 28)])) ((R.alloc _).push (w2.heap.size+1) _ (by simp)) ?_;intro B hx;have A:=U.out.join hx;have gx:=HG.out.on A;have s1:=gx.sent;have hI:=jr9 a B;have hA:=jsk (.iface 164 (.pointer (some ⟨w2.heap.size+1,0,none⟩))) B;have kb:∀ j,B.cell? ⟨w2.heap.size,j,none⟩=(enA xs f q (.slice E d.length cv))[j]?:=fun j=>cell_of (hx.at_ (w2.heap.size,.cells (enA xs f q (.slice E d.length cv)) enT (0,0)) (by simp)) j;have k0:=kb 0;have k1:=kb 1;have k2:=kb 2;have k3:=kb 3;simp at k0 k1 k2 k3;have S:Hid (Mem W B (Y++(X++(K++(K2++[(w2.heap.size,.cells (enA xs f q (.slice E d.length cv)) enT (0,0))]++[(w2.heap.size+1,.cells #[.int .i64 0] 28)]))))):=by
     refine A.perm ?_;rw [ab];refine ar Y ?_;rw [ab,ab,ab];exact jv K X _
    obtain ⟨ao,co,eo⟩:=HE.out.shape;subst eo;have a6:∀ j,j<4->(B.alloc (.cells (enA xs f q (.slice E d.length cv)) enT)).cell? ⟨B.heap.size,j,none⟩=(enA xs f q (.slice E d.length cv))[j]?:=fun j _=>by
     have:=((Mem.nil B).push1 (o:=.cells (enA xs f q (.slice E d.length cv)) enT) rfl).cell 0 rfl j;exact this
    have a3:Mem W (B.alloc (.cells (enA xs f q (.slice E d.length cv)) enT)) (Y++(X++((K++(K2++[(w2.heap.size,.cells (enA xs f q (.slice E d.length cv)) enT (0,0))]++[(w2.heap.size+1,.cells #[.int .i64 0] 28)]))++[(B.heap.size,.cells (enA xs f q (.slice E d.length cv)) enT (0,0))]))):=by
     have:=S.out.alloc (.cells (enA xs f q (.slice E d.length cv)) enT (0,0));simpa [ab] using this
    obtain ⟨a',c',Y',W',a2,a5,a4⟩:=jgz HE.out a3 (by omega) (x:=⟨xs,f,q,d⟩) a1 a6 124;have b0:Hid (ES (.slice a' (l.length+1) c') (l++[(⟨xs,f,q,d⟩,.slice E d.length cv)]) Y'):=a5;have a9:Hid _:=a4;clear hx A gx R hr kb a3 a6 a5 a4 a1 S;go_wp2_with fail;refine hI.mono ?_;rintro e w' ⟨rfl,rfl⟩;go_wp2_with fail;refine hA.mono ?_;rintro e w' ⟨rfl,rfl⟩;go_wp2_with (refine jl (.tmp 18) (.tmp 20) 124 124 (by with_reducible rfl) a2 rfl rfl (by simp [Act.eval]) (by simp [Act.eval]) ?_)
    go_roundw
    case rel=>exact ⟨i+1,by go_num,by omega,_,Y',_,HL.out _,b0.out,a9.out⟩
    case measure=>simp [intOf];omega
  ·have e2:i=2:=by omega
   subst e2;by_cases R:l.length=2
   ·obtain ⟨x,y,rfl⟩:∃ x y,l=[x,y]:=by
     match l,R with
     | [x,y],_=>exact ⟨x,y,rfl⟩
    have z:FD=if ltr x.1.t y.1.t then [y.1,x.1] else [x.1,y.1]:=by rw [<-HF.out];exact jrl J.symm
    obtain ⟨g,cap,C,X1,X2,ev,Q,P,a0,o1,o2,hY,c,s⟩:=jgx N M;subst ev;obtain ⟨⟨xs,f,q,d⟩,xv⟩:=x;obtain ⟨⟨ys,O,yc,I⟩,yv⟩:=y;obtain ⟨ax,cx,ex,-⟩:=o1.shape;obtain ⟨ay,cy,ey,-⟩:=o2.shape;simp only at ex ey z;subst ex;subst ey;have k0:=c 0 (by omega);have k1:=c 1 (by omega);have k2:=c 2 (by omega);have k3:=c 3 (by omega);have k4:=c 4 (by omega);have k5:=c 5 (by omega);have k6:=c 6 (by omega);have k7:=c 7 (by omega);simp [enC] at k0 k1 k2 k3 k4 k5 k6 k7;have F:Hid (∀ k,Calls prog 97 #[.int .u64 f,.int .u64 O] (wr.drewN k) fun e W'=>e=.returned (.bool (ltr f O))/\wr.drewN k=W'):=fun k=>j5a _ _ _;have HE:Hid (ES _ _ Y):=N;have U:Hid (Mem W wr (Y++K)):=M;have q1:(1:Int)<(2:Int):=by decide
    clear J N M HR HF c R a8;cases hlt2:ltr f O with
    | false =>
     rw [hlt2] at z F;have G:Hid (FD=[⟨xs,f,q,d⟩,⟨ys,O,yc,I⟩]):=z;clear z hlt2 a0;go_upto_region 12 with fail
     go_quiet (first|(go_at_call 97;exact qy (F.out _)))
     go_wp2
     exact bodyPost_ret (v:=.tuple #[.slice (some ⟨g,0,none⟩) 2 cap,.int .i64 0]) (by simp [results,results68,go_sem]) rfl ⟨_,rfl,_,by rw [G.out];rfl,Y,HE.out,K,U.out.drewN _⟩
    | true =>
     rw [hlt2] at z F;have G:Hid (FD=[⟨ys,O,yc,I⟩,⟨xs,f,q,d⟩]):=z;have HY:Hid (Y=(g,.cells C enT (0,0))::(X1++X2)/\2<=cap/\cap*4<=C.size/\OwnV (.slice ax d.length cx) d X1/\OwnV (.slice ay I.length cy) I X2):=⟨hY,Q,P,o1,o2⟩;clear z hlt2 a0 hY;go_upto_region 12 with fail
     go_quiet (first|(go_at_call 97;exact qy (F.out _)))
     go_upto_region 13 with fail;refine j5 (fun V=>Mem W V (Y++K)/\V.cell? ⟨g,0,none⟩=some (.int .i64 xs)/\V.cell? ⟨g,1,none⟩=some (.int .u64 f)/\V.cell? ⟨g,2,none⟩=some (.int .i64 q)/\V.cell? ⟨g,3,none⟩=some (.slice ax d.length cx)/\V.cell? ⟨g,4,none⟩=some (.int .i64 ys)/\V.cell? ⟨g,5,none⟩=some (.int .u64 O)/\V.cell? ⟨g,6,none⟩=some (.int .i64 yc)/\V.cell? ⟨g,7,none⟩=some (.slice ay I.length cy)/\∀ j,V.frozen? ⟨g,j,none⟩=false) ⟨U.out.drewN _,k0,k1,k2,k3,k4,k5,k6,k7,s⟩ ?_;clear k0 k1 k2 k3 k4 k5 k6 k7 s F;rintro B ⟨hx,k0,k1,k2,k3,k4,k5,k6,k7,s⟩;have HX:Hid (Mem W B (Y++K)):=hx;clear hx U
     go_region
     all_goals go_wp2
     refine bodyPost_ret (v:=.tuple #[.slice (some ⟨g,0,none⟩) 2 cap,.int .i64 0]) (by simp [results,results68,go_sem]) rfl ⟨_,rfl,[(⟨ys,O,yc,I⟩,.slice ay I.length cy),(⟨xs,f,q,d⟩,.slice ax d.length cx)],by rw [G.out];rfl,(g,.cells ((((((((C.setIfInBounds 0 (.int .i64 ys)).setIfInBounds 1 (.int .u64 O)).setIfInBounds 2 (.int .i64 yc)).setIfInBounds 3 (.slice ay I.length cy)).setIfInBounds 4 (.int .i64 xs)).setIfInBounds 5 (.int .u64 f)).setIfInBounds 6 (.int .i64 q)).setIfInBounds 7 (.slice ax d.length cx)) enT (0,0))::(X2++X1),?_,K,?_⟩
     ·obtain ⟨hY,Q,P,o1,o2⟩:=HY.out;refine Or.inr ⟨g,cap,_,X2++X1,rfl,by simp,by simpa using Q,by simpa using P,?_,?_,rfl⟩
      ·exact set8 C (by omega) _ _ _ _ _ _ _ _
      ·have:=OwnL.cons (x:=(⟨ys,O,yc,I⟩,.slice ay I.length cy)) o2 (OwnL.cons (x:=(⟨xs,f,q,d⟩,.slice ax d.length cx)) o1 .nil);simpa using this
     ·obtain ⟨hY,Q,P,o1,o2⟩:=HY.out;have hx:=HX.out;rw [hY] at hx;have a7:=hx.perm (show ((g,Obj.cells C enT (0,0))::(X1++X2)++K).Perm ((g,.cells C enT (0,0))::(X2++X1)++K) from ((ae).append_right K).cons _);exact ((((((((a7.set 0 rfl 0 _).set 0 rfl 1 _).set 0 rfl 2 _).set 0 rfl 3 _).set 0 rfl 4 _).set 0 rfl 5 _).set 0 rfl 6 _).set 0 rfl 7 _).drew
   ·have G:Hid (l.map aq=FD):=by
     show _=_;rw [<-HF.out,joq (by rw [<-J];simpa using R),J]
    have HE:Hid (ES u4 l Y):=N;have U:Hid (Mem W wr (Y++K)):=M;obtain ⟨ao,co,eo⟩:=N.shape;subst eo;have b1:((l.length:Int)==2)=false:=by simp;omega
    clear J N M HR HF;go_upto_region 12 with fail
    go_quiet (fail)
    go_wp2
    exact bodyPost_ret (v:=.tuple #[.slice ao l.length co,.int .i64 0]) (by simp [results,results68,go_sem]) rfl ⟨_,rfl,l,G.out,Y,HE.out,K,U.out.drewN _⟩
end
end
section
open Go.RowKit Sm Cf
theorem jcn (h:Mem w W L) :
  Calls prog 160 #[] W fun e W'=>∃ f E,e=.returned f.val/\Mem w W' (E++L)/\Fd w E IT JT f spT:=by
 have n6:Mem w (W.alloc (.cells #[.nilFunc,.nilFunc,.nilFunc] 246)) ((W.heap.size,.cells #[.nilFunc,.nilFunc,.nilFunc] 246)::([]++L)):=(h.push W.heap.size _ rfl).perm ae;obtain ⟨G,hrb⟩:∃ G,W.heap.size=G:=⟨_,rfl⟩;rw [hrb] at n6;clear h;go_enter func160,ntmps160;have C1:=jsa n6;go_wp2_with fail;refine C1.mono ?_;rintro e V1 ⟨⟨v4,v3,v2,r6,r5,r4⟩,E1,rfl,w3,S1,x2⟩;have F1:Hid (Fd w E1 _ _ ⟨v4,v3,v2,r6,r5,r4⟩ _):=x2;have T1:Hid (Sub [] E1):=S1;simp only [Fv.val];clear C1 n6 x2 S1;have C2:=jt7 w3;go_wp2_with fail;refine C2.mono ?_;rintro e V2 ⟨⟨v1,u9,u8,r3,r2,r1⟩,E2,rfl,c,S2,x1⟩;have F2:Hid (Fd w E2 _ _ ⟨v1,u9,u8,r3,r2,r1⟩ _):=x1;have T2:Hid (Sub E1 E2):=S2;simp only [Fv.val];clear C2 w3 x1 S2;have C3:=jt8 c;go_wp2_with fail;refine C3.mono ?_;rintro e V3 ⟨⟨u7,u6,u5,r0,p9,p8⟩,E3,rfl,i,S3,x0⟩;have F3:Hid (Fd w E3 _ _ ⟨u7,u6,u5,r0,p9,p8⟩ _):=x0;have T3:Hid (Sub E2 E3):=S3;simp only [Fv.val];clear C3 c x0 S3;have C4:=js6 i;go_wp2_with fail;refine C4.mono ?_;rintro e V4 ⟨⟨u4,u3,u2,p7,p6,p5⟩,E4,rfl,w1,S4,w9⟩;have F4:Hid (Fd w E4 _ _ ⟨u4,u3,u2,p7,p6,p5⟩ _):=w9;have T4:Hid (Sub E3 E4):=S4;simp only [Fv.val];clear C4 i w9 S4;have C5:=jhj w1;go_wp2_with fail;refine C5.mono ?_;rintro e V5 ⟨⟨u1,u0,t9,p4,p3,p2⟩,E5,rfl,w0,S5,w8⟩;have F5:Hid (Fd w E5 _ _ ⟨u1,u0,t9,p4,p3,p2⟩ _):=w8;have T5:Hid (Sub E4 E5):=S5;simp only [Fv.val];clear C5 w1 w8 S5;have C6:=jsb w0;go_wp2_with fail;refine C6.mono ?_;rintro e V6 ⟨⟨t8,t7,t6,p1,p0,o9⟩,E6,rfl,v9,S6,w7⟩;have F6:Hid (Fd w E6 _ _ ⟨t8,t7,t6,p1,p0,o9⟩ _):=w7;have T6:Hid (Sub E5 E6):=S6;simp only [Fv.val];clear C6 w0 w7 S6;have C7:=c_Lo v9;go_wp2_with fail;refine C7.mono ?_;rintro e V7 ⟨⟨t5,t4,t3,o8,o7,o6⟩,E7,rfl,v8,S7,w6⟩;have F7:Hid (Fd w E7 _ _ ⟨t5,t4,t3,o8,o7,o6⟩ _):=w6;have T7:Hid (Sub E6 E7):=S7;simp only [Fv.val];clear C7 v9 w6 S7;have C8:=c_Hi v8;go_wp2_with fail;refine C8.mono ?_;rintro e V8 ⟨⟨t2,t1,t0,o5,o4,o3⟩,E8,rfl,v7,S8,w5⟩;have F8:Hid (Fd w E8 _ _ ⟨t2,t1,t0,o5,o4,o3⟩ _):=w5;have T8:Hid (Sub E7 E8):=S8;simp only [Fv.val];clear C8 v8 w5 S8;have C9:=jky v7;go_wp2_with fail;refine C9.mono ?_;rintro e V9 ⟨⟨r9,r8,r7,o2,o1,o0⟩,E9,rfl,v6,S9,w4⟩;have F9:Hid (Fd w E9 _ _ ⟨r9,r8,r7,o2,o1,o0⟩ _):=w4;have T9:Hid (Sub E8 E9):=S9;simp only [Fv.val];clear C9 v7 w4 S9;have C10:=js7 v6;go_wp2_with fail;refine C10.mono ?_;rintro e V10 ⟨⟨h0,g9,g8,c5,c4,c3⟩,F,rfl,i6,S10,n5⟩;have F10:Hid (Fd w F _ _ ⟨h0,g9,g8,c5,c4,c3⟩ _):=n5;have T10:Hid (Sub E9 F):=S10;simp only [Fv.val];clear C10 v6 n5 S10;have C11:=jp2 i6;go_wp2_with fail;refine C11.mono ?_;rintro e V11 ⟨⟨g7,g6,g5,c2,c1,c0⟩,C,rfl,i5,S11,n4⟩;have F11:Hid (Fd w C _ _ ⟨g7,g6,g5,c2,c1,c0⟩ _):=n4;have T11:Hid (Sub F C):=S11;simp only [Fv.val];clear C11 i6 n4 S11;have C12:=js8 i5;go_wp2_with fail;refine C12.mono ?_;rintro e V12 ⟨⟨g4,g3,g2,b9,b8,b7⟩,B,rfl,i4,S12,n0⟩;have F12:Hid (Fd w B _ _ ⟨g4,g3,g2,b9,b8,b7⟩ _):=n0;have T12:Hid (Sub C B):=S12;simp only [Fv.val];clear C12 i5 n0 S12;have C13:=jp5 i4;go_wp2_with fail;refine C13.mono ?_;rintro e V13 ⟨⟨g1,g0,f9,b6,b5,b4⟩,A,rfl,i3,S13,m9⟩;have F13:Hid (Fd w A _ _ ⟨g1,g0,f9,b6,b5,b4⟩ _):=m9;have T13:Hid (Sub B A):=S13;simp only [Fv.val];clear C13 i4 m9 S13;have C14:=js9 i3;go_wp2_with fail;refine C14.mono ?_;rintro e V14 ⟨⟨f8,f7,f6,b3,b2,b1⟩,z,rfl,i2,S14,m8⟩;have F14:Hid (Fd w z _ _ ⟨f8,f7,f6,b3,b2,b1⟩ _):=m8;have T14:Hid (Sub A z):=S14;simp only [Fv.val];clear C14 i3 m8 S14;have C15:=jhl i2;go_wp2_with fail;refine C15.mono ?_;rintro e V15 ⟨⟨f5,f4,f3,b0,a9,a8⟩,y,rfl,i1,S15,m7⟩;have F15:Hid (Fd w y _ _ ⟨f5,f4,f3,b0,a9,a8⟩ _):=m7
 have T15:Hid (Sub z y):=S15;simp only [Fv.val];clear C15 i2 m7 S15;have C16:=jkx i1;go_wp2_with fail;refine C16.mono ?_;rintro e V16 ⟨⟨f2,f1,f0,a7,a6,a5⟩,u,rfl,i0,S16,m6⟩;have F16:Hid (Fd w u _ _ ⟨f2,f1,f0,a7,a6,a5⟩ _):=m6;have T16:Hid (Sub y u):=S16;simp only [Fv.val];clear C16 i1 m6 S16;have C17:=jhi i0;go_wp2_with fail;refine C17.mono ?_;rintro e V17 ⟨⟨e9,e8,e7,a4,a3,a2⟩,t,rfl,h9,S17,m5⟩;have F17:Hid (Fd w t _ _ ⟨e9,e8,e7,a4,a3,a2⟩ _):=m5;have T17:Hid (Sub u t):=S17;simp only [Fv.val];clear C17 i0 m5 S17;have n9:=jp3 h9 ⟨e9,e8,e7,a4,a3,a2⟩ F17.out;simp only [Fv.val] at n9;go_wp2_with fail;refine n9.mono ?_;rintro e V18 ⟨⟨e6,e5,e4,a1,a0,Z⟩,s,rfl,h8,S18,m4⟩;have F18:Hid (Fd w s _ _ ⟨e6,e5,e4,a1,a0,Z⟩ _):=m4;have T18:Hid (Sub t s):=S18;simp only;clear n9 h9 m4 S18;have C19:=jm1 h8;go_wp2_with fail;refine C19.mono ?_;rintro e V19 ⟨⟨d9,d8,d7,X,U,S⟩,o,rfl,h7,S19,m0⟩;have F19:Hid (Fd w o _ _ ⟨d9,d8,d7,X,U,S⟩ _):=m0;have T19:Hid (Sub s o):=S19;simp only [Fv.val];clear C19 h8 m0 S19;have n8:=jdx h7 ⟨d9,d8,d7,X,U,S⟩ F19.out;simp only [Fv.val] at n8;go_wp2_with fail;refine n8.mono ?_;rintro e V20 ⟨⟨d6,d5,d4,R,Q,P⟩,l,rfl,h6,S20,i9⟩;have F20:Hid (Fd w l _ _ ⟨d6,d5,d4,R,Q,P⟩ _):=i9;have T20:Hid (Sub o l):=S20;simp only;clear n8 h7 i9 S20;have C21:=jm1 h6;go_wp2_with fail;refine C21.mono ?_;rintro e V21 ⟨⟨d3,d2,d1,O,N,M⟩,k,rfl,h5,S21,i8⟩;have F21:Hid (Fd w k _ _ ⟨d3,d2,d1,O,N,M⟩ _):=i8;have T21:Hid (Sub l k):=S21;simp only [Fv.val];clear C21 h6 i8 S21;have n7:=jhk h5 ⟨d3,d2,d1,O,N,M⟩ F21.out;simp only [Fv.val] at n7;go_wp2_with fail;refine n7.mono ?_;rintro e x3 ⟨⟨d0,c9,c7,J,I,H⟩,b,rfl,h4,S22,i7⟩;have F22:Hid (Fd w b _ _ ⟨d0,c9,c7,J,I,H⟩ _):=i7;have T22:Hid (Sub k b):=S22;simp only;clear n7 h5 i7 S22;obtain ⟨lb,hlb⟩:∃ lb,x3.heap.size=lb:=⟨_,rfl⟩;obtain ⟨j,d⟩:∃ j:List Fv,j=[⟨v4,v3,v2,r6,r5,r4⟩,⟨v1,u9,u8,r3,r2,r1⟩,⟨u7,u6,u5,r0,p9,p8⟩,⟨u4,u3,u2,p7,p6,p5⟩,⟨u1,u0,t9,p4,p3,p2⟩,⟨t8,t7,t6,p1,p0,o9⟩,⟨t5,t4,t3,o8,o7,o6⟩,⟨t2,t1,t0,o5,o4,o3⟩,⟨r9,r8,r7,o2,o1,o0⟩,⟨h0,g9,g8,c5,c4,c3⟩,⟨g7,g6,g5,c2,c1,c0⟩,⟨g4,g3,g2,b9,b8,b7⟩,⟨g1,g0,f9,b6,b5,b4⟩,⟨f8,f7,f6,b3,b2,b1⟩,⟨f5,f4,f3,b0,a9,a8⟩,⟨f2,f1,f0,a7,a6,a5⟩,⟨e6,e5,e4,a1,a0,Z⟩,⟨d6,d5,d4,R,Q,P⟩,⟨d0,c9,c7,J,I,H⟩]:=⟨_,rfl⟩;have v5:Mem w (x3.alloc (.cells (j.flatMap Fv.cells).toArray 246)) ((lb,.cells (j.flatMap Fv.cells).toArray 246)::(G,.cells #[.nilFunc,.nilFunc,.nilFunc] 246)::(b++L)) :=
  (h4.push lb _ hlb.symm).perm ae
 have Cx:=jjk v5 lb 19;have HA:Hid (FdAll w b IT JT j tsp):=by
  have x4:Sub b b:=Sub.refl _;have U21:Sub k b:=T22.out.trans x4;have x5:Sub l b:=T21.out.trans U21;have U19:Sub o b:=T20.out.trans x5;have x6:Sub s b:=T19.out.trans U19;have U17:Sub t b:=T18.out.trans x6;have x7:Sub u b:=T17.out.trans U17;have x8:Sub y b:=T16.out.trans x7;have x9:Sub z b:=T15.out.trans x8;have U13:Sub A b:=T14.out.trans x9;have U12:Sub B b:=T13.out.trans U13;have U11:Sub C b:=T12.out.trans U12;have U10:Sub F b:=T11.out.trans U11;have U9:Sub E9 b:=T10.out.trans U10;have U8:Sub E8 b:=T9.out.trans U9;have U7:Sub E7 b:=T8.out.trans U8;have U6:Sub E6 b:=T7.out.trans U7;have U5:Sub E5 b:=T6.out.trans U6;have U4:Sub E4 b:=T5.out.trans U5;have U3:Sub E3 b:=T4.out.trans U4;have U2:Sub E2 b:=T3.out.trans U3;have U1:Sub E1 b:=T2.out.trans U2;rw [d];exact .cons (F1.out.more U1) (.cons (F2.out.more U2) (.cons (F3.out.more U3) (.cons (F4.out.more U4) (.cons (F5.out.more U5) (.cons (F6.out.more U6) (.cons (F7.out.more U7) (.cons (F8.out.more U8) (.cons (F9.out.more U9) (.cons (F10.out.more U10) (.cons (F11.out.more U11) (.cons (F12.out.more U12) (.cons (F13.out.more U13) (.cons (F14.out.more x9) (.cons (F15.out.more x8) (.cons (F16.out.more x7) (.cons (F18.out.more x6) (.cons (F20.out.more x5) (.cons (F22.out.more x4) (.nil)))))))))))))))))))
 clear v5 h4 F1 T1 F2 T2 F3 T3 F4 T4 F5 T5 F6 T6 F7 T7 F8 T8 F9 T9 F10 T10 F11 T11 F12 T12 F13 T13 F14 T14 F15 T15 F16 T16 F17 T17 F18 T18 F19 T19 F20 T20 F21 T21 F22 T22;rw [d] at Cx;simp only [af,ag,Fv.cells,ah,ai,aj] at Cx;go_wp2_with fail;refine Cx.mono ?_;rintro e V ⟨cb,rfl,hM⟩;obtain ⟨E,hE⟩:∃ E:List (Nat×Obj),E=(cb,.cells #[.slice (some ⟨lb,0,none⟩) 19 19] 317)::(lb,.cells (j.flatMap Fv.cells).toArray 246)::b:=⟨_,rfl⟩;have c:Mem w V ((G,.cells #[.nilFunc,.nilFunc,.nilFunc] 246)::(E++L)):=by
  rw [hE,d];simp only [af,ag,Fv.cells,ah,ai,aj];exact hM.perm (ak (l₁:=[_,_]))
 have HF:Hid (Fd w E IT JT (j4b cb) spT):=by
  refine jke cb lb 19 j tsp (by rw [d];rfl) (by omega) (by rw [hE];exact al ..) (by rw [hE];exact am _ (al ..)) ?_ ?_ ?_
  ·have:∀ j ss,FdAll w b IT JT j ss->FdAll w E IT JT j ss:=by
    intro j ss hA
    induction hA with
    | nil=>exact .nil
    | cons h1 _ ih=>exact .cons (h1.more (by rw [hE];exact fun q hq=>am _ (am _ hq))) ih
   exact this _ _ HA.out
  ·rintro x g T pre post V V' K ⟨h1,h2,hp,hs,hq,h3⟩ hB;exact ⟨h1,h2,hp,hs,hq,h3.after hB⟩
  ·rintro x g T pre post V K ⟨h1,h2,hp,hs,hq,h3⟩;exact h3.sub.dropA.dropA.dropA
 clear Cx hM hE d HA;generalize j4b cb=f at HF;obtain ⟨m1,m2,m3,n1,n2,n3⟩:=f;have i:=c.put3 (.func (.func m1) #[] n1) (.func (.func m2) #[] n2) (.func (.func m3) #[] n3);have e0:V.cell? ⟨G,0,none⟩=some .nilFunc:=c.cell 0 rfl 0;have e1:V.cell? ⟨G,1,none⟩=some .nilFunc:=c.cell 0 rfl 1;have e2:V.cell? ⟨G,2,none⟩=some .nilFunc:=c.cell 0 rfl 2;have e3:=c.free 0 rfl;clear c;simp only [Fv.val];go_wp2_with fail;refine bodyPost_ret (v:=.agg #[.func (.func m1) #[] n1,.func (.func m2) #[] n2,.func (.func m3) #[] n3]) ?_ rfl ⟨⟨m1,m2,m3,n1,n2,n3⟩,_::E,rfl,i,HF.out.more (fun q hq=>am _ hq)⟩;exact results_cell_row (p:=0) (ty:=246) rfl _ _ G 246 _ (0,0) _ rfl (i.get 0 rfl) underlying246 rfl (by kernel_rfl)
end
section
open Go.RowKit Sm
def Bk.hdB (k:Bk):Value:=.slice (some ⟨k.g,0,none⟩) k.b.length k.cap
def RS (v:Value) (bl:List (List Int)) (Y:List (Nat×Obj)):Prop :=
 (v=.slice none 0 0/\bl=[]/\Y=[])\/∃ h cap hc,∃ ks:List Bk,v=.slice (some ⟨h,0,none⟩) bl.length cap/\0<bl.length/\bl.length<=cap/\cap<=hc.size/\hc.toList.take bl.length=ks.map Bk.hdB/\(∀ k∈ks,k.Ok k.b.length/\k.cap=k.b.length)/\ks.map Bk.b=bl/\Y=(h,.cells hc 86)::ks.map Bk.ob
theorem RS.shape (h:RS v bl Y):∃ a c,v=.slice a bl.length c:=by
 rcases h with ⟨rfl,rfl,rfl⟩|⟨h,cap,hc,ks,rfl,_⟩
 ·exact ⟨none,0,rfl⟩
 ·exact ⟨_,_,rfl⟩
theorem jfa {k:Bk} (F:RS v bl Y) (z:Mem w W (Y++(k.ob::K))) (y:k.Ok k.b.length) (l:k.cap=k.b.length) (E:bl.length<=1000) (e:W.cell? ad=some k.hdB) (ty:TypeId) :
  ∃ A i B j,(Builtin.append_ #[84,84] ty #[v,.slice (some ad) 1 1]).run prog W=.ok (.slice A (bl.length+1) i) j/\RS (.slice A (bl.length+1) i) (bl++[k.b]) B/\Mem w j (B++K):=by
 rcases F with ⟨rfl,rfl,rfl⟩|⟨h,cap,hc,ks,rfl,h0,h1,h2,h3,h4,h5,rfl⟩
 ·obtain ⟨o,i,j,hr,d,u,t,s,f⟩:=j8t z ty ad k.hdB e;refine ⟨_,_,(o,.cells d 86)::[k.ob],j,hr,Or.inr ⟨o,i,d,[k],rfl,by simp,by simpa using u,t,by simpa using s,by simpa using ⟨y,l⟩,by simp,rfl⟩,?_⟩;simpa using f
 ·have x:ks.length=bl.length:=by rw [<-h5,List.length_map]
  obtain ⟨o,i,j,hr,d,u,t,s,f⟩:=jam (R:=ks.map Bk.ob++(k.ob::K)) z h1 h2 E ty ad k.hdB rfl e;refine ⟨_,_,(o,.cells d 86)::(ks++[k]).map Bk.ob,j,hr,Or.inr ⟨o,i,d,ks++[k],by simp,by simp,by simpa using u,t,?_,?_,?_,rfl⟩,?_⟩
  ·rw [List.length_append,List.length_singleton,s,h3];simp
  ·intro q C;rcases List.mem_append.mp C with c|c
   ·exact h4 q c
   ·simp at c;subst c;exact ⟨y,l⟩
  ·rw [ac,h5];simp
  ·simpa [ab] using f
def j1u (l:List (En×Value)):En×Value:=l.getLastD (En.zero,.slice none 0 0)
theorem jbx (l:List (En×Value)):(j1u l).1=nw (l.map aq):=by
 unfold j1u nw;rw [an,an,List.getLast?_map];cases l.getLast?<;>rfl
theorem jlw {x:En×Value} (h:ES v [x] Y) (c:Mem w W (Y++K)) :
  ∃ g cap,v=.slice (some ⟨g,0,none⟩) 1 cap/\1<=cap/\∀ j,j<4->W.cell? ⟨g,j,none⟩=(enC x)[j]?:=by
 rcases h with ⟨_,e,_⟩|⟨g,cap,cur,Xs,rfl,_,h1,h2,h3,h4,rfl⟩
 ·cases e
 ·have d:cur.toList.take 4=enC x:=by
   have:=h3;simpa [enCs] using this
  refine ⟨g,cap,rfl,h1,fun j b=>?_⟩;rw [c.cell 0 rfl j,<-d,aa,if_pos b];simp
theorem jgy {l:List (En×Value)} (h:ES v l Y) {x:En×Value} (hx:x∈l):∃ X R,OwnV x.2 x.1.r X/\Y.Perm (X++R):=by
 rcases h with ⟨_,rfl,_⟩|⟨g,cap,cur,Xs,rfl,h0,h1,h2,h3,h4,rfl⟩
 ·simp at hx
 ·have:∃ X R,OwnV x.2 x.1.r X/\Xs.Perm (X++R):=by
   clear h0 h1 h2 h3
   induction h4 with
   | nil=>simp at hx
   | cons a t ih =>
    rcases List.mem_cons.mp hx with e|e
    ·subst e;exact ⟨_,_,a,au _⟩
    ·obtain ⟨c,d,o,b⟩:=ih e;exact ⟨c,_,o,(ar _ b).trans (jv _ c d)⟩
  obtain ⟨X,R,o,b⟩:=this;exact ⟨X,(g,.cells cur enT (0,0))::R,o,(b.cons _).trans (ak).symm⟩
theorem jgw {l:List (En×Value)} (h:ES v l Y) {x:En×Value} (hx:x∈l):∃ a c,x.2=.slice a x.1.r.length c:=by
 obtain ⟨X,R,o,-⟩:=jgy h hx;obtain ⟨a,c,e,-⟩:=o.shape;exact ⟨a,c,e⟩
theorem j2g {l:List (En×Value)} (o:ES v l Y) (C:Mem w W (Y++K)) (h2:l.length<=2) :
  Calls prog 69 #[v] W fun e G=>e=.returned (.agg (enA (j1u l).1.s (j1u l).1.t (j1u l).1.c (j1u l).2))/\∃ H,Mem W G H:=by
 have k:Mem W (W.alloc (.cells en0 enT)) [(W.heap.size,.cells en0 enT (0,0))]:=(Mem.nil W).push1 rfl;have I:=k.cell 0 rfl;have kf:=k.free 0 rfl;have Q:Hid (Mem W (W.alloc (.cells en0 enT)) [(W.heap.size,.cells en0 enT (0,0))]):=k;have d:∀ g j,W.heap.size > g->(W.alloc (.cells en0 enT)).cell? ⟨g,j,none⟩=W.cell? ⟨g,j,none⟩:=fun g j Z=>k.old Z
 match l,h2 with
 | [],_ =>
  rcases o with ⟨rfl,_,_⟩|⟨g,cap,P,Xs,rfl,h0,_⟩
  ·generalize A:W.alloc (.cells en0 enT)=R at *;clear C k d;go_enter func69,ntmps69
   go_wp2
   exact bodyPost_ret (v:=.agg en0) (by simp [results,results69,go_sem,I]) rfl ⟨rfl,_,(((Q.out.set 0 rfl 0 _).set 0 rfl 1 _).set 0 rfl 2 _).set 0 rfl 3 _⟩
  ·simp at h0
 | [x],_ =>
  obtain ⟨g,cap,rfl,a1,b⟩:=jlw o C;obtain ⟨F,cv,E⟩:=jgw o (ap.mpr rfl);obtain ⟨⟨xs,q,z,u⟩,U⟩:=x;simp only at E;subst E;have f:W.heap.size > g:=by have:=j9 (b 0 (by omega));exact this
  have O:=(d g 0 f).trans (b 0 (by omega));have N:=(d g 1 f).trans (b 1 (by omega));have M:=(d g 2 f).trans (b 2 (by omega));have J:=(d g 3 f).trans (b 3 (by omega));simp [enC] at O N M J;generalize A:W.alloc (.cells en0 enT)=R at *;clear C k d b o;show Calls _ _ _ _ fun e G=>e=.returned (.agg (enA xs q z (.slice F u.length cv)))/\∃ H,Mem W G H;go_enter func69,ntmps69
  go_wp2
  exact bodyPost_ret (v:=.agg (enA xs q z (.slice F u.length cv))) (by simp [results,results69,go_sem,I]) rfl ⟨rfl,_,(((Q.out.set 0 rfl 0 _).set 0 rfl 1 _).set 0 rfl 2 _).set 0 rfl 3 _⟩
 | [y,x],_ =>
  obtain ⟨g,cap,P,X1,X2,rfl,a0,X,B,V,S,hY,b,i⟩:=jgx o C;obtain ⟨F,cv,E,-⟩:=S.shape;obtain ⟨⟨xs,q,z,u⟩,U⟩:=x;simp only at E;subst E;have f:W.heap.size > g:=by have:=j9 (b 0 (by omega));exact this
  have O:=(d g 4 f).trans (b 4 (by omega));have N:=(d g 5 f).trans (b 5 (by omega));have M:=(d g 6 f).trans (b 6 (by omega));have J:=(d g 7 f).trans (b 7 (by omega));simp [enC] at O N M J;generalize A:W.alloc (.cells en0 enT)=R at *;clear C k d b o B hY V S i;show Calls _ _ _ _ fun e G=>e=.returned (.agg (enA xs q z (.slice F u.length cv)))/\∃ H,Mem W G H;go_enter func69,ntmps69
  go_wp2
  exact bodyPost_ret (v:=.agg (enA xs q z (.slice F u.length cv))) (by simp [results,results69,go_sem,I]) rfl ⟨rfl,_,(((Q.out.set 0 rfl 0 _).set 0 rfl 1 _).set 0 rfl 2 _).set 0 rfl 3 _⟩
theorem j39 (l:RS v bl Y) (k:Mem w W (Y++K)) (i:bl.length<=1000) (hr:j6 r) (t:Mem W w2 [(g,.cells (bs r) 5)]) (ty:TypeId) :
  ∃ d c e f,(Builtin.append_ #[84,84] ty #[v,.slice (some ⟨w2.heap.size,0,none⟩) 1 1]).run prog (w2.alloc (.cells #[.slice (some ⟨g,0,none⟩) r.length r.length] 86))=.ok (.slice d (bl.length+1) c) f/\RS (.slice d (bl.length+1) c) (bl++[r]) e/\∃ z,Mem w f (e++z):=by
 have j:(Bk.mk g r.length (bs r) r).Ok (Bk.mk g r.length (bs r) r).b.length:=⟨Nat.le_refl _,by simp,by show List.take _ (List.map _ _)=_;exact List.take_of_length_le (by simp),rfl,hr⟩;have s:=(k.join t).alloc (.cells #[.slice (some ⟨g,0,none⟩) r.length r.length] 86);have q:Mem w (w2.alloc (.cells #[.slice (some ⟨g,0,none⟩) r.length r.length] 86)) (Y++((Bk.mk g r.length (bs r) r).ob::(K++[(w2.heap.size,.cells #[.slice (some ⟨g,0,none⟩) r.length r.length] 86)]))):=by
  refine s.perm ?_;simp only [ab,List.singleton_append];exact ar Y ak
 obtain ⟨d,c,e,f,y,x,u⟩:=jfa l q j rfl i (ad:=⟨w2.heap.size,0,none⟩) (by
  have:=((Mem.nil w2).push1 (o:=.cells #[.slice (some ⟨g,0,none⟩) r.length r.length] 86) rfl).cell 0 rfl 0;exact this) ty
 exact ⟨d,c,e,f,y,x,_,u⟩
theorem jk2 {l:List (En×Value)} (B:ES v l Y) (A:Mem w W (Y++K)) (C:l.length<=1) (hb:∀ x∈l,x.1.r.length<=1000000000) :
  Calls prog 70 #[v] W fun e H=>∃ J,e=.returned J/\∃ k,RS J (kp (l.map aq)) k/\∃ i,Mem W H (k++i):=by
 match l,C with
 | [],_ =>
  rcases B with ⟨rfl,_,_⟩|⟨g,cap,cur,Xs,rfl,h0,_⟩
  ·clear A hb;go_enter func70,ntmps70;go_wp2_with fail;refine wp_loop_rounds 1 ?_;rw [rounds_succ]
   go_wp2
   go_ret;exact ⟨_,rfl,[],Or.inl ⟨rfl,rfl,rfl⟩,[],Mem.nil W⟩
  ·simp at h0
 | [x],_ =>
  obtain ⟨g,cap,rfl,a0,b⟩:=jlw B A;obtain ⟨X,R,o,M⟩:=jgy B (ap.mpr rfl);have E:=hb x (ap.mpr rfl);obtain ⟨t,cv,O,a1,c⟩:=o.row ((A.perm (M.append_right K)).perm (List.Perm.of_eq (ab X R K))) (by omega);obtain ⟨⟨xs,y,z,f⟩,xv⟩:=x;simp only at O c E;subst O;have q:j6 f:=c.bytes;have Z:=b 0 (by omega);have U:=b 1 (by omega);have S:=b 2 (by omega);have Q:=b 3 (by omega);simp [enC] at Z U S Q;have N:Mem W (W.alloc (.cells (enA xs y z (.slice t f.length cv)) enT)) [(W.heap.size,.cells (enA xs y z (.slice t f.length cv)) enT (0,0))]:=(Mem.nil W).push1 rfl;have u:Hid (∀ V i,Mem W V i->Row V t f):=fun V i hV=>hV.row c;clear A b B hb o M c;go_enter func70,ntmps70;go_wp2_with fail;refine wp_loop_rounds 2 ?_;rw [rounds_succ];go_upto_region 5 with fail;refine j5 (fun V=>Mem W V [(W.heap.size,.cells (enA xs y z (.slice t f.length cv)) enT (0,0))]) N ?_;intro P G;have j3:=G.cell 0 rfl 3;simp at j3;have j:Hid (Mem W P [(W.heap.size,.cells (enA xs y z (.slice t f.length cv)) enT (0,0))]):=G;clear G N
  go_quiet (fail)
  have hs:=j0p rfl (yg (n:=nq) (u.out _ _ j.out)) cv;go_wp2_with fail;refine hs.mono ?_;rintro e w2 ⟨g2,rfl,C⟩;obtain ⟨a',c',k,H,d,F,i,s⟩:=j39 (v:=.slice none 0 0) (bl:=[]) (Y:=[]) (Or.inl ⟨rfl,rfl,rfl⟩) (j.out.drewN nq) (by simp) q C 84;rw [List.length_nil,Nat.zero_add] at d F;have HR:Hid (RS (.slice a' 1 c') [f] k):=F;have I:Hid (Mem W H (k++i)):=s;clear F s C hs j;go_wp2_with (refine jl (.tmp 27) (.tmp 31) 84 84 (by with_reducible rfl) d rfl rfl (by simp [Act.eval]) (by simp [Act.eval]) ?_)
  rw [rounds_succ]
  go_wp2
  go_ret;exact ⟨_,rfl,k,HR.out,i,I.out⟩
end
section
open Go.RowKit Sm Cf
def TV (V:World) (v:Value) (t:Ten):Prop:=TLen t/\∃ p s q,v=.agg (tc t p s q).toArray/\Rw V 1 p (ux t.pool)/\Rw V 2 s (px t.stat)/\Rw V 2 q (px t.twi)
theorem jso {t:Ten} {p s q:Value} (hi:TIn t) (k:Rw w 1 p (ux t.pool)) (i:Rw w 2 s (px t.stat)) (f:Rw w 2 q (px t.twi)) {b post:List Value} (d:(g,.cells (b++(tc t p s q++post)).toArray T (0,0))∈K) :
  ∀ V,Mem w V K->IT t (p,s,q) V g b.length:=by
 intro V c;refine ⟨hi,fun j v e=>?_,c.rw' k j1g,c.rw' i zj,c.rw' f zj⟩;rw [ja c d];exact jy _ _ _ j v e
def tenc (t:Ten):List Int:=spT.enc t
theorem ql (w:World) (a b:Obj):Mem w ((w.alloc a).alloc b) [(w.heap.size+1,b),(w.heap.size,a)]:=by
 have h:=((Mem.nil w).push w.heap.size a rfl).push (w.heap.size+1) b (by simp);exact h.perm (av _ _ _)
end
end Go.Proofs.YtdigofgjhaakmaaGreatDoor
