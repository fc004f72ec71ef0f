/- Parts of the proof. -/
import Derived.Test.YtdigofgjhaakmaaGreatDoorC11
set_option linter.all false
set_option maxHeartbeats 40000000
set_option maxRecDepth 20000
open Go.Proofs.Tryz
open List renaming getElem?_take->aa,append_assoc->ab,map_append->ac,perm_append_comm->ae,flatMap_cons->af,flatMap_nil->ag,cons_append->ah,nil_append->ai,append_nil->aj,perm_middle->ak,mem_cons_self->al,mem_cons_of_mem->am,getLastD_eq_getLast?->an,mem_singleton->ap
open Prod renaming fst->aq
open List.Perm renaming append_left->ar,refl->au,swap->av
namespace Go.Proofs.YtdigofgjhaakmaaGreatDoor
variable {Y K L:List (Nat×Obj)} {bl:List (List Int)} {v:Value} {w W w2:World} {r:List Int} {ad a:Addr} {g:Nat}
section
open Go.RowKit Sm
def lfnd (bl:List (List Int)):Nat->List En
 | 0=>[]
 | i+1=>lfnd bl i++(rd bl i).toList
theorem jlr (bl:List (List Int)) (i:Nat):(lfnd bl i).length<=i:=by
 induction i with
 | zero=>simp [lfnd]
 | succ i ih=>cases h:rd bl i<;>simp [lfnd,h]<;>omega
theorem joj {x y:En} (h:lfnd bl 2=[x,y]):fd bl=if ltr x.t y.t then [y,x] else [x,y]:=by
 unfold fd;simp only [lfnd] at h;cases h0:rd bl 0<;>cases h1:rd bl 1<;>rw [h0,h1] at h<;>simp at h;obtain ⟨rfl,rfl⟩:=h;rfl
theorem jlv (h:(lfnd bl 2).length≠2):fd bl=lfnd bl 2:=by
 unfold fd;simp only [lfnd] at h ⊢;cases h0:rd bl 0<;>cases h1:rd bl 1<;>rw [h0,h1] at h<;>simp at h ⊢
theorem jev {x y:En×Value} (h:ES v [x,y] Y) (d:Mem w W (Y++K)) :
  ∃ g cap c k i,v=.slice (some ⟨g,0,none⟩) 2 cap/\2<=cap/\cap*4<=c.size/\c.toList.take 8=enC x++enC y/\OwnV x.2 x.1.r k/\OwnV y.2 y.1.r i/\Y=(g,.cells c enT (0,0))::(k++i)/\(∀ j,j<8->W.cell? ⟨g,j,none⟩=(enC x++enC y)[j]?)/\∀ j,W.frozen? ⟨g,j,none⟩=false:=by
 rcases h with ⟨_,e,_⟩|⟨g,cap,c,Xs,rfl,_,h1,h2,h3,h4,rfl⟩
 ·cases e
 ·cases h4 with
  | cons a t =>
   cases t with
   | cons b t2 =>
    cases t2;have f:c.toList.take 8=enC x++enC y:=by
     have:=h3;simpa [enCs] using this
    refine ⟨g,cap,c,_,_,rfl,h1,h2,f,a,b,by simp,fun j l=>?_,fun j=>?_⟩
    ·rw [d.cell 0 rfl j,<-f,aa,if_pos l];simp
    ·exact d.free 0 rfl j
theorem set8 (j:Array Value) (h:8<=j.size) (a b c d e f g i:Value):((((((((j.setIfInBounds 0 a).setIfInBounds 1 b).setIfInBounds 2 c).setIfInBounds 3 d).setIfInBounds 4 e).setIfInBounds 5 f).setIfInBounds 6 g).setIfInBounds 7 i).toList.take 8=[a,b,c,d,e,f,g,i]:=by
 obtain ⟨l⟩:=j
 match l,h with
 | c0::c1::c2::c3::c4::c5::c6::c7::r,_=>simp
section
variable {w W:World} {p h m:Nat} {D:Dk} {hc:Array Value} {ks:List Bk} {L:List (Nat×Obj)}
theorem j6w (H:DkAt w W p h m D hc ks L) (hG:Gl W a) (hd:D.dead=false) (hn:4<=ks.length) (hm:256<=m) :
  Calls prog 68 #[.pointer (some ⟨p,0,none⟩)] W fun e W'=>∃ v,e=.returned (.tuple #[v,.int .i64 0])/\∃ l,l.map aq=fd (ks.map Bk.b)/\∃ Y,ES v l Y/\∃ K,Mem W W' (Y++K):=by
 have HR:Hid (∀ V K,Mem W V K->∀ i:Nat,i<=1->Calls prog 95 #[.pointer (some ⟨p,0,none⟩),.int .i64 i] V fun e W'=>∃ T,e=.returned (rdV (.iface 342 (.pointer (some a))) T (rd (ks.map Bk.b) i))/\∃ X K,Mem V W' (X++K)/\∀ x,rd (ks.map Bk.b) i=some x->OwnV T x.r X) :=
  fun V K hV i hi=>jkm (H.join hV) hd hn hm (hG.on hV).sent i hi
 have HG:Hid (Gl W a):=hG;generalize ks.map Bk.b=bl at *;clear hG H;generalize hF:fd bl=FD;have HF:Hid (fd bl=FD):=hF;clear hF;go_enter func68,ntmps68;go_wp2_with fail
 go_loopw [4,9] (fun o u wr=>∃ i:Nat,u=.int .i64 i/\i<=2/\∃ l Y K,l.map aq=lfnd bl i/\ES o l Y/\Mem W wr (Y++K)) (fun _ u _=>2-(intOf u).toNat)
 case atStart=>exact ⟨0,rfl,by omega,[],[],[],rfl,Or.inl ⟨rfl,rfl,rfl⟩,Mem.nil W⟩
 case round =>
  obtain ⟨i,rfl,hi,l,Y,K,I,M,J⟩:=hrel;have a7:l.length<=i:=by have:=jlr bl i;rw [<-I] at this;simpa using this
  by_cases hlt:i<2
  ·have hr:=HR.out _ _ J i (by omega);cases hrd:rd bl i with
   | none =>
    rw [hrd] at hr;simp only [rdV] at hr;have HL:Hid (l.map aq=lfnd bl (i+1)):=by show _=_;rw [I,lfnd,hrd];simp
    have Z:Hid (ES u4 l Y):=M;have S:Hid (Mem W wr (Y++K)):=J;clear I M hrd J;go_wp2_with fail;refine hr.mono ?_;rintro e w2 ⟨T,rfl,X,K2,Q,-⟩;go_upto_region 8 with fail;refine j5 (fun V=>Mem wr V (X++K2++[(w2.heap.size,.cells en0 enT (0,0))]++[(w2.heap.size+1,.cells #[.int .i64 0] 28)])) ((Q.alloc _).push (w2.heap.size+1) _ (by simp)) ?_;intro A hx;have z:=S.out.join hx;have gx:=HG.out.on z;have s1:=gx.sent;have hI:=jli a A;have R:Hid (Mem W A (Y++(K++(X++K2++[(w2.heap.size,.cells en0 enT (0,0))]++[(w2.heap.size+1,.cells #[.int .i64 0] 28)])))):=by rw [<-ab];exact z
    clear hx z gx Q hr;go_wp2_with fail;refine hI.mono ?_;rintro e w' ⟨rfl,rfl⟩;go_wp2_with fail;go_roundw
    case rel=>exact ⟨i+1,by go_num,by omega,l,Y,_,HL.out,Z.out,R.out⟩
    case measure=>simp [intOf];omega
   | some x =>
    rw [hrd] at hr;simp only [rdV] at hr;have HL:Hid (∀ T:Value,(l++[(x,T)]).map aq=lfnd bl (i+1)):=by intro T;rw [lfnd,hrd,ac,I];simp
    have Z:Hid (ES u4 l Y):=M;have S:Hid (Mem W wr (Y++K)):=J;clear I M hrd J;obtain ⟨xs,f,n,d⟩:=x;simp only at hr;go_wp2_with fail;refine hr.mono ?_;rintro e w2 ⟨T,rfl,X,K2,Q,hO⟩;have a0:OwnV T d X:=hO _ rfl;obtain ⟨C,cv,ev,-⟩:=a0.shape;subst ev;clear hO;go_upto_region 8 with fail;refine j5 (fun V=>Mem wr V (X++K2++[(w2.heap.size,.cells (enA xs f n (.slice C d.length cv)) enT (0,0))]++[(w2.heap.size+1,.cells #[.int .i64 0] 28)])) ((Q.alloc _).push (w2.heap.size+1) _ (by simp)) ?_;intro A hx;have z:=S.out.join hx;have gx:=HG.out.on z;have s1:=gx.sent;have hI:=jo7 a A;have hA:=jpd (.iface 164 (.pointer (some ⟨w2.heap.size+1,0,none⟩))) A;have kb:∀ j,A.cell? ⟨w2.heap.size,j,none⟩=(enA xs f n (.slice C d.length cv))[j]?:=fun j=>cell_of (hx.at_ (w2.heap.size,.cells (enA xs f n (.slice C d.length cv)) enT (0,0)) (by simp)) j;have k0:=kb 0;have k1:=kb 1;have k2:=kb 2;have k3:=kb 3;simp at k0 k1 k2 k3;have R:Hid (Mem W A (Y++(X++(K++(K2++[(w2.heap.size,.cells (enA xs f n (.slice C d.length cv)) enT (0,0))]++[(w2.heap.size+1,.cells #[.int .i64 0] 28)]))))):=by
     refine z.perm ?_;rw [ab];refine ar Y ?_;rw [ab,ab,ab];exact js K X _
    obtain ⟨ao,co,eo⟩:=Z.out.shape;subst eo;have a5:∀ j,j<4->(A.alloc (.cells (enA xs f n (.slice C d.length cv)) enT)).cell? ⟨A.heap.size,j,none⟩=(enA xs f n (.slice C d.length cv))[j]?:=fun j _=>by
     have:=((Mem.nil A).push1 (o:=.cells (enA xs f n (.slice C d.length cv)) enT) rfl).cell 0 rfl j;exact this
    have a2:Mem W (A.alloc (.cells (enA xs f n (.slice C d.length cv)) enT)) (Y++(X++((K++(K2++[(w2.heap.size,.cells (enA xs f n (.slice C d.length cv)) enT (0,0))]++[(w2.heap.size+1,.cells #[.int .i64 0] 28)]))++[(A.heap.size,.cells (enA xs f n (.slice C d.length cv)) enT (0,0))]))):=by
     have:=R.out.alloc (.cells (enA xs f n (.slice C d.length cv)) enT (0,0));simpa [ab] using this
    obtain ⟨a',c',Y',W',a1,a4,a3⟩:=jex Z.out a2 (by omega) (x:=⟨xs,f,n,d⟩) a0 a5 124;have a9:Hid (ES (.slice a' (l.length+1) c') (l++[(⟨xs,f,n,d⟩,.slice C d.length cv)]) Y'):=a4;have a8:Hid _:=a3;clear hx z gx Q hr kb a2 a5 a4 a3 a0 R;go_wp2_with fail;refine hI.mono ?_;rintro e w' ⟨rfl,rfl⟩;go_wp2_with fail;refine hA.mono ?_;rintro e w' ⟨rfl,rfl⟩;go_wp2_with (refine jk (.tmp 18) (.tmp 20) 124 124 (by with_reducible rfl) a1 rfl rfl (by simp [Act.eval]) (by simp [Act.eval]) ?_)
    go_roundw
    case rel=>exact ⟨i+1,by go_num,by omega,_,Y',_,HL.out _,a9.out,a8.out⟩
    case measure=>simp [intOf];omega
  ·have e2:i=2:=by omega
   subst e2;by_cases Q:l.length=2
   ·obtain ⟨x,y,rfl⟩:∃ x y,l=[x,y]:=by
     match l,Q with
     | [x,y],_=>exact ⟨x,y,rfl⟩
    have s:FD=if ltr x.1.t y.1.t then [y.1,x.1] else [x.1,y.1]:=by rw [<-HF.out];exact joj I.symm
    obtain ⟨g,cap,B,X1,X2,ev,P,O,U,o1,o2,hY,c,q⟩:=jev M J;subst ev;obtain ⟨⟨xs,f,n,d⟩,xv⟩:=x;obtain ⟨⟨ys,N,yc,G⟩,yv⟩:=y;obtain ⟨ax,cx,ex,-⟩:=o1.shape;obtain ⟨ay,cy,ey,-⟩:=o2.shape;simp only at ex ey s;subst ex;subst ey;have k0:=c 0 (by omega);have k1:=c 1 (by omega);have k2:=c 2 (by omega);have k3:=c 3 (by omega);have k4:=c 4 (by omega);have k5:=c 5 (by omega);have k6:=c 6 (by omega);have k7:=c 7 (by omega);simp [enC] at k0 k1 k2 k3 k4 k5 k6 k7;have E:Hid (∀ k,Calls prog 97 #[.int .u64 f,.int .u64 N] (wr.drewN k) fun e W'=>e=.returned (.bool (ltr f N))/\wr.drewN k=W'):=fun k=>j4b _ _ _;have Z:Hid (ES _ _ Y):=M;have S:Hid (Mem W wr (Y++K)):=J;have q1:(1:Int)<(2:Int):=by decide
    clear I M J HR HF c Q a7;cases hlt2:ltr f N with
    | false =>
     rw [hlt2] at s E;have F:Hid (FD=[⟨xs,f,n,d⟩,⟨ys,N,yc,G⟩]):=s;clear s hlt2 U;go_upto_region 12 with fail
     go_quiet (first|(go_at_call 97;exact qf (E.out _)))
     go_wp2
     exact bodyPost_ret (v:=.tuple #[.slice (some ⟨g,0,none⟩) 2 cap,.int .i64 0]) (by simp [results,results68,go_sem]) rfl ⟨_,rfl,_,by rw [F.out];rfl,Y,Z.out,K,S.out.drewN _⟩
    | true =>
     rw [hlt2] at s E;have F:Hid (FD=[⟨ys,N,yc,G⟩,⟨xs,f,n,d⟩]):=s;have HY:Hid (Y=(g,.cells B enT (0,0))::(X1++X2)/\2<=cap/\cap*4<=B.size/\OwnV (.slice ax d.length cx) d X1/\OwnV (.slice ay G.length cy) G X2):=⟨hY,P,O,o1,o2⟩;clear s hlt2 U hY;go_upto_region 12 with fail
     go_quiet (first|(go_at_call 97;exact qf (E.out _)))
     go_upto_region 13 with fail;refine j5 (fun V=>Mem W V (Y++K)/\V.cell? ⟨g,0,none⟩=some (.int .i64 xs)/\V.cell? ⟨g,1,none⟩=some (.int .u64 f)/\V.cell? ⟨g,2,none⟩=some (.int .i64 n)/\V.cell? ⟨g,3,none⟩=some (.slice ax d.length cx)/\V.cell? ⟨g,4,none⟩=some (.int .i64 ys)/\V.cell? ⟨g,5,none⟩=some (.int .u64 N)/\V.cell? ⟨g,6,none⟩=some (.int .i64 yc)/\V.cell? ⟨g,7,none⟩=some (.slice ay G.length cy)/\∀ j,V.frozen? ⟨g,j,none⟩=false) ⟨S.out.drewN _,k0,k1,k2,k3,k4,k5,k6,k7,q⟩ ?_;clear k0 k1 k2 k3 k4 k5 k6 k7 q E;rintro A ⟨hx,k0,k1,k2,k3,k4,k5,k6,k7,q⟩;have HX:Hid (Mem W A (Y++K)):=hx;clear hx S
     go_region
     all_goals go_wp2
     refine bodyPost_ret (v:=.tuple #[.slice (some ⟨g,0,none⟩) 2 cap,.int .i64 0]) (by simp [results,results68,go_sem]) rfl ⟨_,rfl,[(⟨ys,N,yc,G⟩,.slice ay G.length cy),(⟨xs,f,n,d⟩,.slice ax d.length cx)],by rw [F.out];rfl,(g,.cells ((((((((B.setIfInBounds 0 (.int .i64 ys)).setIfInBounds 1 (.int .u64 N)).setIfInBounds 2 (.int .i64 yc)).setIfInBounds 3 (.slice ay G.length cy)).setIfInBounds 4 (.int .i64 xs)).setIfInBounds 5 (.int .u64 f)).setIfInBounds 6 (.int .i64 n)).setIfInBounds 7 (.slice ax d.length cx)) enT (0,0))::(X2++X1),?_,K,?_⟩
     ·obtain ⟨hY,P,O,o1,o2⟩:=HY.out;refine Or.inr ⟨g,cap,_,X2++X1,rfl,by simp,by simpa using P,by simpa using O,?_,?_,rfl⟩
      ·exact set8 B (by omega) _ _ _ _ _ _ _ _
      ·have:=OwnL.cons (x:=(⟨ys,N,yc,G⟩,.slice ay G.length cy)) o2 (OwnL.cons (x:=(⟨xs,f,n,d⟩,.slice ax d.length cx)) o1 .nil);simpa using this
     ·obtain ⟨hY,P,O,o1,o2⟩:=HY.out;have hx:=HX.out;rw [hY] at hx;have a6:=hx.perm (show ((g,Obj.cells B enT (0,0))::(X1++X2)++K).Perm ((g,.cells B enT (0,0))::(X2++X1)++K) from ((ae).append_right K).cons _);exact ((((((((a6.set 0 rfl 0 _).set 0 rfl 1 _).set 0 rfl 2 _).set 0 rfl 3 _).set 0 rfl 4 _).set 0 rfl 5 _).set 0 rfl 6 _).set 0 rfl 7 _).drew
   ·have F:Hid (l.map aq=FD):=by
     show _=_;rw [<-HF.out,jlv (by rw [<-I];simpa using Q),I]
    have Z:Hid (ES u4 l Y):=M;have S:Hid (Mem W wr (Y++K)):=J;obtain ⟨ao,co,eo⟩:=M.shape;subst eo;have b0:((l.length:Int)==2)=false:=by simp;omega
    clear I M J HR HF;go_upto_region 12 with fail
    go_quiet (fail)
    go_wp2
    exact bodyPost_ret (v:=.tuple #[.slice ao l.length co,.int .i64 0]) (by simp [results,results68,go_sem]) rfl ⟨_,rfl,l,F.out,Y,Z.out,K,S.out.drewN _⟩
end
end
section
open Go.RowKit Sm Cf
theorem jb0 (h:Mem w W L) :
  Calls prog 160 #[] W fun e W'=>∃ f E,e=.returned f.val/\Mem w W' (E++L)/\Fd w E IT JT f spT:=by
 have n5:Mem w (W.alloc (.cells #[.nilFunc,.nilFunc,.nilFunc] 246)) ((W.heap.size,.cells #[.nilFunc,.nilFunc,.nilFunc] 246)::([]++L)):=(h.push W.heap.size _ rfl).perm ae;obtain ⟨F,hrb⟩:∃ F,W.heap.size=F:=⟨_,rfl⟩;rw [hrb] at n5;clear h;go_enter func160,ntmps160;have C1:=jp5 n5;go_wp2_with fail;refine C1.mono ?_;rintro e V1 ⟨⟨v2,v1,v0,r5,r4,r3⟩,E1,rfl,w0,S1,x0⟩;have F1:Hid (Fd w E1 _ _ ⟨v2,v1,v0,r5,r4,r3⟩ _):=x0;have T1:Hid (Sub [] E1):=S1;simp only [Fv.val];clear C1 n5 x0 S1;have C2:=jq3 w0;go_wp2_with fail;refine C2.mono ?_;rintro e V2 ⟨⟨u9,u8,u7,r2,r1,r0⟩,E2,rfl,c,S2,w9⟩;have F2:Hid (Fd w E2 _ _ ⟨u9,u8,u7,r2,r1,r0⟩ _):=w9;have T2:Hid (Sub E1 E2):=S2;simp only [Fv.val];clear C2 w0 w9 S2;have C3:=jq4 c;go_wp2_with fail;refine C3.mono ?_;rintro e V3 ⟨⟨u6,u5,u4,p9,p8,p7⟩,E3,rfl,i,S3,w8⟩;have F3:Hid (Fd w E3 _ _ ⟨u6,u5,u4,p9,p8,p7⟩ _):=w8;have T3:Hid (Sub E2 E3):=S3;simp only [Fv.val];clear C3 c w8 S3;have C4:=jp1 i;go_wp2_with fail;refine C4.mono ?_;rintro e V4 ⟨⟨u3,u2,u1,p6,p5,p4⟩,E4,rfl,v9,S4,w7⟩;have F4:Hid (Fd w E4 _ _ ⟨u3,u2,u1,p6,p5,p4⟩ _):=w7;have T4:Hid (Sub E3 E4):=S4;simp only [Fv.val];clear C4 i w7 S4;have C5:=jfd v9;go_wp2_with fail;refine C5.mono ?_;rintro e V5 ⟨⟨u0,t9,t8,p3,p2,p1⟩,E5,rfl,v8,S5,w6⟩;have F5:Hid (Fd w E5 _ _ ⟨u0,t9,t8,p3,p2,p1⟩ _):=w6;have T5:Hid (Sub E4 E5):=S5;simp only [Fv.val];clear C5 v9 w6 S5;have C6:=jp6 v8;go_wp2_with fail;refine C6.mono ?_;rintro e V6 ⟨⟨t7,t6,t5,p0,o9,o8⟩,E6,rfl,v7,S6,w5⟩;have F6:Hid (Fd w E6 _ _ ⟨t7,t6,t5,p0,o9,o8⟩ _):=w5;have T6:Hid (Sub E5 E6):=S6;simp only [Fv.val];clear C6 v8 w5 S6;have C7:=c_Lo v7;go_wp2_with fail;refine C7.mono ?_;rintro e V7 ⟨⟨t4,t3,t2,o7,o6,o5⟩,E7,rfl,v6,S7,w4⟩;have F7:Hid (Fd w E7 _ _ ⟨t4,t3,t2,o7,o6,o5⟩ _):=w4;have T7:Hid (Sub E6 E7):=S7;simp only [Fv.val];clear C7 v7 w4 S7;have C8:=c_Hi v6;go_wp2_with fail;refine C8.mono ?_;rintro e V8 ⟨⟨t1,t0,r9,o4,o3,o2⟩,E8,rfl,v5,S8,w3⟩;have F8:Hid (Fd w E8 _ _ ⟨t1,t0,r9,o4,o3,o2⟩ _):=w3;have T8:Hid (Sub E7 E8):=S8;simp only [Fv.val];clear C8 v6 w3 S8;have C9:=jie v5;go_wp2_with fail;refine C9.mono ?_;rintro e V9 ⟨⟨r8,r7,r6,o1,o0,n9⟩,E9,rfl,v4,S9,w1⟩;have F9:Hid (Fd w E9 _ _ ⟨r8,r7,r6,o1,o0,n9⟩ _):=w1;have T9:Hid (Sub E8 E9):=S9;simp only [Fv.val];clear C9 v5 w1 S9;have C10:=jp2 v4;go_wp2_with fail;refine C10.mono ?_;rintro e V10 ⟨⟨g9,g8,g7,c4,c3,c2⟩,C,rfl,i5,S10,n4⟩;have F10:Hid (Fd w C _ _ ⟨g9,g8,g7,c4,c3,c2⟩ _):=n4;have T10:Hid (Sub E9 C):=S10;simp only [Fv.val];clear C10 v4 n4 S10;have C11:=jm5 i5;go_wp2_with fail;refine C11.mono ?_;rintro e V11 ⟨⟨g6,g5,g4,c1,c0,b9⟩,B,rfl,i4,S11,n0⟩;have F11:Hid (Fd w B _ _ ⟨g6,g5,g4,c1,c0,b9⟩ _):=n0;have T11:Hid (Sub C B):=S11;simp only [Fv.val];clear C11 i5 n0 S11;have C12:=jp3 i4;go_wp2_with fail;refine C12.mono ?_;rintro e V12 ⟨⟨g3,g2,g1,b8,b7,b6⟩,A,rfl,i3,S12,m9⟩;have F12:Hid (Fd w A _ _ ⟨g3,g2,g1,b8,b7,b6⟩ _):=m9;have T12:Hid (Sub B A):=S12;simp only [Fv.val];clear C12 i4 m9 S12;have C13:=jm8 i3;go_wp2_with fail;refine C13.mono ?_;rintro e V13 ⟨⟨g0,f9,f8,b5,b4,b3⟩,z,rfl,i2,S13,m8⟩;have F13:Hid (Fd w z _ _ ⟨g0,f9,f8,b5,b4,b3⟩ _):=m8;have T13:Hid (Sub A z):=S13;simp only [Fv.val];clear C13 i3 m8 S13;have C14:=jp4 i2;go_wp2_with fail;refine C14.mono ?_;rintro e V14 ⟨⟨f7,f6,f5,b2,b1,b0⟩,y,rfl,i1,S14,m7⟩;have F14:Hid (Fd w y _ _ ⟨f7,f6,f5,b2,b1,b0⟩ _):=m7;have T14:Hid (Sub z y):=S14;simp only [Fv.val];clear C14 i2 m7 S14;have C15:=jff i1;go_wp2_with fail;refine C15.mono ?_;rintro e V15 ⟨⟨f4,f3,f2,a9,a8,a7⟩,u,rfl,i0,S15,m6⟩;have F15:Hid (Fd w u _ _ ⟨f4,f3,f2,a9,a8,a7⟩ _):=m6
 have T15:Hid (Sub y u):=S15;simp only [Fv.val];clear C15 i1 m6 S15;have C16:=jid i0;go_wp2_with fail;refine C16.mono ?_;rintro e V16 ⟨⟨f1,f0,e9,a6,a5,a4⟩,t,rfl,h9,S16,m5⟩;have F16:Hid (Fd w t _ _ ⟨f1,f0,e9,a6,a5,a4⟩ _):=m5;have T16:Hid (Sub u t):=S16;simp only [Fv.val];clear C16 i0 m5 S16;have C17:=jfc h9;go_wp2_with fail;refine C17.mono ?_;rintro e V17 ⟨⟨e8,e7,e6,a3,a2,a1⟩,s,rfl,h8,S17,m4⟩;have F17:Hid (Fd w s _ _ ⟨e8,e7,e6,a3,a2,a1⟩ _):=m4;have T17:Hid (Sub t s):=S17;simp only [Fv.val];clear C17 h9 m4 S17;have n8:=jm6 h8 ⟨e8,e7,e6,a3,a2,a1⟩ F17.out;simp only [Fv.val] at n8;go_wp2_with fail;refine n8.mono ?_;rintro e V18 ⟨⟨e5,e4,d9,a0,Z,X⟩,o,rfl,h7,S18,m0⟩;have F18:Hid (Fd w o _ _ ⟨e5,e4,d9,a0,Z,X⟩ _):=m0;have T18:Hid (Sub s o):=S18;simp only;clear n8 h8 m0 S18;have C19:=jjf h7;go_wp2_with fail;refine C19.mono ?_;rintro e V19 ⟨⟨d8,d7,d6,U,S,R⟩,n,rfl,h6,S19,i9⟩;have F19:Hid (Fd w n _ _ ⟨d8,d7,d6,U,S,R⟩ _):=i9;have T19:Hid (Sub o n):=S19;simp only [Fv.val];clear C19 h7 i9 S19;have n7:=jc3 h6 ⟨d8,d7,d6,U,S,R⟩ F19.out;simp only [Fv.val] at n7;go_wp2_with fail;refine n7.mono ?_;rintro e V20 ⟨⟨d5,d4,d3,Q,P,O⟩,l,rfl,h5,S20,i8⟩;have F20:Hid (Fd w l _ _ ⟨d5,d4,d3,Q,P,O⟩ _):=i8;have T20:Hid (Sub n l):=S20;simp only;clear n7 h6 i8 S20;have C21:=jjf h5;go_wp2_with fail;refine C21.mono ?_;rintro e V21 ⟨⟨d2,d1,d0,N,M,J⟩,k,rfl,h4,S21,i7⟩;have F21:Hid (Fd w k _ _ ⟨d2,d1,d0,N,M,J⟩ _):=i7;have T21:Hid (Sub l k):=S21;simp only [Fv.val];clear C21 h5 i7 S21;have n6:=jfe h4 ⟨d2,d1,d0,N,M,J⟩ F21.out;simp only [Fv.val] at n6;go_wp2_with fail;refine n6.mono ?_;rintro e x1 ⟨⟨c9,c7,c5,I,H,G⟩,b,rfl,h0,S22,i6⟩;have F22:Hid (Fd w b _ _ ⟨c9,c7,c5,I,H,G⟩ _):=i6;have T22:Hid (Sub k b):=S22;simp only;clear n6 h4 i6 S22;obtain ⟨lb,hlb⟩:∃ lb,x1.heap.size=lb:=⟨_,rfl⟩;obtain ⟨j,d⟩:∃ j:List Fv,j=[⟨v2,v1,v0,r5,r4,r3⟩,⟨u9,u8,u7,r2,r1,r0⟩,⟨u6,u5,u4,p9,p8,p7⟩,⟨u3,u2,u1,p6,p5,p4⟩,⟨u0,t9,t8,p3,p2,p1⟩,⟨t7,t6,t5,p0,o9,o8⟩,⟨t4,t3,t2,o7,o6,o5⟩,⟨t1,t0,r9,o4,o3,o2⟩,⟨r8,r7,r6,o1,o0,n9⟩,⟨g9,g8,g7,c4,c3,c2⟩,⟨g6,g5,g4,c1,c0,b9⟩,⟨g3,g2,g1,b8,b7,b6⟩,⟨g0,f9,f8,b5,b4,b3⟩,⟨f7,f6,f5,b2,b1,b0⟩,⟨f4,f3,f2,a9,a8,a7⟩,⟨f1,f0,e9,a6,a5,a4⟩,⟨e5,e4,d9,a0,Z,X⟩,⟨d5,d4,d3,Q,P,O⟩,⟨c9,c7,c5,I,H,G⟩]:=⟨_,rfl⟩;have v3:Mem w (x1.alloc (.cells (j.flatMap Fv.cells).toArray 246)) ((lb,.cells (j.flatMap Fv.cells).toArray 246)::(F,.cells #[.nilFunc,.nilFunc,.nilFunc] 246)::(b++L)) :=
  (h0.push lb _ hlb.symm).perm ae
 have Cx:=jh7 v3 lb 19;have HA:Hid (FdAll w b IT JT j tsp):=by
  have x2:Sub b b:=Sub.refl _;have U21:Sub k b:=T22.out.trans x2;have x3:Sub l b:=T21.out.trans U21;have U19:Sub n b:=T20.out.trans x3;have x4:Sub o b:=T19.out.trans U19;have U17:Sub s b:=T18.out.trans x4;have x5:Sub t b:=T17.out.trans U17;have x6:Sub u b:=T16.out.trans x5;have x7:Sub y b:=T15.out.trans x6;have x8:Sub z b:=T14.out.trans x7;have x9:Sub A b:=T13.out.trans x8;have U11:Sub B b:=T12.out.trans x9;have U10:Sub C b:=T11.out.trans U11;have U9:Sub E9 b:=T10.out.trans U10;have U8:Sub E8 b:=T9.out.trans U9;have U7:Sub E7 b:=T8.out.trans U8;have U6:Sub E6 b:=T7.out.trans U7;have U5:Sub E5 b:=T6.out.trans U6;have U4:Sub E4 b:=T5.out.trans U5;have U3:Sub E3 b:=T4.out.trans U4;have U2:Sub E2 b:=T3.out.trans U3;have U1:Sub E1 b:=T2.out.trans U2;rw [d];exact .cons (F1.out.more U1) (.cons (F2.out.more U2) (.cons (F3.out.more U3) (.cons (F4.out.more U4) (.cons (F5.out.more U5) (.cons (F6.out.more U6) (.cons (F7.out.more U7) (.cons (F8.out.more U8) (.cons (F9.out.more U9) (.cons (F10.out.more U10) (.cons (F11.out.more U11) (.cons (F12.out.more x9) (.cons (F13.out.more x8) (.cons (F14.out.more x7) (.cons (F15.out.more x6) (.cons (F16.out.more x5) (.cons (F18.out.more x4) (.cons (F20.out.more x3) (.cons (F22.out.more x2) (.nil)))))))))))))))))))
 clear v3 h0 F1 T1 F2 T2 F3 T3 F4 T4 F5 T5 F6 T6 F7 T7 F8 T8 F9 T9 F10 T10 F11 T11 F12 T12 F13 T13 F14 T14 F15 T15 F16 T16 F17 T17 F18 T18 F19 T19 F20 T20 F21 T21 F22 T22;rw [d] at Cx;simp only [af,ag,Fv.cells,ah,ai,aj] at Cx;go_wp2_with fail;refine Cx.mono ?_;rintro e V ⟨cb,rfl,hM⟩;obtain ⟨E,hE⟩:∃ E:List (Nat×Obj),E=(cb,.cells #[.slice (some ⟨lb,0,none⟩) 19 19] 317)::(lb,.cells (j.flatMap Fv.cells).toArray 246)::b:=⟨_,rfl⟩;have c:Mem w V ((F,.cells #[.nilFunc,.nilFunc,.nilFunc] 246)::(E++L)):=by
  rw [hE,d];simp only [af,ag,Fv.cells,ah,ai,aj];exact hM.perm (ak (l₁:=[_,_]))
 have HF:Hid (Fd w E IT JT (j3f cb) spT):=by
  refine ji1 cb lb 19 j tsp (by rw [d];rfl) (by omega) (by rw [hE];exact al ..) (by rw [hE];exact am _ (al ..)) ?_ ?_ ?_
  ·have:∀ j ss,FdAll w b IT JT j ss->FdAll w E IT JT j ss:=by
    intro j ss hA
    induction hA with
    | nil=>exact .nil
    | cons h1 _ ih=>exact .cons (h1.more (by rw [hE];exact fun q hq=>am _ (am _ hq))) ih
   exact this _ _ HA.out
  ·rintro x g T pre post V V' K ⟨h1,h2,hp,hs,hq,h3⟩ hB;exact ⟨h1,h2,hp,hs,hq,h3.after hB⟩
  ·rintro x g T pre post V K ⟨h1,h2,hp,hs,hq,h3⟩;exact h3.sub.dropA.dropA.dropA
 clear Cx hM hE d HA;generalize j3f cb=f at HF;obtain ⟨m1,m2,m3,n1,n2,n3⟩:=f;have i:=c.put3 (.func (.func m1) #[] n1) (.func (.func m2) #[] n2) (.func (.func m3) #[] n3);have e0:V.cell? ⟨F,0,none⟩=some .nilFunc:=c.cell 0 rfl 0;have e1:V.cell? ⟨F,1,none⟩=some .nilFunc:=c.cell 0 rfl 1;have e2:V.cell? ⟨F,2,none⟩=some .nilFunc:=c.cell 0 rfl 2;have e3:=c.free 0 rfl;clear c;simp only [Fv.val];go_wp2_with fail;refine bodyPost_ret (v:=.agg #[.func (.func m1) #[] n1,.func (.func m2) #[] n2,.func (.func m3) #[] n3]) ?_ rfl ⟨⟨m1,m2,m3,n1,n2,n3⟩,_::E,rfl,i,HF.out.more (fun q hq=>am _ hq)⟩;exact results_cell_row (p:=0) (ty:=246) rfl _ _ F 246 _ (0,0) _ rfl (i.get 0 rfl) underlying246 rfl (by kernel_rfl)
end
section
open Go.RowKit Sm
def Bk.hdB (k:Bk):Value:=.slice (some ⟨k.g,0,none⟩) k.b.length k.cap
def RS (v:Value) (bl:List (List Int)) (Y:List (Nat×Obj)):Prop :=
 (v=.slice none 0 0/\bl=[]/\Y=[])\/∃ h cap hc,∃ ks:List Bk,v=.slice (some ⟨h,0,none⟩) bl.length cap/\0<bl.length/\bl.length<=cap/\cap<=hc.size/\hc.toList.take bl.length=ks.map Bk.hdB/\(∀ k∈ks,k.Ok k.b.length/\k.cap=k.b.length)/\ks.map Bk.b=bl/\Y=(h,.cells hc 86)::ks.map Bk.ob
theorem RS.shape (h:RS v bl Y):∃ a c,v=.slice a bl.length c:=by
 rcases h with ⟨rfl,rfl,rfl⟩|⟨h,cap,hc,ks,rfl,_⟩
 ·exact ⟨none,0,rfl⟩
 ·exact ⟨_,_,rfl⟩
theorem jdd {k:Bk} (E:RS v bl Y) (y:Mem w W (Y++(k.ob::K))) (x:k.Ok k.b.length) (l:k.cap=k.b.length) (C:bl.length<=1000) (e:W.cell? ad=some k.hdB) (ty:TypeId) :
  ∃ z i A j,(Builtin.append_ #[84,84] ty #[v,.slice (some ad) 1 1]).run prog W=.ok (.slice z (bl.length+1) i) j/\RS (.slice z (bl.length+1) i) (bl++[k.b]) A/\Mem w j (A++K):=by
 rcases E with ⟨rfl,rfl,rfl⟩|⟨h,cap,hc,ks,rfl,h0,h1,h2,h3,h4,h5,rfl⟩
 ·obtain ⟨n,i,j,hr,d,t,s,o,f⟩:=j7f y ty ad k.hdB e;refine ⟨_,_,(n,.cells d 86)::[k.ob],j,hr,Or.inr ⟨n,i,d,[k],rfl,by simp,by simpa using t,s,by simpa using o,by simpa using ⟨x,l⟩,by simp,rfl⟩,?_⟩;simpa using f
 ·have u:ks.length=bl.length:=by rw [<-h5,List.length_map]
  obtain ⟨n,i,j,hr,d,t,s,o,f⟩:=j92 (R:=ks.map Bk.ob++(k.ob::K)) y h1 h2 C ty ad k.hdB rfl e;refine ⟨_,_,(n,.cells d 86)::(ks++[k]).map Bk.ob,j,hr,Or.inr ⟨n,i,d,ks++[k],by simp,by simp,by simpa using t,s,?_,?_,?_,rfl⟩,?_⟩
  ·rw [List.length_append,List.length_singleton,o,h3];simp
  ·intro q B;rcases List.mem_append.mp B with c|c
   ·exact h4 q c
   ·simp at c;subst c;exact ⟨x,l⟩
  ·rw [ac,h5];simp
  ·simpa [ab] using f
def j18 (l:List (En×Value)):En×Value:=l.getLastD (En.zero,.slice none 0 0)
theorem jaf (l:List (En×Value)):(j18 l).1=nw (l.map aq):=by
 unfold j18 nw;rw [an,an,List.getLast?_map];cases l.getLast?<;>rfl
theorem jjc {x:En×Value} (h:ES v [x] Y) (c:Mem w W (Y++K)) :
  ∃ g cap,v=.slice (some ⟨g,0,none⟩) 1 cap/\1<=cap/\∀ j,j<4->W.cell? ⟨g,j,none⟩=(enC x)[j]?:=by
 rcases h with ⟨_,e,_⟩|⟨g,cap,cur,Xs,rfl,_,h1,h2,h3,h4,rfl⟩
 ·cases e
 ·have d:cur.toList.take 4=enC x:=by
   have:=h3;simpa [enCs] using this
  refine ⟨g,cap,rfl,h1,fun j b=>?_⟩;rw [c.cell 0 rfl j,<-d,aa,if_pos b];simp
theorem jew {l:List (En×Value)} (h:ES v l Y) {x:En×Value} (hx:x∈l):∃ X R,OwnV x.2 x.1.r X/\Y.Perm (X++R):=by
 rcases h with ⟨_,rfl,_⟩|⟨g,cap,cur,Xs,rfl,h0,h1,h2,h3,h4,rfl⟩
 ·simp at hx
 ·have:∃ X R,OwnV x.2 x.1.r X/\Xs.Perm (X++R):=by
   clear h0 h1 h2 h3
   induction h4 with
   | nil=>simp at hx
   | cons a t ih =>
    rcases List.mem_cons.mp hx with e|e
    ·subst e;exact ⟨_,_,a,au _⟩
    ·obtain ⟨c,d,o,b⟩:=ih e;exact ⟨c,_,o,(ar _ b).trans (js _ c d)⟩
  obtain ⟨X,R,o,b⟩:=this;exact ⟨X,(g,.cells cur enT (0,0))::R,o,(b.cons _).trans (ak).symm⟩
theorem jeu {l:List (En×Value)} (h:ES v l Y) {x:En×Value} (hx:x∈l):∃ a c,x.2=.slice a x.1.r.length c:=by
 obtain ⟨X,R,o,-⟩:=jew h hx;obtain ⟨a,c,e,-⟩:=o.shape;exact ⟨a,c,e⟩
theorem j1q {l:List (En×Value)} (n:ES v l Y) (B:Mem w W (Y++K)) (h2:l.length<=2) :
  Calls prog 69 #[v] W fun e F=>e=.returned (.agg (enA (j18 l).1.s (j18 l).1.t (j18 l).1.c (j18 l).2))/\∃ G,Mem W F G:=by
 have k:Mem W (W.alloc (.cells en0 enT)) [(W.heap.size,.cells en0 enT (0,0))]:=(Mem.nil W).push1 rfl;have H:=k.cell 0 rfl;have kf:=k.free 0 rfl;have P:Hid (Mem W (W.alloc (.cells en0 enT)) [(W.heap.size,.cells en0 enT (0,0))]):=k;have d:∀ g j,W.heap.size > g->(W.alloc (.cells en0 enT)).cell? ⟨g,j,none⟩=W.cell? ⟨g,j,none⟩:=fun g j V=>k.old V
 match l,h2 with
 | [],_ =>
  rcases n with ⟨rfl,_,_⟩|⟨g,cap,O,Xs,rfl,h0,_⟩
  ·generalize z:W.alloc (.cells en0 enT)=Q at *;clear B k d;go_enter func69,ntmps69
   go_wp2
   exact bodyPost_ret (v:=.agg en0) (by simp [results,results69,go_sem,H]) rfl ⟨rfl,_,(((P.out.set 0 rfl 0 _).set 0 rfl 1 _).set 0 rfl 2 _).set 0 rfl 3 _⟩
  ·simp at h0
 | [x],_ =>
  obtain ⟨g,cap,rfl,Z,b⟩:=jjc n B;obtain ⟨E,cv,C⟩:=jeu n (ap.mpr rfl);obtain ⟨⟨xs,o,u,q⟩,S⟩:=x;simp only at C;subst C;have f:W.heap.size > g:=by have:=j9 (b 0 (by omega));exact this
  have N:=(d g 0 f).trans (b 0 (by omega));have M:=(d g 1 f).trans (b 1 (by omega));have J:=(d g 2 f).trans (b 2 (by omega));have I:=(d g 3 f).trans (b 3 (by omega));simp [enC] at N M J I;generalize z:W.alloc (.cells en0 enT)=Q at *;clear B k d b n;show Calls _ _ _ _ fun e F=>e=.returned (.agg (enA xs o u (.slice E q.length cv)))/\∃ G,Mem W F G;go_enter func69,ntmps69
  go_wp2
  exact bodyPost_ret (v:=.agg (enA xs o u (.slice E q.length cv))) (by simp [results,results69,go_sem,H]) rfl ⟨rfl,_,(((P.out.set 0 rfl 0 _).set 0 rfl 1 _).set 0 rfl 2 _).set 0 rfl 3 _⟩
 | [y,x],_ =>
  obtain ⟨g,cap,O,X1,X2,rfl,X,U,A,T,R,hY,b,i⟩:=jev n B;obtain ⟨E,cv,C,-⟩:=R.shape;obtain ⟨⟨xs,o,u,q⟩,S⟩:=x;simp only at C;subst C;have f:W.heap.size > g:=by have:=j9 (b 0 (by omega));exact this
  have N:=(d g 4 f).trans (b 4 (by omega));have M:=(d g 5 f).trans (b 5 (by omega));have J:=(d g 6 f).trans (b 6 (by omega));have I:=(d g 7 f).trans (b 7 (by omega));simp [enC] at N M J I;generalize z:W.alloc (.cells en0 enT)=Q at *;clear B k d b n A hY T R i;show Calls _ _ _ _ fun e F=>e=.returned (.agg (enA xs o u (.slice E q.length cv)))/\∃ G,Mem W F G;go_enter func69,ntmps69
  go_wp2
  exact bodyPost_ret (v:=.agg (enA xs o u (.slice E q.length cv))) (by simp [results,results69,go_sem,H]) rfl ⟨rfl,_,(((P.out.set 0 rfl 0 _).set 0 rfl 1 _).set 0 rfl 2 _).set 0 rfl 3 _⟩
theorem j2f (l:RS v bl Y) (k:Mem w W (Y++K)) (i:bl.length<=1000) (hr:j6 r) (s:Mem W w2 [(g,.cells (bs r) 5)]) (ty:TypeId) :
  ∃ d c e f,(Builtin.append_ #[84,84] ty #[v,.slice (some ⟨w2.heap.size,0,none⟩) 1 1]).run prog (w2.alloc (.cells #[.slice (some ⟨g,0,none⟩) r.length r.length] 86))=.ok (.slice d (bl.length+1) c) f/\RS (.slice d (bl.length+1) c) (bl++[r]) e/\∃ y,Mem w f (e++y):=by
 have j:(Bk.mk g r.length (bs r) r).Ok (Bk.mk g r.length (bs r) r).b.length:=⟨Nat.le_refl _,by simp,by show List.take _ (List.map _ _)=_;exact List.take_of_length_le (by simp),rfl,hr⟩;have q:=(k.join s).alloc (.cells #[.slice (some ⟨g,0,none⟩) r.length r.length] 86);have n:Mem w (w2.alloc (.cells #[.slice (some ⟨g,0,none⟩) r.length r.length] 86)) (Y++((Bk.mk g r.length (bs r) r).ob::(K++[(w2.heap.size,.cells #[.slice (some ⟨g,0,none⟩) r.length r.length] 86)]))):=by
  refine q.perm ?_;simp only [ab,List.singleton_append];exact ar Y ak
 obtain ⟨d,c,e,f,x,u,t⟩:=jdd l n j rfl i (ad:=⟨w2.heap.size,0,none⟩) (by
  have:=((Mem.nil w2).push1 (o:=.cells #[.slice (some ⟨g,0,none⟩) r.length r.length] 86) rfl).cell 0 rfl 0;exact this) ty
 exact ⟨d,c,e,f,x,u,_,t⟩
theorem jhp {l:List (En×Value)} (B:ES v l Y) (A:Mem w W (Y++K)) (C:l.length<=1) (hb:∀ x∈l,x.1.r.length<=1000000000) :
  Calls prog 70 #[v] W fun e H=>∃ J,e=.returned J/\∃ k,RS J (kp (l.map aq)) k/\∃ i,Mem W H (k++i):=by
 match l,C with
 | [],_ =>
  rcases B with ⟨rfl,_,_⟩|⟨g,cap,cur,Xs,rfl,h0,_⟩
  ·clear A hb;go_enter func70,ntmps70;go_wp2_with fail;refine wp_loop_rounds 1 ?_;rw [rounds_succ]
   go_wp2
   go_ret;exact ⟨_,rfl,[],Or.inl ⟨rfl,rfl,rfl⟩,[],Mem.nil W⟩
  ·simp at h0
 | [x],_ =>
  obtain ⟨g,cap,rfl,a0,b⟩:=jjc B A;obtain ⟨X,R,o,M⟩:=jew B (ap.mpr rfl);have E:=hb x (ap.mpr rfl);obtain ⟨t,cv,O,a1,c⟩:=o.row ((A.perm (M.append_right K)).perm (List.Perm.of_eq (ab X R K))) (by omega);obtain ⟨⟨xs,y,z,f⟩,xv⟩:=x;simp only at O c E;subst O;have q:j6 f:=c.bytes;have U:=b 0 (by omega);have T:=b 1 (by omega);have S:=b 2 (by omega);have Q:=b 3 (by omega);simp [enC] at U T S Q;have N:Mem W (W.alloc (.cells (enA xs y z (.slice t f.length cv)) enT)) [(W.heap.size,.cells (enA xs y z (.slice t f.length cv)) enT (0,0))]:=(Mem.nil W).push1 rfl;have u:Hid (∀ V i,Mem W V i->Row V t f):=fun V i hV=>hV.row c;clear A b B hb o M c;go_enter func70,ntmps70;go_wp2_with fail;refine wp_loop_rounds 2 ?_;rw [rounds_succ];go_upto_region 5 with fail;refine j5 (fun V=>Mem W V [(W.heap.size,.cells (enA xs y z (.slice t f.length cv)) enT (0,0))]) N ?_;intro P G;have Z:=G.cell 0 rfl 3;simp at Z;have j:Hid (Mem W P [(W.heap.size,.cells (enA xs y z (.slice t f.length cv)) enT (0,0))]):=G;clear G N
  go_quiet (fail)
  have hs:=j0a rfl (qj (n:=nq) (u.out _ _ j.out)) cv;go_wp2_with fail;refine hs.mono ?_;rintro e w2 ⟨g2,rfl,C⟩;obtain ⟨a',c',k,H,d,F,i,s⟩:=j2f (v:=.slice none 0 0) (bl:=[]) (Y:=[]) (Or.inl ⟨rfl,rfl,rfl⟩) (j.out.drewN nq) (by simp) q C 84;rw [List.length_nil,Nat.zero_add] at d F;have HR:Hid (RS (.slice a' 1 c') [f] k):=F;have I:Hid (Mem W H (k++i)):=s;clear F s C hs j;go_wp2_with (refine jk (.tmp 27) (.tmp 31) 84 84 (by with_reducible rfl) d rfl rfl (by simp [Act.eval]) (by simp [Act.eval]) ?_)
  rw [rounds_succ]
  go_wp2
  go_ret;exact ⟨_,rfl,k,HR.out,i,I.out⟩
end
section
open Go.RowKit Sm Cf
def TV (V:World) (v:Value) (t:Ten):Prop:=TLen t/\∃ p s q,v=.agg (tc t p s q).toArray/\Rw V 1 p (ux t.pool)/\Rw V 2 s (px t.stat)/\Rw V 2 q (px t.twi)
def tenc (t:Ten):List Int:=spT.enc t
theorem kz (w:World) (a b:Obj):Mem w ((w.alloc a).alloc b) [(w.heap.size+1,b),(w.heap.size,a)]:=by
 have h:=((Mem.nil w).push w.heap.size a rfl).push (w.heap.size+1) b (by simp);exact h.perm (av _ _ _)
end
end Go.Proofs.YtdigofgjhaakmaaGreatDoor
