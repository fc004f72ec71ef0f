/- Parts of the proof. -/
import Derived.Test.YtdigofgjhaakmaaGreatDoorL43
set_option linter.all false
set_option maxHeartbeats 40000000
set_option maxRecDepth 20000
open Go.Proofs.Tryz
open Or renaming inl->aa
open Go.Act renaming put->ab
open Go.RowKit.Below renaming refl->ac
open Go.AllReadyH renaming cons->ad,nil->ae
namespace Go.Proofs.YtdigofgjhaakmaaGreatDoor
open Go.RowKit Sm Cf Df Va
theorem plays16 {w:World} (hv:Vs w) {ga:Addr} (hG:Gl w ga) {a:Option Addr} {n cap:Nat} {X:Nat->Ac} (hX:ActsW w a n X) :
 Calls prog 3 #[.slice a n cap] w fun e V=>e=.returned (.bool true)/\Below w.heap.size w V:=by
 have CK:=jns hv hG;have HL:Hid (∀ V,Below w.heap.size w V->Calls prog 9 #[.slice a n cap,.int .i64 (40:Nat)] V (LiP V n 40 X)):=fun V hV=>jnp (hX.at_ hV) 40 (by omega);have HV:Hid (∀ V,Below w.heap.size w V->Vs V):=fun V hV=>hv.below hV;have HG:Hid (Gl w ga):=hG;have b5:Hid (∀ i,i<n->∃ b F,a=some ⟨b,F,none⟩/\(aC (X i)).length=70/\AcW w (X i)/\∀ V,Below w.heap.size w V->V.rangeAt b (F+i*70) (aC (X i))):=by
  intro i hi;obtain ⟨b,F,e,h1,h2,h3⟩:=hX i hi;refine ⟨b,F,e,h2,h3,fun V hV j v hj=>?_⟩;have h4:=h1 j v hj;exact (hV.cell (p:=⟨b,F+i*70+j,none⟩) (j9 h4)).trans h4
 clear hv hG hX;go_enter func3,ntmps3;go_wp2_with fail;refine CK.mono ?_;rintro e V0 ⟨rfl,b2⟩;have CL:=HL.out V0 b2;have b9:Hid (Below w.heap.size w V0):=b2;clear CK b2 HL;go_wp2_with fail;refine CL.mono ?_;rintro e V1 ⟨r,rfl,hr,c4⟩;have c9:=b9.out.trans (c4.mono b9.out.size);have HR:Hid (r=true->n<=40/\∀ i,i<n->LgA (X i)):=hr;have b7:Hid (Below w.heap.size w V1):=c9;clear CL hr c4 c9 b9;cases r
 ·go_wp2_with fail;go_ret;exact ⟨rfl,b7.out⟩
 ·have d3:Hid (n<=40/\∀ i,i<n->LgA (X i)):=HR.out rfl;have CN:=jl4 (x:=12) (y:=4096) (n:=12) (m:=4096) rfl rfl V1;clear HR;go_wp2_with fail;refine CN.mono ?_;rintro e V2 ⟨p,rfl,h,a6⟩;have CO:=j8x (a6.base b7.out) HG.out rfl (by omega) (by omega) (by omega) (by omega) (by simp) (ver:=0) (c:=cfg0) (aa ⟨rfl,rfl,rfl⟩) (n:=20) (by omega);clear CN a6 b7;go_wp2_with fail;refine CO.mono ?_;rintro e V3 ⟨a3,rfl,hA,-⟩;obtain ⟨C,a9⟩:∃ g,V3.heap.size=g:=⟨_,rfl⟩;have HB:Hid (Bo w (V3.alloc (.cells mZ mT)) [] p h 4096 12 D0 [] a3 C 0 cfg0 none 20):=by rw [<-a9];exact jrw (D:=D0) hA rfl
  have b1:=jop V3;obtain ⟨Z,hZ⟩:∃ Z:Array Value,mZ=Z:=⟨_,rfl⟩;rw [hZ] at HB b1;clear CO hA hZ;go_upto_region 10 with (refine yw rfl 41 _ (by with_reducible rfl) b1 (by simp [Act.eval,ab]) ?_)
  refine j5 (fun X=>Bo w X [] p h 4096 12 D0 [] a3 C 0 cfg0 none 20) (by exact HB.out) ?_;intro V4 c7
  try simp only [a9]
  have d4:Hid (∃ z ver c st,Bo w V4 [] p h 4096 12 D0 z a3 C ver c st (20+0)/\ver<=(0:Nat)):=⟨_,_,_,_,c7,Int.le_refl _⟩;clear HB b1 a9 c7;go_wp2_with fail
  go_loopw [4,7] (fun u4 u7 w'=>∃ (i M:Nat),i<=n/\u7=.int .i64 i/\u4=.pointer (some ⟨M,0,none⟩)/\Hid (∃ z ver c st,Bo w w' [] p h 4096 12 D0 z M C ver c st (20+i)/\ver<=i)) (fun u4 u7 w'=>n-(intOf u7).toNat)
  case atStart=>exact ⟨0,a3,Nat.zero_le _,rfl,rfl,d4⟩
  case round =>
   obtain ⟨i,M,hi,rfl,rfl,W⟩:=hrel;clear d4;by_cases hlt:i<n
   ·have d7:(i:Int)<n:=by omega
    obtain ⟨z,ver,c,st,Q,c2⟩:=W.out;obtain ⟨b,F,rfl,d0,hw,a4⟩:=b5.out i hlt;have d8:i<40:=by have:=d3.out.1;omega
    have a0:Hid (LgA (X i)/\AcW w (X i)/\ver<=i):=⟨d3.out.2 i hlt,hw,c2⟩;have c0:wr.cell? ⟨b,F+i*70,none⟩=some (.int .i64 (X i).what):=a4 wr Q.below 0 _ (j70 (X i)).1;have e5:IntKind.i64.wrap ((i:Int)+1)=(i:Int)+1:=qh (by omega) (by omega);by_cases h8:(X i).what=8
    ·rw [h8] at c0;have CO:=jos Q HG.out (by omega) (by omega) (by omega) (by omega);clear W a4 h8 Q b5;go_wp2_with fail;refine CO.mono ?_;rintro e R ⟨a7,rfl,h5⟩;have CA:=jhf h5;clear CO h5;go_wp2_with fail;refine CA.mono ?_;rintro e V6 ⟨k,rfl,Q⟩;have E:Hid (Bo w V6 [] p h 4096 12 D0 z a7 C ver c none (20+i+1)/\ver<=i+1):=⟨Q.grow (Nat.le_succ _),by have:=a0.out.2.2;omega⟩;clear CA Q;obtain ⟨u1,-,r1,G,-⟩:=E.out.1.read;have I:=E.out.1.few;obtain ⟨AC,a2,c3,b0,c1,O⟩:=ccA E.out.1.clen (jc4 G);rw [a2.out] at G;have B:Hid (∀ Y,Below V6.heap.size V6 Y->Y.cell? ⟨C,0,none⟩=some (.int .u64 ver)/\Y.rangeAt C 1 (cc c u1)):=fun Y hY=>by
      refine ⟨?_,fun j v hj=>?_⟩
      ·obtain ⟨-,h0,-⟩:=(E.out.1.join hY).read;exact h0
      ·have h4:=r1 j v hj;exact (hY.cell (p:=⟨C,1+j,none⟩) (j9 h4)).trans h4
     have a1:Hid (∀ Y,Below V6.heap.size V6 Y->∀ A,CV Y (.agg A) c->Calls prog 16 #[.agg A,.agg AC] Y fun e V=>e=.returned (.bool true)/\Below Y.heap.size Y V):=fun Y hY A hA=>j0b hA (G.at_ hY (Nat.le_refl _)) I (zu _);have d5:(ver != ver)=false:=by simp
     clear r1 G I;generalize cc c u1=lc at *;go_upto_region 22 with fail;refine wp_region_held_drew (S:=fun X=>X.cell? ⟨C,0,none⟩=some (.int .u64 ver)/\X.rangeAt C 1 lc) (by kernel_rfl) (B.out _ (ac _ _).drew) (fun o=>?_);refine tkq 0 rfl (v:=?_) (aa ⟨by rfl,?z1⟩) ?_
     case z1=>intro w d;obtain ⟨l,f⟩:=d;go_simp;all_goals with_reducible rfl
     try simp only [sqx,ab]
     refine tkq 2 rfl (v:=?_) (aa ⟨by rfl,?z2⟩) ?_
     case z2=>intro w d;obtain ⟨l,f⟩:=d;go_simp;all_goals with_reducible rfl
     try simp only [sqx,ab]
     refine tkq 3 rfl (v:=?_) (aa ⟨by rfl,?z3⟩) ?_
     case z3=>intro w d;obtain ⟨l,f⟩:=d;go_simp;all_goals with_reducible rfl
     try simp only [sqx,ab]
     refine tkq 4 rfl (v:=?_) (aa ⟨by rfl,?z4⟩) ?_
     case z4=>intro w d;obtain ⟨l,f⟩:=d;go_simp;all_goals with_reducible rfl
     try simp only [sqx,ab]
     refine tkq 5 rfl (v:=?_) (aa ⟨by rfl,?z5⟩) ?_
     case z5=>intro w d;obtain ⟨l,f⟩:=d;go_simp;all_goals with_reducible rfl
     try simp only [sqx,ab]
     refine wpAnyH_ready (rs:=[1]) (by kernel_rfl) (by simp) ?_;refine ad rfl (fun K u=>?_) ae;go_simp
     with_reducible refine (j5e (E.out.1.join (ac _ _).drew)).mono ?_
     rintro e _ ⟨rfl,rfl⟩
     try go_wp2_with fail
     refine u.out _ _ (B.out _ (ac _ _).drew) (fun o=>?_);clear u K
     try simp only [sqx,ab]
     refine tkq 6 rfl (v:=?_) (aa ⟨by rfl,?z6⟩) ?_
     case z6=>intro w d;obtain ⟨l,f⟩:=d;go_simp;all_goals with_reducible rfl
     try simp only [sqx,ab]
     refine tkq 7 rfl (v:=?_) (aa ⟨by rfl,?z7⟩) ?_
     case z7=>intro w d;obtain ⟨l,f⟩:=d;go_simp;all_goals with_reducible rfl
     try simp only [sqx,ab]
     refine tkq 8 rfl (v:=?_) (aa ⟨by rfl,?z8⟩) ?_
     case z8=>intro w d;obtain ⟨l,f⟩:=d;go_simp;all_goals with_reducible rfl
     try simp only [sqx,ab]
     refine tkq 10 rfl (v:=?_) (aa ⟨by rfl,?z9⟩) ?_
     case z9=>intro w d;obtain ⟨l,f⟩:=d;go_simp;all_goals with_reducible rfl
     try simp only [sqx,ab]
     refine tkq 11 rfl (v:=?_) (aa ⟨by rfl,?z10⟩) ?_
     case z10=>intro w d;obtain ⟨l,f⟩:=d;go_simp;all_goals with_reducible rfl
     try simp only [sqx,ab]
     refine tkq 12 rfl (v:=?_) (aa ⟨by rfl,?z11⟩) ?_
     case z11=>intro w d;obtain ⟨l,f⟩:=d;go_simp;all_goals with_reducible rfl
     try simp only [sqx,ab]
     refine tkq 13 rfl (v:=.agg AC) (j8 (by rfl) _ _ rfl _ _ rfl AC lc _ (fun _ h=>h.2) a2 underlying39 rfl O) ?_
     try simp only [sqx,ab]
     refine wpAnyH_ready (rs:=[9]) (by kernel_rfl) (by simp) ?_;refine ad rfl (fun K u=>?_) ae;go_simp
     with_reducible refine (j8n (E.out.1.join (ac _ _).drew) (by omega)).mono ?_
     rintro e V8 ⟨A8,rfl,t,P⟩
     try go_wp2_with fail
     refine u.out _ _ (B.out _ (jo t)) (fun o=>?_);clear u K
     try simp only [sqx,ab]
     refine wpAnyH_ready (rs:=[14]) (by kernel_rfl) (by simp) ?_;refine ad rfl (fun K u=>?_) ae;go_simp
     with_reducible refine (a1.out _ (jo t) _ P).mono ?_
     rintro e V9 ⟨rfl,L⟩
     try go_wp2_with fail
     have H:Hid (Below V6.heap.size V6 V9):=(jo t).trans (L.mono (jo t).size);refine u.out _ _ (B.out _ ((jo t).trans (L.mono (jo t).size))) (fun o=>?_);clear u K
     try simp only [sqx,ab]
     clear t L P;refine tkq 15 rfl (v:=?_) (aa ⟨by rfl,?z12⟩) ?_
     case z12=>intro w d;obtain ⟨l,f⟩:=d;go_simp;all_goals with_reducible rfl
     try simp only [sqx,ab]
     refine tkq 16 rfl (v:=?_) (aa ⟨by rfl,?z13⟩) ?_
     case z13=>intro w d;obtain ⟨l,f⟩:=d;go_simp;all_goals with_reducible rfl
     try simp only [sqx,ab]
     refine tkq 17 rfl (v:=?_) (aa ⟨by rfl,?z14⟩) ?_
     case z14=>intro w d;obtain ⟨l,f⟩:=d;go_simp;all_goals with_reducible rfl
     try simp only [sqx,ab]
     refine tkq 18 rfl (v:=?_) (aa ⟨by rfl,?z15⟩) ?_
     case z15=>intro w d;obtain ⟨l,f⟩:=d;go_simp;all_goals with_reducible rfl
     try simp only [sqx,ab]
     refine wpAnyH_ready (rs:=[19]) (by kernel_rfl) (by simp) ?_;refine ad rfl (fun K u=>?_) ae;go_simp
     with_reducible refine (jhe (E.out.1.join H.out)).mono ?_
     rintro e _ ⟨rfl,rfl⟩
     try go_wp2_with fail
     refine u.out _ _ (B.out _ H.out) (fun o=>?_);clear u K
     try simp only [sqx,ab]
     refine tkq 20 rfl (v:=?_) (aa ⟨by rfl,?z16⟩) ?_
     case z16=>intro w d;obtain ⟨l,f⟩:=d;go_simp;all_goals with_reducible rfl
     try simp only [sqx,ab]
     refine wpAnyH_done (by kernel_rfl) ?_ _;have HN:Hid (∃ z ver c st,Bo w V9 [] p h 4096 12 D0 z a7 C ver c st (20+(i+1))/\ver<=(i+1:Nat)):=⟨_,_,_,_,E.out.1.join H.out,E.out.2⟩;clear B a1 E H;go_wp2_with fail;go_roundw
     case rel=>exact ⟨i+1,a7,by omega,by go_num,rfl,HN⟩
     case measure=>simp [intOf];omega
    ·have b8:((X i).what==8)=false:=by simp [h8]
     have a5:Hid ((aC (X i)).toArray=(aC (X i)).toArray):=rfl;obtain ⟨AX,b4⟩:∃ A,(aC (X i)).toArray=A:=⟨_,rfl⟩;have a5:Hid ((aC (X i)).toArray=AX):=b4;have T:Hid (∀ V,Below w.heap.size w V->V.rangeAt b (F+i*70) (aC (X i))):=a4;have i70:(prog.info? 50).map (·.size)=some (aC (X i)).length:=by rw [d0];kernel_rfl
     have b6:Hid (∀ V,Bo w V [] p h 4096 12 D0 z M C ver c st (20+i)->Calls prog 13 #[.pointer (some ⟨M,0,none⟩),.pointer (some ⟨C,0,none⟩),.agg AX,.int .i64 (room 12 4096)] V fun e R=>∃ k J s c' N,e=.returned (.tuple #[.int .i64 k,.int .i64 k])/\(s=ver\/s=ver+1)/\Bo w R [] p h 4096 12 D0 J M C s c' N (20+i+1)):=fun V hV=>by
      rw [<-b4];refine (jk7 a0.out.2.1 hV HV.out HG.out a0.out.1 (by omega) (by omega) (by omega) (by have:=a0.out.2.2;omega)).mono ?_;rintro e R (⟨k,D',J,s,c',N,rfl,q1,q2,q3⟩|⟨-,q1,-⟩)
      ·obtain rfl:=q1 rfl;exact ⟨k,J,s,c',N,rfl,q2,q3⟩
      ·cases q1
     have U:Hid (Bo w wr.drew [] p h 4096 12 D0 z M C ver c st (20+i)):=Q.join (ac _ _).drew;clear W a4 h8 Q b5 d0 hw c2 b4;generalize aC (X i)=cl at a5 T i70;generalize (X i).what=q at c0 b8;obtain ⟨rn,a8⟩:∃ k,room 12 4096=k:=⟨_,rfl⟩;have d1:=fun (V:World) (hV:Bo w V [] p h 4096 12 D0 z M C ver c st (20+i))=>jor hV;have d2:Hid (∀ V,Bo w V [] p h 4096 12 D0 z M C ver c st (20+i)->Calls prog 14 #[.pointer (some ⟨p,0,none⟩)] V fun e W'=>e=.returned (.int .i64 rn)/\V=W'):=by rw [<-a8];exact d1
     rw [a8] at b6;clear a8 d1;go_upto_region 19 with fail;clear c0 b8;refine wp_region_held_drew (S:=fun X=>X.rangeAt b (F+i*70) cl) (by kernel_rfl) (T.out _ U.out.below) (fun o=>?_);refine tkq 0 rfl (v:=?_) (aa ⟨by rfl,?z17⟩) ?_
     case z17=>intro w d;(try dsimp only at d);go_simp;all_goals with_reducible rfl
     try simp only [sqx,ab]
     refine tkq 1 rfl (v:=?_) (aa ⟨by rfl,?z18⟩) ?_
     case z18=>intro w d;(try dsimp only at d);go_simp;all_goals with_reducible rfl
     try simp only [sqx,ab]
     refine tkq 2 rfl (v:=?_) (aa ⟨by rfl,?z19⟩) ?_
     case z19=>intro w d;(try dsimp only at d);go_simp;all_goals with_reducible rfl
     try simp only [sqx,ab]
     refine tkq 3 rfl (v:=?_) (aa ⟨by rfl,?z20⟩) ?_
     case z20=>intro w d;(try dsimp only at d);go_simp;all_goals with_reducible rfl
     try simp only [sqx,ab]
     refine tkq 4 rfl (v:=?_) (aa ⟨by rfl,?z21⟩) ?_
     case z21=>intro w d;(try dsimp only at d);go_simp;all_goals with_reducible rfl
     try simp only [sqx,ab]
     refine tkq 5 rfl (v:=.agg AX) (j8 (by rfl) _ _ rfl _ _ rfl AX cl _ (fun _ h=>h) a5 underlying50 rfl i70) ?_
     try simp only [sqx,ab]
     refine tkq 6 rfl (v:=?_) (aa ⟨by rfl,?z22⟩) ?_
     case z22=>intro w d;(try dsimp only at d);go_simp;all_goals with_reducible rfl
     try simp only [sqx,ab]
     refine wpAnyH_ready (rs:=[7]) (by kernel_rfl) (by simp) ?_;refine ad rfl (fun K u=>?_) ae;go_simp
     with_reducible refine (d2.out _ U.out).mono ?_
     rintro e _ ⟨rfl,rfl⟩
     try go_wp2_with fail
     refine u.out _ _ (T.out _ U.out.below) (fun o=>?_);clear u K
     try simp only [sqx,ab]
     refine wpAnyH_ready (rs:=[8]) (by kernel_rfl) (by simp) ?_;refine ad rfl (fun K u=>?_) ae;go_simp
     with_reducible refine (b6.out _ U.out).mono ?_
     rintro e R ⟨k,J,s,c',N,rfl,d6,b3⟩
     try go_wp2_with fail
     have c5:=T.out _ b3.below;have E:Hid (Bo w R [] p h 4096 12 D0 J M C s c' N (20+i+1)/\s<=i+1):=⟨b3,by have:=a0.out.2.2;omega⟩;refine u.out _ _ c5 (fun o=>?_);clear u K
     try simp only [sqx,ab]
     clear b3 d6;refine tkq 9 rfl (v:=?_) (aa ⟨by rfl,?z23⟩) ?_
     case z23=>intro w d;(try dsimp only at d);go_simp;all_goals with_reducible rfl
     try simp only [sqx,ab]
     refine tkq 10 rfl (v:=?_) (aa ⟨by rfl,?z24⟩) ?_
     case z24=>intro w d;(try dsimp only at d);go_simp;all_goals with_reducible rfl
     try simp only [sqx,ab]
     refine tkq 11 rfl (v:=?_) (aa ⟨by rfl,?z25⟩) ?_
     case z25=>intro w d;(try dsimp only at d);go_simp;all_goals with_reducible rfl
     try simp only [sqx,ab]
     refine tkq 12 rfl (v:=?_) (aa ⟨by rfl,?z26⟩) ?_
     case z26=>intro w d;(try dsimp only at d);go_simp;all_goals with_reducible rfl
     try simp only [sqx,ab]
     refine tkq 13 rfl (v:=?_) (aa ⟨by rfl,?z27⟩) ?_
     case z27=>intro w d;(try dsimp only at d);go_simp;all_goals with_reducible rfl
     try simp only [sqx,ab]
     refine wpAnyH_done (by kernel_rfl) ?_ _;have d9:(k != k)=false:=by simp
     clear b6 d2 T a5 U c5;obtain ⟨u1,-,r1,G,-⟩:=E.out.1.read;have I:=E.out.1.few;obtain ⟨AC,a2,c3,b0,c1,O⟩:=ccA E.out.1.clen (jc4 G);rw [a2.out] at G;have B:Hid (∀ Y,Below R.heap.size R Y->Y.cell? ⟨C,0,none⟩=some (.int .u64 s)/\Y.rangeAt C 1 (cc c' u1)):=fun Y hY=>by
      refine ⟨?_,fun j v hj=>?_⟩
      ·obtain ⟨-,h0,-⟩:=(E.out.1.join hY).read;exact h0
      ·have h4:=r1 j v hj;exact (hY.cell (p:=⟨C,1+j,none⟩) (j9 h4)).trans h4
     have a1:Hid (∀ Y,Below R.heap.size R Y->∀ A,CV Y (.agg A) c'->Calls prog 16 #[.agg A,.agg AC] Y fun e V=>e=.returned (.bool true)/\Below Y.heap.size Y V):=fun Y hY A hA=>j0b hA (G.at_ hY (Nat.le_refl _)) I (zu _);have d5:(s != s)=false:=by simp
     clear r1 G I;generalize cc c' u1=lc at *;go_upto_region 22 with fail;refine wp_region_held_drew (S:=fun X=>X.cell? ⟨C,0,none⟩=some (.int .u64 s)/\X.rangeAt C 1 lc) (by kernel_rfl) (B.out _ (ac _ _).drew) (fun o=>?_);refine tkq 0 rfl (v:=?_) (aa ⟨by rfl,?z28⟩) ?_
     case z28=>intro w d;obtain ⟨l,f⟩:=d;go_simp;all_goals with_reducible rfl
     try simp only [sqx,ab]
     refine tkq 2 rfl (v:=?_) (aa ⟨by rfl,?z29⟩) ?_
     case z29=>intro w d;obtain ⟨l,f⟩:=d;go_simp;all_goals with_reducible rfl
     try simp only [sqx,ab]
     refine tkq 3 rfl (v:=?_) (aa ⟨by rfl,?z30⟩) ?_
     case z30=>intro w d;obtain ⟨l,f⟩:=d;go_simp;all_goals with_reducible rfl
     try simp only [sqx,ab]
     refine tkq 4 rfl (v:=?_) (aa ⟨by rfl,?z31⟩) ?_
     case z31=>intro w d;obtain ⟨l,f⟩:=d;go_simp;all_goals with_reducible rfl
     try simp only [sqx,ab]
     refine tkq 5 rfl (v:=?_) (aa ⟨by rfl,?z32⟩) ?_
     case z32=>intro w d;obtain ⟨l,f⟩:=d;go_simp;all_goals with_reducible rfl
     try simp only [sqx,ab]
     refine wpAnyH_ready (rs:=[1]) (by kernel_rfl) (by simp) ?_;refine ad rfl (fun K u=>?_) ae;go_simp
     with_reducible refine (j5e (E.out.1.join (ac _ _).drew)).mono ?_
     rintro e _ ⟨rfl,rfl⟩
     try go_wp2_with fail
     refine u.out _ _ (B.out _ (ac _ _).drew) (fun o=>?_);clear u K
     try simp only [sqx,ab]
     refine tkq 6 rfl (v:=?_) (aa ⟨by rfl,?z33⟩) ?_
     case z33=>intro w d;obtain ⟨l,f⟩:=d;go_simp;all_goals with_reducible rfl
     try simp only [sqx,ab]
     refine tkq 7 rfl (v:=?_) (aa ⟨by rfl,?z34⟩) ?_
     case z34=>intro w d;obtain ⟨l,f⟩:=d;go_simp;all_goals with_reducible rfl
     try simp only [sqx,ab]
     refine tkq 8 rfl (v:=?_) (aa ⟨by rfl,?z35⟩) ?_
     case z35=>intro w d;obtain ⟨l,f⟩:=d;go_simp;all_goals with_reducible rfl
     try simp only [sqx,ab]
     refine tkq 10 rfl (v:=?_) (aa ⟨by rfl,?z36⟩) ?_
     case z36=>intro w d;obtain ⟨l,f⟩:=d;go_simp;all_goals with_reducible rfl
     try simp only [sqx,ab]
     refine tkq 11 rfl (v:=?_) (aa ⟨by rfl,?z37⟩) ?_
     case z37=>intro w d;obtain ⟨l,f⟩:=d;go_simp;all_goals with_reducible rfl
     try simp only [sqx,ab]
     refine tkq 12 rfl (v:=?_) (aa ⟨by rfl,?z38⟩) ?_
     case z38=>intro w d;obtain ⟨l,f⟩:=d;go_simp;all_goals with_reducible rfl
     try simp only [sqx,ab]
     refine tkq 13 rfl (v:=.agg AC) (j8 (by rfl) _ _ rfl _ _ rfl AC lc _ (fun _ h=>h.2) a2 underlying39 rfl O) ?_
     try simp only [sqx,ab]
     refine wpAnyH_ready (rs:=[9]) (by kernel_rfl) (by simp) ?_;refine ad rfl (fun K u=>?_) ae;go_simp
     with_reducible refine (j8n (E.out.1.join (ac _ _).drew) (by omega)).mono ?_
     rintro e V8 ⟨A8,rfl,t,P⟩
     try go_wp2_with fail
     refine u.out _ _ (B.out _ (jo t)) (fun o=>?_);clear u K
     try simp only [sqx,ab]
     refine wpAnyH_ready (rs:=[14]) (by kernel_rfl) (by simp) ?_;refine ad rfl (fun K u=>?_) ae;go_simp
     with_reducible refine (a1.out _ (jo t) _ P).mono ?_
     rintro e V9 ⟨rfl,L⟩
     try go_wp2_with fail
     have H:Hid (Below R.heap.size R V9):=(jo t).trans (L.mono (jo t).size);refine u.out _ _ (B.out _ ((jo t).trans (L.mono (jo t).size))) (fun o=>?_);clear u K
     try simp only [sqx,ab]
     clear t L P;refine tkq 15 rfl (v:=?_) (aa ⟨by rfl,?z39⟩) ?_
     case z39=>intro w d;obtain ⟨l,f⟩:=d;go_simp;all_goals with_reducible rfl
     try simp only [sqx,ab]
     refine tkq 16 rfl (v:=?_) (aa ⟨by rfl,?z40⟩) ?_
     case z40=>intro w d;obtain ⟨l,f⟩:=d;go_simp;all_goals with_reducible rfl
     try simp only [sqx,ab]
     refine tkq 17 rfl (v:=?_) (aa ⟨by rfl,?z41⟩) ?_
     case z41=>intro w d;obtain ⟨l,f⟩:=d;go_simp;all_goals with_reducible rfl
     try simp only [sqx,ab]
     refine tkq 18 rfl (v:=?_) (aa ⟨by rfl,?z42⟩) ?_
     case z42=>intro w d;obtain ⟨l,f⟩:=d;go_simp;all_goals with_reducible rfl
     try simp only [sqx,ab]
     refine wpAnyH_ready (rs:=[19]) (by kernel_rfl) (by simp) ?_;refine ad rfl (fun K u=>?_) ae;go_simp
     with_reducible refine (jhe (E.out.1.join H.out)).mono ?_
     rintro e _ ⟨rfl,rfl⟩
     try go_wp2_with fail
     refine u.out _ _ (B.out _ H.out) (fun o=>?_);clear u K
     try simp only [sqx,ab]
     refine tkq 20 rfl (v:=?_) (aa ⟨by rfl,?z43⟩) ?_
     case z43=>intro w d;obtain ⟨l,f⟩:=d;go_simp;all_goals with_reducible rfl
     try simp only [sqx,ab]
     refine wpAnyH_done (by kernel_rfl) ?_ _;have HN:Hid (∃ z ver c st,Bo w V9 [] p h 4096 12 D0 z M C ver c st (20+(i+1))/\ver<=(i+1:Nat)):=⟨_,_,_,_,E.out.1.join H.out,E.out.2⟩;clear B a1 E H;go_wp2_with fail;go_roundw
     case rel=>exact ⟨i+1,M,by omega,by go_num,rfl,HN⟩
     case measure=>simp [intOf];omega
   ·obtain rfl:i=n:=by omega
    have h1:¬((i:Int)<(i:Int)):=by omega
    obtain ⟨z,ver,c,st,Q,-⟩:=W.out;have HE:Hid (Below w.heap.size w wr):=Q.below;clear Q W;go_wp2_with fail;go_ret;exact ⟨rfl,HE.out⟩
end Go.Proofs.YtdigofgjhaakmaaGreatDoor
