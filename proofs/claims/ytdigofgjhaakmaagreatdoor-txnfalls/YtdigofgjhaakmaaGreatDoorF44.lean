/- Parts of the proof. -/
import Derived.Test.YtdigofgjhaakmaaGreatDoorF43
set_option linter.all false
set_option maxHeartbeats 40000000
set_option maxRecDepth 20000
open Go.Proofs.Tryz
open Or renaming inl->aa,inr->ab
open Go.Act renaming eval->ac,put->ad
open Go.RowKit.Below renaming refl->ae
open Go.AllReadyH renaming cons->af,nil->ag
namespace Go.Proofs.YtdigofgjhaakmaaGreatDoor
open Go.RowKit Sm Cf Df Va
theorem falls16 {w:World} (hv:Vs w) {ga:Addr} (hG:Gl w ga) {a:Option Addr} {n cap:Nat} {X:Nat->Ac} (hX:ActsW w a n X) {cut e8:Int} (f6:-9223372036854775808<=cut) (f5:cut<=9223372036854775807) :
 Calls prog 4 #[.slice a n cap,.int .i64 cut,.int .i64 e8] w fun e V=>e=.returned (.bool true)/\Below w.heap.size w V:=by
 have CK:=job hv hG;have HL:Hid (∀ V,Below w.heap.size w V->Calls prog 9 #[.slice a n cap,.int .i64 (30:Nat)] V (LiP V n 30 X)):=fun V hV=>jo8 (hX.at_ hV) 30 (by omega);have HV:Hid (∀ V,Below w.heap.size w V->Vs V):=fun V hV=>hv.below hV;have HG:Hid (Gl w ga):=hG;have g5:Hid (∀ V,Calls prog 20 #[.int .i64 cut,.int .i64 30] V fun e w'=>e=.returned (.int .i64 (plc cut 30))/\V=w'):=fun V=>jfl cut 30 V f6 f5 (by omega) (by omega);have h5:=jfk cut 30 (by omega);generalize plc cut 30=pk at *;have d8:Hid (∀ i,i<n->∃ b I,a=some ⟨b,I,none⟩/\(aC (X i)).length=70/\AcW w (X i)/\∀ V,Below w.heap.size w V->V.rangeAt b (I+i*70) (aC (X i))):=by
  intro i hi;obtain ⟨b,I,e,h1,h2,h3⟩:=hX i hi;refine ⟨b,I,e,h2,h3,fun V hV j v hj=>?_⟩;have h4:=h1 j v hj;exact (hV.cell (p:=⟨b,I+i*70+j,none⟩) (j9 h4)).trans h4
 clear hv hG hX f6 f5;go_enter func4,ntmps4;go_wp2_with fail;refine CK.mono ?_;rintro e V0 ⟨rfl,d5⟩;have CL:=HL.out V0 d5;have e4:Hid (Below w.heap.size w V0):=d5;clear CK d5 HL;go_wp2_with fail;refine CL.mono ?_;rintro e V1 ⟨r,rfl,hr,f7⟩;have g2:=e4.out.trans (f7.mono e4.out.size);have HR:Hid (r=true->n<=30/\∀ i,i<n->LgA (X i)):=hr;have e3:Hid (Below w.heap.size w V1):=g2;clear CL hr f7 g2 e4;cases r
 ·go_wp2_with fail;go_ret;exact ⟨rfl,e3.out⟩
 ·have g6:Hid (n<=30/\∀ i,i<n->LgA (X i)):=HR.out rfl;have CN:=jlk (x:=12) (y:=4096) (n:=12) (m:=4096) rfl rfl V1;clear HR;go_wp2_with fail;refine CN.mono ?_;rintro e V2 ⟨p,rfl,h,c5⟩;have CO:=j90 (c5.base e3.out) HG.out rfl (by omega) (by omega) (by omega) (by omega) (by simp) (ver:=0) (c:=cfg0) (aa ⟨rfl,rfl,rfl⟩) (n:=20) (by omega);clear CN c5 e3;go_wp2_with fail;refine CO.mono ?_;rintro e V3 ⟨P,rfl,hA,-⟩;obtain ⟨Q,d2⟩:∃ g,V3.heap.size=g:=⟨_,rfl⟩;have HB:Hid (Bo w (V3.alloc (.cells mZ mT)) [] p h 4096 12 D0 [] P Q 0 cfg0 none 20):=by rw [<-d2];exact jsi (D:=D0) hA rfl
  have d3:=jpa V3;obtain ⟨Z,hZ⟩:∃ Z:Array Value,mZ=Z:=⟨_,rfl⟩;rw [hZ] at HB d3;clear CO hA hZ;go_upto_region 8 with (refine yy rfl 41 _ (by with_reducible rfl) d3 (by simp [ac,ad]) ?_)
  refine j5 (fun X=>Bo w X [] p h 4096 12 D0 [] P Q 0 cfg0 none 20) (by exact HB.out) ?_;intro V4 g1
  try simp only [d2]
  have CC:=jsj g1 pk e8 (by omega);clear HB d3 d2 g1 h5;go_wp2_with fail;refine (g5.out _).mono ?_;rintro e _ ⟨rfl,rfl⟩;go_wp2_with fail;refine CC.mono ?_;rintro e V5 ⟨rfl,g0⟩;have g8:Hid (∃ D B ver c st,Bo w V5 [] p h 4096 12 D B P Q ver c st (20+0)/\ver<=(0:Nat)):=⟨_,_,_,_,_,g0,Int.le_refl _⟩;clear CC g0 g5;go_wp2_with fail
  go_loopw [11] (fun u11 w'=>∃ i:Nat,i<=n/\u11=.int .i64 i/\Hid (∃ D B ver c st,Bo w w' [] p h 4096 12 D B P Q ver c st (20+i)/\ver<=i)) (fun u11 w'=>n-(intOf u11).toNat)
  case atStart=>exact ⟨0,Nat.zero_le _,rfl,g8⟩
  case round =>
   obtain ⟨i,hi,rfl,b0⟩:=hrel;clear g8;by_cases hlt:i<n
   ·have h9:(i:Int)<n:=by omega
    obtain ⟨D,B,ver,c,st,hB,d0⟩:=b0.out;obtain ⟨b,I,rfl,d7,hw,b1⟩:=d8.out i hlt;have i0:i<30:=by have:=g6.out.1;omega
    have R:=hB.v0;have a2:Hid (LgA (X i)/\AcW w (X i)/\ver<=i/\(B.length:Int)=ver/\0<=ver):=⟨g6.out.2 i hlt,hw,d0,hB.2.2.1,R⟩;have c0:wr.cell? ⟨b,I+i*70,none⟩=some (.int .i64 (X i).what):=b1 wr hB.below 0 _ (j74 (X i)).1;have e5:IntKind.i64.wrap ((i:Int)+1)=(i:Int)+1:=qk (by omega) (by omega);have f1:IntKind.u64.wrap (ver+1)=ver+1:=by rw [qj];omega
    have f2:(ver+1) % 18446744073709551616=ver+1:=by omega
    by_cases h8:(X i).what=8
    ·rw [h8] at c0;have HN:Hid (∃ D B ver c st,Bo w wr [] p h 4096 12 D B P Q ver c st (20+(i+1))/\ver<=(i+1:Nat)):=⟨D,B,ver,c,st,hB.grow (by omega),by omega⟩;clear b0 b1 h8 hB d8 d7 hw d0 R;go_wp2_with fail;go_roundw
     case rel=>exact ⟨i+1,by omega,by go_num,HN⟩
     case measure=>simp [intOf];omega
    ·have b8:((X i).what==8)=false:=by simp [h8]
     obtain ⟨AX,d6⟩:∃ A,(aC (X i)).toArray=A:=⟨_,rfl⟩;have b4:Hid ((aC (X i)).toArray=AX):=d6;have a0:Hid (∀ V,Below w.heap.size w V->V.rangeAt b (I+i*70) (aC (X i))):=b1;have i70:(prog.info? 50).map (·.size)=some (aC (X i)).length:=by rw [d7];kernel_rfl
     obtain ⟨e9,u,KW,c7,c2,a5,b9,b7,a6,a4⟩:=hB.copy;obtain ⟨z,T⟩:∃ g,wr.heap.size=g:=⟨_,rfl⟩;rw [T] at a6 a4;have d9:Hid (∀ W,st=some W->WasP w ((z,.cells u mT (0,0))::KW) z ver c W):=a4;have b3:Hid (∀ V,Bo w V ((z,.cells u mT (0,0))::KW) p h 4096 12 D B P Q ver c st (20+i)->Calls prog 13 #[.pointer (some ⟨P,0,none⟩),.pointer (some ⟨Q,0,none⟩),.agg AX,.int .i64 (room 12 4096)] V fun e V5=>(∃ k D' a9 L c' c9,e=.returned (.tuple #[.int .i64 k,.int .i64 k])/\(L=ver\/L=ver+1)/\Bo w V5 ((z,.cells u mT (0,0))::KW) p h 4096 12 D' a9 P Q L c' c9 (20+i+1))\/(e=.returned (.tuple #[.int .i64 (-1),.int .i64 0])/\∃ W a8 J cx,st=some W/\CrP w V5 ((z,.cells u mT (0,0))::KW) p h 4096 12 P ver c W (20+i+1) a8 J cx)):=fun V hV=>by
      rw [<-d6];exact (jkk a2.out.2.1 hV HV.out HG.out a2.out.1 (by omega) (by omega) (by omega) (by have:=a2.out.2.2.1;omega)).mono fun e V h=>jkl h a2.out.2.2.2.1
     have f0:(prog.info? 41).map (·.size)=some e9.length:=by rw [c2];kernel_rfl
     have f3:(prog.info? 41).map (·.size)=some u.size:=by rw [a5];kernel_rfl
     have c3:(wr.alloc (.cells mZ mT)).heap[z]?=some (.cells mZ mT (0,0)):=by rw [<-T];exact heap_alloc_new _ _
     have g3:Hid (Bo w ((wr.alloc (.cells mZ mT)).setRow z u) ((z,.cells u mT (0,0))::KW) p h 4096 12 D B P Q ver c st (20+i)):=by
      rw [<-T,World.setRow_alloc_new];rw [T];exact a6 _ rfl
     have b6:(mZ:Array Value).size=u.size:=by rw [a5];rfl
     clear b0 b1 h8 hB d8 d7 hw d0 d6 a6 a4 R c2 a5;generalize aC (X i)=cl at b4 a0 i70;generalize (X i).what=q at c0 b8;go_upto_region 16 with (first|(refine kz rfl 41 (.tmp 51) (by with_reducible rfl) Q 0 (by first|rfl|simp [ac]) u e9 _ b7 c7 underlying41 rfl f0 ?_)|(refine wpList_store_row rfl 41 (.tmp 12) (.tmp 52) (by with_reducible rfl) z u (by simp [ac];try exact T) (by first|rfl|simp [ac]) 41 mZ c3 f3 b6 b9 ?_)|fail)
     refine j5 (fun X=>Bo w X ((z,.cells u mT (0,0))::KW) p h 4096 12 D B P Q ver c st (20+i)) (by exact g3.out) ?_;intro V6 f8
     try simp only [T]
     have a3:Hid (Bo w V6.drew ((z,.cells u mT (0,0))::KW) p h 4096 12 D B P Q ver c st (20+i)):=f8.join (ae _ _).drew;clear g3 c3 T b7 b6 b9 c7 c0 b8 f8;obtain ⟨rn,d1⟩:∃ k,room 12 4096=k:=⟨_,rfl⟩;have g4:=fun (V:World) (hV:Bo w V ((z,.cells u mT (0,0))::KW) p h 4096 12 D B P Q ver c st (20+i))=>jpc hV;have e0:Hid (∀ V,Bo w V ((z,.cells u mT (0,0))::KW) p h 4096 12 D B P Q ver c st (20+i)->Calls prog 14 #[.pointer (some ⟨p,0,none⟩)] V fun e W'=>e=.returned (.int .i64 rn)/\V=W'):=by rw [<-d1];exact g4
     rw [d1] at b3;clear d1 g4;refine wp_region_held_drew (S:=fun X=>X.rangeAt b (I+i*70) cl) (by kernel_rfl) (a0.out _ a3.out.below) (fun o=>?_);refine tkq 0 rfl (v:=?_) (aa ⟨by rfl,?z44⟩) ?_
     case z44=>intro w d;(try dsimp only at d);go_simp;all_goals with_reducible rfl
     try simp only [sqx,ad]
     refine tkq 1 rfl (v:=?_) (aa ⟨by rfl,?z45⟩) ?_
     case z45=>intro w d;(try dsimp only at d);go_simp;all_goals with_reducible rfl
     try simp only [sqx,ad]
     refine tkq 2 rfl (v:=?_) (aa ⟨by rfl,?z46⟩) ?_
     case z46=>intro w d;(try dsimp only at d);go_simp;all_goals with_reducible rfl
     try simp only [sqx,ad]
     refine tkq 3 rfl (v:=?_) (aa ⟨by rfl,?z47⟩) ?_
     case z47=>intro w d;(try dsimp only at d);go_simp;all_goals with_reducible rfl
     try simp only [sqx,ad]
     refine tkq 4 rfl (v:=?_) (aa ⟨by rfl,?z48⟩) ?_
     case z48=>intro w d;(try dsimp only at d);go_simp;all_goals with_reducible rfl
     try simp only [sqx,ad]
     refine tkq 5 rfl (v:=.agg AX) (j7 (by rfl) _ _ rfl _ _ rfl AX cl _ (fun _ h=>h) b4 underlying50 rfl i70) ?_
     try simp only [sqx,ad]
     refine tkq 6 rfl (v:=?_) (aa ⟨by rfl,?z49⟩) ?_
     case z49=>intro w d;(try dsimp only at d);go_simp;all_goals with_reducible rfl
     try simp only [sqx,ad]
     refine wpAnyH_ready (rs:=[7]) (by kernel_rfl) (by simp) ?_;refine af rfl (fun K t=>?_) ag;go_simp
     with_reducible refine (e0.out _ a3.out).mono ?_
     rintro e _ ⟨rfl,rfl⟩
     try go_wp2_with fail
     refine t.out _ _ (a0.out _ a3.out.below) (fun o=>?_);clear t K
     try simp only [sqx,ad]
     refine wpAnyH_ready (rs:=[8]) (by kernel_rfl) (by simp) ?_;refine af rfl (fun K t=>?_) ag;go_simp
     with_reducible refine (b3.out _ a3.out).mono ?_
     rintro e V7 (⟨k,D',a9,L,c',c9,rfl,hvr,hB7⟩|⟨rfl,W,a8,J,cx,hs,hcr⟩)
     ·try go_wp2_with fail
      have a7:=a0.out _ hB7.below;have HN:Hid (∃ D B ver c st,Bo w V7 [] p h 4096 12 D B P Q ver c st (20+(i+1))/\ver<=(i+1:Nat)):=⟨D',a9,L,c',c9,hB7.less (by simp),by have:=a2.out.2.2.1;omega⟩;have CD:=jpd hB7;have i4:(k != k)=false:=by simp
      refine t.out _ _ a7 (fun o=>?_);clear t K hB7 hvr d9
      try simp only [sqx,ad]
      refine tkq 9 rfl (v:=?_) (aa ⟨by rfl,?z50⟩) ?_
      case z50=>intro w d;(try dsimp only at d);go_simp;all_goals with_reducible rfl
      try simp only [sqx,ad]
      refine tkq 10 rfl (v:=?_) (aa ⟨by rfl,?z51⟩) ?_
      case z51=>intro w d;(try dsimp only at d);go_simp;all_goals with_reducible rfl
      try simp only [sqx,ad]
      refine tkq 11 rfl (v:=?_) (aa ⟨by rfl,?z52⟩) ?_
      case z52=>intro w d;(try dsimp only at d);go_simp;all_goals with_reducible rfl
      try simp only [sqx,ad]
      refine tkq 12 rfl (v:=?_) (aa ⟨by rfl,?z53⟩) ?_
      case z53=>intro w d;(try dsimp only at d);go_simp;all_goals with_reducible rfl
      try simp only [sqx,ad]
      refine tkq 13 rfl (v:=?_) (aa ⟨by rfl,?z54⟩) ?_
      case z54=>intro w d;(try dsimp only at d);go_simp;all_goals with_reducible rfl
      try simp only [sqx,ad]
      refine wpAnyH_done (by kernel_rfl) ?_ _;clear b3 e0 a0 b4 a3 a7;go_wp2_with fail;refine CD.mono ?_;rintro e _ ⟨rfl,rfl⟩;go_wp2_with fail;go_roundw
      case rel=>exact ⟨i+1,by omega,by go_num,HN⟩
      case measure=>simp [intOf];omega
     ·try go_wp2_with fail
      have a7:=a0.out _ hcr.below;obtain ⟨lc,lt,AC,AT,b5,e6,jC,jT,f9⟩:=d9.out W hs;have a1:Hid (On w ((z,.cells u mT (0,0))::KW) (fun X=>(X.cell? ⟨z,0,none⟩=some (.int .u64 ver)/\X.rangeAt z 1 lc/\X.rangeAt z 30 lt)/\CV X (.agg AC) c/\CV X (.agg AT) W)):=f9;have H:Hid (CrP w V7 ((z,.cells u mT (0,0))::KW) p h 4096 12 P ver c W (20+i+1) a8 J cx):=hcr;have CD:=jow hcr;have c4:=hcr.few;have s:Hid (∀ Y,Below V7.heap.size V7 Y->Y.cell? ⟨z,0,none⟩=some (.int .u64 ver)/\Y.rangeAt z 1 lc):=fun Y hY=>⟨((H.out.join hY).on a1.out).1.1,((H.out.join hY).on a1.out).1.2.1⟩;have g7:Hid (∀ Y,Below V7.heap.size V7 Y->∀ A,CV Y (.agg A) c->Calls prog 16 #[.agg A,.agg AC] Y fun e V=>e=.returned (.bool true)/\Below Y.heap.size Y V):=fun Y hY A hA=>zq hA ((H.out.join hY).on a1.out).2.1 c4 (ym _);refine t.out _ _ a7 (fun o=>?_);clear t K hcr hs f9 d9 c4
      try simp only [sqx,ad]
      refine tkq 9 rfl (v:=?_) (aa ⟨by rfl,?z55⟩) ?_
      case z55=>intro w d;(try dsimp only at d);go_simp;all_goals with_reducible rfl
      try simp only [sqx,ad]
      refine tkq 10 rfl (v:=?_) (aa ⟨by rfl,?z56⟩) ?_
      case z56=>intro w d;(try dsimp only at d);go_simp;all_goals with_reducible rfl
      try simp only [sqx,ad]
      refine tkq 11 rfl (v:=?_) (aa ⟨by rfl,?z57⟩) ?_
      case z57=>intro w d;(try dsimp only at d);go_simp;all_goals with_reducible rfl
      try simp only [sqx,ad]
      refine tkq 12 rfl (v:=?_) (aa ⟨by rfl,?z58⟩) ?_
      case z58=>intro w d;(try dsimp only at d);go_simp;all_goals with_reducible rfl
      try simp only [sqx,ad]
      refine tkq 13 rfl (v:=?_) (aa ⟨by rfl,?z59⟩) ?_
      case z59=>intro w d;(try dsimp only at d);go_simp;all_goals with_reducible rfl
      try simp only [sqx,ad]
      refine wpAnyH_done (by kernel_rfl) ?_ _;clear b3 e0 a0 b4 a3 a7 i70 f0 f3;have i1:((113:Int) != 113)=false:=rfl;have i2:(ver != ver)=false:=by simp
      go_wp2_with fail;refine CD.mono ?_;rintro e _ ⟨rfl,rfl⟩;clear CD;go_upto_region 20 with fail;refine wp_region_held_drew (S:=fun X=>X.cell? ⟨z,0,none⟩=some (.int .u64 ver)/\X.rangeAt z 1 lc) (by kernel_rfl) (s.out _ (ae _ _).drew) (fun o=>?_);refine tkq 0 rfl (v:=?_) (aa ⟨by rfl,?z60⟩) ?_
      case z60=>intro w d;obtain ⟨l,f⟩:=d;go_simp;all_goals with_reducible rfl
      try simp only [sqx,ad]
      refine wpAnyH_ready (rs:=[1]) (by kernel_rfl) (by simp) ?_;refine af rfl (fun K t=>?_) ag;go_simp
      with_reducible refine (jks (H.out.join (ae _ _).drew)).mono ?_
      rintro e _ ⟨rfl,rfl⟩
      try go_wp2_with fail
      refine t.out _ _ (s.out _ (ae _ _).drew) (fun o=>?_);clear t K
      try simp only [sqx,ad]
      refine tkq 2 rfl (v:=?_) (aa ⟨by rfl,?z61⟩) ?_
      case z61=>intro w d;obtain ⟨l,f⟩:=d;go_simp;all_goals with_reducible rfl
      try simp only [sqx,ad]
      refine tkq 3 rfl (v:=?_) (aa ⟨by rfl,?z62⟩) ?_
      case z62=>intro w d;obtain ⟨l,f⟩:=d;go_simp;all_goals with_reducible rfl
      try simp only [sqx,ad]
      refine tkq 4 rfl (v:=?_) (aa ⟨by rfl,?z63⟩) ?_
      case z63=>intro w d;obtain ⟨l,f⟩:=d;go_simp;all_goals with_reducible rfl
      try simp only [sqx,ad]
      refine wpAnyH_ready (rs:=[5]) (by kernel_rfl) (by simp) ?_;refine af rfl (fun K t=>?_) ag;go_simp
      with_reducible refine (jkt (H.out.join (ae _ _).drew)).mono ?_
      rintro e _ ⟨rfl,rfl⟩
      try go_wp2_with fail
      refine t.out _ _ (s.out _ (ae _ _).drew) (fun o=>?_);clear t K
      try simp only [sqx,ad]
      refine tkq 6 rfl (v:=?_) (aa ⟨by rfl,?z64⟩) ?_
      case z64=>intro w d;obtain ⟨l,f⟩:=d;go_simp;all_goals with_reducible rfl
      try simp only [sqx,ad]
      refine tkq 7 rfl (v:=?_) (aa ⟨by rfl,?z65⟩) ?_
      case z65=>intro w d;obtain ⟨l,f⟩:=d;go_simp;all_goals with_reducible rfl
      try simp only [sqx,ad]
      refine tkq 8 rfl (v:=?_) (aa ⟨by rfl,?z66⟩) ?_
      case z66=>intro w d;obtain ⟨l,f⟩:=d;go_simp;all_goals with_reducible rfl
      try simp only [sqx,ad]
      refine tkq 9 rfl (v:=?_) (aa ⟨by rfl,?z67⟩) ?_
      case z67=>intro w d;obtain ⟨l,f⟩:=d;go_simp;all_goals with_reducible rfl
      try simp only [sqx,ad]
      refine wpAnyH_ready (rs:=[10]) (by kernel_rfl) (by simp) ?_;refine af rfl (fun K t=>?_) ag;go_simp
      with_reducible refine (jov (H.out.join (ae _ _).drew)).mono ?_
      rintro e _ ⟨rfl,rfl⟩
      try go_wp2_with fail
      refine t.out _ _ (s.out _ (ae _ _).drew) (fun o=>?_);clear t K
      try simp only [sqx,ad]
      refine tkq 11 rfl (v:=?_) (aa ⟨by rfl,?z68⟩) ?_
      case z68=>intro w d;obtain ⟨l,f⟩:=d;go_simp;all_goals with_reducible rfl
      try simp only [sqx,ad]
      refine tkq 12 rfl (v:=?_) (aa ⟨by rfl,?z69⟩) ?_
      case z69=>intro w d;obtain ⟨l,f⟩:=d;go_simp;all_goals with_reducible rfl
      try simp only [sqx,ad]
      refine tkq 13 rfl (v:=?_) (aa ⟨by rfl,?z70⟩) ?_
      case z70=>intro w d;obtain ⟨l,f⟩:=d;go_simp;all_goals with_reducible rfl
      try simp only [sqx,ad]
      refine tkq 14 rfl (v:=?_) (aa ⟨by rfl,?z71⟩) ?_
      case z71=>intro w d;obtain ⟨l,f⟩:=d;go_simp;all_goals with_reducible rfl
      try simp only [sqx,ad]
      refine tkq 16 rfl (v:=?_) (aa ⟨by rfl,?z72⟩) ?_
      case z72=>intro w d;obtain ⟨l,f⟩:=d;go_simp;all_goals with_reducible rfl
      try simp only [sqx,ad]
      refine tkq 17 rfl (v:=?_) (aa ⟨by rfl,?z73⟩) ?_
      case z73=>intro w d;obtain ⟨l,f⟩:=d;go_simp;all_goals with_reducible rfl
      try simp only [sqx,ad]
      refine wpAnyH_ready (rs:=[15]) (by kernel_rfl) (by simp) ?_;refine af rfl (fun K t=>?_) ag;go_simp
      with_reducible refine (jdv (H.out.join (ae _ _).drew)).mono ?_
      rintro e _ ⟨rfl,rfl⟩
      try go_wp2_with fail
      refine t.out _ _ (s.out _ (ae _ _).drew) (fun o=>?_);clear t K
      try simp only [sqx,ad]
      refine tkq 18 rfl (v:=?_) (aa ⟨by rfl,?z74⟩) ?_
      case z74=>intro w d;obtain ⟨l,f⟩:=d;go_simp;all_goals with_reducible rfl
      try simp only [sqx,ad]
      refine tkq 19 rfl (v:=?_) (aa ⟨by rfl,?z75⟩) ?_
      case z75=>intro w d;obtain ⟨l,f⟩:=d;go_simp;all_goals with_reducible rfl
      try simp only [sqx,ad]
      refine tkq 20 rfl (v:=?_) (aa ⟨by rfl,?z76⟩) ?_
      case z76=>intro w d;obtain ⟨l,f⟩:=d;go_simp;all_goals with_reducible rfl
      try simp only [sqx,ad]
      refine tkq 21 rfl (v:=?_) (aa ⟨by rfl,?z77⟩) ?_
      case z77=>intro w d;obtain ⟨l,f⟩:=d;go_simp;all_goals with_reducible rfl
      try simp only [sqx,ad]
      refine tkq 23 rfl (v:=?_) (aa ⟨by rfl,?z78⟩) ?_
      case z78=>intro w d;obtain ⟨l,f⟩:=d;go_simp;all_goals with_reducible rfl
      try simp only [sqx,ad]
      refine tkq 24 rfl (v:=.agg AC) (j7 (by rfl) _ _ rfl _ _ rfl AC lc _ (fun _ h=>h.2) b5 underlying39 rfl jC) ?_
      try simp only [sqx,ad]
      refine wpAnyH_ready (rs:=[22]) (by kernel_rfl) (by simp) ?_;refine af rfl (fun K t=>?_) ag;go_simp
      with_reducible refine (jh9 (H.out.join (ae _ _).drew) (by omega)).mono ?_
      rintro e V8 ⟨A8,rfl,U,f4⟩
      try go_wp2_with fail
      refine t.out _ _ (s.out _ (jo U)) (fun o=>?_);clear t K
      try simp only [sqx,ad]
      refine wpAnyH_ready (rs:=[25]) (by kernel_rfl) (by simp) ?_;refine af rfl (fun K t=>?_) ag;go_simp
      with_reducible refine (g7.out _ (jo U) _ f4).mono ?_
      rintro e V9 ⟨rfl,d4⟩
      try go_wp2_with fail
      have g9:=jkr (H.out.join ((jo U).trans (d4.mono (jo U).size)));refine t.out _ _ (s.out _ ((jo U).trans (d4.mono (jo U).size))) (fun o=>?_);clear t K
      try simp only [sqx,ad]
      clear U d4 f4;refine tkq 26 rfl (v:=?_) (aa ⟨by rfl,?z79⟩) ?_
      case z79=>intro w d;obtain ⟨l,f⟩:=d;go_simp;all_goals with_reducible rfl
      try simp only [sqx,ad]
      refine tkq 27 rfl (v:=?_) (aa ⟨by rfl,?z80⟩) ?_
      case z80=>intro w d;obtain ⟨l,f⟩:=d;go_simp;all_goals with_reducible rfl
      try simp only [sqx,ad]
      refine wpAnyH_done (by kernel_rfl) ?_ _;clear s g7 H;go_wp2_with fail;refine g9.mono ?_;rintro e i5 ⟨rfl,hP⟩;have CO:=jnj hP HG.out (by omega) (by omega) a2.out.2.2.2.2 (by have:=a2.out.2.2.1;omega);clear g9 hP;go_wp2_with fail;refine CO.mono ?_;rintro e G ⟨e7,rfl,hO⟩;have hd:(J=ver/\cx=c)\/(J=ver+1/\cx=W):=by
       obtain ⟨-,-,-,-,-,h⟩:=hO;exact h
      clear CO;rcases hd with ⟨e1,e2⟩|⟨e1,e2⟩
      all_goals rw [e1,e2] at hO
      all_goals clear e1 e2
      ·have HO:Hid (OpP w G ((z,.cells u mT (0,0))::KW) p h 4096 12 e7 ver c W ver c):=hO;have s:Hid (∀ Y,Below G.heap.size G Y->(Y.cell? ⟨z,0,none⟩=some (.int .u64 ver)/\Y.rangeAt z 1 lc/\Y.rangeAt z 30 lt)/\CV Y (.agg AC) c/\CV Y (.agg AT) W):=fun Y hY=>(HO.out.join hY).on a1.out;clear hO;have h0:(ver==ver)=true:=by simp
       go_upto_region 26 with fail;refine wp_region_held_drew (S:=fun X=>X.cell? ⟨z,0,none⟩=some (.int .u64 ver)/\X.rangeAt z 1 lc) (by kernel_rfl) (show _/\_ from ⟨(s.out _ (ae _ _).drew).1.1,(s.out _ (ae _ _).drew).1.2.1⟩) (fun o=>?_);refine tkq 0 rfl (v:=?_) (aa ⟨by rfl,?z81⟩) ?_
       case z81=>intro w d;obtain ⟨l,f⟩:=d;go_simp;all_goals with_reducible rfl
       try simp only [sqx,ad]
       refine tkq 2 rfl (v:=?_) (aa ⟨by rfl,?z82⟩) ?_
       case z82=>intro w d;obtain ⟨l,f⟩:=d;go_simp;all_goals with_reducible rfl
       try simp only [sqx,ad]
       refine tkq 3 rfl (v:=?_) (aa ⟨by rfl,?z83⟩) ?_
       case z83=>intro w d;obtain ⟨l,f⟩:=d;go_simp;all_goals with_reducible rfl
       try simp only [sqx,ad]
       refine wpAnyH_ready (rs:=[1]) (by kernel_rfl) (by simp) ?_;refine af rfl (fun K t=>?_) ag;go_simp
       with_reducible refine (j2f (HO.out.join (ae _ _).drew)).mono ?_
       rintro e _ ⟨rfl,rfl⟩
       try go_wp2_with fail
       refine t.out _ _ ⟨(s.out _ (ae _ _).drew).1.1,(s.out _ (ae _ _).drew).1.2.1⟩ (fun o=>?_);clear t K
       try simp only [sqx,ad]
       refine tkq 4 rfl (v:=?_) (aa ⟨by rfl,?z84⟩) ?_
       case z84=>intro w d;obtain ⟨l,f⟩:=d;go_simp;all_goals with_reducible rfl
       try simp only [sqx,ad]
       refine tkq 5 rfl (v:=?_) (aa ⟨by rfl,?z85⟩) ?_
       case z85=>intro w d;obtain ⟨l,f⟩:=d;go_simp;all_goals with_reducible rfl
       try simp only [sqx,ad]
       refine tkq 6 rfl (v:=?_) (aa ⟨by rfl,?z86⟩) ?_
       case z86=>intro w d;obtain ⟨l,f⟩:=d;go_simp;all_goals with_reducible rfl
       try simp only [sqx,ad]
       refine tkq 8 rfl (v:=?_) (aa ⟨by rfl,?z87⟩) ?_
       case z87=>intro w d;obtain ⟨l,f⟩:=d;go_simp;all_goals with_reducible rfl
       try simp only [sqx,ad]
       refine tkq 9 rfl (v:=.agg AC) (j7 (by rfl) _ _ rfl _ _ rfl AC lc _ (fun _ h=>h.2) b5 underlying39 rfl jC) ?_
       try simp only [sqx,ad]
       refine wpAnyH_ready (rs:=[7]) (by kernel_rfl) (by simp) ?_;refine af rfl (fun K t=>?_) ag;go_simp
       with_reducible refine (j7u (HO.out.join (ae _ _).drew)).mono ?_
       rintro e h6 ⟨A9,rfl,E,N,M⟩
       try go_wp2_with fail
       refine t.out _ _ ⟨(s.out _ (jo E)).1.1,(s.out _ (jo E)).1.2.1⟩ (fun o=>?_);clear t K
       try simp only [sqx,ad]
       refine wpAnyH_ready (rs:=[10]) (by kernel_rfl) (by simp) ?_;refine af rfl (fun K t=>?_) ag;go_simp
       with_reducible refine (zq N (s.out _ (jo E)).2.1 M (ym _)).mono ?_
       rintro e b2 ⟨rfl,O⟩
       try go_wp2_with fail
       have C:=(jo E).trans (O.mono (jo E).size);refine t.out _ _ ⟨(s.out _ C).1.1,(s.out _ C).1.2.1⟩ (fun o=>?_);clear t K
       try simp only [sqx,ad]
       have HE:Hid (Below w.heap.size w b2):=(HO.out.join C).below;clear E N M O C;refine tkq 11 rfl (v:=?_) (aa ⟨by rfl,?z88⟩) ?_
       case z88=>intro w d;obtain ⟨l,f⟩:=d;go_simp;all_goals with_reducible rfl
       try simp only [sqx,ad]
       refine tkq 12 rfl (v:=?_) (aa ⟨by rfl,?z89⟩) ?_
       case z89=>intro w d;obtain ⟨l,f⟩:=d;go_simp;all_goals with_reducible rfl
       try simp only [sqx,ad]
       refine wpAnyH_done (by kernel_rfl) ?_ _;clear s HO a1 b5 e6;go_upto_region 27 with fail;refine wp_region_held_drew (S:=fun X=>True) (by kernel_rfl) trivial (fun o=>?_);refine tkq 0 rfl (v:=?_) (aa ⟨by rfl,?z90⟩) ?_
       case z90=>intro w d;(try dsimp only at d);go_simp;all_goals with_reducible rfl
       try simp only [sqx,ad]
       refine tkq 1 rfl (v:=?_) (aa ⟨by rfl,?z91⟩) ?_
       case z91=>intro w d;(try dsimp only at d);go_simp;all_goals with_reducible rfl
       try simp only [sqx,ad]
       refine tkq 2 rfl (v:=undef) (ab ⟨by rfl,rfl⟩) ?_
       try simp only [sqx,ad]
       refine tkq 3 rfl (v:=undef) (ab ⟨by rfl,rfl⟩) ?_
       try simp only [sqx,ad]
       refine tkq 4 rfl (v:=undef) (ab ⟨by rfl,rfl⟩) ?_
       try simp only [sqx,ad]
       refine tkq 5 rfl (v:=undef) (ab ⟨by rfl,rfl⟩) ?_
       try simp only [sqx,ad]
       refine tkq 6 rfl (v:=undef) (ab ⟨by rfl,rfl⟩) ?_
       try simp only [sqx,ad]
       refine tkq 7 rfl (v:=undef) (ab ⟨by rfl,rfl⟩) ?_
       try simp only [sqx,ad]
       refine tkq 8 rfl (v:=undef) (ab ⟨by rfl,rfl⟩) ?_
       try simp only [sqx,ad]
       refine tkq 9 rfl (v:=undef) (ab ⟨by rfl,rfl⟩) ?_
       try simp only [sqx,ad]
       refine tkq 10 rfl (v:=undef) (ab ⟨by rfl,rfl⟩) ?_
       try simp only [sqx,ad]
       refine tkq 11 rfl (v:=undef) (ab ⟨by rfl,rfl⟩) ?_
       try simp only [sqx,ad]
       refine tkq 12 rfl (v:=undef) (ab ⟨by rfl,rfl⟩) ?_
       try simp only [sqx,ad]
       refine tkq 13 rfl (v:=undef) (ab ⟨by rfl,rfl⟩) ?_
       try simp only [sqx,ad]
       refine tkq 14 rfl (v:=undef) (ab ⟨by rfl,rfl⟩) ?_
       try simp only [sqx,ad]
       refine tkq 15 rfl (v:=?_) (aa ⟨by rfl,?z92⟩) ?_
       case z92=>intro w d;(try dsimp only at d);go_simp;all_goals with_reducible rfl
       try simp only [sqx,ad]
       refine tkq 16 rfl (v:=?_) (aa ⟨by rfl,?z93⟩) ?_
       case z93=>intro w d;(try dsimp only at d);go_simp;all_goals with_reducible rfl
       try simp only [sqx,ad]
       refine wpAnyH_done (by kernel_rfl) ?_ _;have h7:Hid (Below w.heap.size w b2.drew):=HE.out.drew;clear HE;go_wp2_with fail;go_ret;exact ⟨rfl,h7.out⟩
      ·have HO:Hid (OpP w G ((z,.cells u mT (0,0))::KW) p h 4096 12 e7 ver c W (ver+1) W):=hO;have s:Hid (∀ Y,Below G.heap.size G Y->(Y.cell? ⟨z,0,none⟩=some (.int .u64 ver)/\Y.rangeAt z 1 lc/\Y.rangeAt z 30 lt)/\CV Y (.agg AC) c/\CV Y (.agg AT) W):=fun Y hY=>(HO.out.join hY).on a1.out;clear hO;have i3:((ver+1)==ver)=false:=by simp;try omega
       have h0:((ver+1)==(ver+1))=true:=by simp
       go_upto_region 26 with fail;refine wp_region_held_drew (S:=fun X=>X.cell? ⟨z,0,none⟩=some (.int .u64 ver)/\X.rangeAt z 1 lc) (by kernel_rfl) (show _/\_ from ⟨(s.out _ (ae _ _).drew).1.1,(s.out _ (ae _ _).drew).1.2.1⟩) (fun o=>?_);refine tkq 0 rfl (v:=?_) (aa ⟨by rfl,?z94⟩) ?_
       case z94=>intro w d;obtain ⟨l,f⟩:=d;go_simp;all_goals with_reducible rfl
       try simp only [sqx,ad]
       refine tkq 2 rfl (v:=?_) (aa ⟨by rfl,?z95⟩) ?_
       case z95=>intro w d;obtain ⟨l,f⟩:=d;go_simp;all_goals with_reducible rfl
       try simp only [sqx,ad]
       refine tkq 3 rfl (v:=?_) (aa ⟨by rfl,?z96⟩) ?_
       case z96=>intro w d;obtain ⟨l,f⟩:=d;go_simp;all_goals with_reducible rfl
       try simp only [sqx,ad]
       refine wpAnyH_ready (rs:=[1]) (by kernel_rfl) (by simp) ?_;refine af rfl (fun K t=>?_) ag;go_simp
       with_reducible refine (j2f (HO.out.join (ae _ _).drew)).mono ?_
       rintro e _ ⟨rfl,rfl⟩
       try go_wp2_with fail
       refine t.out _ _ ⟨(s.out _ (ae _ _).drew).1.1,(s.out _ (ae _ _).drew).1.2.1⟩ (fun o=>?_);clear t K
       try simp only [sqx,ad]
       refine tkq 4 rfl (v:=?_) (aa ⟨by rfl,?z97⟩) ?_
       case z97=>intro w d;obtain ⟨l,f⟩:=d;go_simp;all_goals with_reducible rfl
       try simp only [sqx,ad]
       refine tkq 5 rfl (v:=?_) (aa ⟨by rfl,?z98⟩) ?_
       case z98=>intro w d;obtain ⟨l,f⟩:=d;go_simp;all_goals with_reducible rfl
       try simp only [sqx,ad]
       refine tkq 6 rfl (v:=undef) (ab ⟨by rfl,rfl⟩) ?_
       try simp only [sqx,ad]
       refine tkq 7 rfl (v:=undef) (ab ⟨by rfl,rfl⟩) ?_
       try simp only [sqx,ad]
       refine tkq 8 rfl (v:=undef) (ab ⟨by rfl,rfl⟩) ?_
       try simp only [sqx,ad]
       refine tkq 9 rfl (v:=undef) (ab ⟨by rfl,rfl⟩) ?_
       try simp only [sqx,ad]
       refine tkq 10 rfl (v:=undef) (ab ⟨by rfl,rfl⟩) ?_
       try simp only [sqx,ad]
       refine tkq 11 rfl (v:=?_) (aa ⟨by rfl,?z99⟩) ?_
       case z99=>intro w d;obtain ⟨l,f⟩:=d;go_simp;all_goals with_reducible rfl
       try simp only [sqx,ad]
       refine tkq 12 rfl (v:=?_) (aa ⟨by rfl,?z100⟩) ?_
       case z100=>intro w d;obtain ⟨l,f⟩:=d;go_simp;all_goals with_reducible rfl
       try simp only [sqx,ad]
       refine wpAnyH_done (by kernel_rfl) ?_ _;go_upto_region 27 with fail;refine wp_region_held_drew (S:=fun X=>X.cell? ⟨z,0,none⟩=some (.int .u64 ver)/\X.rangeAt z 30 lt) (by kernel_rfl) (show _/\_ from ⟨(s.out _ ((ae _ _).drew.drew)).1.1,(s.out _ ((ae _ _).drew.drew)).1.2.2⟩) (fun o=>?_);refine tkq 0 rfl (v:=?_) (aa ⟨by rfl,?z101⟩) ?_
       case z101=>intro w d;obtain ⟨l,f⟩:=d;go_simp;all_goals with_reducible rfl
       try simp only [sqx,ad]
       refine tkq 1 rfl (v:=?_) (aa ⟨by rfl,?z102⟩) ?_
       case z102=>intro w d;obtain ⟨l,f⟩:=d;go_simp;all_goals with_reducible rfl
       try simp only [sqx,ad]
       refine tkq 2 rfl (v:=?_) (aa ⟨by rfl,?z103⟩) ?_
       case z103=>intro w d;obtain ⟨l,f⟩:=d;go_simp;all_goals with_reducible rfl
       try simp only [sqx,ad]
       refine tkq 4 rfl (v:=?_) (aa ⟨by rfl,?z104⟩) ?_
       case z104=>intro w d;obtain ⟨l,f⟩:=d;go_simp;all_goals with_reducible rfl
       try simp only [sqx,ad]
       refine tkq 5 rfl (v:=?_) (aa ⟨by rfl,?z105⟩) ?_
       case z105=>intro w d;obtain ⟨l,f⟩:=d;go_simp;all_goals with_reducible rfl
       try simp only [sqx,ad]
       refine tkq 6 rfl (v:=?_) (aa ⟨by rfl,?z106⟩) ?_
       case z106=>intro w d;obtain ⟨l,f⟩:=d;go_simp;all_goals with_reducible rfl
       try simp only [sqx,ad]
       refine wpAnyH_ready (rs:=[3]) (by kernel_rfl) (by simp) ?_;refine af rfl (fun K t=>?_) ag;go_simp
       with_reducible refine (j2f (HO.out.join ((ae _ _).drew.drew))).mono ?_
       rintro e _ ⟨rfl,rfl⟩
       try go_wp2_with fail
       refine t.out _ _ ⟨(s.out _ ((ae _ _).drew.drew)).1.1,(s.out _ ((ae _ _).drew.drew)).1.2.2⟩ (fun o=>?_);clear t K
       try simp only [sqx,ad]
       refine tkq 7 rfl (v:=?_) (aa ⟨by rfl,?z107⟩) ?_
       case z107=>intro w d;obtain ⟨l,f⟩:=d;go_simp;all_goals with_reducible rfl
       try simp only [sqx,ad]
       refine tkq 8 rfl (v:=?_) (aa ⟨by rfl,?z108⟩) ?_
       case z108=>intro w d;obtain ⟨l,f⟩:=d;go_simp;all_goals with_reducible rfl
       try simp only [sqx,ad]
       refine tkq 9 rfl (v:=?_) (aa ⟨by rfl,?z109⟩) ?_
       case z109=>intro w d;obtain ⟨l,f⟩:=d;go_simp;all_goals with_reducible rfl
       try simp only [sqx,ad]
       refine tkq 11 rfl (v:=?_) (aa ⟨by rfl,?z110⟩) ?_
       case z110=>intro w d;obtain ⟨l,f⟩:=d;go_simp;all_goals with_reducible rfl
       try simp only [sqx,ad]
       refine tkq 12 rfl (v:=.agg AT) (j7 (by rfl) _ _ rfl _ _ rfl AT lt _ (fun _ h=>h.2) e6 underlying39 rfl jT) ?_
       try simp only [sqx,ad]
       refine wpAnyH_ready (rs:=[10]) (by kernel_rfl) (by simp) ?_;refine af rfl (fun K t=>?_) ag;go_simp
       with_reducible refine (j7u (HO.out.join ((ae _ _).drew.drew))).mono ?_
       rintro e h6 ⟨A9,rfl,E,N,M⟩
       try go_wp2_with fail
       have F:=(((ae _ _).drew.drew):Below G.heap.size G G.drew.drew).trans (E.mono (((ae _ _).drew.drew):Below G.heap.size G G.drew.drew).size);refine t.out _ _ ⟨(s.out _ F).1.1,(s.out _ F).1.2.2⟩ (fun o=>?_);clear t K
       try simp only [sqx,ad]
       refine wpAnyH_ready (rs:=[13]) (by kernel_rfl) (by simp) ?_;refine af rfl (fun K t=>?_) ag;go_simp
       with_reducible refine (zq N (s.out _ F).2.2 M (ym _)).mono ?_
       rintro e b2 ⟨rfl,O⟩
       try go_wp2_with fail
       have C:=F.trans (O.mono F.size);refine t.out _ _ ⟨(s.out _ C).1.1,(s.out _ C).1.2.2⟩ (fun o=>?_);clear t K
       try simp only [sqx,ad]
       have HE:Hid (Below w.heap.size w b2):=(HO.out.join C).below;clear E N M O C F;refine tkq 14 rfl (v:=?_) (aa ⟨by rfl,?z111⟩) ?_
       case z111=>intro w d;obtain ⟨l,f⟩:=d;go_simp;all_goals with_reducible rfl
       try simp only [sqx,ad]
       refine tkq 15 rfl (v:=?_) (aa ⟨by rfl,?z112⟩) ?_
       case z112=>intro w d;obtain ⟨l,f⟩:=d;go_simp;all_goals with_reducible rfl
       try simp only [sqx,ad]
       refine tkq 16 rfl (v:=?_) (aa ⟨by rfl,?z113⟩) ?_
       case z113=>intro w d;obtain ⟨l,f⟩:=d;go_simp;all_goals with_reducible rfl
       try simp only [sqx,ad]
       refine wpAnyH_done (by kernel_rfl) ?_ _;clear s HO a1 b5 e6;go_wp2_with fail;go_ret;exact ⟨rfl,HE.out⟩
   ·obtain rfl:i=n:=by omega
    have h1:¬((i:Int)<(i:Int)):=by omega
    obtain ⟨D,B,ver,c,st,hB,-⟩:=b0.out;have HE:Hid (Below w.heap.size w wr):=hB.below;clear hB b0;go_wp2_with fail;go_ret;exact ⟨rfl,HE.out⟩
end Go.Proofs.YtdigofgjhaakmaaGreatDoor
