/- Parts of the proof. -/
import Derived.Test.YtdigofgjhaakmaaGreatDoorC42
set_option linter.all false
set_option maxHeartbeats 40000000
set_option maxRecDepth 20000
open Go.Proofs.Tryz
open Nat renaming le_refl->aa,zero_add->ab
open List renaming getElem_mem->ac,mem_cons_self->ad
open Or renaming inl->ae
open Go.Act renaming eval->af,put->ag
open Go.RowKit.Below renaming refl->ah
open Go.AllReadyH renaming cons->ai,nil->aj
namespace Go.Proofs.YtdigofgjhaakmaaGreatDoor
open Go.RowKit Sm Cf Df Va
theorem checks16 {w:World} (hv:Vs w) {ga:Addr} (hG:Gl w ga) {v:Value} {c:Cgf} (n4:CV w v c) (i4:CIn c) (i2:CRg c) (e8:∀ t∈c.ten,TBy t/\TRg t) :
 Calls prog 5 #[v] w fun e V=>e=.returned (.bool true)/\Below w.heap.size w V:=by
 obtain ⟨d6,u,rfl,a7⟩:=n4;obtain ⟨I,f4,d3⟩:=Df.TSV.zv a7;obtain ⟨sa,d0,hu,-,-,i0⟩:=d3.parts;have U:I.length=c.ten.length:=by rw [<-f4,List.length_map]
 subst hu;obtain ⟨E,f8⟩:∃ g,w.heap.size=g:=⟨_,rfl⟩;obtain ⟨F,h3,o5,o6,h9,h7⟩:=ccA d6 a7.one;rw [h3.out];have b3:Mem w (w.alloc (.cells F 39)) [(E,.cells F 39)]:=(Mem.nil w).push1 f8.symm;have c5:Hid (Mem w (w.alloc (.cells F 39)) [(E,.cells F 39)]):=b3;have HV:Hid (∀ V,Below w.heap.size w V->Vs V):=fun V hV=>hv.below hV;have HG:Hid (Gl w ga):=hG;have c9:Hid (∀ X:World,X.heap[E]?=some (.cells F 39)->X.cell? ⟨E,28,none⟩=some (.slice sa I.length d0)):=fun X W=>by
  rw [cell_of W,<-h3.out];exact j40 d6 _
 have h0:Hid (∀ X,Below w.heap.size w X->CV X (.agg F) c/\TSV X (.slice sa I.length d0) c.ten):=fun X W=>by
  rw [<-h3.out];exact ⟨⟨d6,_,rfl,a7.at_ W (aa _)⟩,a7.at_ W (aa _)⟩
 have HZ:Hid (∀ i (hi:i<I.length),∃ b O,sa=some ⟨b,O,none⟩/\(∀ V,Below w.heap.size w V->V.rangeAt b (O+i*33) (zc I[i]))/\TLen I[i].1/\∀ V,Below w.heap.size w V->Rws V I[i]):=fun i hi=>by
  obtain ⟨b,O,e,h⟩:=i0 i hi;exact ⟨b,O,e,h,(d3.each _ (ac hi)).1,fun V hV=>Rws.at_ (d3.each _ (ac hi)).2 hV⟩
 have c4:Hid (I.map Prod.fst=c.ten/\(∀ t∈c.ten,TBy t/\TRg t)/\CIn c/\CRg c/\I.length=c.ten.length):=⟨f4,e8,i4,i2,U⟩;clear hv hG b3 d6 a7 f4 d3 i0 U i4 i2 e8;go_enter func5,ntmps5;go_upto_region 1 with fail;refine j5 (fun X=>Mem w X [(E,.cells F 39)]) (by exact c5.out) ?_;intro V0 d7
 try simp only [f8]
 have m8:Hid (Mem w V0 [(E,.cells F 39)]):=d7;have CK:=jlg (HV.out V0 d7.below) (HG.out.on d7);clear c5 d7 f8;go_wp2_with fail;refine CK.mono ?_;rintro e V1 ⟨rfl,i6⟩;have b3:=m8.out.after i6;have g4:=c9.out V1 (b3.get 0 rfl);have h6:=jbl (h0.out V1 b3.below).2 8 (by omega);obtain ⟨r,hr⟩:∃ r,decide (Lgts c.ten 8)=r:=⟨_,rfl⟩;rw [hr] at h6;have HR:Hid (decide (Lgts c.ten 8)=r):=hr;have c5:Hid (Mem w V1 [(E,.cells F 39)]):=b3;clear CK m8 i6 b3 hr;go_wp2_with fail;refine h6.mono ?_;rintro e V2 ⟨rfl,hb2⟩;have g9:Hid (Mem w V2 [(E,.cells F 39)]):=c5.out.after hb2;clear h6 c5 hb2 g4;cases r
 ·go_wp2_with fail;go_ret;exact ⟨rfl,g9.out.below⟩
 ·have m9:Hid (Lgts c.ten 8):=by show Lgts c.ten 8;exact of_decide_eq_true HR.out
  have o4:I.length<=8:=by rw [c4.out.2.2.2.2];exact m9.out.1
  have CN:=jj0 (x:=12) (y:=8192) (n:=12) (m:=8192) rfl rfl V2;clear HR;go_wp2_with fail;refine CN.mono ?_;rintro e V3 ⟨p,rfl,h,f1⟩;have CO:=jcw (f1.baseF g9.out) HG.out rfl (by omega) (by omega) (by omega) (by omega) (by simp) (ver:=0) (c:=cfg0) (ae ⟨rfl,rfl,rfl⟩) (n:=20) (by omega);clear CN f1 g9;go_wp2_with fail;refine CO.mono ?_;rintro e V4 ⟨T,rfl,hA,-⟩;have CB:=j9j hA;have o3:((0:Int) != 0)=false:=rfl;clear CO hA;go_wp2_with fail;refine CB.mono ?_;rintro e V5 ⟨rfl,hA⟩;have CG:=j42 hA (h0.out V5 hA.mem.below).1 c4.out.2.2.1 c4.out.2.2.2.1;have hk:=hA.mem.get 0 rfl;clear CB hA;go_wp2_with (refine kx (by rfl) 39 (.tmp 1) (by with_reducible rfl) E (by first|rfl|simp [af]) 39 F (0,0) _ hk underlying39 h9 ?_)
  refine CG.mono ?_;rintro e V6 ⟨rfl,hA⟩;obtain ⟨M,f6⟩:∃ g,V6.heap.size=g:=⟨_,rfl⟩;have HB:Hid (BoH w (V6.alloc (.cells mZ mT)) [(E,.cells F 39)] p h 8192 12 D0 [] T M 0 cfg0 none (some { c with ten:=[] }) 20):=by rw [<-f6];exact jme (D:=D0) hA rfl
  have g0:=jmc V6;obtain ⟨Z,hZ⟩:∃ Z:Array Value,mZ=Z:=⟨_,rfl⟩;rw [hZ] at HB g0;clear CG hA hZ hk;go_upto_region 9 with (refine z8 rfl 41 _ (by with_reducible rfl) g0 (by simp [af,ag]) ?_)
  refine j5 (fun X=>BoH w X [(E,.cells F 39)] p h 8192 12 D0 [] T M 0 cfg0 none (some { c with ten:=[] }) 20) (by exact HB.out) ?_;intro V7 m4
  try simp only [f6]
  have CB:=jfj m4;clear HB g0 f6 m4;go_wp2_with fail;refine CB.mono ?_;rintro e V8 ⟨rfl,d8⟩;have CG:=jih d8 (h0.out V8 d8.below).1;have hk:V8.heap[E]?=some (.cells F 39):=d8.at_ ad;clear CB d8;go_wp2_with (refine wpList_load_row rfl 39 (.tmp 1) (by with_reducible rfl) E (by first|rfl|simp [af]) 39 F (0,0) _ hk underlying39 rfl h9 ?_)
  refine CG.mono ?_;rintro e V9 ⟨rfl,m3⟩;have n1:Hid (∃ q,Bo w V9 [(E,.cells F 39)] p h 8192 12 D0 [] T M 0 cfg0 (some q) (20+0)):=⟨_,m3⟩;clear CG m3 hk;go_wp2_with fail
  go_loopw [6] (fun u6 w'=>∃ i:Nat,i<=I.length/\u6=.int .i64 i/\Hid (∃ q,Bo w w' [(E,.cells F 39)] p h 8192 12 D0 [] T M 0 cfg0 (some q) (20+i))) (fun u6 w'=>I.length-(intOf u6).toNat)
  case atStart=>exact ⟨0,Nat.zero_le _,rfl,n1⟩
  case round =>
   obtain ⟨i,hi,rfl,g8⟩:=hrel;clear n1;obtain ⟨q,hB⟩:=g8.out;have g4:=c9.out wr (hB.at_ ad);by_cases hlt:i<I.length
   ·have o1:(i:Int)<I.length:=by omega
    obtain ⟨b,O,rfl,d5,U,d4⟩:=HZ.out i hlt;have f5:=jq1 c4.out.1 c4.out.2.1 m9.out hlt U;have e5:IntKind.i64.wrap ((i:Int)+1)=(i:Int)+1:=yu (by omega) (by omega);generalize n3:I[i]=z at d5 U d4 f5;obtain ⟨g7,c2⟩:∃ g,wr.heap.size=g:=⟨_,rfl⟩;have f0:=fun X=>jfg z.1.name z U X;obtain ⟨Y,hY⟩:∃ Y,(yc (yP z.1.name z)).toArray=Y:=⟨_,rfl⟩;have HY:Hid ((yc (yP z.1.name z)).toArray=Y):=hY;obtain ⟨XA,g2⟩:∃ A:Array Value,(zc z).toArray=A:=⟨_,rfl⟩;have m6:Hid ((zc z).toArray=XA):=g2;have i5:∀ X,(Instr.build 48 #[(0,.bool true),(1,.string z.1.name),(2,.agg XA)]).run prog X=.ok (.agg Y) X:=fun X=>by rw [<-g2,<-hY];exact f0 X
    have h8:(prog.info? 46).map (·.size)=some (zc z).length:=by rw [zc33 U];kernel_rfl
    have d2:(prog.info? 48).map (·.size)=some (yc (yP z.1.name z)).length:=by rw [j2n (show TLen (yP z.1.name z).1.t from U)];kernel_rfl
    have f3:(prog.info? 48).map (·.size)=some Y.size:=by rw [<-hY,List.size_toArray];exact d2
    have a0:Y.all (·.oneCell')=true:=by
     rw [<-hY];have hr:=d4 w (ah _ _);exact jmo (ku hr.1) (ku hr.2.1) (ku hr.2.2)
    have i3:(zc z)[0]?=some (.string z.1.name):=rfl;have e1:Hid (∀ X:World,Below w.heap.size w X->X.heap[E]?=some (.cells F 39)->X.cell? ⟨E,28,none⟩=some (.slice (some ⟨b,O,none⟩) I.length d0)/\X.cell? ⟨b,O+i*33,none⟩=some (.string z.1.name)/\X.rangeAt b (O+i*33) (zc z)):=fun X W hk=>⟨c9.out X hk,d5 X W 0 _ i3,d5 X W⟩;have n9:Hid (Bo w wr [(E,.cells F 39)] p h 8192 12 D0 [] T M 0 cfg0 (some q) (20+i)):=hB;have c3:Mem wr (wr.alloc (.cells hz0 48)).drew [(g7,.cells hz0 48)]:=((Mem.nil wr).push1 c2.symm).after ((ah _ _).drew);have k7:=c3.get 0 rfl;have m2:=c3.wrote 0 rfl (j7 (wr.alloc (.cells hz0 48)).drew g7 _ Y _ k7);have e7:Hid (Bo w ((wr.alloc (.cells hz0 48)).drew.setRow g7 Y) ((g7,.cells Y 48)::[(E,.cells F 39)]) p h 8192 12 D0 [] T M 0 cfg0 (some q) (20+i)):=hB.push m2;have m1:=e1.out _ (hB.join (ah _ _).drew).below ((hB.join (ah _ _).drew).at_ ad);have m0:=e1.out _ (hB.join c3.below).below ((hB.join c3.below).at_ ad);have i9:=e1.out _ e7.out.below (e7.out.at_ (by simp));have g6:Hid (∀ X,Below w.heap.size w X->Rws X (yz (yP z.1.name z))):=d4;have b6:Hid ((TIn z.1/\TRg z.1/\Lgt z.1)/\TLen z.1):=⟨f5,U⟩;clear g8 hB d5 U d4 f5 n3 hY g2 f0 HZ c3 m2 i3 e1;generalize i1:yc (yP z.1.name z)=yl at HY d2;have g5:Hid (yc (yP z.1.name z)=yl):=i1;clear i1;generalize zc z=xl at *;go_upto_region 14 with fail;clear g4;refine wp_region_held_drew (S:=fun X=>X.cell? ⟨E,28,none⟩=some (.slice (some ⟨b,O,none⟩) I.length d0)/\X.cell? ⟨b,O+i*33,none⟩=some (.string z.1.name)/\X.rangeAt b (O+i*33) xl) (by kernel_rfl) m1 (fun H=>?_);refine tkq 0 rfl (v:=?_) (ae ⟨by rfl,?z44⟩) ?_
    case z44 =>
     intro w a
     (try dsimp only at a)
     obtain ⟨f,d,J⟩:=a;go_simp
     all_goals with_reducible rfl
    try simp only [sqx,ag]
    refine tkq 1 rfl (v:=?_) (ae ⟨by rfl,?z45⟩) ?_
    case z45 =>
     intro w a
     (try dsimp only at a)
     obtain ⟨f,d,J⟩:=a;go_simp
     all_goals with_reducible rfl
    try simp only [sqx,ag]
    refine tkq 2 rfl (v:=?_) (ae ⟨by rfl,?z46⟩) ?_
    case z46 =>
     intro w a
     (try dsimp only at a)
     obtain ⟨f,d,J⟩:=a;go_simp
     all_goals with_reducible rfl
    try simp only [sqx,ag]
    refine tkq 3 rfl (v:=?_) (ae ⟨by rfl,?z47⟩) ?_
    case z47 =>
     intro w a
     (try dsimp only at a)
     obtain ⟨f,d,J⟩:=a;go_simp
     all_goals with_reducible rfl
    try simp only [sqx,ag]
    refine tkq 4 rfl (v:=?_) (ae ⟨by rfl,?z48⟩) ?_
    case z48 =>
     intro w a
     (try dsimp only at a)
     obtain ⟨f,d,J⟩:=a;go_simp
     all_goals with_reducible rfl
    try simp only [sqx,ag]
    refine tkq 5 rfl (v:=?_) (ae ⟨by rfl,?z49⟩) ?_
    case z49 =>
     intro w a
     (try dsimp only at a)
     obtain ⟨f,d,J⟩:=a;go_simp
     all_goals with_reducible rfl
    try simp only [sqx,ag]
    refine tkq 6 rfl (v:=?_) (ae ⟨by rfl,?z50⟩) ?_
    case z50 =>
     intro w a
     (try dsimp only at a)
     obtain ⟨f,d,J⟩:=a;go_simp
     all_goals with_reducible rfl
    try simp only [sqx,ag]
    refine tkq 7 rfl (v:=?_) (ae ⟨by rfl,?z51⟩) ?_
    case z51 =>
     intro w a
     (try dsimp only at a)
     obtain ⟨f,d,J⟩:=a;go_simp
     all_goals with_reducible rfl
    try simp only [sqx,ag]
    refine tkq 8 rfl (v:=?_) (ae ⟨by rfl,?z52⟩) ?_
    case z52 =>
     intro w a
     (try dsimp only at a)
     obtain ⟨f,d,J⟩:=a;go_simp
     all_goals with_reducible rfl
    try simp only [sqx,ag]
    refine tkq 9 rfl (v:=?_) (ae ⟨by rfl,?z53⟩) ?_
    case z53 =>
     intro w a
     (try dsimp only at a)
     obtain ⟨f,d,J⟩:=a;go_simp
     all_goals with_reducible rfl
    try simp only [sqx,ag]
    refine tkq 10 rfl (v:=.agg XA) (jj (by rfl) _ _ rfl _ _ rfl XA xl _ (fun _ h=>h.2.2) m6 underlying46 rfl h8) ?_
    try simp only [sqx,ag]
    refine tkq 11 rfl (v:=.agg Y) (j60 (by rfl) _ _ rfl i5 (by simp [af,ag])) ?_
    try simp only [sqx,ag]
    refine wpAnyH_ready (rs:=[12]) (by kernel_rfl) (by simp) ?_;refine ai rfl (fun K hK=>?_) aj;go_simp;refine hK.out _ _ m0 (fun H=>?_);clear hK K
    try simp only [sqx,ag]
    refine wpAnyH_ready (rs:=[13]) (by kernel_rfl) (by simp) ?_;refine ai rfl (fun K hK=>?_) aj;refine j3v rfl 48 (.tmp 7) (.tmp 62) rfl g7 Y (by first|rfl|(simp [af];exact c2)|simp [af,c2]) (by first|rfl|simp [af]) 48 hz0 k7 f3 (Option.some.inj (f3.symm.trans jq2)).symm a0 ?_;refine hK.out _ _ i9 (fun H=>?_);clear hK K
    try simp only [sqx,ag]
    refine wpAnyH_done (by kernel_rfl) ?_ _;go_upto_region 15 with fail;refine j5 (fun X=>Bo w X ((g7,.cells Y 48)::[(E,.cells F 39)]) p h 8192 12 D0 [] T M 0 cfg0 (some q) (20+i)) (by exact e7.out) ?_;intro n8 f2
    try simp only [c2]
    have d9:Hid (∀ X:World,X.heap[g7]?=some (.cells Y 48)->X.rangeAt g7 0 yl):=fun X W j v hj=>by
     rw [cell_of W,<-HY.out,List.getElem?_toArray,ab];exact hj
    have b7:Hid (Bo w n8.drew ((g7,.cells Y 48)::[(E,.cells F 39)]) p h 8192 12 D0 [] T M 0 cfg0 (some q) (20+i)):=f2.join (ah _ _).drew;clear e7 k7 c2 f2 n9 m1 m0 i9 i5 f3 a0 m6 h8;refine wp_region_held_drew (S:=fun X=>X.rangeAt g7 0 yl) (by kernel_rfl) (d9.out _ (b7.out.at_ ad)) (fun H=>?_);refine tkq 0 rfl (v:=?_) (ae ⟨by rfl,?z54⟩) ?_
    case z54=>intro w a;(try dsimp only at a);go_simp;all_goals with_reducible rfl
    try simp only [sqx,ag]
    refine tkq 1 rfl (v:=.agg Y) (jj (by rfl) _ _ rfl _ _ rfl Y yl _ (fun _ h=>h) HY underlying48 rfl d2) ?_
    try simp only [sqx,ag]
    refine tkq 3 rfl (v:=?_) (ae ⟨by rfl,?z55⟩) ?_
    case z55=>intro w a;(try dsimp only at a);go_simp;all_goals with_reducible rfl
    try simp only [sqx,ag]
    refine tkq 4 rfl (v:=.agg Y) (jj (by rfl) _ _ rfl _ _ rfl Y yl _ (fun _ h=>h) HY underlying48 rfl d2) ?_
    try simp only [sqx,ag]
    have h5:=jfl (HV.out _ b7.out.below) b7.out (by omega) (g6.out _ b7.out.below) (y:=yP z.1.name z) b6.out.1 (by have:=b6.out.1.2.2.1;show z.1.name.size<=1000000;omega);rw [g5.out,HY.out] at h5;refine wpAnyH_ready (rs:=[2]) (by kernel_rfl) (by simp) ?_;refine ai rfl (fun K hK=>?_) aj;go_simp
    with_reducible refine (h5).mono ?_
    rintro e n7 ⟨rfl,H2⟩
    try go_wp2_with fail
    have i8:=d9.out _ (H2.at_ (by simp));have o0:Hid (BoH w n7 ((g7,.cells Y 48)::[(E,.cells F 39)]) p h 8192 12 D0 [] T M 0 cfg0 (some q) (sgS (some q) (yP z.1.name z).1) (20+i+1)):=H2;have h4:=jfk (C:=[]) (y:=yP z.1.name z) (HV.out _ H2.below) H2 (fun X W _=>g6.out X W) (fun c1 h1=>by cases h1;have:=b7.out.lig.2;omega) b6.out.2 (by have:=b6.out.1.2.2.1;show z.1.name.size<=1000000;omega) (by have:=b6.out.1.2.2.1;show z.1.name.size<=1000000;omega);rw [g5.out,HY.out] at h4;refine hK.out _ _ i8 (fun H=>?_);clear hK K
    try simp only [sqx,ag]
    clear h5 H2 i8;refine wpAnyH_ready (rs:=[5]) (by kernel_rfl) (by simp) ?_;refine ai rfl (fun K hK=>?_) aj;go_simp
    with_reducible refine (h4).mono ?_
    rintro e n6 ⟨rfl,H4⟩
    try go_wp2_with fail
    have i7:=d9.out _ (H4.at_ (by simp));have HN:Hid (∃ q,Bo w n6 [(E,.cells F 39)] p h 8192 12 D0 [] T M 0 cfg0 (some q) (20+(i+1))):=⟨_,H4.less (fun x hx=>List.mem_cons_of_mem _ hx)⟩;generalize sgK (some q) (yP z.1.name z).1=kk at *;refine hK.out _ _ i7 (fun H=>?_);clear hK K
    try simp only [sqx,ag]
    clear h4 H4;refine tkq 6 rfl (v:=?_) (ae ⟨by rfl,?z56⟩) ?_
    case z56=>intro w a;(try dsimp only at a);go_simp;all_goals with_reducible rfl
    try simp only [sqx,ag]
    refine wpAnyH_done (by kernel_rfl) ?_ _;have a3:(kk != kk)=false:=by simp
    clear d9 b7 g6 b6 g5 HY o0 i7;go_wp2_with fail;go_roundw
    case rel=>exact ⟨i+1,by omega,by go_num,HN⟩
    case measure=>simp [intOf];omega
   ·obtain rfl:i=I.length:=by omega
    have h1:¬((I.length:Int)<(I.length:Int)):=by omega
    obtain ⟨z1,z2,z3,L,z4,z5⟩:=hB;have f7:=z5.ligT;have CC:=j66 (HV.out _ z5.mem.below) HG.out z5 (by omega) rfl (by omega) (by omega) (by omega) (by omega) (by simp) (by omega) (by omega);have a5:Hid (Lig q/\q.ten.length<=900):=⟨f7.1,by have:=f7.2;omega⟩;have e2:Hid (RmS w [(E,.cells F 39)] M 0 cfg0 (some q) L):=z4;clear g8 z1 z2 z3 z4 z5 f7;go_wp2_with fail;refine CC.mono ?_;rintro e m5 ⟨k,er,rfl,hc⟩;clear CC;obtain ⟨kk,a3⟩:∃ k,chk q=k:=⟨_,rfl⟩;rcases hc with ⟨rfl,q1,q2,q3⟩|⟨rfl,rfl,q1,D',q2,q3,q4,q5⟩|⟨-,-,-,a1,-⟩
    ·obtain ⟨R,r1,r2⟩:=q3.frame;have b1:Hid (DcF w m5 [(E,.cells F 39)] M 0 cfg0 (some q) (fun V' L'=>TxA w V' p h 8192 12 D0 0 [] T 0 cfg0 (some q) (20+I.length) L')):=⟨L,R,e2.out,r1,r2⟩;have e3:Hid (er=cmE 12 8192 0 q/\er≠0):=⟨q1,q2⟩;have CS:=jcv q3 (by omega);have e9:=q3.ligT.1.cin.len;clear r1 r2 q1 q2 q3 e2;go_wp2_with fail;refine CS.mono ?_;rintro e o ⟨o2,rfl,f9⟩;have b2:=f9.cv e9;have b0:=f9.below;obtain ⟨N,rfl,c0,a0⟩:=b2.row;have HD:Hid (DcF w o [(E,.cells F 39)] M 0 cfg0 (some q) (fun V' L'=>TxA w V' p h 8192 12 D0 0 [] T 0 cfg0 (some q) (20+I.length) L')):=b1.out.join b0;have h2:Hid (∀ X,Below o.heap.size o X->CV X (.agg N) q):=fun X W=>b2.at_ W (aa _);clear CS b1 b0 f9 b2 e9;obtain ⟨B,G⟩:∃ g,o.heap.size=g:=⟨_,rfl⟩;have d1:(prog.info? 39).map (·.size)=some N.size:=by rw [c0];kernel_rfl
     have a8:(o.alloc (.cells cz 39)).heap[B]?=some (.cells cz 39):=by rw [<-G];exact heap_alloc_new _ _
     have a6:(cz:Array Value).size=N.size:=by rw [c0];rfl
     have HX:Hid (DcF w ((o.alloc (.cells cz 39)).setRow B N) ((B,.cells N 39)::[(E,.cells F 39)]) M 0 cfg0 (some q) (fun V' L'=>TxA w V' p h 8192 12 D0 0 [] T 0 cfg0 (some q) (20+I.length) L')/\Below o.heap.size o ((o.alloc (.cells cz 39)).setRow B N)):=by
      rw [<-G,World.setRow_alloc_new];exact ⟨HD.out.pushF ((Mem.nil o).push1 rfl),(ah _ _).alloc (aa _) _⟩
     go_upto_region 19 with (refine wpList_store_row rfl 39 (.tmp 10) (.tmp 78) (by with_reducible rfl) B N (by simp [af];try exact G) (by first|rfl|simp [af]) 39 cz a8 d1 a6 a0 ?_)
     refine j5 (fun X=>DcF w X ((B,.cells N 39)::[(E,.cells F 39)]) M 0 cfg0 (some q) (fun V' L'=>TxA w V' p h 8192 12 D0 0 [] T 0 cfg0 (some q) (20+I.length) L')/\Below o.heap.size o X) (by exact HX.out) ?_;rintro Q ⟨hE,a2⟩
     try simp only [G]
     obtain ⟨lt,AT,b4,jT,a4⟩:=hE.readC a5.out.1;have b9:=(a4 Q (ah _ _)).1;have CK:=j46 (HV.out _ hE.below) (a4 Q (ah _ _)).2 (by have:=a5.out.2;omega) (j96 a5.out.1) (fun x hx=>(a5.out.1.ten x hx).2.1.vni.1);rw [a3] at CK;have HE:Hid (DcF w Q ((B,.cells N 39)::[(E,.cells F 39)]) M 0 cfg0 (some q) (fun V' L'=>TxA w V' p h 8192 12 D0 0 [] T 0 cfg0 (some q) (20+I.length) L')):=hE;have b8:Hid (∀ X,Below Q.heap.size Q X->X.rangeAt M 30 lt/\CV X (.agg AT) q):=a4;clear HX a8 G a6 HD hE a4;go_wp2_with (refine qp rfl 39 (.tmp 82) (by with_reducible rfl) M 30 (by first|rfl|simp [af]) AT lt _ b9 b4 underlying39 rfl jT ?_)
     refine CK.mono ?_;rintro e P ⟨rfl,s⟩;clear CK b9;have b5:Hid (Below o.heap.size o P):=a2.trans (s.mono a2.size);by_cases hk0:kk=0
     ·subst hk0;obtain ⟨q1,q2⟩:=e3.out;rw [cmE,if_pos a3] at q1;obtain rfl:er=51:=by
       by_cases hrm:room 12 8192<(jz (0+1) q).length
       ·rw [if_pos hrm] at q1;exact q1
       ·rw [if_neg hrm] at q1;exact absurd q1 q2
      have c7:Hid (Below w.heap.size w P):=(HE.out.join s).below;clear q1 q2 e3 HE b8 a2 s b5 h2 b4 a3;go_wp2_with fail;go_ret;exact ⟨rfl,c7.out⟩
     ·obtain ⟨q1,q2⟩:=e3.out;rw [cmE,a3,if_neg hk0] at q1;have o9:Hid (kk≠0):=hk0;obtain rfl:er=kk:=q1;have o8:(er != 0)=true:=by simp [hk0]
      have o7:(er==er)=true:=by simp
      obtain ⟨lA,e4⟩:∃ l:List Value,Hid (N.toList=l):=⟨_,rfl⟩;have n2:Hid (lA.toArray=N):=by show lA.toArray=N;rw [<-e4.out]
      have h7:(prog.info? 39).map (·.size)=some lA.length:=by rw [<-e4.out,Array.length_toList];exact d1
      have e6:Hid (DcF w P ((B,.cells N 39)::[(E,.cells F 39)]) M 0 cfg0 (some q) (fun V' L'=>TxA w V' p h 8192 12 D0 0 [] T 0 cfg0 (some q) (20+I.length) L')):=HE.out.join s;have e0:Hid (∀ X,Below P.heap.size P X->X.rangeAt B 0 lA/\X.rangeAt M 30 lt):=fun X W=>⟨fun j v hj=>by rw [cell_of ((e6.out.join W).has ad),ab,<-Array.getElem?_toList,e4.out];exact hj,(b8.out X (s.trans (W.mono s.size))).1⟩;have n0:Hid (∀ X,Below P.heap.size P X->Calls prog 16 #[.agg N,.agg AT] X fun e V=>e=.returned (.bool true)/\Below X.heap.size X V):=fun X W=>j3e (h2.out X (b5.out.trans (W.mono b5.out.size))) (b8.out X (s.trans (W.mono s.size))).2 (jad a5.out.1) (j1z _);have m7:Hid (∀ X,Below P.heap.size P X->Calls prog 15 #[.pointer (some ⟨T,0,none⟩)] X fun e W'=>e=.returned (.int .u64 0)/\X=W'):=fun X W=>by
       obtain ⟨L2,-,h⟩:=(e6.out.join W).end;exact j1k h
      clear q2 e3 e4 HE b8 a2 s b5 h2 a3 hk0;go_upto_region 21 with fail;refine wp_region_held_drew (S:=fun X=>X.rangeAt B 0 lA/\X.rangeAt M 30 lt) (by kernel_rfl) (e0.out _ (ah _ _).drew) (fun H=>?_);refine tkq 0 rfl (v:=?_) (ae ⟨by rfl,?z57⟩) ?_
      case z57=>intro w a;obtain ⟨f,d⟩:=a;go_simp;all_goals with_reducible rfl
      try simp only [sqx,ag]
      refine tkq 1 rfl (v:=?_) (ae ⟨by rfl,?z58⟩) ?_
      case z58=>intro w a;obtain ⟨f,d⟩:=a;go_simp;all_goals with_reducible rfl
      try simp only [sqx,ag]
      refine tkq 2 rfl (v:=?_) (ae ⟨by rfl,?z59⟩) ?_
      case z59=>intro w a;obtain ⟨f,d⟩:=a;go_simp;all_goals with_reducible rfl
      try simp only [sqx,ag]
      refine tkq 3 rfl (v:=?_) (ae ⟨by rfl,?z60⟩) ?_
      case z60=>intro w a;obtain ⟨f,d⟩:=a;go_simp;all_goals with_reducible rfl
      try simp only [sqx,ag]
      refine tkq 4 rfl (v:=?_) (ae ⟨by rfl,?z61⟩) ?_
      case z61=>intro w a;obtain ⟨f,d⟩:=a;go_simp;all_goals with_reducible rfl
      try simp only [sqx,ag]
      refine tkq 5 rfl (v:=?_) (ae ⟨by rfl,?z62⟩) ?_
      case z62=>intro w a;obtain ⟨f,d⟩:=a;go_simp;all_goals with_reducible rfl
      try simp only [sqx,ag]
      refine tkq 6 rfl (v:=?_) (ae ⟨by rfl,?z63⟩) ?_
      case z63=>intro w a;obtain ⟨f,d⟩:=a;go_simp;all_goals with_reducible rfl
      try simp only [sqx,ag]
      refine tkq 7 rfl (v:=?_) (ae ⟨by rfl,?z64⟩) ?_
      case z64=>intro w a;obtain ⟨f,d⟩:=a;go_simp;all_goals with_reducible rfl
      try simp only [sqx,ag]
      refine tkq 8 rfl (v:=.agg N) (jj (by rfl) _ _ rfl _ _ rfl N lA _ (fun _ h=>h.1) n2 underlying39 rfl h7) ?_
      try simp only [sqx,ag]
      refine tkq 9 rfl (v:=?_) (ae ⟨by rfl,?z65⟩) ?_
      case z65=>intro w a;obtain ⟨f,d⟩:=a;go_simp;all_goals with_reducible rfl
      try simp only [sqx,ag]
      refine tkq 10 rfl (v:=?_) (ae ⟨by rfl,?z66⟩) ?_
      case z66=>intro w a;obtain ⟨f,d⟩:=a;go_simp;all_goals with_reducible rfl
      try simp only [sqx,ag]
      refine tkq 11 rfl (v:=?_) (ae ⟨by rfl,?z67⟩) ?_
      case z67=>intro w a;obtain ⟨f,d⟩:=a;go_simp;all_goals with_reducible rfl
      try simp only [sqx,ag]
      refine tkq 12 rfl (v:=.agg AT) (jj (by rfl) _ _ rfl _ _ rfl AT lt _ (fun _ h=>h.2) b4 underlying39 rfl jT) ?_
      try simp only [sqx,ag]
      refine wpAnyH_ready (rs:=[13]) (by kernel_rfl) (by simp) ?_;refine ai rfl (fun K hK=>?_) aj;go_simp
      with_reducible refine (n0.out _ (ah _ _).drew).mono ?_
      rintro e n5 ⟨rfl,a9⟩
      try go_wp2_with fail
      refine hK.out _ _ (e0.out _ (yo a9)) (fun H=>?_);clear hK K
      try simp only [sqx,ag]
      refine tkq 14 rfl (v:=?_) (ae ⟨by rfl,?z68⟩) ?_
      case z68=>intro w a;obtain ⟨f,d⟩:=a;go_simp;all_goals with_reducible rfl
      try simp only [sqx,ag]
      refine tkq 15 rfl (v:=?_) (ae ⟨by rfl,?z69⟩) ?_
      case z69=>intro w a;obtain ⟨f,d⟩:=a;go_simp;all_goals with_reducible rfl
      try simp only [sqx,ag]
      refine tkq 16 rfl (v:=?_) (ae ⟨by rfl,?z70⟩) ?_
      case z70=>intro w a;obtain ⟨f,d⟩:=a;go_simp;all_goals with_reducible rfl
      try simp only [sqx,ag]
      refine wpAnyH_ready (rs:=[17]) (by kernel_rfl) (by simp) ?_;refine ai rfl (fun K hK=>?_) aj;go_simp
      with_reducible refine (m7.out _ (yo a9)).mono ?_
      rintro e _ ⟨rfl,rfl⟩
      try go_wp2_with fail
      refine hK.out _ _ (e0.out _ (yo a9)) (fun H=>?_);clear hK K
      try simp only [sqx,ag]
      have c7:Hid (Below w.heap.size w n5):=(e6.out.join (yo a9)).below;refine tkq 18 rfl (v:=?_) (ae ⟨by rfl,?z71⟩) ?_
      case z71=>intro w a;obtain ⟨f,d⟩:=a;go_simp;all_goals with_reducible rfl
      try simp only [sqx,ag]
      refine tkq 19 rfl (v:=?_) (ae ⟨by rfl,?z72⟩) ?_
      case z72=>intro w a;obtain ⟨f,d⟩:=a;go_simp;all_goals with_reducible rfl
      try simp only [sqx,ag]
      refine tkq 20 rfl (v:=?_) (ae ⟨by rfl,?z73⟩) ?_
      case z73=>intro w a;obtain ⟨f,d⟩:=a;go_simp;all_goals with_reducible rfl
      try simp only [sqx,ag]
      refine wpAnyH_done (by kernel_rfl) ?_ _;clear e0 n0 m7 e6 n2 b4 a9;go_wp2_with fail;go_ret;exact ⟨rfl,c7.out⟩
    ·obtain rfl:=q3 rfl;obtain ⟨R,r1,r2⟩:=q5.frame;have b1:Hid (DcF w m5 [(E,.cells F 39)] M 0 cfg0 (some q) (fun V' L'=>TxA w V' p h 8192 12 D0 (0+1) ([]++[jz (0+1) q]) T (0+1) q none (20+I.length) L')):=⟨L,R,e2.out,r1,r2⟩;have CS:=j64 q5;obtain rfl:kk=0:=by
      rw [cmE,a3] at q1;by_cases hk0:kk=0
      ·exact hk0
      ·rw [if_neg hk0] at q1;exact absurd q1 hk0
     clear r1 r2 q1 q2 q4 q5 e2;go_wp2_with fail;refine CS.mono ?_;rintro e o ⟨rfl,b0⟩;have HD:Hid (DcF w o [(E,.cells F 39)] M 0 cfg0 (some q) (fun V' L'=>TxA w V' p h 8192 12 D0 (0+1) ([]++[jz (0+1) q]) T (0+1) q none (20+I.length) L')):=b1.out.join b0;obtain ⟨N,g3⟩:∃ A:Array Value,cz=A:=⟨_,rfl⟩;have c0:N.size=29:=by rw [<-g3];rfl
     have a0:N.all (·.oneCell')=true:=by rw [<-g3];exact cz1
     clear CS b1 b0;rw [g3];obtain ⟨B,G⟩:∃ g,o.heap.size=g:=⟨_,rfl⟩;have d1:(prog.info? 39).map (·.size)=some N.size:=by rw [c0];kernel_rfl
     have a8:(o.alloc (.cells cz 39)).heap[B]?=some (.cells cz 39):=by rw [<-G];exact heap_alloc_new _ _
     have a6:(cz:Array Value).size=N.size:=by rw [c0];rfl
     have HX:Hid (DcF w ((o.alloc (.cells cz 39)).setRow B N) ((B,.cells N 39)::[(E,.cells F 39)]) M 0 cfg0 (some q) (fun V' L'=>TxA w V' p h 8192 12 D0 (0+1) ([]++[jz (0+1) q]) T (0+1) q none (20+I.length) L')/\Below o.heap.size o ((o.alloc (.cells cz 39)).setRow B N)):=by
      rw [<-G,World.setRow_alloc_new];exact ⟨HD.out.pushF ((Mem.nil o).push1 rfl),(ah _ _).alloc (aa _) _⟩
     go_upto_region 19 with (refine wpList_store_row rfl 39 (.tmp 10) (.tmp 78) (by with_reducible rfl) B N (by simp [af];try exact G) (by first|rfl|simp [af]) 39 cz a8 d1 a6 a0 ?_)
     refine j5 (fun X=>DcF w X ((B,.cells N 39)::[(E,.cells F 39)]) M 0 cfg0 (some q) (fun V' L'=>TxA w V' p h 8192 12 D0 (0+1) ([]++[jz (0+1) q]) T (0+1) q none (20+I.length) L')/\Below o.heap.size o X) (by exact HX.out) ?_;rintro Q ⟨hE,a2⟩
     try simp only [G]
     obtain ⟨lt,AT,b4,jT,a4⟩:=hE.readC a5.out.1;have b9:=(a4 Q (ah _ _)).1;have CK:=j46 (HV.out _ hE.below) (a4 Q (ah _ _)).2 (by have:=a5.out.2;omega) (j96 a5.out.1) (fun x hx=>(a5.out.1.ten x hx).2.1.vni.1);rw [a3] at CK;have HE:Hid (DcF w Q ((B,.cells N 39)::[(E,.cells F 39)]) M 0 cfg0 (some q) (fun V' L'=>TxA w V' p h 8192 12 D0 (0+1) ([]++[jz (0+1) q]) T (0+1) q none (20+I.length) L')):=hE;have b8:Hid (∀ X,Below Q.heap.size Q X->X.rangeAt M 30 lt/\CV X (.agg AT) q):=a4;clear HX a8 G a6 HD hE a4;go_wp2_with (refine qp rfl 39 (.tmp 82) (by with_reducible rfl) M 30 (by first|rfl|simp [af]) AT lt _ b9 b4 underlying39 rfl jT ?_)
     refine CK.mono ?_;rintro e P ⟨rfl,s⟩;clear CK b9;have c7:Hid (Below w.heap.size w P):=(HE.out.join s).below;clear HE b8 a2 s b4 a3;go_wp2_with fail;go_ret;exact ⟨rfl,c7.out⟩
    ·cases a1
end Go.Proofs.YtdigofgjhaakmaaGreatDoor
