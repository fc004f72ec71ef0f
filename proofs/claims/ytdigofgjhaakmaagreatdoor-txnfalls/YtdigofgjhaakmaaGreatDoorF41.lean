/- Parts of the proof. -/
import Derived.Test.YtdigofgjhaakmaaGreatDoorF40
set_option linter.all false
set_option maxHeartbeats 40000000
set_option maxRecDepth 20000
open Go.Proofs.Tryz
open Nat renaming zero_add->aa,le_refl->ab,le_succ->ac
open List renaming mem_cons_self->ad
open Go.RowKit.Below renaming refl->ae
open Or renaming inl->af
open Go.Act renaming put->ag,eval->ah
open Go.AllReadyH renaming cons->ai,nil->aj
namespace Go.Proofs.YtdigofgjhaakmaaGreatDoor
section
open Go.RowKit Sm Cf Df Va
section
variable {w W:World} {F:List (Nat×Obj)} {p h m N:Nat} {D:Dk} {all:List (List Int)} {ps pm:Nat} {ver:Int} {c:Cgf} {st:Option Cgf} {n:Nat} {x:Ac}
theorem jdq (hx:AcW w x) (H:Bo w W F p h m N D all ps pm ver c st n) (hv:∀ V,Below w.heap.size w V->Vs V) (hl:LgA x) (hn:n<=380) (h0:x.what=1\/x.what=2) (rm:Int) :
 Calls prog 13 #[.pointer (some ⟨ps,0,none⟩),.pointer (some ⟨pm,0,none⟩),.agg (aC x).toArray,.int .i64 rm] W (DoP w F p h m N D all ps pm ver c st n):=by
 obtain ⟨q,Q⟩:∃ g,W.heap.size=g:=⟨_,rfl⟩;obtain ⟨A,hA⟩:∃ A,(aC x).toArray=A:=⟨_,rfl⟩;have HL:Hid (Bo w (W.alloc (.cells A acT)) ((q,.cells A acT (0,0))::F) p h m N D all ps pm ver c st n):=H.box Q;have HC:Hid (∀ (j:Nat) (v:Value) (X:World),(aC x)[j]?=some v->X.heap[q]?=some (.cells A acT (0,0))->X.cell? ⟨q,j,none⟩=some v):=j2j hA;obtain ⟨a0,a1,a2,a3,a4⟩:=j74 x;have z:Hid (∀ X:World,X.heap[q]?=some (.cells A acT (0,0))->X.rangeAt q 0 (aC x)):=fun X hX j v hj=>by
  have:=HC.out j v X hj hX;rwa [<-aa j] at this
 have HA:Hid ((aC x).toArray=A):=hA;have i70:(prog.info? 50).map (·.size)=some (aC x).length:=by rw [jm5 hx.len hx.cin.len];kernel_rfl
 have B:Hid (∀ X,Below w.heap.size w X->Calls prog 43 #[.agg A] X (ChP w X x.chg)):=fun X hX=>by rw [<-hA];exact je6 hx hX
 have d:Hid ((TIn x.chg.t/\TRg x.chg.t/\Lgt x.chg.t)/\x.chg.name.size<=1000000/\x.chg.t.name.size<=1000000):=js1 hx hl;have y:Hid (∀ V,Below w.heap.size w V->Vs V):=hv;rw [hA];clear H;clear hx hl hv a1 a2 a3 a4 hA;generalize a7:aC x=cl at HC z HA i70 a0;clear a7;generalize x.chg=cg at *;rcases h0 with h0|h0
 all_goals rw [h0] at a0
 all_goals clear h0
 ·go_enter func13,ntmps13;go_upto_region 1 with fail;refine j5 (fun X=>Bo w X ((q,.cells A acT (0,0))::F) p h m N D all ps pm ver c st n) (by exact HL.out) ?_;intro V R
  try simp only [Q]
  have hk:=R.has _ ad;have c0:=HC.out _ _ _ a0 hk;go_upto_region 9 with fail;have L:Hid (Bo w V.drew ((q,.cells A acT (0,0))::F) p h m N D all ps pm ver c st n):=R.join (ae _ _).drew;clear HL HC hk c0 a0;refine wp_region_held_drew (S:=fun X=>X.rangeAt q 0 cl) (by kernel_rfl) (z.out _ ((R.join (ae _ _).drew).at_ ad)) (fun a=>?_);refine tkq 0 rfl (v:=?_) (af ⟨by rfl,?z1⟩) ?_
  case z1=>intro w b;(try dsimp only at b);go_simp;all_goals with_reducible rfl
  try simp only [sqx,ag]
  refine tkq 1 rfl (v:=.agg A) (j7 (by rfl) _ _ rfl _ _ rfl A cl _ (fun _ h=>h) HA underlying50 rfl i70) ?_
  try simp only [sqx,ag]
  refine tkq 4 rfl (v:=?_) (af ⟨by rfl,?z2⟩) ?_
  case z2=>intro w b;(try dsimp only at b);go_simp;all_goals with_reducible rfl
  try simp only [sqx,ag]
  refine tkq 5 rfl (v:=.agg A) (j7 (by rfl) _ _ rfl _ _ rfl A cl _ (fun _ h=>h) HA underlying50 rfl i70) ?_
  try simp only [sqx,ag]
  refine wpAnyH_ready (rs:=[2]) (by kernel_rfl) (by simp) ?_;refine ai rfl (fun K i=>?_) aj;go_simp
  with_reducible refine (B.out _ L.out.below).mono ?_
  rintro e V1 ⟨y1,C1,rfl,r,P,J,u⟩
  try go_wp2_with fail
  have a5:=z.out _ ((L.out.push u).at_ (by simp));have M:Hid (Bo w V1 (C1++((q,.cells A acT (0,0))::F)) p h m N D all ps pm ver c st n):=L.out.push u;have C:Rws V1 (yz y1):=J V1 M.out.below fun x hx=>M.out.has x (by simp [hx]);have o:=j8r (y.out _ M.out.below) M.out (by omega) C (by rw [r];exact d.out.1) (by rw [r];exact d.out.2.1);rw [r] at o;obtain ⟨Y1,G⟩:∃ Y,(yc y1).toArray=Y:=⟨_,rfl⟩;rw [G] at o;rw [G];clear u C J P;refine i.out _ _ a5 (fun a=>?_);clear i K
  try simp only [sqx,ag]
  refine wpAnyH_ready (rs:=[3]) (by kernel_rfl) (by simp) ?_;refine ai rfl (fun K i=>?_) aj;go_simp
  with_reducible refine (o).mono ?_
  rintro e V2 ⟨rfl,H2⟩
  try go_wp2_with fail
  have Z:=z.out _ (H2.at_ (by simp));have k:Hid (BoH w V2 (C1++((q,.cells A acT (0,0))::F)) p h m N D all ps pm ver c st (sgS st cg) (n+1)):=H2;refine i.out _ _ Z (fun a=>?_);clear i K
  try simp only [sqx,ag]
  clear o H2;refine wpAnyH_ready (rs:=[6]) (by kernel_rfl) (by simp) ?_;refine ai rfl (fun K i=>?_) aj;go_simp
  with_reducible refine (B.out _ k.out.below).mono ?_
  rintro e V3 ⟨y2,C2,rfl,f,O,I,s⟩
  try go_wp2_with fail
  have U:=z.out _ ((k.out.push s).at_ (by simp));have H3:Hid (BoH w V3 (C2++(C1++((q,.cells A acT (0,0))::F))) p h m N D all ps pm ver c st (sgS st y2.1) (n+1)):=by rw [f];exact k.out.push s
  have l:=j8q (y.out _ H3.out.below) H3.out I (fun c1 h1=>by subst h1;have:=L.out.lig.2;omega) (by rw [f];exact d.out.1.1.len) (by rw [f];exact d.out.2.1) (by rw [f];exact d.out.2.2);rw [f] at l;obtain ⟨Y2,E⟩:∃ Y,(yc y2).toArray=Y:=⟨_,rfl⟩;rw [E] at l;rw [E];clear s I O H3;refine i.out _ _ U (fun a=>?_);clear i K
  try simp only [sqx,ag]
  refine wpAnyH_ready (rs:=[7]) (by kernel_rfl) (by simp) ?_;refine ai rfl (fun K i=>?_) aj;go_simp
  with_reducible refine (l).mono ?_
  rintro e V4 ⟨rfl,H4⟩
  try go_wp2_with fail
  have T:=z.out _ (H4.at_ (by simp));have a6:Hid (Bo w V4 F p h m N D all ps pm ver c (sgS st cg) (n+1)):=H4.less fun x hx=>by simp [hx]
  refine i.out _ _ T (fun a=>?_);clear i K
  try simp only [sqx,ag]
  clear l H4;refine tkq 8 rfl (v:=?_) (af ⟨by rfl,?z3⟩) ?_
  case z3=>intro w b;(try dsimp only at b);go_simp;all_goals with_reducible rfl
  try simp only [sqx,ag]
  refine tkq 9 rfl (v:=?_) (af ⟨by rfl,?z4⟩) ?_
  case z4=>intro w b;(try dsimp only at b);go_simp;all_goals with_reducible rfl
  try simp only [sqx,ag]
  refine wpAnyH_done (by kernel_rfl) ?_ _;clear z HA B y d L M k;go_wp2_with fail;go_ret2;exact DoP.ok rfl a6.out
 ·go_enter func13,ntmps13;go_upto_region 1 with fail;refine j5 (fun X=>Bo w X ((q,.cells A acT (0,0))::F) p h m N D all ps pm ver c st n) (by exact HL.out) ?_;intro V R
  try simp only [Q]
  have hk:=R.has _ ad;have c0:=HC.out _ _ _ a0 hk;go_upto_region 9 with fail;have L:Hid (Bo w V.drew ((q,.cells A acT (0,0))::F) p h m N D all ps pm ver c st n):=R.join (ae _ _).drew;clear HL HC hk c0 a0;refine wp_region_held_drew (S:=fun X=>X.rangeAt q 0 cl) (by kernel_rfl) (z.out _ ((R.join (ae _ _).drew).at_ ad)) (fun a=>?_);refine tkq 0 rfl (v:=?_) (af ⟨by rfl,?z5⟩) ?_
  case z5=>intro w b;(try dsimp only at b);go_simp;all_goals with_reducible rfl
  try simp only [sqx,ag]
  refine tkq 1 rfl (v:=.agg A) (j7 (by rfl) _ _ rfl _ _ rfl A cl _ (fun _ h=>h) HA underlying50 rfl i70) ?_
  try simp only [sqx,ag]
  refine tkq 4 rfl (v:=?_) (af ⟨by rfl,?z6⟩) ?_
  case z6=>intro w b;(try dsimp only at b);go_simp;all_goals with_reducible rfl
  try simp only [sqx,ag]
  refine tkq 5 rfl (v:=.agg A) (j7 (by rfl) _ _ rfl _ _ rfl A cl _ (fun _ h=>h) HA underlying50 rfl i70) ?_
  try simp only [sqx,ag]
  refine wpAnyH_ready (rs:=[2]) (by kernel_rfl) (by simp) ?_;refine ai rfl (fun K i=>?_) aj;go_simp
  with_reducible refine (B.out _ L.out.below).mono ?_
  rintro e V1 ⟨y1,C1,rfl,r,P,J,u⟩
  try go_wp2_with fail
  have a5:=z.out _ ((L.out.push u).at_ (by simp));have M:Hid (Bo w V1 (C1++((q,.cells A acT (0,0))::F)) p h m N D all ps pm ver c st n):=L.out.push u;have C:Rws V1 (yz y1):=J V1 M.out.below fun x hx=>M.out.has x (by simp [hx]);have o:=j8r (y.out _ M.out.below) M.out (by omega) C (by rw [r];exact d.out.1) (by rw [r];exact d.out.2.1);rw [r] at o;obtain ⟨Y1,G⟩:∃ Y,(yc y1).toArray=Y:=⟨_,rfl⟩;rw [G] at o;rw [G];clear u C J P;refine i.out _ _ a5 (fun a=>?_);clear i K
  try simp only [sqx,ag]
  refine wpAnyH_ready (rs:=[3]) (by kernel_rfl) (by simp) ?_;refine ai rfl (fun K i=>?_) aj;go_simp
  with_reducible refine (o).mono ?_
  rintro e V2 ⟨rfl,H2⟩
  try go_wp2_with fail
  have Z:=z.out _ (H2.at_ (by simp));have k:Hid (BoH w V2 (C1++((q,.cells A acT (0,0))::F)) p h m N D all ps pm ver c st (sgS st cg) (n+1)):=H2;refine i.out _ _ Z (fun a=>?_);clear i K
  try simp only [sqx,ag]
  clear o H2;refine wpAnyH_ready (rs:=[6]) (by kernel_rfl) (by simp) ?_;refine ai rfl (fun K i=>?_) aj;go_simp
  with_reducible refine (B.out _ k.out.below).mono ?_
  rintro e V3 ⟨y2,C2,rfl,f,O,I,s⟩
  try go_wp2_with fail
  have U:=z.out _ ((k.out.push s).at_ (by simp));have H3:Hid (BoH w V3 (C2++(C1++((q,.cells A acT (0,0))::F))) p h m N D all ps pm ver c st (sgS st y2.1) (n+1)):=by rw [f];exact k.out.push s
  have l:=j8q (y.out _ H3.out.below) H3.out I (fun c1 h1=>by subst h1;have:=L.out.lig.2;omega) (by rw [f];exact d.out.1.1.len) (by rw [f];exact d.out.2.1) (by rw [f];exact d.out.2.2);rw [f] at l;obtain ⟨Y2,E⟩:∃ Y,(yc y2).toArray=Y:=⟨_,rfl⟩;rw [E] at l;rw [E];clear s I O H3;refine i.out _ _ U (fun a=>?_);clear i K
  try simp only [sqx,ag]
  refine wpAnyH_ready (rs:=[7]) (by kernel_rfl) (by simp) ?_;refine ai rfl (fun K i=>?_) aj;go_simp
  with_reducible refine (l).mono ?_
  rintro e V4 ⟨rfl,H4⟩
  try go_wp2_with fail
  have T:=z.out _ (H4.at_ (by simp));have a6:Hid (Bo w V4 F p h m N D all ps pm ver c (sgS st cg) (n+1)):=H4.less fun x hx=>by simp [hx]
  refine i.out _ _ T (fun a=>?_);clear i K
  try simp only [sqx,ag]
  clear l H4;refine tkq 8 rfl (v:=?_) (af ⟨by rfl,?z7⟩) ?_
  case z7=>intro w b;(try dsimp only at b);go_simp;all_goals with_reducible rfl
  try simp only [sqx,ag]
  refine tkq 9 rfl (v:=?_) (af ⟨by rfl,?z8⟩) ?_
  case z8=>intro w b;(try dsimp only at b);go_simp;all_goals with_reducible rfl
  try simp only [sqx,ag]
  refine wpAnyH_done (by kernel_rfl) ?_ _;clear z HA B y d L M k;go_wp2_with fail;go_ret2;exact DoP.ok rfl a6.out
end
section
variable {w W:World} {F:List (Nat×Obj)} {p h m N:Nat} {D:Dk} {all:List (List Int)} {ps pm:Nat} {ver:Int} {c:Cgf} {st:Option Cgf} {n:Nat} {x:Ac}
theorem jm0 {V:World} {u:Value} {c:Cgf} (h:CV V (.agg (cc c u).toArray) c):u.oneCell'=true:=by
 obtain ⟨d,g,e,f⟩:=h;have b:=congrArg (fun a:Array Value=>a[28]?) (Value.agg.inj e);simp only [j50 d] at b;rw [Option.some.inj b];exact f.one
theorem jhp (H:Bo w W F p h m N D all ps pm ver c st n) (i:n<=900):Calls prog 32 #[.pointer (some ⟨ps,0,none⟩)] W fun e V=>∃ A:Array Value,e=.returned (.tuple #[.agg A,.int .i64 (gtK st)])/\Below W.heap.size W V/\A.size=29/\A.all (·.oneCell')=true/\∀ d,st=some d->CV V (.agg A) d:=by
 obtain ⟨o,l,k,L,j,g⟩:=H;cases st with
 | none =>
  refine (j7d g).mono ?_;rintro e V ⟨rfl,hb⟩;exact ⟨cz,rfl,hb,rfl,cz1,fun d h=>by cases h⟩
 | some d =>
  refine (jet g i).mono ?_;rintro e V ⟨v,rfl,hc⟩;have b:=hc.cv g.ligT.1.cin.len;have hb:=hc.below;obtain ⟨A,rfl,f,a⟩:=b.row;exact ⟨A,rfl,hb,f,a,fun q h=>by cases h;exact b⟩
theorem ja9 (hx:AcW w x) (H:Bo w W F p h m N D all ps pm ver c st n) (hn:n<=380) (h0:x.what≠0/\x.what≠1/\x.what≠2/\x.what≠3/\x.what≠4/\x.what≠5/\x.what≠6) (rm:Int) :
 Calls prog 13 #[.pointer (some ⟨ps,0,none⟩),.pointer (some ⟨pm,0,none⟩),.agg (aC x).toArray,.int .i64 rm] W (DoP w F p h m N D all ps pm ver c st n):=by
 obtain ⟨s,U⟩:∃ g,W.heap.size=g:=⟨_,rfl⟩;obtain ⟨A,hA⟩:∃ A,(aC x).toArray=A:=⟨_,rfl⟩;have HL:Hid (Bo w (W.alloc (.cells A acT)) ((s,.cells A acT (0,0))::F) p h m N D all ps pm ver c st n):=H.box U;have HC:Hid (∀ (j:Nat) (v:Value) (X:World),(aC x)[j]?=some v->X.heap[s]?=some (.cells A acT (0,0))->X.cell? ⟨s,j,none⟩=some v):=j2j hA;obtain ⟨a0,a1,a2,a3,a4⟩:=j74 x;rw [hA];clear H;have hw:=hx.what;generalize x.what=q at *;obtain ⟨q0,q1,q2,q3,q4,q5,q6⟩:=h0;have b0:(q==0)=false:=by simp [q0]
 have b1:(q==1)=false:=by simp [q1]
 have b2:(q==2)=false:=by simp [q2]
 have b3:(q==3)=false:=by simp [q3]
 have b4:(q==4)=false:=by simp [q4]
 have b5:(q==5)=false:=by simp [q5]
 have b6:(q==6)=false:=by simp [q6]
 clear hx a1 a2 a3 a4 hA hw q0 q1 q2 q3 q4 q5 q6;go_enter func13,ntmps13;go_upto_region 1 with fail;refine j5 (fun X=>Bo w X ((s,.cells A acT (0,0))::F) p h m N D all ps pm ver c st n) (by exact HL.out) ?_;intro V hV
 try simp only [U]
 have hk:=hV.has _ ad;have c0:=HC.out _ _ _ a0 hk;have CS:=jhp hV (by omega);have HV:Hid (Bo w V ((s,.cells A acT (0,0))::F) p h m N D all ps pm ver c st n):=hV;clear HL HC hk hV a0;cases st with
 | none =>
  go_wp2_with fail;refine CS.mono ?_;rintro e f ⟨d,rfl,z,r,t,-⟩;obtain ⟨a,b⟩:∃ g,f.heap.size=g:=⟨_,rfl⟩;have I:(prog.info? 39).map (·.size)=some d.size:=by rw [r];kernel_rfl
  have k:(f.alloc (.cells cz 39)).heap[a]?=some (.cells cz 39):=by rw [<-b];exact heap_alloc_new _ _
  have i:(cz:Array Value).size=d.size:=by rw [r];rfl
  have Z:Hid (Bo w ((f.alloc (.cells cz 39)).setRow a d) ((a,.cells d 39)::(s,.cells A acT (0,0))::F) p h m N D all ps pm ver c none n/\Below f.heap.size f ((f.alloc (.cells cz 39)).setRow a d)):=by
   rw [<-b,World.setRow_alloc_new];exact ⟨(HV.out.join z).push ((Mem.nil f).push1 rfl),(ae _ _).alloc (ab _) _⟩
  clear CS z;go_upto_region 28 with (refine wpList_store_row rfl 39 (.tmp 14) (.tmp 105) (by with_reducible rfl) a d (by simp [ah];try exact b) (by first|rfl|simp [ah]) 39 cz k I i t ?_)
  refine j5 (fun X=>Bo w X ((a,.cells d 39)::(s,.cells A acT (0,0))::F) p h m N D all ps pm ver c none n/\Below f.heap.size f X) (by exact Z.out) ?_;rintro E ⟨B,hb2⟩
  try simp only [b]
  clear Z k b i HV;obtain ⟨u,-,-,-,R⟩:=B.read;have HE:Hid (Bo w E ((a,.cells d 39)::(s,.cells A acT (0,0))::F) p h m N D all ps pm ver c none n):=B;clear B;go_wp2_with fail;go_ret2;exact DoP.ok rfl ((HE.out.unbox.unbox).grow (ac _))
 | some c1 =>
  go_wp2_with fail;refine CS.mono ?_;rintro e f ⟨d,rfl,z,r,t,C⟩;have a5:Hid (∀ X,Below f.heap.size f X->CV X (.agg d) c1):=fun X J=>(C c1 rfl).at_ J (ab _);have O:Hid (Lig c1):=HV.out.lig.1;clear C;obtain ⟨a,b⟩:∃ g,f.heap.size=g:=⟨_,rfl⟩;have I:(prog.info? 39).map (·.size)=some d.size:=by rw [r];kernel_rfl
  have k:(f.alloc (.cells cz 39)).heap[a]?=some (.cells cz 39):=by rw [<-b];exact heap_alloc_new _ _
  have i:(cz:Array Value).size=d.size:=by rw [r];rfl
  have Z:Hid (Bo w ((f.alloc (.cells cz 39)).setRow a d) ((a,.cells d 39)::(s,.cells A acT (0,0))::F) p h m N D all ps pm ver c (some c1) n/\Below f.heap.size f ((f.alloc (.cells cz 39)).setRow a d)):=by
   rw [<-b,World.setRow_alloc_new];exact ⟨(HV.out.join z).push ((Mem.nil f).push1 rfl),(ae _ _).alloc (ab _) _⟩
  clear CS z;go_upto_region 28 with (refine wpList_store_row rfl 39 (.tmp 14) (.tmp 105) (by with_reducible rfl) a d (by simp [ah];try exact b) (by first|rfl|simp [ah]) 39 cz k I i t ?_)
  refine j5 (fun X=>Bo w X ((a,.cells d 39)::(s,.cells A acT (0,0))::F) p h m N D all ps pm ver c (some c1) n/\Below f.heap.size f X) (by exact Z.out) ?_;rintro E ⟨B,hb2⟩
  try simp only [b]
  clear Z k b i HV;obtain ⟨u,-,-,-,R⟩:=B.read;obtain ⟨ut,Q,o⟩:=B.readT;have G:=a5.out E hb2;obtain ⟨AT,P,c2,a9,b9,T⟩:=ccA O.out.cin.len (jm0 o);rw [P.out] at o;have a7:Hid (d.toList.toArray=d):=by show d.toList.toArray=d;simp
  have a8:(prog.info? 39).map (·.size)=some d.toList.length:=by rw [Array.length_toList,r];kernel_rfl
  have M:Hid (∀ X,Below E.heap.size E X->X.rangeAt a 0 d.toList/\X.rangeAt pm 30 (cc c1 ut)):=fun X J=>by
   refine ⟨fun j v hj=>?_,fun j v hj=>?_⟩
   ·rw [cell_of ((B.join J).at_ ad),aa,<-Array.getElem?_toList];exact hj
   ·have h1:=Q j v hj;exact (J.cell (p:=⟨pm,30+j,none⟩) (j9 h1)).trans h1
  have a6:Hid (∀ X,Below E.heap.size E X->Calls prog 16 #[.agg d,.agg AT] X fun e V=>e=.returned (.bool true)/\Below X.heap.size X V):=fun X J=>zq (G.at_ J (ab _)) (o.at_ J (ab _)) (j38 O.out) (ym c1);have HE:Hid (Bo w E ((a,.cells d 39)::(s,.cells A acT (0,0))::F) p h m N D all ps pm ver c (some c1) n):=B;clear B a5 G o Q hb2;generalize cc c1 ut=lt at *;go_upto_region 29 with fail;clear R;refine wp_region_held_drew (S:=fun X=>X.rangeAt a 0 d.toList/\X.rangeAt pm 30 lt) (by kernel_rfl) (M.out _ (ae _ _).drew) (fun L=>?_);refine tkq 0 rfl (v:=.agg d) (j7 (by rfl) _ _ rfl _ _ rfl d d.toList _ (fun _ h=>h.1) a7 underlying39 rfl a8) ?_
  try simp only [sqx,ag]
  refine tkq 1 rfl (v:=?_) (af ⟨by rfl,?z13⟩) ?_
  case z13=>intro w l;(try dsimp only at l);go_simp;all_goals with_reducible rfl
  try simp only [sqx,ag]
  refine tkq 2 rfl (v:=?_) (af ⟨by rfl,?z14⟩) ?_
  case z14=>intro w l;(try dsimp only at l);go_simp;all_goals with_reducible rfl
  try simp only [sqx,ag]
  refine tkq 3 rfl (v:=?_) (af ⟨by rfl,?z15⟩) ?_
  case z15=>intro w l;(try dsimp only at l);go_simp;all_goals with_reducible rfl
  try simp only [sqx,ag]
  refine tkq 4 rfl (v:=.agg AT) (j7 (by rfl) _ _ rfl _ _ rfl AT lt _ (fun _ h=>h.2) P underlying39 rfl T) ?_
  try simp only [sqx,ag]
  refine wpAnyH_ready (rs:=[5]) (by kernel_rfl) (by simp) ?_;refine ai rfl (fun K hK=>?_) aj;go_simp
  with_reducible refine (a6.out _ (ae _ _).drew).mono ?_
  rintro e V3 ⟨rfl,Y⟩
  try go_wp2_with fail
  have y:=jo Y;have b7:=M.out _ y;have b8:Hid (Bo w V3 ((a,.cells d 39)::(s,.cells A acT (0,0))::F) p h m N D all ps pm ver c (some c1) n):=HE.out.join y;refine hK.out _ _ b7 (fun L=>?_);clear hK K
  try simp only [sqx,ag]
  refine tkq 6 rfl (v:=?_) (af ⟨by rfl,?z16⟩) ?_
  case z16=>intro w l;(try dsimp only at l);go_simp;all_goals with_reducible rfl
  try simp only [sqx,ag]
  refine wpAnyH_done (by kernel_rfl) ?_ _;clear M a6 HE P a7 O Y y;go_wp2_with fail;go_ret2;exact DoP.ok rfl ((b8.out.unbox.unbox).grow (ac _))
end
section
variable {w W:World} {F:List (Nat×Obj)} {p h m N:Nat} {D:Dk} {all:List (List Int)} {ps pm:Nat} {ver:Int} {c:Cgf} {st:Option Cgf} {n:Nat} {x:Ac}
theorem jh2 (hx:AcW w x) (H:Bo w W F p h m N D all ps pm ver c st n) (h0:x.what=3) (rm:Int) :
 Calls prog 13 #[.pointer (some ⟨ps,0,none⟩),.pointer (some ⟨pm,0,none⟩),.agg (aC x).toArray,.int .i64 rm] W (DoP w F p h m N D all ps pm ver c st n):=by
 obtain ⟨f,s⟩:∃ g,W.heap.size=g:=⟨_,rfl⟩;obtain ⟨A,y⟩:∃ A,(aC x).toArray=A:=⟨_,rfl⟩;have HL:Hid (Bo w (W.alloc (.cells A acT)) ((f,.cells A acT (0,0))::F) p h m N D all ps pm ver c st n):=H.box s;have G:Hid (∀ (j:Nat) (v:Value) (X:World),(aC x)[j]?=some v->X.heap[f]?=some (.cells A acT (0,0))->X.cell? ⟨f,j,none⟩=some v):=j2j y;obtain ⟨C,a1,a2,a3,a4⟩:=j74 x;have o:Hid (∀ X:World,X.heap[f]?=some (.cells A acT (0,0))->X.rangeAt f 0 (aC x)):=fun X O j v hj=>by
  have:=G.out j v X hj O;rwa [<-aa j] at this
 have I:Hid ((aC x).toArray=A):=y;have i70:(prog.info? 50).map (·.size)=some (aC x).length:=by rw [jm5 hx.len hx.cin.len];kernel_rfl
 have r:Hid (∀ X,Below w.heap.size w X->Calls prog 44 #[.agg A] X fun e V=>∃ v,e=.returned v/\CV V v x.cfg/\Below X.heap.size X V):=fun X O=>by rw [<-y];exact je5 hx O
 have q:Hid (CIn x.cfg/\CRg x.cfg):=js2 hx;rw [y];clear H;rw [h0] at C;clear hx a1 a2 a3 a4 y h0;generalize J:aC x=cl at G o I i70 C;clear J;generalize x.cfg=cg at *;go_enter func13,ntmps13;go_upto_region 1 with fail;refine j5 (fun X=>Bo w X ((f,.cells A acT (0,0))::F) p h m N D all ps pm ver c st n) (by exact HL.out) ?_;intro V P
 try simp only [s]
 have hk:=P.has _ ad;have c0:=G.out _ _ _ C hk;go_upto_region 11 with fail;have E:Hid (Bo w V.drew ((f,.cells A acT (0,0))::F) p h m N D all ps pm ver c st n):=P.join (ae _ _).drew;clear HL G hk c0 C;refine wp_region_held_drew (S:=fun X=>X.rangeAt f 0 cl) (by kernel_rfl) (o.out _ ((P.join (ae _ _).drew).at_ ad)) (fun a=>?_);refine tkq 0 rfl (v:=?_) (af ⟨by rfl,?z9⟩) ?_
 case z9=>intro w b;(try dsimp only at b);go_simp;all_goals with_reducible rfl
 try simp only [sqx,ag]
 refine tkq 1 rfl (v:=.agg A) (j7 (by rfl) _ _ rfl _ _ rfl A cl _ (fun _ h=>h) I underlying50 rfl i70) ?_
 try simp only [sqx,ag]
 refine tkq 4 rfl (v:=?_) (af ⟨by rfl,?z10⟩) ?_
 case z10=>intro w b;(try dsimp only at b);go_simp;all_goals with_reducible rfl
 try simp only [sqx,ag]
 refine tkq 5 rfl (v:=.agg A) (j7 (by rfl) _ _ rfl _ _ rfl A cl _ (fun _ h=>h) I underlying50 rfl i70) ?_
 try simp only [sqx,ag]
 refine wpAnyH_ready (rs:=[2]) (by kernel_rfl) (by simp) ?_;refine ai rfl (fun K d=>?_) aj;go_simp
 with_reducible refine (r.out _ E.out.below).mono ?_
 rintro e V1 ⟨v1,rfl,l,t⟩
 try go_wp2_with fail
 have U:=o.out _ ((E.out.join t).at_ (by simp));have B:=jl2 (E.out.join t) l q.out.1 q.out.2;obtain ⟨Y1,M⟩:∃ Y,v1=.agg Y:=by obtain ⟨-,u,e,-⟩:=l;exact ⟨_,e⟩
 subst M;clear l;refine d.out _ _ U (fun a=>?_);clear d K
 try simp only [sqx,ag]
 refine wpAnyH_ready (rs:=[3]) (by kernel_rfl) (by simp) ?_;refine ai rfl (fun K d=>?_) aj;go_simp
 with_reducible refine (B).mono ?_
 rintro e V2 ⟨rfl,H2⟩
 try go_wp2_with fail
 have T:=o.out _ (H2.at_ (by simp));have i:Hid (BoH w V2 ((f,.cells A acT (0,0))::F) p h m N D all ps pm ver c st (gtS st cg) n):=H2;refine d.out _ _ T (fun a=>?_);clear d K
 try simp only [sqx,ag]
 clear B H2;refine wpAnyH_ready (rs:=[6]) (by kernel_rfl) (by simp) ?_;refine ai rfl (fun K d=>?_) aj;go_simp
 with_reducible refine (r.out _ i.out.below).mono ?_
 rintro e V3 ⟨v2,rfl,k,hb2⟩
 try go_wp2_with fail
 have R:=o.out _ ((i.out.join hb2).at_ (by simp));have z:=jl1 (i.out.join hb2) k;obtain ⟨Y2,L⟩:∃ Y,v2=.agg Y:=by obtain ⟨-,u,e,-⟩:=k;exact ⟨_,e⟩
 subst L;clear k;refine d.out _ _ R (fun a=>?_);clear d K
 try simp only [sqx,ag]
 refine wpAnyH_ready (rs:=[7]) (by kernel_rfl) (by simp) ?_;refine ai rfl (fun K d=>?_) aj;go_simp
 with_reducible refine (z).mono ?_
 rintro e V4 ⟨rfl,H4⟩
 try go_wp2_with fail
 have Q:=o.out _ (H4.at_ (by simp));have Z:Hid (Bo w V4 F p h m N D all ps pm ver c (gtS st cg) (n+1)):=(H4.less fun x hx=>by simp [hx]).grow (ac _);refine d.out _ _ Q (fun a=>?_);clear d K
 try simp only [sqx,ag]
 clear z H4;refine tkq 8 rfl (v:=?_) (af ⟨by rfl,?z11⟩) ?_
 case z11=>intro w b;(try dsimp only at b);go_simp;all_goals with_reducible rfl
 try simp only [sqx,ag]
 refine tkq 9 rfl (v:=?_) (af ⟨by rfl,?z12⟩) ?_
 case z12=>intro w b;(try dsimp only at b);go_simp;all_goals with_reducible rfl
 try simp only [sqx,ag]
 refine wpAnyH_done (by kernel_rfl) ?_ _;clear o I r q E i;go_wp2_with fail;go_ret2;exact DoP.ok rfl Z.out
end
section
variable {w W:World} {F:List (Nat×Obj)} {p h m N:Nat} {D:Dk} {all:List (List Int)} {ps pm:Nat} {ver:Int} {c:Cgf} {st:Option Cgf} {n:Nat} {x:Ac}
theorem jdr (hx:AcW w x) (H:Bo w W F p h m N D all ps pm ver c st n) (B:x.what=0) (I:Int) :
 Calls prog 13 #[.pointer (some ⟨ps,0,none⟩),.pointer (some ⟨pm,0,none⟩),.agg (aC x).toArray,.int .i64 I] W (DoP w F p h m N D all ps pm ver c st n):=by
 obtain ⟨l,k⟩:∃ g,W.heap.size=g:=⟨_,rfl⟩;obtain ⟨A,t⟩:∃ A,(aC x).toArray=A:=⟨_,rfl⟩;have z:Hid (Bo w (W.alloc (.cells A acT)) ((l,.cells A acT (0,0))::F) p h m N D all ps pm ver c st n):=H.box k;have i:Hid (∀ (j:Nat) (v:Value) (X:World),(aC x)[j]?=some v->X.heap[l]?=some (.cells A acT (0,0))->X.cell? ⟨l,j,none⟩=some v):=j2j t;obtain ⟨r,q,y,O,M⟩:=j74 x;rw [t];clear H;rw [B] at r;clear hx O M;cases hg:x.good
 all_goals rw [hg] at q
 ·generalize x.v=v0 at *;clear t hg B;go_enter func13,ntmps13;go_upto_region 1 with fail;refine j5 (fun X=>Bo w X ((l,.cells A acT (0,0))::F) p h m N D all ps pm ver c st n) (by exact z.out) ?_;intro V f
  try simp only [k]
  have b:=f.has _ ad;have L:=i.out _ _ _ r b;have K:=i.out _ _ _ q b;have J:=i.out _ _ _ y b;have o:=jc9 f v0;generalize d:bgK st v0 ver=G at o;have Q:Hid (bgK st v0 ver=G):=d;clear z i b f r q y d;go_wp2_with fail;refine o.mono ?_;rintro e P ⟨rfl,a⟩;go_wp2_with fail;refine a.mono ?_;rintro e C ⟨rfl,s⟩;have E:Hid (Bo w C ((l,.cells A acT (0,0))::F) p h m N D all ps pm ver c (bgS st v0 ver c) n):=s;clear s o a;go_wp2_with fail;go_ret2;exact DoP.ok rfl (E.out.unbox.grow (ac _))
 ·clear t hg B;go_enter func13,ntmps13;go_upto_region 1 with fail;refine j5 (fun X=>Bo w X ((l,.cells A acT (0,0))::F) p h m N D all ps pm ver c st n) (by exact z.out) ?_;intro V f
  try simp only [k]
  have b:=f.has _ ad;have L:=i.out _ _ _ r b;have K:=i.out _ _ _ q b;have J:=i.out _ _ _ y b;obtain ⟨u,R,-,-,-⟩:=f.read;have o:=jc9 f ver;generalize d:bgK st ver ver=G at o;clear z i b f r q y d;go_wp2_with fail;refine o.mono ?_;rintro e P ⟨rfl,a⟩;go_wp2_with fail;refine a.mono ?_;rintro e C ⟨rfl,s⟩;have E:Hid (Bo w C ((l,.cells A acT (0,0))::F) p h m N D all ps pm ver c (bgS st ver ver c) n):=s;clear s o a;go_wp2_with fail;go_ret2;exact DoP.ok rfl (E.out.unbox.grow (ac _))
theorem jds (hx:AcW w x) (H:Bo w W F p h m N D all ps pm ver c st n) (r:x.what=6) (y:Int) :
 Calls prog 13 #[.pointer (some ⟨ps,0,none⟩),.pointer (some ⟨pm,0,none⟩),.agg (aC x).toArray,.int .i64 y] W (DoP w F p h m N D all ps pm ver c st n):=by
 obtain ⟨b,a⟩:∃ g,W.heap.size=g:=⟨_,rfl⟩;obtain ⟨A,k⟩:∃ A,(aC x).toArray=A:=⟨_,rfl⟩;have s:Hid (Bo w (W.alloc (.cells A acT)) ((b,.cells A acT (0,0))::F) p h m N D all ps pm ver c st n):=H.box a;have t:Hid (∀ (j:Nat) (v:Value) (X:World),(aC x)[j]?=some v->X.heap[b]?=some (.cells A acT (0,0))->X.cell? ⟨b,j,none⟩=some v):=j2j k;obtain ⟨l,E,C,B,z⟩:=j74 x;rw [k];clear H;rw [r] at l;clear hx E C B z k r;go_enter func13,ntmps13;go_upto_region 1 with fail;refine j5 (fun X=>Bo w X ((b,.cells A acT (0,0))::F) p h m N D all ps pm ver c st n) (by exact s.out) ?_;intro V i
 try simp only [a]
 have q:=i.has _ ad;have J:=t.out _ _ _ l q;have o:=jl3 i;generalize f:gtK st=K at o;clear s t q i l f;go_wp2_with fail;refine o.mono ?_;rintro e L ⟨rfl,d⟩;go_wp2_with fail;refine d.mono ?_;rintro e G ⟨rfl,u⟩;have I:Hid (Bo w G ((b,.cells A acT (0,0))::F) p h m N D all ps pm ver c none n):=u;clear u o d;go_wp2_with fail;go_ret2;exact DoP.ok rfl (I.out.unbox.grow (ac _))
end
end
end Go.Proofs.YtdigofgjhaakmaaGreatDoor
