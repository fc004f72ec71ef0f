/- Parts of the proof. -/
import Derived.Test.YtdigofgjhaakmaaGreatDoorF29
set_option linter.all false
set_option maxHeartbeats 40000000
set_option maxRecDepth 20000
open Go.Proofs.Tryz
open Go.Value renaming agg->aa,slice->ab,int->ac
open Bool renaming and_false->ad,false_and->ae,not_eq_true'->af,eq_false_iff->ag
open Nat renaming zero_le->ah,le_refl->ai,lt_or_ge->aj
open Go.RowKit.Below renaming refl->ak
open Go renaming below_drewN->al
open Or renaming inl->am
open List renaming any_eq_true->an,mem_map_of_mem->ao,getElem_mem->ap,getD->aq,getElem?_eq_getElem->ar,mem_map->au,mem_iff_getElem->av,perm_middle->aw,size_toArray->ax,map_take->ay,append_toArray->az,cons_append->aA,nil_append->aB
open Go.Act renaming put->aD,eval->aE
open Go.AllReadyH renaming cons->aF,nil->aG
open Go.Builtin renaming append_->aH
open Prod renaming fst->aI
open Array renaming empty_append->aJ
namespace Go.Proofs.YtdigofgjhaakmaaGreatDoor
variable {w W X V:World} {v u:Value} {g k n tp:Nat} {cl tl:List Value} {args:Array Value} {B:Bool} {ta a:Option Addr} {e R:Int}
section
open Go.RowKit Va
open Ad (nam)
theorem zi {t:Ten} (hd:(Va.trs t).drop k=ul e B::(Va.trs t).drop (k+1)) (b:e≠0) (h:fnz ((Va.trs t).drop k)=R) (c:B=false):R=e:=by
 rw [hd,c,j5c (by rw [ul];simpa using b)] at h;rw [<-h];rfl
theorem ye {t:Ten} (hd:(Va.trs t).drop k=ul e B::(Va.trs t).drop (k+1)) (h:fnz ((Va.trs t).drop k)=R) (b:B=true):fnz ((Va.trs t).drop (k+1))=R:=by
 rw [hd,b,j0d (show ul e true=0 from rfl)] at h;exact h
theorem j2z {P:Program} {f:FuncId} (h:Calls P f args (w.drewN n) fun e w'=>e=.returned v/\w.drewN n=w'):Calls P f args (w.drewN n) fun e b=>e=.returned v/\∃ m,b=w.drewN m :=
 h.mono fun e b c=>⟨c.1,n,c.2.symm⟩
structure TC (X:World) (g:Nat) (t:Ten) (pa sa qa:Option Addr) (pc sc qc:Nat):Prop where
 name:X.cell? ⟨g,0,none⟩=some (.string t.name)
 vni:X.cell? ⟨g,1,none⟩=some (.int .u32 t.vni)
 vtep:X.cell? ⟨g,10,none⟩=some (.int .u32 t.vtep)
 pool:X.cell? ⟨g,23,none⟩=some (.slice pa t.pool.length pc)
 lo:X.cell? ⟨g,24,none⟩=some (.int .u16 t.lo)
 hi:X.cell? ⟨g,25,none⟩=some (.int .u16 t.hi)
 filter:X.cell? ⟨g,26,none⟩=some (.int .i64 t.filter)
 stat:X.cell? ⟨g,27,none⟩=some (.slice sa t.stat.length sc)
 twi:X.cell? ⟨g,28,none⟩=some (.slice qa t.twi.length qc)
 sess:X.cell? ⟨g,29,none⟩=some (.int .i64 t.sess)
 queue:X.cell? ⟨g,30,none⟩=some (.int .i64 t.queue)
 rate:X.cell? ⟨g,31,none⟩=some (.int .u32 t.rate)
 burst:X.cell? ⟨g,32,none⟩=some (.int .u32 t.burst)
theorem TBx.tc {t:Ten} {j c f:Option Addr} {i sc d:Nat} (h:TBx X tl t j c f i sc d) (b:X.heap[g]?=some (.cells tl.toArray 46)):TC X g t j c f i sc d :=
 ⟨jb b h.name,jb b h.vni,jb b h.vtep,jb b h.pool,jb b h.lo,jb b h.hi,jb b h.filter,jb b h.stat,jb b h.twi,jb b h.sess,jb b h.queue,jb b h.rate,jb b h.burst⟩
theorem j61 {t:Ten} (hv:Vs W) (h:TV W v t) (hm:TSm t) (h0:0<=t.vni):Calls prog 63 #[v] W fun e V=>e=.returned (.int .i64 (tchk t))/\Below W.heap.size W V:=by
 obtain ⟨tl,pa,sa,qa,pc,sc,qc,rfl,hx⟩:=h.tb;obtain ⟨g,hg⟩:∃ g,W.heap.size=g:=⟨_,rfl⟩;obtain ⟨R,hR⟩:∃ R,tchk t=R:=⟨_,rfl⟩;rw [hR];have F0:Hid (fnz ((Va.trs t).drop 0)=R):=hR;have d4:Hid (Mem W (W.alloc (.cells tl.toArray 46)) [(g,.cells tl.toArray 46)]):=(Mem.nil W).push1 hg.symm;obtain ⟨A,hA⟩:∃ A,tl.toArray=A:=⟨_,rfl⟩;have o:Hid (∀ X,Mem W X [(g,.cells A 46)]->TBx X tl t pa sa qa pc sc qc/\TC X g t pa sa qa pc sc qc/\X.rangeAt g 0 tl):=by
  intro X hX;have hb:=hx.later hX.below;have hk:=hX.get 0 rfl;rw [<-hA] at hk;exact ⟨hb,hb.tc hk,fun j u hj=>by rw [Nat.zero_add];exact jb hk hj⟩
 have U:Hid (Vs W/\TSm t):=⟨hv,hm⟩;have HL:Hid (tl.length=33/\.agg tl.toArray=aa A):=⟨hx.len,by rw [hA]⟩;have f2:t.pool.length<=1000000:=hm.2.1;have f1:t.stat.length<=1000000:=hm.2.2.1;have f0:t.twi.length<=1000000:=hm.2.2.2;rw [hA] at d4 ⊢;clear hR hA hv h hm hx;obtain ⟨nm,e0⟩:∃ n,t.name=n:=⟨_,rfl⟩;obtain ⟨B0,b4⟩:∃ B,nam t.name.data.toList=B:=⟨_,rfl⟩;go_enter func63,ntmps63;go_upto_region 1 with fail;refine j5 (fun X=>Mem W X [(g,.cells A 46)]) (by exact d4.out) ?_;intro V hM
 try simp only [hg]
 clear d4 hg;have c0:=(o.out V hM).2.1.name;have C:=jbi (U.out.1.below hM.below) t.name (by have:=U.out.2.1;omega);rw [b4] at C;rw [e0] at C c0;have HM:Hid (Mem W V [(g,.cells A 46)]):=hM;clear hM e0;go_wp2_with fail;refine C.mono ?_;rintro _ V1 ⟨rfl,hb⟩;have r:Hid (Mem W V1 [(g,.cells A 46)]):=HM.out.after hb;clear hb C HM c0;cases B0 with
 | false =>
  obtain rfl:=zi rfl (by decide) F0.out b4;clear o U HL F0;go_wp2_with fail;go_ret;exact ⟨rfl,r.out.below⟩
 | true =>
 have F1:Hid (fnz ((Va.trs t).drop 1)=R):=ye rfl F0.out b4;clear F0 b4;have c1:=(o.out V1 r.out).2.1.vni;have Z:=(o.out V1 r.out).2.1.pool;obtain ⟨x,hx⟩:∃ x,t.vni=x:=⟨_,rfl⟩;have m:Hid (wi t.vni 1 16777215=(decide (1<=x) && decide (x<=16777215))):=by rw [<-hx];rfl
 rw [hx] at c1 h0;clear hx;by_cases q1:x=0
 ·obtain rfl:=zi rfl (by decide) F1.out (by rw [m.out,q1];rfl);subst q1;clear o U HL F1 m;go_wp2_with fail;go_ret;exact ⟨rfl,r.out.below⟩
 have e1:(x==0)=false:=by simp [q1]
 by_cases q2:16777215<x
 ·obtain rfl:=zi rfl (by decide) F1.out (by rw [m.out,decide_eq_false (show ¬x<=16777215 by omega),ad]);have e2:decide (16777215<x)=true:=decide_eq_true q2;clear o U HL F1 m q1;go_wp2_with fail;go_ret;exact ⟨rfl,r.out.below⟩
 have e2:decide (16777215<x)=false:=decide_eq_false q2;have F2:Hid (fnz ((Va.trs t).drop 2)=R):=ye rfl F1.out (by rw [m.out,decide_eq_true (show 1<=x by omega),decide_eq_true (show x<=16777215 by omega)];rfl);clear F1 m q1 q2 h0;obtain ⟨n1,c4⟩:∃ n,t.pool.length=n:=⟨_,rfl⟩;rw [c4] at Z f2;have M:Hid (t.pool.length=n1):=c4;clear c4;by_cases q1:(8:Int)<n1
 ·obtain rfl:=zi rfl (by decide) F2.out (by rw [M.out];exact decide_eq_false (by omega));have e3:decide ((8:Int)<n1)=true:=decide_eq_true q1;clear o U HL F2;go_wp2_with fail;go_ret;exact ⟨rfl,r.out.below⟩
 have e3:decide ((8:Int)<n1)=false:=decide_eq_false q1;have F3:Hid (fnz ((Va.trs t).drop 3)=R):=ye rfl F2.out (by rw [M.out];exact decide_eq_true (by omega));clear F2 q1;have HY:Hid (∀ i,i<n1->bad t.pool i->R=92):=fun i hi b1=>zi rfl (by decide) F3.out (decide_eq_false (fun h=>h i (by rw [M.out];exact hi) b1));have HE:Hid ((∀ j,j<n1->¬bad t.pool j)->fnz ((Va.trs t).drop 4)=R):=fun h=>ye rfl F3.out (decide_eq_true (fun i hi=>h i (by rw [<-M.out];exact hi)));have HI:Hid ((∀ j,j<0->¬bad t.pool j)/\Mem W V1 [(g,.cells A 46)]):=⟨fun j hj=>absurd hj (by omega),r.out⟩;clear F3 r;go_wp2_with fail
 go_loopw [3] (fun u3 w'=>∃ i:Nat,i<=n1/\u3=.int .i64 i/\Hid ((∀ j,j<i->¬bad t.pool j)/\Mem W w' [(g,.cells A 46)])) (fun u3 w'=>n1-(intOf u3).toNat)
 case atStart=>exact ⟨0,ah _,rfl,HI⟩
 case round =>
 obtain ⟨i,hi,rfl,E⟩:=hrel;clear c1 Z;have Z:=(o.out wr E.out.2).2.1.pool;rw [M.out] at Z;by_cases hlt:i<n1
 ·have h1:(i:Int)<n1:=by omega
  have a5:=(o.out wr E.out.2).1.rp;obtain ⟨a',c',e,f3,-,z⟩:=rw_u a5;simp only [ab.injEq] at e;obtain ⟨rfl,-,rfl⟩:=e;obtain ⟨b,O,rfl,hd⟩:=z i (by rw [M.out];exact hlt);have d0:=hd wr (ak _ _);have g8:(i:Int)<=pc:=by rw [M.out] at f3;omega
  have HC:Hid (∀ q,Calls prog 91 #[.slice (some ⟨b,O,none⟩) i pc,.int .u32 (t.pool.getD i 0)] (wr.drewN q) fun e w'=>e=.returned (.bool (hs (t.pool.take i) (t.pool.getD i 0)))/\wr.drewN q=w'):=by
   intro q;have hb:=al (ak wr.heap.size wr) q;have h2:=(a5.below j1g hb (ai _)).head i (by simp [ux,M.out];omega);rw [jee] at h2;exact j9k h2 (by simp;omega) _
  have H:Hid ((t.pool.getD i 0=0\/hs (t.pool.take i) (t.pool.getD i 0)=true)->R=92):=HY.out i hlt;have J:Hid (¬(t.pool.getD i 0=0\/hs (t.pool.take i) (t.pool.getD i 0)=true)->∀ j,j<i+1->¬bad t.pool j):=by
   intro hn j hj;rcases aj j i with h|h
   ·exact E.out.1 j h
   ·obtain rfl:j=i:=by omega
    exact hn
  have r:Hid (Mem W wr [(g,.cells A 46)]):=E.out.2;clear a5 z hd f3 o U HL HE HI E HY;generalize t.pool.getD i 0=y at *;generalize hs (t.pool.take i) y=B at *;by_cases hy:y=0
  ·obtain rfl:=H.out (am hy);subst hy;clear H J HC;go_upto_region 10 with fail
   go_quiet (fail)
   go_wp2_with fail;go_ret;exact ⟨rfl,al r.out.below _⟩
  ·have e4:(y==0)=false:=by simp [hy]
   cases B with
   | true =>
    obtain rfl:=H.out (Or.inr rfl);clear H J;go_upto_region 10 with fail
    go_quiet (first|(go_at_call 91;exact j2z (HC.out _)))
    go_wp2_with fail;go_ret;exact ⟨rfl,al r.out.below _⟩
   | false =>
    have HF:Hid (∀ j,j<i+1->¬bad t.pool j):=J.out (by simp [hy]);clear H J;go_upto_region 10 with fail
    go_quiet (first|(go_at_call 91;exact j2z (HC.out _)))
    go_wp2_with fail;go_roundw
    case rel=>exact ⟨i+1,by omega,by go_num,HF.out,r.out.after (al (ak _ _) _)⟩
    case measure=>simp [intOf];omega
 have h1:¬((i:Int)<n1):=by omega
 obtain rfl:i=n1:=by omega
 have F4:Hid (fnz ((Va.trs t).drop 4)=R):=HE.out E.out.1;have D:Hid (Mem W wr [(g,.cells A 46)]):=E.out.2;clear HI E HY HE;have d2:=(o.out wr D.out).2.1.lo;have d1:=(o.out wr D.out).2.1.hi;have c9:=(o.out wr D.out).2.1.filter;have Y:=(o.out wr D.out).2.1.stat;have L:=(o.out wr D.out).2.1.twi;obtain ⟨lo,c2⟩:∃ x,t.lo=x:=⟨_,rfl⟩;obtain ⟨I,c5⟩:∃ x,t.hi=x:=⟨_,rfl⟩;have m:Hid (wi t.lo 1 t.hi=(decide (1<=lo) && decide (lo<=I))):=by rw [<-c2,<-c5];rfl
 rw [c2] at d2;rw [c5] at d1;clear c2 c5;by_cases q1:lo<1
 ·obtain rfl:=zi rfl (by decide) F4.out (by rw [m.out,decide_eq_false (show ¬1<=lo by omega),ae]);have e4:decide (lo<1)=true:=decide_eq_true q1;clear o U HL F4 m;go_wp2_with fail;go_ret;exact ⟨rfl,D.out.below⟩
 have e4:decide (lo<1)=false:=decide_eq_false q1;by_cases q2:I<lo
 ·obtain rfl:=zi rfl (by decide) F4.out (by rw [m.out,decide_eq_false (show ¬lo<=I by omega),ad]);have e5:decide (I<lo)=true:=decide_eq_true q2;clear o U HL F4 m;go_wp2_with fail;go_ret;exact ⟨rfl,D.out.below⟩
 have e5:decide (I<lo)=false:=decide_eq_false q2;have F5:Hid (fnz ((Va.trs t).drop 5)=R):=ye rfl F4.out (by rw [m.out,decide_eq_true (show 1<=lo by omega),decide_eq_true (show lo<=I by omega)];rfl);clear F4 m q1 q2;obtain ⟨fi,c7⟩:∃ x,t.filter=x:=⟨_,rfl⟩;have m:Hid (wi t.filter 0 2=(decide (0<=fi) && decide (fi<=2))):=by rw [<-c7];rfl
 rw [c7] at c9;clear c7;obtain ⟨n2,c3⟩:∃ n,t.stat.length=n:=⟨_,rfl⟩;obtain ⟨P,b0⟩:∃ n,t.twi.length=n:=⟨_,rfl⟩;have C1:=j55 (o.out wr D.out).1.rs f1;rw [c3] at Y f1 C1;rw [b0] at L f0;have a6:Hid (∀ X,Below wr.heap.size wr X->X.cell? ⟨g,28,none⟩=some (.slice qa P qc)/\Calls prog 92 #[.slice qa P qc] X fun e w'=>e=.returned (.bool (!(unl (fst' t.twi) && unl (snd' t.twi))))/\Below X.heap.size X w'):=by
  intro X hX;refine ⟨cell_later hX L,?_⟩;have:=j55 (o.out X (D.out.after hX)).1.rq (by rw [b0];exact f0);rwa [b0] at this
 have a4:Hid (t.stat.length=n2):=c3;have a3:Hid (t.twi.length=P):=b0;clear c3 b0;by_cases q1:fi<0
 ·obtain rfl:=zi rfl (by decide) F5.out (by rw [m.out,decide_eq_false (show ¬0<=fi by omega),ae]);have e6:decide (fi<0)=true:=decide_eq_true q1;clear o U HL F5 m a6 C1;go_wp2_with fail;go_ret;exact ⟨rfl,D.out.below⟩
 have e6:decide (fi<0)=false:=decide_eq_false q1;by_cases q2:2<fi
 ·obtain rfl:=zi rfl (by decide) F5.out (by rw [m.out,decide_eq_false (show ¬fi<=2 by omega),ad]);have e7:decide (2<fi)=true:=decide_eq_true q2;clear o U HL F5 m a6 C1;go_wp2_with fail;go_ret;exact ⟨rfl,D.out.below⟩
 have e7:decide (2<fi)=false:=decide_eq_false q2;have F6:Hid (fnz ((Va.trs t).drop 6)=R):=ye rfl F5.out (by rw [m.out,decide_eq_true (show 0<=fi by omega),decide_eq_true (show fi<=2 by omega)];rfl);clear F5 m q1 q2;by_cases q1:(16:Int)<n2
 ·obtain rfl:=zi rfl (by decide) F6.out (by rw [a4.out];exact decide_eq_false (by omega));have e8:decide ((16:Int)<n2)=true:=decide_eq_true q1;clear o U HL F6 a6 C1;go_wp2_with fail;go_ret;exact ⟨rfl,D.out.below⟩
 have e8:decide ((16:Int)<n2)=false:=decide_eq_false q1;have F7:Hid (fnz ((Va.trs t).drop 7)=R):=ye rfl F6.out (by rw [a4.out];exact decide_eq_true (by omega));by_cases q2:(16:Int)<P
 ·obtain rfl:=zi rfl (by decide) F7.out (by rw [a3.out];exact decide_eq_false (by omega));have e9:decide ((16:Int)<P)=true:=decide_eq_true q2;clear o U HL F6 F7 a6 C1;go_wp2_with fail;go_ret;exact ⟨rfl,D.out.below⟩
 have e9:decide ((16:Int)<P)=false:=decide_eq_false q2;have F8:Hid (fnz ((Va.trs t).drop 8)=R):=ye rfl F7.out (by rw [a3.out];exact decide_eq_true (by omega));clear F6 F7 q1 q2;obtain ⟨B1,b3⟩:∃ B,(unl (fst' t.stat) && unl (snd' t.stat))=B:=⟨_,rfl⟩;obtain ⟨B2,b2⟩:∃ B,(unl (fst' t.twi) && unl (snd' t.twi))=B:=⟨_,rfl⟩;rw [b3] at C1;have d5:Hid (∀ X,Below wr.heap.size wr X->X.cell? ⟨g,28,none⟩=some (.slice qa P qc)/\Calls prog 92 #[.slice qa P qc] X fun e w'=>e=.returned (.bool (!B2))/\Below X.heap.size X w'):=by rw [<-b2];exact a6.out
 clear a6;have G1:Hid (B1=false->R=94):=fun h=>zi rfl (by decide) F8.out (by rw [b3];exact h);have G2:Hid (B1=true->fnz ((Va.trs t).drop 9)=R):=fun h=>ye rfl F8.out (by rw [b3];exact h);clear F8 b3;cases B1 with
 | false =>
  obtain rfl:=G1.out rfl;go_wp2_with fail;refine C1.mono ?_;rintro _ X ⟨rfl,hb⟩;have b6:Hid (Mem W X [(g,.cells A 46)]):=D.out.after hb;clear o U HL d5 C1 hb D d2 d1 c9 Y L Z G1 G2;go_wp2_with fail;go_ret;exact ⟨rfl,b6.out.below⟩
 | true =>
 have F9:Hid (fnz ((Va.trs t).drop 9)=R):=G2.out rfl;clear G1 G2;have G1:Hid (B2=false->R=94):=fun h=>zi rfl (by decide) F9.out (by rw [b2];exact h);have G2:Hid (B2=true->fnz ((Va.trs t).drop 10)=R):=fun h=>ye rfl F9.out (by rw [b2];exact h);clear F9 b2;go_wp2_with fail;refine C1.mono ?_;rintro _ X1 ⟨rfl,hb⟩;obtain ⟨g1,C2⟩:=d5.out X1 hb;have b6:Hid (Mem W X1 [(g,.cells A 46)]):=D.out.after hb;clear d5 C1 hb D d2 d1 c9 Y L Z;go_wp2_with fail;refine C2.mono ?_;rintro _ X2 ⟨rfl,hb⟩;have b5:Hid (Mem W X2 [(g,.cells A 46)]):=b6.out.after hb;clear C2 hb b6 g1;cases B2 with
 | false =>
  obtain rfl:=G1.out rfl;clear o U HL G1 G2;go_wp2_with fail;go_ret;exact ⟨rfl,b5.out.below⟩
 | true =>
 have d7:Hid (fnz ((Va.trs t).drop 10)=R):=G2.out rfl;clear G1 G2;have Y:=(o.out X2 b5.out).2.1.stat;rw [a4.out] at Y;have HY:Hid (∀ i,i<n2->hs t.pool (t.stat.getD i (0,0)).2=true->R=94):=fun i hi b1=>zi rfl (by decide) d7.out (by
  rw [Bool.not_eq_false'];rw [an];have I:i<t.stat.length:=by rw [a4.out];exact hi
  exact ⟨_,ao (ap I),by simpa [aq,ar I] using b1⟩)
 have HE:Hid ((∀ j,j<n2->hs t.pool (t.stat.getD j (0,0)).2=false)->fnz ((Va.trs t).drop 11)=R):=fun h=>ye rfl d7.out (by
  rw [af,ag];intro e;rw [an] at e;obtain ⟨x,hx,hh⟩:=e;obtain ⟨p,hp,rfl⟩:=au.mp hx;obtain ⟨j,hj,rfl⟩:=av.mp hp;have:=h j (by rw [<-a4.out];exact hj);rw [show t.stat.getD j (0,0)=t.stat[j] by simp [aq,ar hj],hh] at this;cases this)
 have HI:Hid ((∀ j,j<0->hs t.pool (t.stat.getD j (0,0)).2=false)/\Mem W X2 [(g,.cells A 46)]):=⟨fun j hj=>absurd hj (by omega),b5.out⟩;clear d7 b5;go_wp2_with fail
 go_loopw [4] (fun u4 w'=>∃ i:Nat,i<=n2/\u4=.int .i64 i/\Hid ((∀ j,j<i->hs t.pool (t.stat.getD j (0,0)).2=false)/\Mem W w' [(g,.cells A 46)])) (fun u4 w'=>n2-(intOf u4).toNat)
 case atStart=>exact ⟨0,ah _,rfl,HI⟩
 case round =>
 obtain ⟨i2,h4,rfl,E⟩:=hrel;clear Y;have Y:=(o.out wr E.out.2).2.1.stat;rw [a4.out] at Y;by_cases hlt:i2<n2
 ·have h2:(i2:Int)<n2:=by omega
  have Z:=(o.out wr E.out.2).2.1.pool;have a5:=(o.out wr E.out.2).1.rp;obtain ⟨a',c',e,-,-,z⟩:=rw_p (o.out wr E.out.2).1.rs;simp only [ab.injEq] at e;obtain ⟨rfl,-,rfl⟩:=e;obtain ⟨b,O,rfl,hd⟩:=z i2 (by rw [a4.out];exact hlt);have d0:=(hd wr (ak _ _)).2;have HC:Hid (∀ q,Calls prog 91 #[.slice pa t.pool.length pc,.int .u32 (t.stat.getD i2 (0,0)).2] (wr.drewN q) fun e w'=>e=.returned (.bool (hs t.pool (t.stat.getD i2 (0,0)).2))/\wr.drewN q=w'):=by
   intro q;exact j9k (a5.below j1g (al (ak wr.heap.size wr) q) (ai _)) (by rw [M.out];exact f2) _
  have H:Hid (hs t.pool (t.stat.getD i2 (0,0)).2=true->R=94):=HY.out i2 hlt;have J:Hid (hs t.pool (t.stat.getD i2 (0,0)).2=false->∀ j,j<i2+1->hs t.pool (t.stat.getD j (0,0)).2=false):=by
   intro hn j hj;rcases aj j i2 with h|h
   ·exact E.out.1 j h
   ·obtain rfl:j=i2:=by omega
    exact hn
  have r:Hid (Mem W wr [(g,.cells A 46)]):=E.out.2;rw [M.out] at Z HC;clear a5 z hd o U HL HE HI E HY;generalize (t.stat.getD i2 (0,0)).2=y at *;generalize hs t.pool y=B at *;cases B with
  | true =>
   obtain rfl:=H.out rfl;clear H J;go_upto_region 19 with fail
   go_quiet (first|(go_at_call 91;exact j2z (HC.out _)))
   go_wp2_with fail;go_ret;exact ⟨rfl,al r.out.below _⟩
  | false =>
   have HF:Hid (∀ j,j<i2+1->hs t.pool (t.stat.getD j (0,0)).2=false):=J.out rfl;clear H J;go_upto_region 19 with fail
   go_quiet (first|(go_at_call 91;exact j2z (HC.out _)))
   go_wp2_with fail;go_roundw
   case rel=>exact ⟨i2+1,by omega,by go_num,HF.out,r.out.after (al (ak _ _) _)⟩
   case measure=>simp [intOf];omega
 have h2:¬((i2:Int)<n2):=by omega
 obtain rfl:i2=n2:=by omega
 have d6:Hid (fnz ((Va.trs t).drop 11)=R):=HE.out E.out.1;have d3:Hid (Mem W wr [(g,.cells A 46)]):=E.out.2;clear HI E HY HE;have L:=(o.out wr d3.out).2.1.twi;rw [a3.out] at L;have HY:Hid (∀ i,i<P->owns t (t.twi.getD i (0,0)).1=true->R=94):=fun i hi b1=>zi rfl (by decide) d6.out (by
  rw [Bool.not_eq_false'];rw [an];have I:i<t.twi.length:=by rw [a3.out];exact hi
  exact ⟨_,ao (ap I),by simpa [aq,ar I] using b1⟩)
 have HE:Hid ((∀ j,j<P->owns t (t.twi.getD j (0,0)).1=false)->fnz ((Va.trs t).drop 12)=R):=fun h=>ye rfl d6.out (by
  rw [af,ag];intro e;rw [an] at e;obtain ⟨x,hx,hh⟩:=e;obtain ⟨p,hp,rfl⟩:=au.mp hx;obtain ⟨j,hj,rfl⟩:=av.mp hp;have:=h j (by rw [<-a3.out];exact hj);rw [show t.twi.getD j (0,0)=t.twi[j] by simp [aq,ar hj],hh] at this;cases this)
 have HI:Hid ((∀ j,j<0->owns t (t.twi.getD j (0,0)).1=false)/\Mem W wr [(g,.cells A 46)]):=⟨fun j hj=>absurd hj (by omega),d3.out⟩;clear d6 d3;go_wp2_with fail
 go_loopw [5] (fun u5 w'=>∃ i:Nat,i<=P/\u5=.int .i64 i/\Hid ((∀ j,j<i->owns t (t.twi.getD j (0,0)).1=false)/\Mem W w' [(g,.cells A 46)])) (fun u5 w'=>P-(intOf u5).toNat)
 case atStart=>exact ⟨0,ah _,rfl,HI⟩
 case round =>
 obtain ⟨N,g9,rfl,E⟩:=hrel;clear L;have L:=(o.out wr E.out.2).2.1.twi;rw [a3.out] at L;by_cases hlt:N<P
 ·have h3:(N:Int)<P:=by omega
  obtain ⟨a',c',e,-,-,z⟩:=rw_p (o.out wr E.out.2).1.rq;simp only [ab.injEq] at e;obtain ⟨rfl,-,rfl⟩:=e;obtain ⟨b,O,rfl,hd⟩:=z N (by rw [a3.out];exact hlt);have d0:=(hd wr (ak _ _)).1;have d9:=HL.out.1;have d8:(prog.info? 46).map (·.size)=some tl.length:=by rw [d9];kernel_rfl
  have HX:Hid (∀ X,Below wr.heap.size wr X->X.rangeAt g 0 tl/\X.cell? ⟨g,28,none⟩=some (.slice (some ⟨b,O,none⟩) P qc)/\X.cell? ⟨b,O+N*2,none⟩=some (.int .u32 (t.twi.getD N (0,0)).1)):=fun X hX=>⟨(o.out X (E.out.2.after hX)).2.2,cell_later hX L,(hd X hX).1⟩;have HC:Hid (∀ X,Below wr.heap.size wr X->Calls prog 65 #[.agg tl.toArray,.int .u32 (t.twi.getD N (0,0)).1] X fun e w'=>e=.returned (.bool (owns t (t.twi.getD N (0,0)).1))/\Below wr.heap.size wr w'):=by
   intro X hX;have hb:=(o.out X (E.out.2.after hX)).1.tv;exact (j7o hb U.out.2 _).mono (fun e w' hh=>⟨hh.1,hX.trans (hh.2.mono hX.size)⟩)
  have H:Hid (owns t (t.twi.getD N (0,0)).1=true->R=94):=HY.out N hlt;have J:Hid (owns t (t.twi.getD N (0,0)).1=false->∀ j,j<N+1->owns t (t.twi.getD j (0,0)).1=false):=by
   intro hn j hj;rcases aj j N with h|h
   ·exact E.out.1 j h
   ·obtain rfl:j=N:=by omega
    exact hn
  have r:Hid (Mem W wr [(g,.cells A 46)]):=E.out.2;clear z hd o U HL HE HI E HY d9;generalize (t.twi.getD N (0,0)).1=y at *;generalize owns t y=B at *;cases B with
  | true =>
   obtain rfl:=H.out rfl;clear H J;go_upto_region 24 with fail;refine wp_region_held_drew (S:=fun X=>X.rangeAt g 0 tl/\X.cell? ⟨g,28,none⟩=some (.slice (some ⟨b,O,none⟩) P qc)/\X.cell? ⟨b,O+N*2,none⟩=some (.int .u32 y)) (by kernel_rfl) (HX.out _ (ak _ _).drew) (fun a2=>?_);refine tkq 0 rfl (v:=_) (yieldsIf_load_mid (by rfl) _ _ rfl _ _ rfl _ _ ?qs0 underlying46 rfl d8) ?_
   case qs0 =>
    intro w f
    (try dsimp only at f)
    go_split_ands
    assumption
   try simp only [sqx,aD]
   refine tkq 1 rfl (v:=?_) (am ⟨by rfl,?qy1⟩) ?_
   case qy1=>intro w f;(try dsimp only at f);go_simp;all_goals with_reducible rfl
   try simp only [sqx,aD]
   refine tkq 2 rfl (v:=?_) (am ⟨by rfl,?qy2⟩) ?_
   case qy2=>intro w f;(try dsimp only at f);go_simp;all_goals with_reducible rfl
   try simp only [sqx,aD]
   refine tkq 3 rfl (v:=?_) (am ⟨by rfl,?qy3⟩) ?_
   case qy3=>intro w f;(try dsimp only at f);go_simp;all_goals with_reducible rfl
   try simp only [sqx,aD]
   refine tkq 4 rfl (v:=?_) (am ⟨by rfl,?qy4⟩) ?_
   case qy4=>intro w f;(try dsimp only at f);go_simp;all_goals with_reducible rfl
   try simp only [sqx,aD]
   refine tkq 5 rfl (v:=?_) (am ⟨by rfl,?qy5⟩) ?_
   case qy5=>intro w f;(try dsimp only at f);go_simp;all_goals with_reducible rfl
   try simp only [sqx,aD]
   refine tkq 6 rfl (v:=?_) (am ⟨by rfl,?qy6⟩) ?_
   case qy6=>intro w f;(try dsimp only at f);go_simp;all_goals with_reducible rfl
   try simp only [sqx,aD]
   refine wpAnyH_ready (rs:=[7]) (by kernel_rfl) (by simp) ?_;refine aF rfl (fun K hK=>?_) aG;go_simp
   with_reducible refine (HC.out _ (by first|exact ak _ _|exact (ak _ _).drew)).mono ?_
   rintro _ X2 ⟨rfl,hb2⟩
   try go_wp2_with fail
   refine hK.out _ _ (HX.out X2 hb2) (fun a2=>?_);clear hK K
   try simp only [sqx,aD]
   refine wpAnyH_done (by kernel_rfl) ?_ _;go_wp2_with fail;go_ret;exact ⟨rfl,r.out.below.trans (hb2.mono r.out.below.size)⟩
  | false =>
   have HF:Hid (∀ j,j<N+1->owns t (t.twi.getD j (0,0)).1=false):=J.out rfl;clear H J;go_upto_region 24 with fail;refine wp_region_held_drew (S:=fun X=>X.rangeAt g 0 tl/\X.cell? ⟨g,28,none⟩=some (.slice (some ⟨b,O,none⟩) P qc)/\X.cell? ⟨b,O+N*2,none⟩=some (.int .u32 y)) (by kernel_rfl) (HX.out _ (ak _ _).drew) (fun a2=>?_);refine tkq 0 rfl (v:=_) (yieldsIf_load_mid (by rfl) _ _ rfl _ _ rfl _ _ ?zs0 underlying46 rfl d8) ?_
   case zs0 =>
    intro w f
    (try dsimp only at f)
    go_split_ands
    assumption
   try simp only [sqx,aD]
   refine tkq 1 rfl (v:=?_) (am ⟨by rfl,?zy1⟩) ?_
   case zy1=>intro w f;(try dsimp only at f);go_simp;all_goals with_reducible rfl
   try simp only [sqx,aD]
   refine tkq 2 rfl (v:=?_) (am ⟨by rfl,?zy2⟩) ?_
   case zy2=>intro w f;(try dsimp only at f);go_simp;all_goals with_reducible rfl
   try simp only [sqx,aD]
   refine tkq 3 rfl (v:=?_) (am ⟨by rfl,?zy3⟩) ?_
   case zy3=>intro w f;(try dsimp only at f);go_simp;all_goals with_reducible rfl
   try simp only [sqx,aD]
   refine tkq 4 rfl (v:=?_) (am ⟨by rfl,?zy4⟩) ?_
   case zy4=>intro w f;(try dsimp only at f);go_simp;all_goals with_reducible rfl
   try simp only [sqx,aD]
   refine tkq 5 rfl (v:=?_) (am ⟨by rfl,?zy5⟩) ?_
   case zy5=>intro w f;(try dsimp only at f);go_simp;all_goals with_reducible rfl
   try simp only [sqx,aD]
   refine tkq 6 rfl (v:=?_) (am ⟨by rfl,?zy6⟩) ?_
   case zy6=>intro w f;(try dsimp only at f);go_simp;all_goals with_reducible rfl
   try simp only [sqx,aD]
   refine wpAnyH_ready (rs:=[7]) (by kernel_rfl) (by simp) ?_;refine aF rfl (fun K hK=>?_) aG;go_simp
   with_reducible refine (HC.out _ (by first|exact ak _ _|exact (ak _ _).drew)).mono ?_
   rintro _ X2 ⟨rfl,hb2⟩
   try go_wp2_with fail
   refine hK.out _ _ (HX.out X2 hb2) (fun a2=>?_);clear hK K
   try simp only [sqx,aD]
   refine wpAnyH_done (by kernel_rfl) ?_ _;have g7:Hid (Mem W X2 [(g,.cells A 46)]):=r.out.after hb2;clear r hb2 HX HC L d0;go_wp2_with fail;go_roundw
   case rel=>exact ⟨N+1,by omega,by go_num,HF.out,g7.out⟩
   case measure=>simp [intOf];omega
 have h3:¬((N:Int)<P):=by omega
 obtain rfl:N=P:=by omega
 have a9:Hid (fnz ((Va.trs t).drop 12)=R):=HE.out E.out.1;have F:Hid (Mem W wr [(g,.cells A 46)]):=E.out.2;clear HI E HY HE;have g5:=(o.out wr F.out).2.1.sess;have g4:=(o.out wr F.out).2.1.queue;have g3:=(o.out wr F.out).2.1.rate;have g2:=(o.out wr F.out).2.1.burst;have g6:=(o.out wr F.out).2.1.vtep;clear o U HL;obtain ⟨l,a0⟩:∃ x,t.sess=x:=⟨_,rfl⟩;have m:Hid (wi t.sess 1 256=(decide (1<=l) && decide (l<=256))):=by rw [<-a0];rfl
 rw [a0] at g5;clear a0;by_cases q1:l<1
 ·obtain rfl:=zi rfl (by decide) a9.out (by rw [m.out,decide_eq_false (show ¬1<=l by omega),ae]);have g0:decide (l<1)=true:=decide_eq_true q1;clear a9 m;go_wp2_with fail;go_ret;exact ⟨rfl,F.out.below⟩
 have g0:decide (l<1)=false:=decide_eq_false q1;by_cases q2:256<l
 ·obtain rfl:=zi rfl (by decide) a9.out (by rw [m.out,decide_eq_false (show ¬l<=256 by omega),ad]);have f7:decide (256<l)=true:=decide_eq_true q2;clear a9 m;go_wp2_with fail;go_ret;exact ⟨rfl,F.out.below⟩
 have f7:decide (256<l)=false:=decide_eq_false q2;have a8:Hid (fnz ((Va.trs t).drop 13)=R):=ye rfl a9.out (by rw [m.out,decide_eq_true (show 1<=l by omega),decide_eq_true (show l<=256 by omega)];rfl);clear a9 m q1 q2;obtain ⟨c,Q⟩:∃ x,t.queue=x:=⟨_,rfl⟩;have m:Hid (wi t.queue 1 64=(decide (1<=c) && decide (c<=64))):=by rw [<-Q];rfl
 rw [Q] at g4;clear Q;by_cases q1:c<1
 ·obtain rfl:=zi rfl (by decide) a8.out (by rw [m.out,decide_eq_false (show ¬1<=c by omega),ae]);have f9:decide (c<1)=true:=decide_eq_true q1;clear a8 m;go_wp2_with fail;go_ret;exact ⟨rfl,F.out.below⟩
 have f9:decide (c<1)=false:=decide_eq_false q1;by_cases q2:64<c
 ·obtain rfl:=zi rfl (by decide) a8.out (by rw [m.out,decide_eq_false (show ¬c<=64 by omega),ad]);have f6:decide (64<c)=true:=decide_eq_true q2;clear a8 m;go_wp2_with fail;go_ret;exact ⟨rfl,F.out.below⟩
 have f6:decide (64<c)=false:=decide_eq_false q2;have b8:Hid (fnz ((Va.trs t).drop 14)=R):=ye rfl a8.out (by rw [m.out,decide_eq_true (show 1<=c by omega),decide_eq_true (show c<=64 by omega)];rfl);clear a8 m q1 q2;obtain ⟨G,a1⟩:∃ x,t.rate=x:=⟨_,rfl⟩;have m:Hid (decide (t.rate<=1000000)=decide (G<=1000000)):=by rw [<-a1];rfl
 rw [a1] at g3;clear a1;by_cases q2:1000000<G
 ·obtain rfl:=zi rfl (by decide) b8.out (by rw [m.out,decide_eq_false (show ¬G<=1000000 by omega)]);have f5:decide (1000000<G)=true:=decide_eq_true q2;clear b8 m;go_wp2_with fail;go_ret;exact ⟨rfl,F.out.below⟩
 have f5:decide (1000000<G)=false:=decide_eq_false q2;have a7:Hid (fnz ((Va.trs t).drop 15)=R):=ye rfl b8.out (by rw [m.out,decide_eq_true (show G<=1000000 by omega)]);clear b8 m q2;obtain ⟨d,T⟩:∃ x,t.burst=x:=⟨_,rfl⟩;have m:Hid (wi t.burst 1 1000000=(decide (1<=d) && decide (d<=1000000))):=by rw [<-T];rfl
 rw [T] at g2;clear T;by_cases q1:d<1
 ·obtain rfl:=zi rfl (by decide) a7.out (by rw [m.out,decide_eq_false (show ¬1<=d by omega),ae]);have f8:decide (d<1)=true:=decide_eq_true q1;clear a7 m;go_wp2_with fail;go_ret;exact ⟨rfl,F.out.below⟩
 have f8:decide (d<1)=false:=decide_eq_false q1;by_cases q2:1000000<d
 ·obtain rfl:=zi rfl (by decide) a7.out (by rw [m.out,decide_eq_false (show ¬d<=1000000 by omega),ad]);have f4:decide (1000000<d)=true:=decide_eq_true q2;clear a7 m;go_wp2_with fail;go_ret;exact ⟨rfl,F.out.below⟩
 have f4:decide (1000000<d)=false:=decide_eq_false q2;have b7:Hid (fnz ((Va.trs t).drop 16)=R):=ye rfl a7.out (by rw [m.out,decide_eq_true (show 1<=d by omega),decide_eq_true (show d<=1000000 by omega)];rfl);clear a7 m q1 q2;obtain ⟨vt,b9⟩:∃ x,t.vtep=x:=⟨_,rfl⟩;have m:Hid ((t.vtep != 0)=(vt != 0)):=by rw [b9];rfl
 rw [b9] at g6;clear b9;by_cases q1:vt=0
 ·obtain rfl:=zi rfl (by decide) b7.out (by rw [m.out,q1];rfl);subst q1;clear b7 m;go_wp2_with fail;go_ret;exact ⟨rfl,F.out.below⟩
 have h5:(vt==0)=false:=by simp [q1]
 obtain rfl:R=0:=(ye rfl b7.out (by rw [m.out];simp [q1])).symm;clear b7 m q1;go_wp2_with fail;go_ret;exact ⟨rfl,F.out.below⟩
end
section
open Go.RowKit Sm Cf Df
section
variable {w V:World} {t:Ten} {p s q:Value} {g:Nat} {K:List (Nat×Obj)}
theorem cp1 (h:TLen t) (r:Rw w 1 p (ux t.pool)) (y:t.pool.length<=1000000) (i:Mem w V ((g,.cells (tc t p s q).toArray 46)::K)) :
 V.cell? ⟨g,23,none⟩=some p/\∃ a m c b B,(aH #[43,43] 43 #[.slice none 0 0,p]).run prog V=.ok (.slice a m c) b/\b.frozen? ⟨g,23,none⟩=false/\b.cell? ⟨g,23,none⟩=some p /\
  OwB 33 1 (.slice a m c) t.pool.length (ux t.pool).flatten B/\Mem w (b.setCell ⟨g,23,none⟩ (.slice a m c)) ((g,.cells (tc t (.slice a m c) s q).toArray 46)::(B++K)):=by
 have u1:(ux t.pool).length=t.pool.length:=by simp [ux]
 obtain ⟨x,b,d,j⟩:=kj (ty:=43) i underlying43 j86 rfl (by decide) (r.below j1g i.below (ai _)) jpq jpr (by unfold maxLen;omega) (by omega);rw [u1] at j;obtain ⟨B,o,l⟩:=j.owb;obtain ⟨a,m,c,rfl⟩:=js o;have f:Mem w b ((g,.cells (tc t p s q).toArray 46)::(B++K)):=l.perm aw;have:=zg l 23 (.slice a m c);rw [jax h] at this;exact ⟨by rw [i.cell 0 rfl];exact (j13 h p s q).2.1,a,m,c,b,B,d,f.free 0 rfl 23,by rw [f.cell 0 rfl];exact (j13 h p s q).2.1,o,this⟩
theorem cp2 (h:TLen t) (r:Rw w 2 s (px t.stat)) (y:t.stat.length<=1000000) (i:Mem w V ((g,.cells (tc t p s q).toArray 46)::K)) :
 V.cell? ⟨g,27,none⟩=some s/\∃ a m c b B,(aH #[44,44] 44 #[.slice none 0 0,s]).run prog V=.ok (.slice a m c) b/\b.frozen? ⟨g,27,none⟩=false/\b.cell? ⟨g,27,none⟩=some s /\
  OwB 122 2 (.slice a m c) t.stat.length (px t.stat).flatten B/\Mem w (b.setCell ⟨g,27,none⟩ (.slice a m c)) ((g,.cells (tc t p (.slice a m c) q).toArray 46)::(B++K)):=by
 have u1:(px t.stat).length=t.stat.length:=by simp [px]
 obtain ⟨x,b,d,j⟩:=kj (ty:=44) i underlying44 jgj rfl (by decide) (r.below zj i.below (ai _)) jj5 jj6 (by unfold maxLen;omega) (by omega);rw [u1] at j;obtain ⟨B,o,l⟩:=j.owb;obtain ⟨a,m,c,rfl⟩:=js o;have f:Mem w b ((g,.cells (tc t p s q).toArray 46)::(B++K)):=l.perm aw;have:=zg l 27 (.slice a m c);rw [jaw h] at this;exact ⟨by rw [i.cell 0 rfl];exact (j13 h p s q).2.2.1,a,m,c,b,B,d,f.free 0 rfl 27,by rw [f.cell 0 rfl];exact (j13 h p s q).2.2.1,o,this⟩
theorem cp3 (h:TLen t) (r:Rw w 2 q (px t.twi)) (y:t.twi.length<=1000000) (i:Mem w V ((g,.cells (tc t p s q).toArray 46)::K)) :
 V.cell? ⟨g,28,none⟩=some q/\∃ a m c b B,(aH #[44,44] 44 #[.slice none 0 0,q]).run prog V=.ok (.slice a m c) b/\b.frozen? ⟨g,28,none⟩=false/\b.cell? ⟨g,28,none⟩=some q /\
  OwB 122 2 (.slice a m c) t.twi.length (px t.twi).flatten B/\Mem w (b.setCell ⟨g,28,none⟩ (.slice a m c)) ((g,.cells (tc t p s (.slice a m c)).toArray 46)::(B++K)):=by
 have u1:(px t.twi).length=t.twi.length:=by simp [px]
 obtain ⟨x,b,d,j⟩:=kj (ty:=44) i underlying44 jgj rfl (by decide) (r.below zj i.below (ai _)) jj5 jj6 (by unfold maxLen;omega) (by omega);rw [u1] at j;obtain ⟨B,o,l⟩:=j.owb;obtain ⟨a,m,c,rfl⟩:=js o;have f:Mem w b ((g,.cells (tc t p s q).toArray 46)::(B++K)):=l.perm aw;have:=zg l 28 (.slice a m c);rw [jav h] at this;exact ⟨by rw [i.cell 0 rfl];exact (j13 h p s q).2.2.2,a,m,c,b,B,d,f.free 0 rfl 28,by rw [f.cell 0 rfl];exact (j13 h p s q).2.2.2,o,this⟩
end
theorem j50 {c:Cgf} (h:CLen c) (u:Value):(cc c u).toArray[28]?=some u:=by
 obtain ⟨A,b,e⟩:∃ A:List Value,A.length=28/\∀ u,cc c u=A++[u]:=⟨.int .u32 c.ip::(c.mac.map (ac .u8)++(c.omac.map (ac .u8)++(c.nmac.map (ac .u8)++(c.key.map (ac .u8)++[.int .u32 c.drain])))),by simp [h.mac,h.omac,h.nmac,h.key],fun u=>by simp [cc]⟩;rw [e,List.getElem?_toArray,List.getElem?_append_right (by omega),b];rfl
theorem j3e {c:Cgf} (h:CLen c) (u v:Value):(cc c u).toArray.setIfInBounds 28 v=(cc c v).toArray:=by
 obtain ⟨A,b,e⟩:∃ A:List Value,A.length=28/\∀ u,cc c u=A++[u]:=⟨.int .u32 c.ip::(c.mac.map (ac .u8)++(c.omac.map (ac .u8)++(c.nmac.map (ac .u8)++(c.key.map (ac .u8)++[.int .u32 c.drain])))),by simp [h.mac,h.omac,h.nmac,h.key],fun u=>by simp [cc]⟩;rw [e,e];simp [List.set_append_right,b]
theorem jha {c:Cgf} {zs:List Tv} (hcl:CLen c) (hz:ZV w u zs) (hf:∀ z∈zs,TFew z.1) (hm:zs.length<=1000) :
 Calls prog 51 #[.agg (cc c u).toArray] w fun e V=>∃ u',e=.returned (.agg (cc c u').toArray)/\∃ B C,TsB u' (zs.map aI) B C/\Mem w V (B++C):=by
 obtain ⟨sa,sc,rfl,hlc,hcb,hx⟩:=hz.parts;obtain ⟨N,hN⟩:∃ N,zs.length=N:=⟨_,rfl⟩;have HX:Hid (∀ i (hi:i<zs.length),(∃ b off,sa=some ⟨b,off,none⟩/\∀ V,Below w.heap.size w V->V.rangeAt b (off+i*33) (zc zs[i]))/\TLen zs[i].1/\(zc zs[i]).toArray.all (·.oneCell')=true/\TFew zs[i].1/\∀ V,Below w.heap.size w V->Rws V zs[i]):=by
  intro i hi;have hm:=ap hi;exact ⟨hx i hi,(hz.each _ hm).1,j3h (hz.each _ hm).2,hf _ hm,fun V hV=>Rws.at_ (hz.each _ hm).2 hV⟩
 have HT:Hid (∀ j (hj:j<zs.length),(zs.map aI).take (j+1)=(zs.map aI).take j++[zs[j].1]):=by
  intro j hj;rw [List.take_add_one,List.getElem?_map,ar hj];rfl
 have HTE:Hid ((zs.map aI).take zs.length=zs.map aI):=by show _=_;rw [List.take_of_length_le (by simp)]
 obtain ⟨g,hg⟩:∃ g,w.heap.size=g:=⟨_,rfl⟩;obtain ⟨A,hA⟩:∃ A,(cc c (.slice sa zs.length sc)).toArray=A:=⟨_,rfl⟩;have hA28:A[28]?=some (.slice sa zs.length sc):=by rw [<-hA];exact j50 hcl _
 have hAsz:A.size=29:=by rw [<-hA,ax];exact je hcl _
 have HAS:Hid (∀ v,A.setIfInBounds 28 v=(cc c v).toArray):=by intro v;rw [<-hA];exact j3e hcl _ _
 have HM0:Hid (Mem w ((w.alloc (.cells A 39)).alloc (.cells cz 39)) [(g,.cells A 39),(g+1,.cells cz 39)]):=by
  have:=ql w (.cells A 39) (.cells cz 39);rw [hg] at this;exact this.perm (List.Perm.swap _ _ _)
 rw [hA];rw [hN] at hA28 hlc hm HTE;simp only [hN] at HX HT;clear hz hf hx hA;go_enter func51,ntmps51;go_upto_region 1 with fail;refine j5 (fun X=>Mem w X [(g,.cells A 39),(g+1,.cells cz 39)]) (by exact HM0.out) ?_;intro V0 hM0
 try simp only [hg]
 clear HM0 hg;have c28:V0.cell? ⟨g,28,none⟩=some (.slice sa N sc):=by rw [hM0.cell 0 rfl];exact hA28
 have H0:Hid (Ow w V0 46 33 (.slice none 0 0) ([]:List Tv).length ((([]:List Tv)).map zc).flatten [(g,.cells A 39),(g+1,.cells cz 39)]):=Ow.nil hM0;clear hM0;go_wp2_with fail
 go_loopw [3,9] (fun u3 u9 w'=>∃ (j:Nat) (a:Option Addr) (m c:Nat) (xs:List Tv) (C:List (Nat×Obj)),j<=N/\u9=.int .i64 j/\u3=.slice a m c/\Hid (Ow w w' 46 33 (.slice a m c) xs.length (xs.map zc).flatten ((g,.cells A 39)::(g+1,.cells cz 39)::C)/\(∀ z∈xs,ZB z C)/\xs.map aI=(zs.map aI).take j/\xs.length=j)) (fun u3 u9 w'=>N-(intOf u9).toNat)
 case atStart=>exact ⟨0,none,0,0,[],[],ah _,rfl,rfl,H0.out,by simp,by simp,rfl⟩
 case round =>
  obtain ⟨j,a,m,c',xs,C,hj,rfl,rfl,HR⟩:=hrel;clear H0;by_cases hlt:j<N
  ·have h1:(j:Int)<N:=by omega
   obtain ⟨⟨b,off,rfl,hV⟩,hl,ho,hfw,hrr⟩:=HX.out j hlt;obtain ⟨hO,hZB,hfst,hxl⟩:=HR.out;have hbW:=hO.mem.below;have hra:=hV _ hbW;have hT:=HT.out j hlt;have hr:=hrr _ hbW;clear hV HX HT HTE HR hrr;have hjM:j<zs.length:=by omega
   generalize zs[j]'hjM=z at *;obtain ⟨t,p,s,q⟩:=z;obtain ⟨r1,r2,r3⟩:=hr;obtain ⟨f1,f2,f3⟩:=hfw;simp only at hl r1 r2 r3 f1 f2 f3;have hi33:(prog.info? 46).map (·.size)=some (zc (t,p,s,q)).length:=by rw [show (zc (t,p,s,q)).length=33 from ji hl _ _ _];kernel_rfl
   have hj33:(prog.info? 46).map (·.size)=some (zc (t,p,s,q)).toArray.size:=by rw [ax];exact hi33
   have hs33:(tz:Array Value).size=(zc (t,p,s,q)).toArray.size:=by rw [show (zc (t,p,s,q)).toArray.size=33 by rw [ax];exact ji hl _ _ _];rfl
   obtain ⟨g5,hg5⟩:∃ g,wr.heap.size=g:=⟨_,rfl⟩;have hk5:(wr.alloc (.cells tz 46)).heap[g5]?=some (.cells tz 46):=by rw [<-hg5];exact heap_alloc_new _ _
   have HF0:Hid (Mem wr ((wr.alloc (.cells tz 46)).setRow g5 (zc (t,p,s,q)).toArray) [(g5,.cells (tc t p s q).toArray 46)]):=by
    rw [<-hg5,World.setRow_alloc_new];exact (Mem.nil wr).push1 rfl
   have HF:Hid (∀ (z':Tv) (C':List (Nat×Obj)) (V:World),z'.1=t->ZB z' C'->Mem wr V C'->(Instr.buildSlice 37 1 #[(0,tv z')]).run prog V=.ok (.slice (some ⟨V.heap.size,0,none⟩) 1 1) (V.alloc (.cells (zc z').toArray 46)) /\
    ∃ a' m' d' V',(aH #[37,37] 37 #[.slice a m c',.slice (some ⟨V.heap.size,0,none⟩) 1 1]).run prog (V.alloc (.cells (zc z').toArray 46))=.ok (.slice a' m' d') V' /\
    Ow w V' 46 33 (.slice a' m' d') (xs++[z']).length ((xs++[z']).map zc).flatten ((g,.cells A 39)::(g+1,.cells cz 39)::(C++C'))/\(∀ z∈xs++[z'],ZB z (C++C'))/\(xs++[z']).map aI=(zs.map aI).take (j+1)/\(xs++[z']).length=j+1):=by
    intro z' C' V k1 k2 k3;refine ⟨j4l z' k2.1 V,?_⟩;obtain ⟨a',m',d',V',e1,e2,e3⟩:=jln hO (fun z h=>(hZB z h).more fun x hx=>by simp [hx]) k3 k2 (by omega) rfl;refine ⟨a',m',d',V',e1,e2,fun y hy=>?_,?_,by rw [List.length_append,hxl];rfl⟩
    ·rcases List.mem_append.1 hy with hy|hy
     ·exact (hZB y hy).more fun x hx=>by simp [hx]
     ·rw [List.mem_singleton] at hy;subst hy;exact k2.more fun x hx=>by simp [hx]
    ·rw [hT,List.map_append,hfst,List.map_singleton,k1]
   clear hO hZB hfst hxl hbW hT;go_upto_region 5 with (first|(refine wpList_load_mid rfl 46 (.tmp 11) (by with_reducible rfl) b (off+j*33) (by simp [aE]) (zc (t,p,s,q)) _ hra underlying46 rfl hi33 ?_)|(refine wpList_store_row rfl 46 (.tmp 5) (.tmp 12) (by with_reducible rfl) g5 (zc (t,p,s,q)).toArray (by simp [aE];try exact hg5) (by first|rfl|simp [aE]) 46 tz hk5 hj33 hs33 ho ?_)|fail)
   refine j5 (fun X=>Mem wr X [(g5,.cells (tc t p s q).toArray 46)]) (by exact HF0.out) ?_;intro V1 hM1
   try simp only [hg5]
   clear HF0 hk5 hra hi33 hj33 hs33 ho hg5;obtain ⟨c1,a1,m1,d1,V2,B1,hr1,hf1,hc1,hB1,hM2⟩:=cp1 hl r1 f1 hM1;clear hM1;go_upto_region 6 with (first|(at_builtin;refine wpList_append_run _ (.tmp 14) 43 43 (by with_reducible rfl) hr1 rfl rfl (by first|rfl|simp [aE]) (by first|rfl|simp [aE]) ?_)|fail)
   clear hr1 c1 hf1 hc1;generalize V2.setCell ⟨g5,23,none⟩ (.slice a1 m1 d1)=V3 at *;obtain ⟨c2,a2,m2,d2,V4,B2,hr2,hf2,hc2,hB2,hM3⟩:=cp2 hl r2 f2 hM2;clear hM2;go_upto_region 7 with (first|(at_builtin;refine wpList_append_run _ (.tmp 18) 44 44 (by with_reducible rfl) hr2 rfl rfl (by first|rfl|simp [aE]) (by first|rfl|simp [aE]) ?_)|fail)
   clear hr2 c2 hf2 hc2;generalize V4.setCell ⟨g5,27,none⟩ (.slice a2 m2 d2)=V5 at *;obtain ⟨c3,a3,m3,d3,V6,B3,hr3,hf3,hc3,hB3,hM4⟩:=cp3 hl r3 f3 hM3;clear hM3;go_upto_region 8 with (first|(at_builtin;refine wpList_append_run _ (.tmp 22) 44 44 (by with_reducible rfl) hr3 rfl rfl (by first|rfl|simp [aE]) (by first|rfl|simp [aE]) ?_)|fail)
   clear hr3 c3 hf3 hc3;generalize V6.setCell ⟨g5,28,none⟩ (.slice a3 m3 d3)=V7 at *;have k5:=hM4.get 0 rfl;obtain ⟨hbs,a',m',d',V8,hr8,hOF⟩:=HF.out (t,.slice a1 m1 d1,.slice a2 m2 d2,.slice a3 m3 d3) ((g5,.cells (tc t (.slice a1 m1 d1) (.slice a2 m2 d2) (.slice a3 m3 d3)).toArray 46)::(B3++(B2++(B1++[])))) V7 rfl ⟨hl,B1,B2,B3,fun x hx=>by rw [List.append_nil];exact List.mem_cons_of_mem _ hx,hB1,hB2,hB3⟩ hM4;obtain ⟨A3,hA3⟩:∃ A,(tc t (.slice a1 m1 d1) (.slice a2 m2 d2) (.slice a3 m3 d3)).toArray=A:=⟨_,rfl⟩;have hsz:A3.size=33:=by rw [<-hA3,ax];exact ji hl _ _ _
   have i33:(prog.info? 46).map (·.size)=some A3.size:=by rw [hsz];kernel_rfl
   have eT:tv (t,.slice a1 m1 d1,.slice a2 m2 d2,.slice a3 m3 d3)=.agg A3:=by rw [<-hA3];rfl
   rw [eT] at hbs;rw [hA3] at k5;generalize hzz:((t,.slice a1 m1 d1,.slice a2 m2 d2,.slice a3 m3 d3):Tv)=z' at *;have HO2:Hid (∃ (j':Nat) (a:Option Addr) (m c:Nat) (xs:List Tv) (C:List (Nat×Obj)),j'<=N/\ac .i64 ((j+1:Nat):Int)=.int .i64 j'/\ab a' m' d'=.slice a m c/\Hid (Ow w V8 46 33 (.slice a m c) xs.length (xs.map zc).flatten ((g,.cells A 39)::(g+1,.cells cz 39)::C)/\(∀ z∈xs,ZB z C)/\xs.map aI=(zs.map aI).take j'/\xs.length=j')):=⟨j+1,a',m',d',xs++[z'],_,by omega,rfl,rfl,hOF⟩;clear hOF hM4 hB1 hB2 hB3 HF hA3 r1 r2 r3 hzz eT hsz;go_wp2_with (first|(refine wpList_load_row rfl 46 (.tmp 5) (by with_reducible rfl) g5 (by first|rfl|simp [aE]) 46 A3 (0,0) _ k5 underlying46 rfl i33 ?_)|(refine j20 rfl 37 1 #[(0,.tmp 26)] (by with_reducible rfl) hbs (by simp [aE,aD]) ?_)|(at_builtin;refine wpList_append_run (.tmp 25) (.tmp 27) 37 37 (by with_reducible rfl) hr8 rfl rfl (by first|rfl|simp [aE]) (by first|rfl|simp [aE]) ?_)|fail)
   go_roundw
   case rel =>
    obtain ⟨j',b1,b2,b3,b4,b5,b6,b7,b8,b9⟩:=HO2.out;exact ⟨j',b1,b2,b3,b4,b5,b6,by rw [<-b7];go_num,b8,b9⟩
   case measure=>simp [intOf];omega
  ·have h1:¬((j:Int)<N):=by omega
   obtain rfl:j=N:=by omega
   obtain ⟨hO,hZB,hfst,hxl⟩:=HR.out;obtain ⟨B,hB,hM⟩:=hO.owb;have hM2:Mem w wr ((g,.cells A 39)::(g+1,.cells cz 39)::(B++C)):=hM.perm (by classical rw [List.perm_iff_count];intro z;simp only [List.count_append,List.count_cons];omega);have f28:=hM2.free 0 rfl 28;have d28:wr.cell? ⟨g,28,none⟩=some (.slice sa j sc):=by rw [hM2.cell 0 rfl];exact hA28
   have hM3:=hM2.set 0 rfl 28 (.slice a m c');simp only [List.set_cons_zero] at hM3;rw [HAS.out] at hM3;obtain ⟨A2,hA2⟩:∃ A2,(cc c (.slice a m c')).toArray=A2:=⟨_,rfl⟩;have hsz:A2.size=29:=by rw [<-hA2,ax];exact je hcl _
   have hone:A2.all (·.oneCell')=true:=by rw [<-hA2];exact zx c rfl
   have i29:(prog.info? 39).map (·.size)=some A2.size:=by rw [hsz];kernel_rfl
   have z29:(cz:Array Value).size=A2.size:=by rw [hsz];rfl
   rw [hA2] at hM3;have HM3:Hid (Mem w (wr.setCell ⟨g,28,none⟩ (.slice a m c')) ((g,.cells A2 39)::(g+1,.cells cz 39)::(B++C))):=hM3;have HTS:Hid (TsB (.slice a m c') (zs.map aI) B C/\(cc c (.slice a m c')).toArray=A2):=⟨⟨xs,by rw [hfst,HTE.out],hB,hZB⟩,hA2⟩;clear hO hZB hfst hxl hM hM2 hM3 HR HX HT HTE hA2 hB HAS;go_upto_region 11 with fail;refine j5 (fun X=>Mem w X ((g,.cells A2 39)::(g+1,.cells cz 39)::(B++C))) (by exact HM3.out) ?_;intro V9 hM;clear HM3 f28 d28;have k1:=hM.get 0 rfl;have k2:=hM.get 1 rfl;have hM6:=hM.wrote 1 rfl (j8 V9 (g+1) _ A2 _ k2);have HQ:Hid ((V9.setRow (g+1) A2).heap[g+1]?=some (.cells A2 39)/\∃ u',Ending.returned (.agg A2)=.returned (.agg (cc c u').toArray)/\∃ B C,TsB u' (zs.map aI) B C/\Mem w (V9.setRow (g+1) A2) (B++C)) :=
    ⟨hM6.get 1 rfl,.slice a m c',by rw [HTS.out.2],B,C,HTS.out.1,hM6.sub.sub⟩
   clear hM hM6 HTS;go_wp2_with (first|(refine wpList_load_row rfl 39 (.tmp 1) (by with_reducible rfl) g (by first|rfl|simp [aE]) 39 A2 (0,0) _ k1 underlying39 rfl i29 ?_)|(refine wpList_store_row rfl 39 (.tmp 2) (.tmp 32) (by with_reducible rfl) (g+1) A2 (by first|rfl|simp [aE]) (by first|rfl|simp [aE]) 39 cz k2 i29 z29 hone ?_)|fail)
   refine bodyPost_ret (v:=.agg A2) ?_ rfl HQ.out.2;exact results_cell_row (p:=2) (ty:=39) rfl _ _ (g+1) 39 _ (0,0) _ rfl HQ.out.1 underlying39 rfl i29
end
section
open Go.RowKit Sm Cf Df Va Ad
theorem jep (s:ByteArray):(tchk { ten0 with name:=s }==90)=!(nam s.data.toList):=by
 obtain ⟨R,b⟩:∃ R,tchk { ten0 with name:=s }=fnz (ul 90 (nam s.data.toList)::ul 91 (wi 0 1 16777215)::R):=⟨_,rfl⟩;rw [b];generalize nam s.data.toList=r;cases r<;>rfl
theorem jmk (w:World) (s:ByteArray):TV w (.agg (tc { ten0 with name:=s } nilV nilV nilV).toArray) { ten0 with name:=s }:=by
 have h:=jn9 w { ten0 with name:=s } rfl rfl rfl;exact ⟨⟨rfl,rfl,rfl⟩,nilV,nilV,nilV,rfl,h.1,h.2.1,h.2.2⟩
theorem jdf (d:Vs w) (s:ByteArray) (hs:s.size<=1000000):Calls prog 75 #[.string s] w fun e V=>e=.returned (.bool (nam s.data.toList))/\Below w.heap.size w V:=by
 have C:=j2n d (jmk w s) ⟨hs,ah _,ah _,ah _⟩;have b:=jep s;generalize nam s.data.toList=r at b ⊢;generalize tchk { ten0 with name:=s }=k at C b;go_enter func75,ntmps75;go_wp2_with fail;refine C.mono ?_;rintro e V ⟨rfl,hb⟩;have c:=j4a k 90 V;rw [b] at c;go_wp2_with fail;refine c.mono ?_;rintro e _ ⟨rfl,rfl⟩;go_wp2_with fail;go_ret;exact ⟨rfl,hb⟩
def ftsB (ts:List Ten) (h:Chg):Bool:=nam h.name.data.toList && (if h.put then (h.name.toList==h.t.name.toList) else (Df.look nk h.name.data.toList ts).isSome)
theorem jdm (U:Vs w) {h:List Tv} (N:ZV w v h) (m:∀ z∈h,Nf z.1) (Y:h.length<=1000) {y:Hv} (Z:TLen y.1.t) (hr:Rws w (yz y)) (hs:y.1.name.size<=1000000) :
 Calls prog 54 #[.agg (yc y).toArray,v] w fun e V=>e=.returned (.bool (ftsB (h.map aI) y.1))/\Below w.heap.size w V:=by
 obtain ⟨g,hg⟩:∃ g,w.heap.size=g:=⟨_,rfl⟩;obtain ⟨A,I⟩:∃ A,(yc y).toArray=A:=⟨_,rfl⟩;have f:Mem w (w.alloc (.cells A 48)) [(g,.cells A 48)]:=(Mem.nil w).push1 hg.symm;have M:Hid (∀ V,Mem w V [(g,.cells A 48)]->V.cell? ⟨g,0,none⟩=some (.bool y.1.put)/\V.cell? ⟨g,1,none⟩=some (.string y.1.name)/\V.cell? ⟨g,2,none⟩=some (.string y.1.t.name)):=by
  intro V C;refine ⟨?_,?_,?_⟩<;>· rw [C.cell 0 rfl,<-I];rfl
 have P:Hid (∀ V,Below w.heap.size w V->Calls prog 76 #[v,.string y.1.name] V fun e X=>∃ A,e=.returned (.tuple #[.agg A,.bool (Df.look nk y.1.name.data.toList (h.map aI)).isSome])/\TV X (.agg A) (fnd (h.map aI) y.1.name.data.toList)/\Below V.heap.size V X):=fun V C=>jkd (N.at_ C) m y.1.name Y;have O:Hid (∀ V,Below w.heap.size w V->Calls prog 75 #[.string y.1.name] V fun e X=>e=.returned (.bool (nam y.1.name.data.toList))/\Below V.heap.size V X):=fun V C=>jdf (U.below C) _ hs;have c:=M.out _ f;have Q:=O.out _ f.below;rw [I];obtain ⟨R,i⟩:∃ R,ftsB (h.map aI) y.1=R:=⟨_,rfl⟩;rw [i];unfold ftsB at i;have D:Hid (Mem w (w.alloc (.cells A 48)) [(g,.cells A 48)]):=f;generalize nam y.1.name.data.toList=T at *;generalize (Df.look nk y.1.name.data.toList (h.map aI)).isSome=fr at *;clear N m Z hr hs f O I;obtain ⟨c0,c1,c2⟩:=c;go_enter func54,ntmps54;go_wp2_with fail;refine Q.mono ?_;rintro e V ⟨rfl,hb⟩;have d:=D.out.after hb;obtain ⟨L,d1,d2⟩:=M.out _ d;have b:Hid (Mem w V [(g,.cells A 48)]):=d;have S:=P.out _ d.below;clear Q D c0 c1 c2 hb M P d;cases T
 ·go_wp2_with fail;go_ret;exact ⟨by rw [<-i];rfl,b.out.below⟩
 ·cases hp:y.1.put
  ·rw [hp] at L i;go_wp2_with fail;refine S.mono ?_;rintro e X ⟨B,rfl,hT,hb⟩;obtain ⟨G,p,s,q,e,E⟩:=hT;simp only [aa.injEq] at e;have r:B.size=33:=by rw [e,ax];exact ji G _ _ _
   have x:B.all (·.oneCell')=true:=by rw [e];exact j23 _ (km E.1) (km E.2.1) (km E.2.2)
   have F:(prog.info? 46).map (·.size)=some B.size:=by rw [r];kernel_rfl
   obtain ⟨J,j⟩:∃ g,X.heap.size=g:=⟨_,rfl⟩;have H:(X.alloc (.cells tz 46)).heap[J]?=some (.cells tz 46):=by rw [<-j];exact heap_alloc_new _ _
   have l:Below w.heap.size w X:=b.out.below.trans (hb.mono b.out.below.size);have HE:Hid (Below w.heap.size w ((X.alloc (.cells tz 46)).setRow J B)):=by
    rw [<-j,World.setRow_alloc_new];exact l.alloc l.size _
   have o:(tz:Array Value).size=B.size:=by rw [r];rfl
   clear e E hb l b S L d1 d2;go_wp2_with (refine wpList_store_row rfl 46 (.tmp 5) (.tmp 24) (by with_reducible rfl) J B (by simp [aE];try exact j) (by first|rfl|simp [aE]) 46 tz H F o x ?_)
   go_ret;exact ⟨by rw [<-i];rfl,HE.out⟩
  ·rw [hp] at L i;simp only [if_true,Bool.true_and] at i;go_wp2_with fail;go_ret;exact ⟨by rw [<-i];simp<;>rfl,b.out.below⟩
end
section
open Go.RowKit Va
structure CBx (w:World) (cl:List Value) (c:Cgf) (ta:Option Addr) (tp:Nat):Prop where
 len:cl.length=29
 one:cl.toArray.all (·.oneCell')=true
 ip:cl[0]?=some (.int .u32 c.ip)
 drain:cl[27]?=some (.int .u32 c.drain)
 ten:cl[28]?=some (.slice ta c.ten.length tp)
 cv:CV w (.agg cl.toArray) c
 ts:TSV w (.slice ta c.ten.length tp) c.ten
theorem CV.tb {c:Cgf} (h:CV w v c):∃ cl ta tp,v=.agg cl.toArray/\CBx w cl c ta tp:=by
 have A:=h;obtain ⟨l,u,rfl,j⟩:=h;have i:=j;obtain ⟨ta,tp,rfl,-⟩:=j.parts;refine ⟨_,ta,tp,rfl,je l _,zx c rfl,?_,?_,?_,A,i⟩
 all_goals
  obtain ⟨G,E,D,C,F,O,ts⟩:=c;obtain ⟨z,r,o,m⟩:=l;obtain ⟨a,b,c,d,f,g,x,y,rfl⟩:=kt m;obtain ⟨a1,b1,Y,S,N,J,rfl⟩:=six6 z;obtain ⟨a2,b2,U,Q,M,I,rfl⟩:=six6 r;obtain ⟨a3,Z,T,P,L,H,rfl⟩:=six6 o;rfl
theorem CBx.later {c:Cgf} (h:CBx w cl c ta tp) (hb:Below w.heap.size w V):CBx V cl c ta tp :=
 { h with cv:=h.cv.at_ hb (ai _),ts:=h.ts.at_ hb (ai _) }
def CBo (W:World) (g:Nat) (c:Cgf):Prop:=∃ cl ta tp,W.heap[g]?=some (.cells cl.toArray 39)/\CBx W cl c ta tp
theorem CBo.later {c:Cgf} (h:CBo W g c) (hb:Below W.heap.size W V):CBo V g c:=by
 obtain ⟨cl,ta,tp,b,d⟩:=h;exact ⟨cl,ta,tp,by rw [hb.block g (Array.getElem?_eq_some_iff.mp b).1];exact b,d.later hb⟩
theorem jrd (h:cl.length=29):(prog.info? 39).map (·.size)=some cl.toArray.size:=by rw [ax,h];kernel_rfl
theorem cell_later (hb:Below W.heap.size W V) {j:Nat} (h:W.cell? ⟨g,j,none⟩=some v):V.cell? ⟨g,j,none⟩=some v:=by rw [hb.cell (p:=⟨g,j,none⟩) (j9 h)];exact h
theorem TSV.head {c:Nat} {ts:List Ten} (h:TSV w (.slice a n c) ts) (i:Nat) (hi:i<=ts.length):TSV w (.slice a i c) (ts.take i):=by
 obtain ⟨b,d,l,j⟩:=h;have m:(b.map zc).length=ts.length:=by rw [<-d];simp
 refine ⟨b.take i,by rw [ay,d],?_,fun z f=>j z (List.mem_of_mem_take f)⟩;rw [ay];exact l.head i (by omega)
theorem gq1 {c:Cgf} (h:CBo W g c):Ask W 106 #[.pointer (some ⟨g,0,none⟩)] (c.ip != 0):=by
 refine ⟨enters_of func106 (by kernel_rfl) rfl,fun V d=>?_⟩;obtain ⟨cl,ta,tp,b,hx⟩:=h.later d;have f:=jb b hx.ip;clear h b hx;simp only [az,aA,aB,aJ];generalize c.ip=x at *;go_enter func106,ntmps106;go_wp2_with fail;go_ret;exact ⟨rfl,ak _ _⟩
theorem gq2 {c:Cgf} (h:CBo W g c):Ask W 107 #[.pointer (some ⟨g,0,none⟩)] (decide (c.drain<=1000)):=by
 refine ⟨enters_of func107 (by kernel_rfl) rfl,fun V d=>?_⟩;obtain ⟨cl,ta,tp,b,hx⟩:=h.later d;have f:=jb b hx.drain;clear h b hx;simp only [az,aA,aB,aJ];generalize c.drain=x at *;go_enter func107,ntmps107;go_wp2_with fail;go_ret;exact ⟨rfl,ak _ _⟩
theorem gq3 {c:Cgf} (h:CBo W g c):Ask W 108 #[.pointer (some ⟨g,0,none⟩)] (decide ((c.ten.length:Int)<=16)):=by
 refine ⟨enters_of func108 (by kernel_rfl) rfl,fun V d=>?_⟩;obtain ⟨cl,ta,tp,b,hx⟩:=h.later d;have f:=jb b hx.ten;clear h b hx;simp only [az,aA,aB,aJ];generalize c.ten.length=x at *;go_enter func108,ntmps108;go_wp2_with fail;go_ret;exact ⟨rfl,ak _ _⟩
theorem jdh {c:Cgf} (h:CV W v c):Calls prog 83 #[v] W (Rls W (grs c)):=by
 obtain ⟨cl,ta,tp,rfl,hx⟩:=h.tb;have Q:=mkf;obtain ⟨g,G⟩:∃ g,W.heap.size=g:=⟨_,rfl⟩;have r:Mem W (W.alloc (.cells cl.toArray 39)) [(g,.cells cl.toArray 39)]:=(Mem.nil W).push1 G.symm;have x:Hid (Mem W (W.alloc (.cells cl.toArray 39)) [(g,.cells cl.toArray 39)]):=r;have O:Hid (∀ X,Mem W X [(g,.cells cl.toArray 39)]->CBo X g c):=fun X N=>⟨cl,ta,tp,N.get 0 rfl,hx.later N.below⟩;have P:Hid (grs c=[ul 96 (c.ip != 0),ul 96 (decide (c.drain<=1000)),ul 96 (decide ((c.ten.length:Int)<=16))]):=rfl;clear r h hx;generalize grs c=ES at *;generalize cl.toArray=A at *;go_enter func83,ntmps83;go_upto_region 1 with fail;refine j5 (fun X=>Mem W X [(g,.cells A 39)]) (by exact x.out) ?_;intro J j
 try simp only [G]
 clear x G;have z:Hid (CBo J g c/\Below W.heap.size W J):=⟨O.out J j,j.below⟩;clear O j;go_wp2_with fail;refine (jh (gq1 z.out.1) 96).mono ?_;rintro _ I ⟨E,f,rfl,hr,hb⟩;have m:Hid (CBo I g c/\Below W.heap.size W I/\RlsL I _ _):=⟨z.out.1.later hb,z.out.2.trans (hb.mono z.out.2.size),.cons hr .nil⟩;clear z hr hb;go_wp2_with fail;refine (jh (gq2 m.out.1) 96).mono ?_;rintro _ H ⟨D,d,rfl,hr,hb⟩;have y:Hid (CBo H g c/\Below W.heap.size W H/\RlsL H _ _):=⟨m.out.1.later hb,m.out.2.1.trans (hb.mono m.out.2.1.size),(m.out.2.2.later hb).snoc hr⟩;clear m hr hb;go_wp2_with fail;refine (jh (gq3 y.out.1) 96).mono ?_;rintro _ l ⟨C,b,rfl,hr,hb⟩;have M:Hid (Below W.heap.size W l/\RlsL l _ _):=⟨y.out.2.1.trans (hb.mono y.out.2.1.size),(y.out.2.2.later hb).snoc hr⟩;clear y hr hb;obtain ⟨F,o⟩:∃ F,l.heap.size=F:=⟨_,rfl⟩;have hF:=jff (cs:=#[.func (.func E) #[] f,.func (.func D) #[] d,.func (.func C) #[] b]) M.out.2 M.out.1 o rfl;have L:Hid ((∀ i,i<ES.length->∃ k c,(l.alloc (.cells #[.func (.func E) #[] f,.func (.func D) #[] d,.func (.func C) #[] b] 173)).cell? ⟨F,i,none⟩=some (.func (.func k) #[] c)/\Rul (l.alloc (.cells #[.func (.func E) #[] f,.func (.func D) #[] d,.func (.func C) #[] b] 173)) k c (ES.getD i 0))/\Below W.heap.size W (l.alloc (.cells #[.func (.func E) #[] f,.func (.func D) #[] d,.func (.func C) #[] b] 173))/\ES.length=3):=by
  rw [P.out];exact ⟨hF.1,hF.2,rfl⟩
 clear M P hF;go_wp2_with fail;go_ret;refine ⟨F,?_,L.out.1,L.out.2.1⟩;rw [L.out.2.2,<-o];rfl
end
section
open Go.RowKit La Ad
end
section
open Go.RowKit Sm Cf Df
namespace Df
end Df
end
end Go.Proofs.YtdigofgjhaakmaaGreatDoor
