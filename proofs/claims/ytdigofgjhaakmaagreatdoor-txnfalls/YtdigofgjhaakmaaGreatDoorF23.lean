/- Parts of the proof. -/
import Derived.Test.YtdigofgjhaakmaaGreatDoorF22
import Derived.Lib.LaidU8T
import Derived.PinnedBridge
import Derived.LaidMore
import Derived.Lay
import Derived.Shelf.Vars
import Derived.Stop.Joined
set_option linter.all false
set_option maxHeartbeats 40000000
set_option maxRecDepth 20000
open Go.Proofs.Tryz
open List renaming flatten_cons->aa,length_append->ab,length_cons->ac,getElem?_eq_getElem->ae,mem_map->af,perm_middle->ag,append_assoc->ah,any_eq_true->ai
open Nat renaming succ_mul->aj,zero_add->ak,le_refl->al
open Go.Builtin renaming append_->am
open Go.Act renaming eval->an
open Bool renaming false_and->ao,true_and->ap
open Go.Op renaming bytesLess->aq
open UInt8 renaming lt_irrefl->ar
namespace Go.Proofs.YtdigofgjhaakmaaGreatDoor
variable {l r:List Int} {w W:World} {x e:Int} {L:List (Nat×Obj)} {sz g:Nat} {a:Option Addr} {A:Array Value} {T:TypeId} {ad:Addr} {z v:Value} {b:Bool}
section
open Go.RowKit Sm Cf Df
namespace Df
theorem jon {α:Type} (c:0<sz) (xs:List (List α)) (hx:∀ x∈xs,x.length=sz) (j:Nat) (u:α) (h:xs.flatten[j]?=some u):j / sz<xs.length/\(xs.getD (j / sz) [])[j % sz]?=some u:=by
 have i:xs.flatten.length=xs.length*sz:=by
  clear h
  induction xs with
  | nil=>simp
  | cons x xs ih=>rw [aa,ab,hx x (by simp),ih fun y f=>hx y (by simp [f]),ac,aj];omega
 have k:=(List.getElem?_eq_some_iff.mp h).1;have hd:j / sz<xs.length:=(Nat.div_lt_iff_lt_mul c).2 (by omega);refine ⟨hd,?_⟩;have d:j % sz<(xs.getD (j / sz) []).length:=by
  have:xs.getD (j / sz) []∈xs:=by
   rw [List.getD_eq_getElem?_getD,ae hd,Option.getD_some];exact List.getElem_mem _
  rw [hx _ this];exact Nat.mod_lt _ c
 have:=j2h xs (j / sz) (j % sz) _ hx (ae d);rw [Nat.mul_comm,Nat.div_add_mod,h] at this;rw [ae d,<-this]
theorem j3v (d:0<sz) {m c:Nat} {xs:List (List Value)} (h:Rw W sz (.slice a m c) xs) (hx:∀ x∈xs,x.length=sz) (k:a=some ad):∀ j u,xs.flatten[j]?=some u->W.cell? (ad.add j)=some u:=by
 intro j u i;obtain ⟨hd,f⟩:=jon d xs hx j u i;obtain ⟨y,t,e,s,q,p,o⟩:=h;simp only [Value.slice.injEq] at e;obtain ⟨rfl,-,rfl⟩:=e;rcases o with e|⟨b,off,e,hc⟩
 ·rw [e] at hd;simp at hd
 ·rw [k] at e;cases e;have:=hc (j / sz) hd (j % sz) u f;rw [Addr.add_mid];rw [Nat.add_assoc,Nat.mul_comm,Nat.div_add_mod] at this;exact this
theorem kj (N:Mem w W L) {t e ty:TypeId} {d:Nat} (C:prog.underlying t=some (.slice e)) (hi:(prog.info? e).map (fun i=>(i.zero,i.size,i.bytes))=some (some z,sz,d)) (j:z.cells.size=sz) (f:0<sz)
  {xs:List (List Value)} (h:Rw W sz v xs) (hx:∀ x∈xs,x.length=sz) (D:∀ x∈xs,∀ u∈x,u.oneCell'=true) (M:xs.length<=maxLen) (hb:xs.length*d<=140737488355328) :
  ∃ B F,(am #[t,t] ty #[.slice none 0 0,v]).run prog W=.ok B F/\Ow w F e sz B xs.length xs.flatten L:=by
 have o:Ow w W e sz (.slice none 0 0) 0 [] L:=Ow.nil N;have E:=h;obtain ⟨a,c,rfl,I,O,H,G⟩:=h;cases a with
 | none =>
  have hc:c=0:=H rfl;subst hc;have p:xs=[]:=List.eq_nil_of_length_eq_zero (by omega);subst p;obtain ⟨i,q,-,-,-⟩:=info_parts hi;exact ⟨_,_,run_append_owned_none (P:=prog) W w.heap.size t ty e i sz C q _ _ _ o.owns,o⟩
 | some ad =>
  have s:xs.flatten.length=xs.length*sz:=by
   clear E G hb M D I
   induction xs with
   | nil=>simp
   | cons x xs ih=>rw [aa,ab,hx x (by simp),ih fun y J=>hx y (by simp [J]),ac,aj];omega
  have:=yi (ty:=ty) C hi j f o ad xs.length c xs.flatten s (j3v f E hx rfl) (by
   intro u K;obtain ⟨x,k,m⟩:=List.mem_flatten.mp K;exact D x k u m) (by omega) (by rw [ak];exact hb)
  rw [ak,List.nil_append] at this;exact this
theorem jpq:∀ x∈ux l,x.length=1:=by
 intro x hx;simp only [ux,af] at hx;obtain ⟨y,-,rfl⟩:=hx;rfl
theorem jj5 {l:List (Int×Int)}:∀ x∈px l,x.length=2:=by
 intro x hx;simp only [px,af] at hx;obtain ⟨y,-,rfl⟩:=hx;rfl
theorem jpr:∀ x∈ux l,∀ u∈x,u.oneCell'=true:=by
 intro x hx u c;simp only [ux,af] at hx;obtain ⟨y,-,rfl⟩:=hx;simp at c;subst c;rfl
theorem jj6 {l:List (Int×Int)}:∀ x∈px l,∀ u∈x,u.oneCell'=true:=by
 intro x hx u c;simp only [px,af] at hx;obtain ⟨y,-,rfl⟩:=hx;simp at c;rcases c with rfl|rfl<;>rfl
theorem jax {t:Ten} (h:TLen t) (p s q v:Value):(tc t p s q).toArray.setIfInBounds 23 v=(tc t v s q).toArray:=by
 obtain ⟨n,o,key,m,u,H,F,G,hi,K,st,B,C,E,D,S⟩:=t;obtain ⟨k,j,i⟩:=h;obtain ⟨a,b,c,d,f,g,x,y,rfl⟩:=kt k;obtain ⟨Y,V,R,P,N,J,rfl⟩:=six6 j;obtain ⟨X,U,Q,O,M,I,rfl⟩:=six6 i;rfl
theorem jaw {t:Ten} (h:TLen t) (p s q v:Value):(tc t p s q).toArray.setIfInBounds 27 v=(tc t p v q).toArray:=by
 obtain ⟨n,o,key,m,u,H,F,G,hi,K,st,B,C,E,D,S⟩:=t;obtain ⟨k,j,i⟩:=h;obtain ⟨a,b,c,d,f,g,x,y,rfl⟩:=kt k;obtain ⟨Y,V,R,P,N,J,rfl⟩:=six6 j;obtain ⟨X,U,Q,O,M,I,rfl⟩:=six6 i;rfl
theorem jav {t:Ten} (h:TLen t) (p s q v:Value):(tc t p s q).toArray.setIfInBounds 28 v=(tc t p s v).toArray:=by
 obtain ⟨n,o,key,m,u,H,F,G,hi,K,st,B,C,E,D,S⟩:=t;obtain ⟨k,j,i⟩:=h;obtain ⟨a,b,c,d,f,g,x,y,rfl⟩:=kt k;obtain ⟨Y,V,R,P,N,J,rfl⟩:=six6 j;obtain ⟨X,U,Q,O,M,I,rfl⟩:=six6 i;rfl
theorem j13 {t:Ten} (h:TLen t) (p s q:Value):(tc t p s q).toArray[0]?=some (.string t.name)/\(tc t p s q).toArray[23]?=some p/\(tc t p s q).toArray[27]?=some s/\(tc t p s q).toArray[28]?=some q:=by
 obtain ⟨n,o,key,m,u,H,F,G,hi,K,st,B,C,E,D,S⟩:=t;obtain ⟨k,j,i⟩:=h;obtain ⟨a,b,c,d,f,g,x,y,rfl⟩:=kt k;obtain ⟨Y,V,R,P,N,J,rfl⟩:=six6 j;obtain ⟨X,U,Q,O,M,I,rfl⟩:=six6 i;exact ⟨rfl,rfl,rfl,rfl⟩
theorem zg {B:List (Nat×Obj)} (h:Mem w W (B++((g,.cells A T (0,0))::L))) (j:Nat) (v:Value):Mem w (W.setCell ⟨g,j,none⟩ v) ((g,.cells (A.setIfInBounds j v) T (0,0))::(B++L)):=by
 have c:Mem w W ((g,.cells A T (0,0))::(B++L)):=h.perm ag;exact c.set 0 rfl j v
theorem j5e {z:Tv} (i:TLen z.1) (hr:Rws w z) (hf:TFew z.1):Calls prog 79 #[tv z] w fun e V=>∃ H C,e=.returned (tv H)/\H.1=z.1/\ZB H C/\Mem w V C:=by
 obtain ⟨t,p,s,q⟩:=z;obtain ⟨r1,r2,r3⟩:=hr;obtain ⟨f1,f2,f3⟩:=hf;simp only at i r1 r2 r3 f1 f2 f3;have o1:(tc t p s q).toArray.all (·.oneCell')=true:=j23 t (km r1) (km r2) (km r3);have u1:(ux t.pool).length=t.pool.length:=by simp [ux]
 have u2:(px t.stat).length=t.stat.length:=by simp [px]
 have u3:(px t.twi).length=t.twi.length:=by simp [px]
 obtain ⟨g,hg⟩:∃ g,w.heap.size=g:=⟨_,rfl⟩;have Q:Hid (Mem w ((w.alloc (.cells (tc t p s q).toArray 46)).alloc (.cells tz 46)) [(g,.cells (tc t p s q).toArray 46),(g+1,.cells tz 46)]):=by
  have:=ql w (.cells (tc t p s q).toArray 46) (.cells tz 46);rw [hg] at this;exact this.perm (List.Perm.swap _ _ _)
 have S1:Hid (∀ V,Mem w V [(g,.cells (tc t p s q).toArray 46),(g+1,.cells tz 46)]->V.cell? ⟨g,23,none⟩=some p/\∃ a m c f B,(am #[43,43] 43 #[.slice none 0 0,p]).run prog V=.ok (.slice a m c) f/\f.frozen? ⟨g,23,none⟩=false/\f.cell? ⟨g,23,none⟩=some p /\
   OwB 33 1 (.slice a m c) t.pool.length (ux t.pool).flatten B/\Mem w (f.setCell ⟨g,23,none⟩ (.slice a m c)) ((g,.cells (tc t (.slice a m c) s q).toArray 46)::(B++[(g+1,.cells tz 46)]))):=by
  intro V j;obtain ⟨v',f,h,D⟩:=kj (ty:=43) j underlying43 j86 rfl (by decide) (r1.below j1g j.below (al _)) jpq jpr (by unfold maxLen;omega) (by omega);rw [u1] at D;obtain ⟨B,F,E⟩:=D.owb;obtain ⟨a,m,c,rfl⟩:=js F;have d:Mem w f ((g,.cells (tc t p s q).toArray 46)::(B++[(g+1,.cells tz 46)])):=E.perm ag;have:=zg E 23 (.slice a m c);rw [jax i] at this;exact ⟨by rw [j.cell 0 rfl];exact (j13 i p s q).2.1,a,m,c,f,B,h,d.free 0 rfl 23,by rw [d.cell 0 rfl];exact (j13 i p s q).2.1,F,this⟩
 have S2:Hid (∀ V p' G,Mem w V ((g,.cells (tc t p' s q).toArray 46)::(G++[(g+1,.cells tz 46)]))->V.cell? ⟨g,27,none⟩=some s/\∃ a m c f B,(am #[44,44] 44 #[.slice none 0 0,s]).run prog V=.ok (.slice a m c) f/\f.frozen? ⟨g,27,none⟩=false/\f.cell? ⟨g,27,none⟩=some s /\
   OwB 122 2 (.slice a m c) t.stat.length (px t.stat).flatten B/\Mem w (f.setCell ⟨g,27,none⟩ (.slice a m c)) ((g,.cells (tc t p' (.slice a m c) q).toArray 46)::(B++(G++[(g+1,.cells tz 46)])))):=by
  intro V p' G j;obtain ⟨v',f,h,D⟩:=kj (ty:=44) j underlying44 jgj rfl (by decide) (r2.below zj j.below (al _)) jj5 jj6 (by unfold maxLen;omega) (by omega);rw [u2] at D;obtain ⟨B,F,E⟩:=D.owb;obtain ⟨a,m,c,rfl⟩:=js F;have d:Mem w f ((g,.cells (tc t p' s q).toArray 46)::(B++(G++[(g+1,.cells tz 46)]))):=E.perm ag;have:=zg E 27 (.slice a m c);rw [jaw i] at this;exact ⟨by rw [j.cell 0 rfl];exact (j13 i p' s q).2.2.1,a,m,c,f,B,h,d.free 0 rfl 27,by rw [d.cell 0 rfl];exact (j13 i p' s q).2.2.1,F,this⟩
 have S3:Hid (∀ V p' s' K,Mem w V ((g,.cells (tc t p' s' q).toArray 46)::K)->V.cell? ⟨g,28,none⟩=some q/\∃ a m c f B,(am #[44,44] 44 #[.slice none 0 0,q]).run prog V=.ok (.slice a m c) f/\f.frozen? ⟨g,28,none⟩=false/\f.cell? ⟨g,28,none⟩=some q /\
   OwB 122 2 (.slice a m c) t.twi.length (px t.twi).flatten B/\Mem w (f.setCell ⟨g,28,none⟩ (.slice a m c)) ((g,.cells (tc t p' s' (.slice a m c)).toArray 46)::(B++K))):=by
  intro V p' s' K j;obtain ⟨v',f,h,D⟩:=kj (ty:=44) j underlying44 jgj rfl (by decide) (r3.below zj j.below (al _)) jj5 jj6 (by unfold maxLen;omega) (by omega);rw [u3] at D;obtain ⟨B,F,E⟩:=D.owb;obtain ⟨a,m,c,rfl⟩:=js F;have d:Mem w f ((g,.cells (tc t p' s' q).toArray 46)::(B++K)):=E.perm ag;have:=zg E 28 (.slice a m c);rw [jav i] at this;exact ⟨by rw [j.cell 0 rfl];exact (j13 i p' s' q).2.2.2,a,m,c,f,B,h,d.free 0 rfl 28,by rw [d.cell 0 rfl];exact (j13 i p' s' q).2.2.2,F,this⟩
 clear r1 r2 r3;show Calls prog 79 #[.agg (tc t p s q).toArray] w _;obtain ⟨A,hA⟩:∃ A,(tc t p s q).toArray=A:=⟨_,rfl⟩;rw [hA] at Q S1 o1 ⊢;clear hA;go_enter func79,ntmps79;go_upto_region 1 with fail;refine j5 (fun X=>Mem w X [(g,.cells A 46),(g+1,.cells tz 46)]) (by exact Q.out) ?_;intro V0 a6
 try simp only [hg]
 clear Q hg;obtain ⟨c1,a1,U,d1,V1,G,a0,a9,b2,P,a5⟩:=S1.out V0 a6;clear S1 a6;go_upto_region 2 with (first|(at_builtin;refine wpList_append_run _ (.tmp 4) 43 43 (by with_reducible rfl) a0 rfl rfl (by first|rfl|simp [an]) (by first|rfl|simp [an]) ?_)|fail)
 clear a0 c1 a9 b2;generalize V1.setCell ⟨g,23,none⟩ (.slice a1 U d1)=V2 at *;obtain ⟨c2,a2,S,d2,V3,B2,Z,a8,b1,O,d⟩:=S2.out V2 _ _ a5;clear S2 a5;go_upto_region 3 with (first|(at_builtin;refine wpList_append_run _ (.tmp 8) 44 44 (by with_reducible rfl) Z rfl rfl (by first|rfl|simp [an]) (by first|rfl|simp [an]) ?_)|fail)
 clear Z c2 a8 b1;generalize V3.setCell ⟨g,27,none⟩ (.slice a2 S d2)=V4 at *;obtain ⟨c3,a3,R,d3,V5,B3,Y,a7,b0,N,a4⟩:=S3.out V4 _ _ _ d;clear S3 d;go_upto_region 4 with (first|(at_builtin;refine wpList_append_run _ (.tmp 12) 44 44 (by with_reducible rfl) Y rfl rfl (by first|rfl|simp [an]) (by first|rfl|simp [an]) ?_)|fail)
 clear Y c3 a7 b0;generalize V5.setCell ⟨g,28,none⟩ (.slice a3 R d3)=V6 at *;have J:(tc t (.slice a1 U d1) (.slice a2 S d2) (.slice a3 R d3)).toArray.size=33:=by rw [List.size_toArray];exact ji i _ _ _
 have y:(tc t (.slice a1 U d1) (.slice a2 S d2) (.slice a3 R d3)).toArray.all (·.oneCell')=true:=j3n _ (j01 P) (j01 O) (j01 N);obtain ⟨k,u⟩:∃ A,(tc t (.slice a1 U d1) (.slice a2 S d2) (.slice a3 R d3)).toArray=A:=⟨_,rfl⟩;have o:Mem w V6 ((g,.cells k 46)::(g+1,.cells tz 46)::(B3++(B2++G))):=by
  rw [<-u];exact a4.perm (by
   refine List.Perm.cons _ ?_;rw [<-ah,<-ah,<-ah];exact List.perm_append_comm)
 rw [u] at J y;have I:(prog.info? 46).map (·.size)=some k.size:=by rw [J];kernel_rfl
 have k4:=o.get 0 rfl;have k5:=o.get 1 rfl;have M:=o.wrote 1 rfl (j8 V6 (g+1) _ k _ k5);have HQ:Hid ((V6.setRow (g+1) k).heap[g+1]?=some (.cells k 46)/\∃ (H:Tv) (C:List (Nat×Obj)),Ending.returned (.agg k)=.returned (tv H)/\H.1=t/\ZB H C/\Mem w (V6.setRow (g+1) k) C):=by
  refine ⟨M.get 1 rfl,(t,.slice a1 U d1,.slice a2 S d2,.slice a3 R d3),B3++(B2++G),by rw [<-u];rfl,rfl,⟨i,G,B2,B3,fun x hx=>hx,P,O,N⟩,M.sub.sub⟩
 clear a4 o M P O N u;go_wp2_with (first|(refine wpList_load_row rfl 46 (.tmp 1) (by with_reducible rfl) g (by first|rfl|simp [an]) 46 k (0,0) _ k4 underlying46 rfl I ?_)|(refine wpList_store_row rfl 46 (.tmp 2) (.tmp 15) (by with_reducible rfl) (g+1) k (by first|rfl|simp [an]) (by first|rfl|simp [an]) 46 tz k5 I (by rw [J];rfl) y ?_))
 refine bodyPost_ret (v:=.agg k) ?_ rfl HQ.out.2;exact results_cell_row (p:=2) (ty:=46) rfl _ _ (g+1) 46 _ (0,0) _ rfl HQ.out.1 underlying46 rfl I
end Df
end
section
open Go.ChangeShapes Go.WideShapes Go.RowKit
theorem jjz:U8Extra prog Tryz.lays196_ren:={
 n3:=by kernel_rfl
 n4:=by kernel_rfl
 y3:=by kernel_rfl
 y4:=by kernel_rfl
 c5:=by kernel_rfl
 c119:=by kernel_rfl
 c138:=by kernel_rfl }
theorem jr5:(Rows.laid_unicode_utf8_acceptRanges:DataW Unit)=Lib.acceptData:=by kernel_rfl
theorem jjy:Rows.laid_unicode_utf8_first=Lib.firstData:=Pinned.utf8First_eq
theorem returns_of {H:Type} {enc:TypeId×Value->H} {a:Assume} {C:Checked} {os:Os} {f:FuncId} {y:Func} {s:ChangeSpec} {u:List PathCond} {c q k again:Bool} {l:List (String×DataW Unit)}
  (own:ownKnob C.prog.godebug=none) (p:os.Started) (B:C.prog.inits.idxOf? f=none) (K:C.prog.funcs[f]?=some y)
  (o:∃ (w:World) (d:Tape) (i:Input),w.os=os/\(w.forCall d i).Shaped C.prog/\i.vars=[]/\Input.okWide C.prog (w.forCall d i) .any w.heap.size f i /\
   ((s.pre enc C.prog y u c (w.forCall d i).memory i.args/\laidMetH C.prog l (w.forCall d i).memory)/\sizedMet enc C.prog y (OpenSpec.ofChange s) c (w.forCall d i).memory i.args)/\a.holds C.prog (lone (Frame.enter C.prog f i.args .normal) [] (w.forCall d i)))
  (m:∀ (W:World) (base:Nat) (args:Array Value) (N gs:List (DataW H)) (h:List MemPlace),
   (∀ (j:Nat) t v,y.params[j]?=some t->args[j]?=some v->Value.okWide C.prog W .any base t v) ->
   DataW.Whole enc C.prog y.params.toList s.vars c W args.toList N gs h ->
   laidMetH C.prog l W->W.ShapedOpen C.prog ->
   Calls C.prog f args W fun e O=>∃ v,e=.returned v/\s.post enc C.prog y c q k again W args v O) :
  ReturnsInHanded a C os f .any (fun w args=>(s.pre enc C.prog y u c w args/\laidMetH C.prog l w)/\sizedMet enc C.prog y (OpenSpec.ofChange s) c w args) (s.post enc C.prog y c q k again):=by
 refine returnsInHanded_of_calls own p B o fun w d i _ G _ J E _=>?_;obtain ⟨_,_,_,M,F,_,_,_,_,D⟩:=J;obtain rfl:M=y:=Option.some.inj (F.symm.trans K);obtain ⟨⟨⟨N,gs,h,hw,_⟩,P⟩,_⟩:=E;refine (m (w.forCall d i) w.heap.size i.args N gs h D (DataW.Whole.of_heap (w':=w.forCall d i) (by rfl) hw) (P.of_heap (by rfl)) G).mono fun e O I=>?_;obtain ⟨v,rfl,I⟩:=I;exact ChangeSpec.post_blind I
end
section
open Go.RowKit Ad
namespace Ad
end Ad
theorem j80 (r:Nat) (w:World):Calls prog 259 #[.int .i32 (r:Int)] w fun e w'=>e=.returned (.bool (mb r))/\w=w':=by
 have hc:(¬(97:Int)<=r)\/((97:Int)<=r/\(r:Int)<=122)\/((97:Int)<=r/\¬(r:Int)<=122/\¬(127:Int)<r)\/((97:Int)<=r/\¬(r:Int)<=122/\(127:Int)<r):=by omega
 rcases hc with h1|⟨h1,h2⟩|⟨h1,h2,c⟩|⟨h1,h2,c⟩
 ·have c:¬(127:Int)<r:=by omega
  have e:mb r=false:=by unfold mb;simp;omega
  rw [e];go_enter func259,ntmps259
  go_wp2
  go_ret;exact ⟨rfl,rfl⟩
 ·have e:mb r=true:=by unfold mb;simp;omega
  rw [e];go_enter func259,ntmps259
  go_wp2
  go_ret;exact ⟨rfl,rfl⟩
 ·have e:mb r=false:=by unfold mb;simp;omega
  rw [e];go_enter func259,ntmps259
  go_wp2
  go_ret;exact ⟨rfl,rfl⟩
 ·have e:mb r=true:=by unfold mb;simp;omega
  rw [e];go_enter func259,ntmps259
  go_wp2
  go_ret;exact ⟨rfl,rfl⟩
theorem j6e (r:Nat) (w:World):Calls prog 260 #[.int .i32 (r:Int)] w fun e w'=>e=.returned (.bool (mf r))/\w=w':=by
 have d:=j9y (r:Int);by_cases hd:(48:Int)<=r/\(r:Int)<=57
 ·have e:mf r=true:=by unfold mf;simp;omega
  rw [e];rw [decide_eq_true hd] at d;clear hd;go_enter func260,ntmps260;go_wp2_with fail;refine (d _).mono ?_;rintro e w' ⟨rfl,rfl⟩;go_wp2_with fail;go_ret;exact ⟨rfl,rfl⟩
 ·rw [decide_eq_false hd] at d;by_cases h45:r=45
  ·have e:mf r=true:=by unfold mf;simp;omega
   have c:(((r:Nat):Int)==45)=true:=by simp;omega
   rw [e];clear hd h45;go_enter func260,ntmps260;go_wp2_with fail;refine (d _).mono ?_;rintro e w' ⟨rfl,rfl⟩;go_wp2_with fail;go_ret;exact ⟨rfl,rfl⟩
  ·have e:mf r=false:=by unfold mf;simp;omega
   have c:(((r:Nat):Int)==45)=false:=by simp;omega
   rw [e];clear hd h45;go_enter func260,ntmps260;go_wp2_with fail;refine (d _).mono ?_;rintro e w' ⟨rfl,rfl⟩;go_wp2_with fail;go_ret;exact ⟨rfl,rfl⟩
theorem jjh (H:Vs w) (s:ByteArray) (K:1<=s.size) (J:s.size<=32) :
  Calls prog 169 #[.string s] w fun e w'=>e=.returned (.bool (rn s.size true s.data.toList))/\Below w.heap.size w w':=by
 have C:=jed H s (by omega);have G:=j0c s;have i:=jnl s.size true s.data.toList (by omega);have z1:¬((s.size:Int)<1):=by omega
 have z2:¬((32:Int)<s.size):=by omega
 cases hv:Lib.validD s.data.toList with
 | false =>
  rw [hv,ao] at i;rw [<-i];rw [hv] at C;clear i;go_enter func169,ntmps169;go_wp2_with fail;refine C.mono ?_;rintro e j ⟨rfl,m⟩;go_wp2_with fail;go_ret;exact ⟨rfl,m⟩
 | true =>
  rw [hv,ap] at i;rw [<-i];rw [hv] at C;obtain ⟨R,E⟩:∃ R,pn s.size true s.data.toList=R:=⟨_,rfl⟩;rw [E];clear i;go_enter func169,ntmps169;go_wp2_with fail;refine C.mono ?_;rintro e j ⟨rfl,m⟩;have p:∀ c,Below w.heap.size w (j.iter s c):=fun c=>m.trans ((jde j s c).mono m.size);go_wp2_with fail
  go_loopw [] (fun w'=>∃ (c f:Nat),w'=j.iter s c/\s.size<=c+f/\pn f (decide (c=0)) (s.data.toList.drop c)=R) (fun w'=>s.size-w'.iterPos j.heap.size)
  case atStart=>exact ⟨0,s.size,rfl,by omega,by simpa using E⟩
  case round =>
   obtain ⟨c,f,rfl,I,hc⟩:=hrel;clear C E;by_cases hp:c<s.size
   ·have o:∀ ty,(Instr.next (.pointer (some ⟨j.heap.size,0,none⟩)) true ty).run prog (j.iter s c)=_:=fun ty=>run_next_any j s c ty hp;have B:s.data.toList.drop c≠[]:=by rw [j8h s c hp];simp
    rw [jnk B (by rw [List.length_drop];omega),Lib.decodeL_drop,List.drop_drop] at hc;have D:1<=(Utf8.decode s c).2:=by rw [<-Lib.decodeL_drop];exact Lib.decodeL_width _
    generalize (Utf8.decode s c).1=r at o hc;generalize (Utf8.decode s c).2=q at o hc D;have y:=j80 r;have u:=j6e r;have d:∀ (k:okr (decide (c=0)) r=true),pn (f-1) (decide (c+q=0)) (s.data.toList.drop (c+q))=R:=by
     intro k;rw [if_pos k] at hc;rw [show decide (c+q=0)=false by simp;omega];exact hc
    have h:okr (decide (c=0)) r=false->R=false:=by
     intro k;rw [k] at hc;exact hc.symm
    unfold okr at d h;clear hc B;cases hB:mb r with
    | true =>
     rw [hB] at y d;have hc:=d (by simp);clear d h u hB;go_wp2_with fail;refine (y _).mono ?_;rintro e w' ⟨rfl,rfl⟩;go_wp2_with fail;go_roundw
     case rel=>exact ⟨c+q,f-1,rfl,by omega,hc⟩
     case measure=>simp;omega
    | false =>
     rw [hB] at y d h;by_cases h0:c=0
     ·have t:=h (by simp [h0]);subst t;have F:(((c:Nat):Int)==0)=true:=by simp [h0]
      clear d h u hB h0;go_wp2_with fail;refine (y _).mono ?_;rintro e w' ⟨rfl,rfl⟩;go_wp2_with fail;go_ret;exact ⟨rfl,p _⟩
     ·have F:(((c:Nat):Int)==0)=false:=by simp;omega
      cases hF:mf r with
      | true =>
       rw [hF] at u d;have hc:=d (by simp [h0]);clear d h hB hF;go_wp2_with fail;refine (y _).mono ?_;rintro e w' ⟨rfl,rfl⟩;go_wp2_with fail;refine (u _).mono ?_;rintro e w' ⟨rfl,rfl⟩;go_wp2_with fail;go_roundw
       case rel=>exact ⟨c+q,f-1,rfl,by omega,hc⟩
       case measure=>simp;omega
      | false =>
       rw [hF] at u h;have t:=h (by simp);subst t;clear d h hB hF;go_wp2_with fail;refine (y _).mono ?_;rintro e w' ⟨rfl,rfl⟩;go_wp2_with fail;refine (u _).mono ?_;rintro e w' ⟨rfl,rfl⟩;go_wp2_with fail;go_ret;exact ⟨rfl,p _⟩
   ·have o:∀ ty,(Instr.next (.pointer (some ⟨j.heap.size,0,none⟩)) true ty).run prog (j.iter s c)=_:=fun ty=>run_next_end j s c ty hp;rw [jc4 s c hp,jqm] at hc;subst hc;go_wp2_with fail;go_ret;exact ⟨rfl,p _⟩
theorem jji (c:Vs w) (s:ByteArray) (hs:s.size<=140737488355328) :
  Calls prog 169 #[.string s] w fun e w'=>e=.returned (.bool (nam s.data.toList))/\Below w.heap.size w w':=by
 unfold nam;rw [j0c];by_cases h:1<=s.size/\s.size<=32
 ·rw [decide_eq_true h,ap];exact jjh c s h.1 h.2
 ·rw [decide_eq_false h,ao];by_cases h1:s.size<1
  ·have z1:(s.size:Int)<1:=by omega
   go_enter func169,ntmps169;go_wp2_with fail;go_ret;exact ⟨rfl,Below.refl _ _⟩
  ·have z1:¬(s.size:Int)<1:=by omega
   have z2:(32:Int)<s.size:=by omega
   go_enter func169,ntmps169;go_wp2_with fail;go_ret;exact ⟨rfl,Below.refl _ _⟩
end
section
open Go.RowKit Ad
open Sm (j6)
end
section
open Go.RowKit Ad
namespace Va
def fnz:List Int->Int
 | []=>0
 | x::r=>if x=0 then fnz r else x
def ul (e:Int) (ok:Bool):Int:=if ok then 0 else e
def wn (e:Int) (bad:Bool):Int:=ul e (!bad)
def wi (n a b:Int):Bool:=decide (a<=n) && decide (n<=b)
def hs (l:List Int) (x:Int):Bool:=l.any (fun y=>x==y)
def bad (l:List Int) (i:Nat):Prop:=l.getD i 0=0\/hs (l.take i) (l.getD i 0)=true
instance (l:List Int) (i:Nat):Decidable (bad l i):=by unfold bad;infer_instance
def unl (l:List Int):Bool:=decide (∀ i,i<l.length->¬bad l i)
def ow1 (t:Ten) (f:Int->Bool):Bool:=t.pool.any f || t.stat.any (fun p=>f p.2)
def owns (t:Ten) (x:Int):Bool:=ow1 t (fun y=>y==x)
def fst' (l:List (Int×Int)):List Int:=l.map Prod.fst
def snd' (l:List (Int×Int)):List Int:=l.map Prod.snd
def trs (t:Ten):List Int :=
 [ul 90 (nam t.name.data.toList),ul 91 (wi t.vni 1 16777215),ul 92 (decide ((t.pool.length:Int)<=8)),ul 92 (unl t.pool),ul 93 (wi t.lo 1 t.hi),ul 94 (wi t.filter 0 2),
  ul 94 (decide ((t.stat.length:Int)<=16)),ul 94 (decide ((t.twi.length:Int)<=16)),ul 94 (unl (fst' t.stat) && unl (snd' t.stat)),ul 94 (unl (fst' t.twi) && unl (snd' t.twi)),
  wn 94 ((snd' t.stat).any (hs t.pool)),wn 94 ((fst' t.twi).any (owns t)),ul 95 (wi t.sess 1 256),ul 95 (wi t.queue 1 64),ul 95 (decide (t.rate<=1000000)),ul 95 (wi t.burst 1 1000000),ul 96 (t.vtep != 0)]
def tchk (t:Ten):Int:=fnz (trs t)
def lss (a b:ByteArray):Bool:=aq a.toList b.toList
def grs (c:Cgf):List Int:=[ul 96 (c.ip != 0),ul 96 (decide (c.drain<=1000)),ul 96 (decide ((c.ten.length:Int)<=16))]
def prs (ip:Int) (ahead:List Ten) (t:Ten):List Int :=
 [tchk t,ul 90 (ahead.length==0 || lss (ahead.getD (ahead.length-1) ten0).name t.name),wn 91 (ahead.any (fun o=>o.vni==t.vni)),wn 92 (ow1 t (fun x=>x==ip || ahead.any (fun o=>owns o x)))]
def pchk (c:Cgf) (i:Nat):Int:=fnz (prs c.ip (c.ten.take i) (c.ten.getD i ten0))
def q9 (c:Cgf) (i n:Nat):Int:=fnz ((List.range' i n).map (pchk c))
def chk (c:Cgf):Int:=if fnz (grs c)=0 then q9 c 0 c.ten.length else fnz (grs c)
theorem j0w (c:Cgf) (i n:Nat):q9 c i (n+1)=if pchk c i=0 then q9 c (i+1) n else pchk c i:=by
 unfold q9;rw [List.range'_succ,List.map_cons,fnz]
theorem jol:fnz []=0:=rfl
theorem j3a (x:Int) (r:List Int):fnz (x::r)=if x=0 then fnz r else x:=rfl
theorem j0d (h:x=0):fnz (x::r)=fnz r:=by rw [j3a,if_pos h]
theorem j5c (h:x≠0):fnz (x::r)=x:=by rw [j3a,if_neg h]
theorem j6v:fnz l=0 ↔ ∀ x∈l,x=0:=by
 induction l with
 | nil=>simp [fnz]
 | cons x r ih =>
  rw [j3a];by_cases h:x=0
  ·rw [if_pos h,ih];simp [h]
  ·rw [if_neg h];simp [h]
theorem j0g (c:e≠0):ul e b=0 ↔ b=true:=by cases b<;>simp [ul,c]
theorem jgl:hs l x=true ↔ x∈l:=by
 unfold hs;rw [ai];exact ⟨fun ⟨y,h,e⟩=>by rw [beq_iff_eq] at e;subst e;exact h,fun h=>⟨x,h,beq_self_eq_true x⟩⟩
theorem j40 {t:Ten} {f:Int->Bool}:ow1 t f=true ↔ ∃ x,x∈t.pool++snd' t.stat/\f x=true:=by
 unfold ow1 snd';rw [Bool.or_eq_true,ai,ai];constructor
 ·rintro (⟨x,h,e⟩|⟨p,h,e⟩)
  ·exact ⟨x,List.mem_append_left _ h,e⟩
  ·exact ⟨p.2,List.mem_append_right _ (List.mem_map_of_mem h),e⟩
 ·rintro ⟨x,h,e⟩;rcases List.mem_append.mp h with h|h
  ·exact Or.inl ⟨x,h,e⟩
  ·obtain ⟨p,c,rfl⟩:=af.mp h;exact Or.inr ⟨p,c,e⟩
theorem jbl {t:Ten}:owns t x=true ↔ x∈t.pool++snd' t.stat:=by
 unfold owns;rw [j40];exact ⟨fun ⟨y,h,e⟩=>by rw [beq_iff_eq] at e;subst e;exact h,fun h=>⟨x,h,beq_self_eq_true x⟩⟩
theorem jbw:∀ a b:List UInt8,(aq a b || (a==b))=!(aq b a)
 | [],[]=>rfl
 | [],b::y=>rfl
 | a::x,[]=>rfl
 | a::x,b::y=>by
  have f:=jbw x y;simp only [aq];by_cases h1:a<b
  ·have d:¬b<a:=fun h=>absurd (UInt8.lt_trans h1 h) (ar _);have c:¬b=a:=fun h=>by subst h;exact ar _ h1
   simp [h1,d,c]
  ·by_cases d:b<a
   ·have c:¬a=b:=fun h=>by subst h;exact ar _ d
    simp [h1,d,c]
   ·have c:a=b:=by
     apply UInt8.toNat_inj.mp;rw [UInt8.lt_iff_toNat_lt] at h1 d;omega
    subst c;simp only [h1,decide_false,beq_self_eq_true,ap,Bool.false_or];rw [<-f];simp
end Va
end
end Go.Proofs.YtdigofgjhaakmaaGreatDoor
