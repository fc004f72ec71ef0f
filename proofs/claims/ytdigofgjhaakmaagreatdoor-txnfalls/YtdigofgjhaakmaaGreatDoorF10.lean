/- Parts of the proof. -/
import Derived.Test.YtdigofgjhaakmaaGreatDoorF09
set_option linter.all false
set_option maxHeartbeats 40000000
set_option maxRecDepth 20000
open Go.Proofs.Tryz
open List renaming getElem?_eq_getElem->aa,length_map->ab,getD->ac,mem_append_left->ad,mem_singleton->ae,mem_append_right->af,take_append_drop->ag,getElem?_eq_some_iff->ah,drop_eq_getElem_cons->ai,length_cons->aj,mem_map->ak,length_take->al,length_set->am,length_eq_zero_iff->an,getElem?_set_self->ao,append_assoc->ap,perm_append_comm->aq,length_append->ar,nil_append->au,length_nil->aw,perm_middle->ax,flatMap_cons->ay,cons_append->az,mem_cons_of_mem->aA,size_toArray->aB,take_left'->aD,toList_toArray->aE,sublist_append_right->aF,replicate->aG,replicate_succ->aH,length_replicate->aI,eq_nil_of_length_eq_zero->aJ,perm_append_comm_assoc->aK
open Nat renaming le_refl->aL,zero_add->aM,succ_mul->aN,add_sub_cancel_left->aO
open Go.Value renaming int->aP,agg->aQ,cells->aR
open Go.Builtin renaming append_->aS,zeroCells->aT
open List.Perm renaming trans->aU,refl->aV,cons->aW
open Array renaming size_append->aX,toList_append->aY,toList_inj->aZ
namespace Go.Proofs.YtdigofgjhaakmaaGreatDoor
variable {w V W w':World} {L K X Y Xs M:List (Nat×Obj)} {v v' vr:Value} {t ty T:TypeId} {h g o fn rb gt:Nat} {a:Option Addr} {fb l:List Int} {x:Int}
section
open Go.RowKit Sm
section
variable {w W:World} {p h m:Nat} {D:Dk} {hc:Array Value} {ks:List Bk} {L:List (Nat×Obj)}
theorem j9e (H:DkAt w W p h m D hc ks L) (hd:D.dead=false) (hn:4<=ks.length) (hm:256<=m) (a6:W.cell? ⟨0,0,none⟩=some (.iface t v)) (c i:Nat) (hs:c<=1) (hi:i<sbk ks.length) :
  Calls prog 125 #[.pointer (some ⟨p,0,none⟩),.int .i64 c,.int .i64 i] W fun e Z=>∃ g,e=.returned (unfV g m (.iface t v) (rp (ks.map Bk.b) c i))/\(∃ K,Mem W Z K)/\∀ q,rp (ks.map Bk.b) c i=some q->Row Z (some ⟨g,63,none⟩) q.b/\q.b.length+64<=m:=by
 have hM:Mem W (W.alloc (.cells pc0 pcT)) [(W.heap.size,.cells pc0 pcT (0,0))]:=(Mem.nil W).push1 rfl;have H1:=H.join hM;have G:(W.alloc (.cells pc0 pcT)).cell? ⟨0,0,none⟩=some (.iface t v):=by rw [<-a6];exact hM.old (j9 a6)
 generalize c2:W.alloc (.cells pc0 pcT)=w1 at *;have hq:sbk ks.length<=31:=by have:=H.top;unfold sbk;omega
 have hz:c*sbk ks.length+i<ks.length:=j27 hs hn hi;have hk:ks[c*sbk ks.length+i]?=some (ks[c*sbk ks.length+i]'hz):=aa hz;generalize ks[c*sbk ks.length+i]'hz=k at hk;have hb:=j6h H1;have hr:=jh1 H1 (c*sbk ks.length+i) hk hd;have o:=H1.st.okAt hk;have a8:=H.mhi;have b0:rp (ks.map Bk.b) c i=match unf k.b with|none=>none|some q=>if q.i≠i\/(sbk ks.length:Int)<q.n then none else some q:=by
  unfold rp;rw [ab];have:(ks.map Bk.b).getD (c*sbk ks.length+i) []=k.b:=by simp [ac,hk]
  rw [this];rfl
 have HM:Hid (Mem W w1 [(W.heap.size,.cells pc0 pcT (0,0))]):=hM;have HU:Hid (∀ J g,Mem w1 J [(g,.cells (bs k.b) 5)]->Calls prog 162 #[.slice (some ⟨g,0,none⟩) m m] J fun e r=>e=.returned (unfV g m (.iface t v) (unf k.b))/\∃ K,Mem J r K):=by
  intro J g N;exact jmi o.len hm a8 (N.own 0 rfl o.bytes (by rw [o.len];omega)) (aL _) (by rw [<-G];exact N.old (j9 G))
 have HG:Hid (∀ J r g K,Mem w1 J [(g,.cells (bs k.b) 5)]->Mem J r K->Mem W r ([(W.heap.size,.cells pc0 pcT (0,0))]++[(g,.cells (bs k.b) 5)]++K)/\r.cell? ⟨0,0,none⟩=some (.iface t v)):=by
  intro J r g K N U;refine ⟨(hM.join N).join U,?_⟩;have e2:J.cell? ⟨0,0,none⟩=some (.iface t v):=by rw [<-G];exact N.old (j9 G)
  rw [<-e2];exact U.old (j9 e2)
 have HF:Hid (∀ q,unf k.b=some q->q.b=sl k.b 63 (63+q.b.length)/\q.b.length+64<=m/\(0<=q.i/\q.i<=255)/\(0<=q.n/\q.n<=255)):=fun q e=>by
  have:=j3m e o.len hm o.bytes;exact ⟨this.1,this.2.1,this.2.2.2.1,this.2.2.2.2.1⟩
 have HO:Hid (k.b.length=m/\j6 k.b/\m<=65536):=⟨o.len,o.bytes,a8⟩;have HB:Hid (∀ r K,Mem w1 r K->Calls prog 49 #[.pointer (some ⟨p,0,none⟩)] r fun e Z=>e=.returned (.int .i64 (sbk ks.length))/\r=Z):=fun r K U=>j6h (H1.join U);have c5:(c:Int)*(sbk ks.length:Int)=((c*sbk ks.length:Nat):Int):=by rw [Int.natCast_mul]
 have c4:c*sbk ks.length<=1*31:=Nat.mul_le_mul hs hq;rw [b0];have c1:=j9 a6;clear b0 H1 hM o a8 hk hz H a6 G;generalize c*sbk ks.length=y at *;generalize sbk ks.length=x at *;have c0:(y:Int)+i=((y+i:Nat):Int):=by omega
 generalize y+i=z at *;generalize k.b=kb at *;cases hu:unf kb with
 | none =>
  rw [hu] at HU;simp only [unfV] at HU;show Calls _ _ _ _ fun e Z=>∃ g,e=.returned (unfV g m (.iface t v) none)/\(∃ K,Mem W Z K)/\∀ q:Pc,none=some q->Row Z (some ⟨g,63,none⟩) q.b/\q.b.length+64<=m;simp only [unfV];generalize hR:(none:Option Pc)=R;have f:Hid (R=none):=hR.symm;clear hR;go_enter func125,ntmps125;go_wp2_with fail;refine hb.mono ?_;rintro e w' ⟨rfl,rfl⟩;go_wp2_with fail;refine hr.mono ?_;rintro e J ⟨g,rfl,N⟩;go_wp2_with fail;refine (HU.out J g N).mono ?_;rintro e r ⟨rfl,K,U⟩;obtain ⟨Q,a1⟩:=HG.out J r g K N U;go_upto_region 5 with fail;refine j5 (fun V=>Mem W V ([(W.heap.size,.cells pc0 pcT (0,0))]++[(g,.cells (bs kb) 5)]++K++[(r.heap.size,.cells pc0 pcT (0,0))])) (Q.alloc _) ?_;intro wx C;have kr:=C.cell 0 rfl;have kf:=C.free 0 rfl;have I:Hid (Mem W wx ([(W.heap.size,.cells pc0 pcT (0,0))]++[(g,.cells (bs kb) 5)]++K++[(r.heap.size,.cells pc0 pcT (0,0))])):=C;clear C HM HU HG HF Q a1 N U hr hb
  go_wp2
  exact bodyPost_ret (v:=.tuple #[.agg pc0,.iface t v]) (by simp [results,results125,go_sem,kr]) rfl ⟨0,rfl,⟨_,((((I.out.set 0 rfl 0 _).set 0 rfl 1 _).set 0 rfl 2 _).set 0 rfl 3 _).set 0 rfl 4 _⟩,fun q e=>by rw [f.out] at e;cases e⟩
 | some q =>
  obtain ⟨f1,f2,f3,f4⟩:=HF.out q hu;rw [hu] at HU;obtain ⟨O,P,E,A,u⟩:=q;simp only [unfV] at HU;have e1:sl kb 63 (63+u.length)=u:=f1.symm;have e2:u.length+64<=m:=f2;have e3:0<=E/\E<=255:=f3;have e4:0<=A/\A<=255:=f4;have b9:Hid (sl kb 63 (63+u.length)=u):=e1;clear f1 f2 f3 f4 e1;show Calls _ _ _ _ fun e Z=>∃ g,e=.returned (unfV g m (.iface t v) (if E≠i\/(x:Int)<A then none else some ⟨O,P,E,A,u⟩))/\(∃ K,Mem W Z K)/\∀ q:Pc,(if E≠i\/(x:Int)<A then none else some (Pc.mk O P E A u))=some q->Row Z (some ⟨g,63,none⟩) q.b/\q.b.length+64<=m;generalize hR:(if E≠i\/(x:Int)<A then none else some (Pc.mk O P E A u))=R;have f:Hid (R=if E≠i\/(x:Int)<A then none else some (Pc.mk O P E A u)):=hR.symm;clear hR;go_enter func125,ntmps125;go_wp2_with fail;refine hb.mono ?_;rintro e w' ⟨rfl,rfl⟩;go_wp2_with fail;refine hr.mono ?_;rintro e J ⟨g,rfl,N⟩;go_wp2_with fail;refine (HU.out J g N).mono ?_;rintro e r ⟨rfl,K,U⟩;obtain ⟨Q,a1⟩:=HG.out J r g K N U;have a7:Hid (∀ V K,Mem r V K->Row V (some ⟨g,63,none⟩) u):=by
   intro V K' hV;have r0:Row r (some ⟨g,0,none⟩) kb:=U.row (N.own 0 rfl HO.out.2.1 (by have:=HO.out;omega));have:=(hV.row r0).sl 63 (63+u.length) (by omega) (by have:=HO.out;omega);rwa [aM,b9.out] at this
  go_upto_region 5 with fail;have hA:Mem r (r.alloc (.cells (pcA O P E A (.slice (some ⟨g,63,none⟩) u.length (m-63))) pcT)) [(r.heap.size,.cells (pcA O P E A (.slice (some ⟨g,63,none⟩) u.length (m-63))) pcT (0,0))]:=(Mem.nil r).push1 rfl;refine j5 (fun V=>Mem r V [(r.heap.size,.cells (pcA O P E A (.slice (some ⟨g,63,none⟩) u.length (m-63))) pcT (0,0))]) hA ?_;intro wx S;have C:=Q.join S;have kr:=C.cell 0 rfl;have kf:=C.free 0 rfl;have B:=S.cell 0 rfl;have a5:=B 2;have a4:=B 3;simp at a5 a4;have a0:wx.cell? ⟨0,0,none⟩=some (.iface t v):=by rw [<-a1];exact S.old (j9 a1)
  have b2:Hid (Row wx (some ⟨g,63,none⟩) u):=a7.out _ _ S;have I:Hid (Mem W wx ([(W.heap.size,.cells pc0 pcT (0,0))]++[(g,.cells (bs kb) 5)]++K++[(r.heap.size,.cells (pcA O P E A (.slice (some ⟨g,63,none⟩) u.length (m-63))) pcT (0,0))])):=C;have a3:Hid (∀ k,Calls prog 49 #[.pointer (some ⟨p,0,none⟩)] (wx.drewN k) fun e Z=>e=.returned (.int .i64 x)/\wx.drewN k=Z):=fun k=>HB.out _ _ (((N.join U).join S).drewN k);have c3:W.heap.size≠r.heap.size:=by
   have:=Q.lt (ad _ (ad _ (ae.mpr rfl)));simp only at this;omega
  have b3:W.heap.size≠g:=C.ne 0 1 rfl rfl (by decide);generalize r.heap.size=b1 at *;clear C HM HU HG HF Q a1 N U hr hb S hA a7 HB B;by_cases hc1:E=i
  ·subst hc1;have b5:((i:Int) != (i:Int))=false:=by simp
   by_cases hc2:(x:Int)<A
   ·replace f:Hid (R=none):=by rw [f.out];exact if_pos (Or.inr hc2)
    go_upto_region 7 with fail
    go_quiet (first|(go_at_call 49;exact qy (a3.out _)))
    go_upto_region 8 with fail;refine j5 (fun V=>Mem W V ([(W.heap.size,.cells pc0 pcT (0,0))]++[(g,.cells (bs kb) 5)]++K++[(b1,.cells (pcA O P i A (.slice (some ⟨g,63,none⟩) u.length (m-63))) pcT (0,0))])/\V.cell? ⟨0,0,none⟩=some (.iface t v)) ⟨I.out.drewN _,a0⟩ ?_;rintro wy ⟨d,b4⟩;have kr:=d.cell 0 rfl;have kf:=d.free 0 rfl;have a2:Hid _:=d;clear d I a3 a0 a5 a4
    go_region
    all_goals go_wp2
    exact bodyPost_ret (v:=.tuple #[.agg pc0,.iface t v]) (by simp [results,results125,go_sem,kr]) rfl ⟨0,by rw [f.out];rfl,⟨_,(((((a2.out.set 0 rfl 0 _).set 0 rfl 1 _).set 0 rfl 2 _).set 0 rfl 3 _).set 0 rfl 4 _).drew⟩,fun q e=>by rw [f.out] at e;cases e⟩
   ·replace f:Hid (R=some (Pc.mk O P i A u)):=by rw [f.out];exact if_neg (by rintro (e|e);exact e rfl;exact hc2 e)
    go_upto_region 7 with fail
    go_quiet (first|(go_at_call 49;exact qy (a3.out _)))
    go_upto_region 9 with fail;refine j5 (fun V=>Mem W V ([(W.heap.size,.cells pc0 pcT (0,0))]++[(g,.cells (bs kb) 5)]++K++[(b1,.cells (pcA O P i A (.slice (some ⟨g,63,none⟩) u.length (m-63))) pcT (0,0))])/\Row V (some ⟨g,63,none⟩) u) ⟨I.out.drewN _,yg b2.out⟩ ?_;rintro wy ⟨d,a9⟩;have kr:=d.cell 0 rfl;have kf:=d.free 0 rfl;have B:∀ j,wy.cell? ⟨b1,j,none⟩=(pcA O P i A (.slice (some ⟨g,63,none⟩) u.length (m-63)))[j]?:=fun j=>cell_of (d.at_ (b1,_) (af _ (ae.mpr rfl))) j;have k0:=B 0;have k1:=B 1;have k2:=B 2;have k3:=B 3;have k4:=B 4;simp at k0 k1 k2 k3 k4;have a2:Hid _:=d;have b7:Hid (Row wy (some ⟨g,63,none⟩) u):=a9;clear d I a3 a0 a5 a4 b2 a9 B
    go_wp2
    refine bodyPost_ret (v:=.tuple #[.agg (pcA O P i A (.slice (some ⟨g,63,none⟩) u.length (m-63))),.nilIface]) (by simp [results,results125,go_sem,kr]) rfl ⟨g,by rw [f.out];rfl,⟨_,((((a2.out.set 0 rfl 0 _).set 0 rfl 1 _).set 0 rfl 2 _).set 0 rfl 3 _).set 0 rfl 4 _⟩,fun q e=>?_⟩;rw [f.out] at e;cases e;refine ⟨?_,e2⟩
    repeat (refine Row.setCell ?_ b3 _)
    exact b7.out
  ·have b5:(E != (i:Int))=true:=by simpa using hc1
   replace f:Hid (R=none):=by rw [f.out];exact if_pos (Or.inl hc1)
   go_upto_region 7 with fail
   go_quiet (fail)
   go_upto_region 8 with fail;refine j5 (fun V=>Mem W V ([(W.heap.size,.cells pc0 pcT (0,0))]++[(g,.cells (bs kb) 5)]++K++[(b1,.cells (pcA O P E A (.slice (some ⟨g,63,none⟩) u.length (m-63))) pcT (0,0))])/\V.cell? ⟨0,0,none⟩=some (.iface t v)) ⟨I.out.drewN _,a0⟩ ?_;rintro wy ⟨d,b4⟩;have kr:=d.cell 0 rfl;have kf:=d.free 0 rfl;have a2:Hid _:=d;clear d I a3 a0 a5 a4
   go_region
   all_goals go_wp2
   exact bodyPost_ret (v:=.tuple #[.agg pc0,.iface t v]) (by simp [results,results125,go_sem,kr]) rfl ⟨0,by rw [f.out];rfl,⟨_,(((((a2.out.set 0 rfl 0 _).set 0 rfl 1 _).set 0 rfl 2 _).set 0 rfl 3 _).set 0 rfl 4 _).drew⟩,fun q e=>by rw [f.out] at e;cases e⟩
end
end
section
open Go.RowKit Sm Cf
def IU:Rp Int Unit:=fun x _ V g off=>V.cell? ⟨g,off,none⟩=some (.int .u32 x)
def JU:St' Int:=fun w x g T pre post V K=>Mem w V ((g,.cells (pre++([aP .u32 x]++post)).toArray T (0,0))::K)
theorem jta (b:Mem w V ((g,.cells #[aP .u32 x] t (0,0))::K)):IU x () V g 0:=b.cell 0 rfl 0
def IMU (w:World) (hb:Nat) (M:List (Nat×Obj)) (V:World) (xs:List Int):Prop :=
 if xs=[] then Mem w V M else Mem w V ((hb,.cells (ux xs).flatten.toArray 33)::M)
theorem ja5 (xs:List Int) (i:Nat) (x:Int) (hi:xs[i]?=some x):(ux xs).flatten=(ux (xs.take i)).flatten++([aP .u32 x]++(ux (xs.drop (i+1))).flatten):=by
 have h:=(ag i xs).symm;have b:=(ah.mp hi).1;have c:xs.drop i=x::xs.drop (i+1):=by
  rw [ai b];congr 1;exact (ah.mp hi).2
 rw [c] at h
 conv=>lhs;rw [h]
 simp [ux]
theorem jbz (xs:List Int):(ux xs).flatten.length=xs.length*1:=by
 induction xs with
 | nil=>rfl
 | cons x xs ih =>
  have:(ux (x::xs)).flatten.length=(ux xs).flatten.length+1:=by
   simp [ux]
  rw [this,ih,aj,aN]
def j6p (bo bi:Nat):Fv:=⟨296,297,298,#[.pointer (some ⟨bo,0,none⟩),.pointer (some ⟨bi,0,none⟩)],#[.pointer (some ⟨bo,0,none⟩),.pointer (some ⟨bi,0,none⟩)],#[.pointer (some ⟨bo,0,none⟩),.pointer (some ⟨bi,0,none⟩)]⟩
theorem jgt {α ρ:Type} {I:Rp α ρ} {J:St' α} (bo P U o:Nat) (j:α->List Int) (fs:α->List Int->α) (d:Fv) (S:Sp Int) (a7:∀ x y,S.eq x y=decide (x=y)) (H:Fd w L IU JU d S)
  (mo:(bo,.cells #[.func (.func U) #[] #[]] 284)∈L) (mi:(P,.cells d.cells.toArray 308)∈L)
  (eo:Ent U) (ho:∀ V g f,Calls prog U #[.pointer (some ⟨g,f,none⟩)] V fun e A=>e=.returned (.pointer (some ⟨g,f+o,none⟩))/\V=A)
  (sv:ρ->Value) (hI:∀ x r V g f,I x r V g f->(j x).length<=1000000/\Rw V 1 (sv r) (ux (j x))/\V.cell? ⟨g,f+o,none⟩=some (sv r))
  (hJ:∀ x g T k post V K,J w x g T k post V K->(j x).length<=255/\∃ hb M sa sc,(0<(j x).length->sa=some ⟨hb,0,none⟩)/\Sub K M/\(∀ A,Mem w A M->Mem w A K)/\V.cell? ⟨g,k.length+o,none⟩=some (.slice sa (j x).length sc) /\
   IMU w hb M V (j x)/\∀ b A,b.length=(j x).length->IMU w hb M A b->J w (fs x b) g T k post A K) :
  Fd w L I J (j6p bo P) (j5w 0 S j fs):=by
 have ci:∀ K,Sub L K->∀ V,Mem w V K->V.cell? ⟨P,0,none⟩=some (.func (.func d.kw) #[] d.cw)/\V.cell? ⟨P,1,none⟩=some (.func (.func d.kr) #[] d.cr)/\V.cell? ⟨P,2,none⟩=some (.func (.func d.ks) #[] d.cs) :=
  fun K E V u=>⟨by rw [ja u (E _ mi)];rfl,by rw [ja u (E _ mi)];rfl,by rw [ja u (E _ mi)];rfl⟩
 refine ⟨enters_of func296 (by kernel_rfl) rfl,enters_of func297 (by kernel_rfl) rfl,enters_of func298 (by kernel_rfl) rfl,?_,?_⟩
 ·intro K E x r g f hx v l V hO hb;have C:(ux (j x)).length=(j x).length:=by simp [ux]
  have:=jr6 hO bo P U d.kw d.kr d.ks d.cw d.cr d.cs ⟨g,f,none⟩ ⟨g,f+o,none⟩ (sv r) (ux (j x)) ?hx (fun V u=>by rw [ja u (E _ mo)];rfl) (ci K E) eo (fun V=>ho V g f) H.ew
   (fun V u=>(hI _ _ _ _ _ (hx V u)).2.2) (fun V u=>(hI _ _ _ _ _ (hx V u)).2.1) (fun i=>S.enc ((j x).getD i 0)) ?hw (by rw [C];exact hb)
  case hx =>
   intro q hq;simp only [ux,ak] at hq;obtain ⟨z,_,rfl⟩:=hq;exact ⟨_,rfl⟩
  case hw =>
   intro i hi ge v l V u a2;rw [C] at hi;obtain ⟨z,Q⟩:∃ z,(j x)[i]?=some z:=⟨_,aa (by omega)⟩;have ez:(ux (j x)).getD i []=[.int .u32 z]:=by simp [ux,ac,Q]
   have ed:(j x).getD i 0=z:=by simp [ac,Q]
   rw [ez] at u;rw [ed] at a2 ⊢;refine (H.wr _ ((E.cons _)) z () ge 0 (fun V u=>?_) v l V u a2).mono ?_
   ·exact jta u
   ·rintro e A ⟨v',h1,G⟩;exact ⟨v',h1,G.drop⟩
  rw [C] at this;exact this
 ·intro K E x g T k post a l c V hj hS;obtain ⟨a5,hb,M,sa,sc,a3,B,O,N,a6,Z⟩:=hJ x g T k post V K hj;have key:∀ b V,IMU w hb M V b->Mem w V M:=by
   intro b V h;unfold IMU at h;split at h
   ·exact h
   ·exact h.sub
  have:=jra (σ:=List Int) (w:=w) (L:=M) (J:=fun b V=>b.length=(j x).length/\IMU w hb M V b) ?st (fun b V h=>key b V h.2) bo P U d.kw d.kr d.ks d.cw d.cr d.cs ⟨g,k.length,none⟩ ⟨g,k.length+o,none⟩ sa (j x).length sc a5 hb a3
   (fun V u=>by rw [ja u (B _ (E _ mo))];rfl) (ci M (E.trans B)) eo (fun V=>ho V g k.length) H.er (itd 0 S) ?hr (j x) l a c V ⟨rfl,a6⟩ hS N
  case st =>
   rintro b V A ⟨h1,G⟩ hB;refine ⟨h1,?_⟩;unfold IMU at G ⊢;split at G
   ·rename_i e;rw [if_pos e];exact G.after hB
   ·rename_i e;rw [if_neg e];exact G.after hB
  case hr =>
   rintro i hi b l a c V ⟨h1,G⟩ hS;obtain ⟨z,Q⟩:∃ z,b[i]?=some z:=⟨_,aa (by omega)⟩;have a1:b≠[]:=by rintro rfl;simp at Q
   have ed:b.getD i 0=z:=by simp [ac,Q]
   unfold IMU at G;rw [if_neg a1,ja5 b i z Q] at G;have a4:(ux (b.take i)).flatten.length=i*1:=by rw [jbz,al];congr 1;omega
   have:=H.rd M (E.trans B) z hb 33 (ux (b.take i)).flatten (ux (b.drop (i+1))).flatten a l c V G hS;rw [a4] at this;refine this.mono ?_;intro e A hR;refine hR.mono (fun q=>b.set i q) (by simp only [itd,ed]) id (fun q hq=>⟨by rw [am];exact h1,?_⟩);have a0:b.set i q≠[]:=by intro e;apply a1;rw [<-an] at e ⊢;rwa [am] at e
   unfold IMU;rw [if_neg a0,ja5 (b.set i q) i q (by rw [ao (by omega)])];rw [List.take_set_of_le (aL i),List.drop_set_of_lt (Nat.lt_succ_self i)];exact hq
  refine this.mono ?_;intro e A hR;exact hR.mono (fs x) rfl (O A) (fun b hy=>Z b A hy.1 hy.2)
theorem jfw (h:Mem w W L) (b:Nat) (q:Fv) :
  Calls prog 251 #[.func (.func b) #[] #[],q.val] W fun e B=>∃ u y,e=.returned (j6p u y).val/\Mem w B ((u,.cells #[.func (.func b) #[] #[]] 284)::(y,.cells q.cells.toArray 308)::L):=by
 obtain ⟨f,d,c,k,j,i⟩:=q;have r:Mem w ((W.alloc (.cells #[.func (.func b) #[] #[]] 284)).alloc (.cells #[.func (.func f) #[] k,.func (.func d) #[] j,.func (.func c) #[] i] 308)) ((W.heap.size,.cells #[.func (.func b) #[] #[]] 284)::(W.heap.size+1,.cells #[.func (.func f) #[] k,.func (.func d) #[] j,.func (.func c) #[] i] 308)::L):=by
  have A:=(h.push W.heap.size (.cells #[.func (.func b) #[] #[]] 284) rfl).push (W.heap.size+1) (.cells #[.func (.func f) #[] k,.func (.func d) #[] j,.func (.func c) #[] i] 308) (by simp);refine A.perm ?_;rw [ap];exact aq
 have z:∀ (fn:Fn) (first cap:Array Value) (w:World),(Instr.makeFunc fn first cap).run prog w=.ok (.func fn first cap) w:=fun _ _ _ _=>rfl;have C:Hid (Mem w ((W.alloc (.cells #[.func (.func b) #[] #[]] 284)).alloc (.cells #[.func (.func f) #[] k,.func (.func d) #[] j,.func (.func c) #[] i] 308)) ((W.heap.size,.cells #[.func (.func b) #[] #[]] 284)::(W.heap.size+1,.cells #[.func (.func f) #[] k,.func (.func d) #[] j,.func (.func c) #[] i] 308)::L)):=r;clear r h;simp only [Fv.val];go_enter func251,ntmps251;go_wp2_with fail;refine bodyPost_ret (v:=(j6p W.heap.size (W.heap.size+1)).val) ?_ rfl ⟨_,_,rfl,C.out.after ((Below.refl _ _).alloc (aL _) _)⟩;exact results_cell_row (p:=4) (ty:=246) rfl _ _ (W.heap.size+1+1) 246 _ (0,0) _ rfl (jn _ _ _ _) underlying246 rfl (by kernel_rfl)
def IP:Rp (Int×Int) Unit:=fun x _ V g off=>V.cell? ⟨g,off,none⟩=some (.int .u32 x.1)/\V.cell? ⟨g,off+1,none⟩=some (.int .u32 x.2)
def JP:St' (Int×Int):=fun w x g T pre post V K=>Mem w V ((g,.cells (pre++([aP .u32 x.1,aP .u32 x.2]++post)).toArray T (0,0))::K)
theorem jtb {x:(Int×Int)} (b:Mem w V ((g,.cells #[aP .u32 x.1,aP .u32 x.2] t (0,0))::K)):IP x () V g 0:=⟨b.cell 0 rfl 0,b.cell 0 rfl 1⟩
def IMP (w:World) (hb:Nat) (M:List (Nat×Obj)) (V:World) (xs:List (Int×Int)):Prop :=
 if xs=[] then Mem w V M else Mem w V ((hb,.cells (px xs).flatten.toArray 122)::M)
theorem ja6 (xs:List (Int×Int)) (i:Nat) (x:(Int×Int)) (hi:xs[i]?=some x):(px xs).flatten=(px (xs.take i)).flatten++([aP .u32 x.1,aP .u32 x.2]++(px (xs.drop (i+1))).flatten):=by
 have h:=(ag i xs).symm;have b:=(ah.mp hi).1;have c:xs.drop i=x::xs.drop (i+1):=by
  rw [ai b];congr 1;exact (ah.mp hi).2
 rw [c] at h
 conv=>lhs;rw [h]
 simp [px]
theorem jc0 (xs:List (Int×Int)):(px xs).flatten.length=xs.length*2:=by
 induction xs with
 | nil=>rfl
 | cons x xs ih =>
  have:(px (x::xs)).flatten.length=(px xs).flatten.length+2:=by
   simp [px]
  rw [this,ih,aj,aN]
def j6q (bo bi:Nat):Fv:=⟨303,304,305,#[.pointer (some ⟨bo,0,none⟩),.pointer (some ⟨bi,0,none⟩)],#[.pointer (some ⟨bo,0,none⟩),.pointer (some ⟨bi,0,none⟩)],#[.pointer (some ⟨bo,0,none⟩),.pointer (some ⟨bi,0,none⟩)]⟩
theorem j8e {α ρ:Type} {I:Rp α ρ} {J:St' α} (bo P U o:Nat) (j:α->List (Int×Int)) (fs:α->List (Int×Int)->α) (d:Fv) (S:Sp (Int×Int)) (a7:∀ x y,S.eq x y=decide (x=y)) (H:Fd w L IP JP d S)
  (mo:(bo,.cells #[.func (.func U) #[] #[]] 286)∈L) (mi:(P,.cells d.cells.toArray 315)∈L)
  (eo:Ent U) (ho:∀ V g f,Calls prog U #[.pointer (some ⟨g,f,none⟩)] V fun e A=>e=.returned (.pointer (some ⟨g,f+o,none⟩))/\V=A)
  (sv:ρ->Value) (hI:∀ x r V g f,I x r V g f->(j x).length<=1000000/\Rw V 2 (sv r) (px (j x))/\V.cell? ⟨g,f+o,none⟩=some (sv r))
  (hJ:∀ x g T k post V K,J w x g T k post V K->(j x).length<=255/\∃ hb M sa sc,(0<(j x).length->sa=some ⟨hb,0,none⟩)/\Sub K M/\(∀ A,Mem w A M->Mem w A K)/\V.cell? ⟨g,k.length+o,none⟩=some (.slice sa (j x).length sc) /\
   IMP w hb M V (j x)/\∀ b A,b.length=(j x).length->IMP w hb M A b->J w (fs x b) g T k post A K) :
  Fd w L I J (j6q bo P) (j5w (0,0) S j fs):=by
 have ci:∀ K,Sub L K->∀ V,Mem w V K->V.cell? ⟨P,0,none⟩=some (.func (.func d.kw) #[] d.cw)/\V.cell? ⟨P,1,none⟩=some (.func (.func d.kr) #[] d.cr)/\V.cell? ⟨P,2,none⟩=some (.func (.func d.ks) #[] d.cs) :=
  fun K E V u=>⟨by rw [ja u (E _ mi)];rfl,by rw [ja u (E _ mi)];rfl,by rw [ja u (E _ mi)];rfl⟩
 refine ⟨enters_of func303 (by kernel_rfl) rfl,enters_of func304 (by kernel_rfl) rfl,enters_of func305 (by kernel_rfl) rfl,?_,?_⟩
 ·intro K E x r g f hx v l V hO hb;have C:(px (j x)).length=(j x).length:=by simp [px]
  have:=jr7 hO bo P U d.kw d.kr d.ks d.cw d.cr d.cs ⟨g,f,none⟩ ⟨g,f+o,none⟩ (sv r) (px (j x)) ?hx (fun V u=>by rw [ja u (E _ mo)];rfl) (ci K E) eo (fun V=>ho V g f) H.ew
   (fun V u=>(hI _ _ _ _ _ (hx V u)).2.2) (fun V u=>(hI _ _ _ _ _ (hx V u)).2.1) (fun i=>S.enc ((j x).getD i (0,0))) ?hw (by rw [C];exact hb)
  case hx =>
   intro q hq;simp only [px,ak] at hq;obtain ⟨z,_,rfl⟩:=hq;exact ⟨_,_,rfl⟩
  case hw =>
   intro i hi ge v l V u a2;rw [C] at hi;obtain ⟨z,Q⟩:∃ z,(j x)[i]?=some z:=⟨_,aa (by omega)⟩;have ez:(px (j x)).getD i []=[.int .u32 z.1,.int .u32 z.2]:=by simp [px,ac,Q]
   have ed:(j x).getD i (0,0)=z:=by simp [ac,Q]
   rw [ez] at u;rw [ed] at a2 ⊢;refine (H.wr _ ((E.cons _)) z () ge 0 (fun V u=>?_) v l V u a2).mono ?_
   ·exact jtb u
   ·rintro e A ⟨v',h1,G⟩;exact ⟨v',h1,G.drop⟩
  rw [C] at this;exact this
 ·intro K E x g T k post a l c V hj hS;obtain ⟨a5,hb,M,sa,sc,a3,B,O,N,a6,Z⟩:=hJ x g T k post V K hj;have key:∀ b V,IMP w hb M V b->Mem w V M:=by
   intro b V h;unfold IMP at h;split at h
   ·exact h
   ·exact h.sub
  have:=jrb (σ:=List (Int×Int)) (w:=w) (L:=M) (J:=fun b V=>b.length=(j x).length/\IMP w hb M V b) ?st (fun b V h=>key b V h.2) bo P U d.kw d.kr d.ks d.cw d.cr d.cs ⟨g,k.length,none⟩ ⟨g,k.length+o,none⟩ sa (j x).length sc a5 hb a3
   (fun V u=>by rw [ja u (B _ (E _ mo))];rfl) (ci M (E.trans B)) eo (fun V=>ho V g k.length) H.er (itd (0,0) S) ?hr (j x) l a c V ⟨rfl,a6⟩ hS N
  case st =>
   rintro b V A ⟨h1,G⟩ hB;refine ⟨h1,?_⟩;unfold IMP at G ⊢;split at G
   ·rename_i e;rw [if_pos e];exact G.after hB
   ·rename_i e;rw [if_neg e];exact G.after hB
  case hr =>
   rintro i hi b l a c V ⟨h1,G⟩ hS;obtain ⟨z,Q⟩:∃ z,b[i]?=some z:=⟨_,aa (by omega)⟩;have a1:b≠[]:=by rintro rfl;simp at Q
   have ed:b.getD i (0,0)=z:=by simp [ac,Q]
   unfold IMP at G;rw [if_neg a1,ja6 b i z Q] at G;have a4:(px (b.take i)).flatten.length=i*2:=by rw [jc0,al];congr 1;omega
   have:=H.rd M (E.trans B) z hb 122 (px (b.take i)).flatten (px (b.drop (i+1))).flatten a l c V G hS;rw [a4] at this;refine this.mono ?_;intro e A hR;refine hR.mono (fun q=>b.set i q) (by simp only [itd,ed]) id (fun q hq=>⟨by rw [am];exact h1,?_⟩);have a0:b.set i q≠[]:=by intro e;apply a1;rw [<-an] at e ⊢;rwa [am] at e
   unfold IMP;rw [if_neg a0,ja6 (b.set i q) i q (by rw [ao (by omega)])];rw [List.take_set_of_le (aL i),List.drop_set_of_lt (Nat.lt_succ_self i)];exact hq
  refine this.mono ?_;intro e A hR;exact hR.mono (fs x) rfl (O A) (fun b hy=>Z b A hy.1 hy.2)
theorem j7y (h:Mem w W L) (b:Nat) (q:Fv) :
  Calls prog 253 #[.func (.func b) #[] #[],q.val] W fun e B=>∃ u y,e=.returned (j6q u y).val/\Mem w B ((u,.cells #[.func (.func b) #[] #[]] 286)::(y,.cells q.cells.toArray 315)::L):=by
 obtain ⟨f,d,c,k,j,i⟩:=q;have r:Mem w ((W.alloc (.cells #[.func (.func b) #[] #[]] 286)).alloc (.cells #[.func (.func f) #[] k,.func (.func d) #[] j,.func (.func c) #[] i] 315)) ((W.heap.size,.cells #[.func (.func b) #[] #[]] 286)::(W.heap.size+1,.cells #[.func (.func f) #[] k,.func (.func d) #[] j,.func (.func c) #[] i] 315)::L):=by
  have A:=(h.push W.heap.size (.cells #[.func (.func b) #[] #[]] 286) rfl).push (W.heap.size+1) (.cells #[.func (.func f) #[] k,.func (.func d) #[] j,.func (.func c) #[] i] 315) (by simp);refine A.perm ?_;rw [ap];exact aq
 have z:∀ (fn:Fn) (first cap:Array Value) (w:World),(Instr.makeFunc fn first cap).run prog w=.ok (.func fn first cap) w:=fun _ _ _ _=>rfl;have C:Hid (Mem w ((W.alloc (.cells #[.func (.func b) #[] #[]] 286)).alloc (.cells #[.func (.func f) #[] k,.func (.func d) #[] j,.func (.func c) #[] i] 315)) ((W.heap.size,.cells #[.func (.func b) #[] #[]] 286)::(W.heap.size+1,.cells #[.func (.func f) #[] k,.func (.func d) #[] j,.func (.func c) #[] i] 315)::L)):=r;clear r h;simp only [Fv.val];go_enter func253,ntmps253;go_wp2_with fail;refine bodyPost_ret (v:=(j6q W.heap.size (W.heap.size+1)).val) ?_ rfl ⟨_,_,rfl,C.out.after ((Below.refl _ _).alloc (aL _) _)⟩;exact results_cell_row (p:=4) (ty:=246) rfl _ _ (W.heap.size+1+1) 246 _ (0,0) _ rfl (jn _ _ _ _) underlying246 rfl (by kernel_rfl)
end
section
open Go.RowKit Sm
abbrev enT:TypeId:=128
abbrev enA (s:Int) (t c:Int) (v:Value):Array Value:=#[.int .i64 s,.int .u64 t,.int .i64 c,v]
abbrev en0:Array Value:=enA 0 0 0 (.slice none 0 0)
theorem jv {α:Type} (A X R:List α):(A++(X++R)).Perm (X++(A++R)):=by
 rw [<-ap,<-ap];exact aq.append_right R
def rdV (E vr:Value):Option En->Value
 | none=>.tuple #[.agg en0,E]
 | some x=>.tuple #[.agg (enA x.s x.t x.c vr),.nilIface]
theorem jl {b:Array Oper} {rest:List Oper} {o:Oper} {a:Act} {Q:Exit->Act->World->Prop} 
  (s x:Operand) (t c:TypeId) (j:o.op=.call { callee:=.builtin .append,args:=#[s,x],argTypes:=#[t,c] }) {i f:Value}
  (hr:(aS #[t,c] ty #[i,f]).run prog W=.ok v' w') (d:o.type=ty) (e:Region.wanted o (yielded b a.tmps)=true) (hs:a.eval s=i) (hx:a.eval x=f) (h:wpList prog b Q rest (a.put o.dst v') w') :
  wpList prog b Q (o::rest) a W:=by
 subst d;exact yq e fun K k=>j0b s x t c j hs hx hr (k _ _ h)
structure RdAt (w1 wr:World) (b6 b8:Nat) (F:Array Value) (s:Int) (ft fc:Int) (vr:Value) (acc:List Int) (X R:List (Nat×Obj)):Prop where
 mem:Mem w1 wr ((b6,.cells F pcT (0,0))::(b8,.cells (enA s ft fc vr) enT (0,0))::(X++R))
 own:OwnV vr acc X
section
variable {w1 wr:World} {b6 b8:Nat} {F:Array Value} {s:Int} {ft fc:Int} {vr:Value} {acc:List Int} {X R:List (Nat×Obj)}
theorem RdAt.join (h:RdAt w1 wr b6 b8 F s ft fc vr acc X R) (k:Mem wr V K):RdAt w1 V b6 b8 F s ft fc vr acc X (R++K) :=
 ⟨by have:=h.mem.join k;rw [<-ap];exact this,h.own⟩
theorem RdAt.put (h:RdAt w1 wr b6 b8 F s ft fc vr acc X R) {i j c:Nat} (r:l.length=j) (hr:Row wr (some ⟨g,i,none⟩) l) (hb:acc.length+j<=1000000000) (ty:TypeId) :
  ∃ f d k b,(aS #[86,86] ty #[vr,.slice (some ⟨g,i,none⟩) j c]).run prog wr=.ok (.slice f (acc.length+j) d) b /\
   RdAt w1 (b.setCell ⟨b8,3,none⟩ (.slice f (acc.length+j) d)) b6 b8 F s ft fc (.slice f (acc.length+j) d) (acc++l) k R/\b.cell? ⟨b8,3,none⟩=some vr/\b.frozen? ⟨b8,3,none⟩=false:=by
 obtain ⟨v',k,b,z,u,y⟩:=je2 (c:=c) (h.mem.perm (jv [_,_] X R)) h.own r hr hb ty;obtain ⟨f,d,e,-⟩:=u.shape;rw [ar,r] at e;subst e;have q:Mem w1 b ((b6,.cells F pcT (0,0))::(b8,.cells (enA s ft fc vr) enT (0,0))::(k++R)):=y.perm (jv [_,_] k R).symm;exact ⟨f,d,k,b,z,⟨by have:=q.set 1 rfl 3 (.slice f (acc.length+j) d);simpa using this,u⟩,q.cell 1 rfl 3,q.free 1 rfl 3⟩
theorem RdAt.c6 (h:RdAt w1 wr b6 b8 F s ft fc vr acc X R) (i:Nat):wr.cell? ⟨b6,i,none⟩=F[i]?:=h.mem.cell 0 rfl i
theorem RdAt.c8 (h:RdAt w1 wr b6 b8 F s ft fc vr acc X R) (i:Nat):wr.cell? ⟨b8,i,none⟩=(enA s ft fc vr)[i]?:=h.mem.cell 1 rfl i
end
section
variable {w W:World} {p h m:Nat} {D:Dk} {hc:Array Value} {ks:List Bk} {L:List (Nat×Obj)}
theorem jj0 (H:DkAt w W p h m D hc ks L) (hd:D.dead=false) (E:4<=ks.length) (G:256<=m) (i:W.cell? ⟨0,0,none⟩=some (.iface t v)) (c:Nat) (hs:c<=1) (k:rp (ks.map Bk.b) c 0=none) :
  Calls prog 95 #[.pointer (some ⟨p,0,none⟩),.int .i64 c] W fun e q=>e=.returned (.tuple #[.agg en0,.iface t v])/\∃ K,Mem W q K:=by
 have j:Mem W (W.alloc (.cells en0 enT)) [(W.heap.size,.cells en0 enT (0,0))]:=(Mem.nil W).push1 rfl;have z:=H.join j;have f:(W.alloc (.cells en0 enT)).cell? ⟨0,0,none⟩=some (.iface t v):=by rw [<-i];exact j.old (j9 i)
 have y:Hid (Mem W (W.alloc (.cells en0 enT)) [(W.heap.size,.cells en0 enT (0,0))]):=j;generalize C:W.alloc (.cells en0 enT)=w1 at *;have hr:Calls prog 125 #[.pointer (some ⟨p,0,none⟩),.int .i64 c,.int .i64 0] w1 fun e q=>∃ g,e=.returned (unfV g m (.iface t v) (rp (ks.map Bk.b) c 0))/\(∃ K,Mem w1 q K)/\_:=j9e z hd E G f c 0 hs (by unfold sbk;omega);rw [k] at hr;simp only [unfV] at hr;clear j z H i f;go_enter func95,ntmps95;go_wp2_with fail;refine hr.mono ?_;rintro e A ⟨g,rfl,⟨K,u⟩,-⟩;go_upto_region 2 with fail;refine j5 (fun V=>Mem W V ([(W.heap.size,.cells en0 enT (0,0))]++(K++[(A.heap.size,.cells pc0 pcT (0,0))]))) (y.out.join (u.alloc _)) ?_;intro I d;have B:=d.cell 0 rfl;have J:=d.free 0 rfl;have r:Hid _:=d;clear d y u hr
 go_wp2
 exact bodyPost_ret (v:=.tuple #[.agg en0,.iface t v]) (by simp [results,results95,go_sem,B]) rfl ⟨rfl,_,(((r.out.set 0 rfl 0 _).set 0 rfl 1 _).set 0 rfl 2 _).set 0 rfl 3 _⟩
theorem jne (H:DkAt w W p h m D hc ks L) (hd:D.dead=false) (hn:4<=ks.length) (hm:256<=m) (a0:W.cell? ⟨0,0,none⟩=some (.iface t v)) (d:Nat) (hs:d<=1) {ft fc:Int} (N:rp (ks.map Bk.b) d 0=some ⟨ft,fc,0,fn,fb⟩) :
  Calls prog 95 #[.pointer (some ⟨p,0,none⟩),.int .i64 d] W fun e W'=>∃ vr,e=.returned (rdV (.iface t v) vr ((rdL (ks.map Bk.b) d ft (fn-1) 1 fb).map fun r=>⟨d,ft,fc,r⟩))/\∃ X K,Mem W W' (X++K)/\∀ r,rdL (ks.map Bk.b) d ft (fn-1) 1 fb=some r->OwnV vr r X:=by
 have hM:Mem W (W.alloc (.cells en0 enT)) [(W.heap.size,.cells en0 enT (0,0))]:=(Mem.nil W).push1 rfl;have H1:=H.join hM;have z:(W.alloc (.cells en0 enT)).cell? ⟨0,0,none⟩=some (.iface t v):=by rw [<-a0];exact hM.old (j9 a0)
 have HM:Hid (Mem W (W.alloc (.cells en0 enT)) [(W.heap.size,.cells en0 enT (0,0))]):=hM;generalize d1:W.alloc (.cells en0 enT)=w1 at *;have hr:Calls prog 125 #[.pointer (some ⟨p,0,none⟩),.int .i64 d,.int .i64 0] w1 fun e W'=>∃ g,e=.returned (unfV g m (.iface t v) (rp (ks.map Bk.b) d 0))/\(∃ K,Mem w1 W' K)/\∀ q,rp (ks.map Bk.b) d 0=some q->Row W' (some ⟨g,63,none⟩) q.b/\q.b.length+64<=m:=j9e H1 hd hn hm z d 0 hs (by unfold sbk;omega);have a7:=(rp_n N).2;rw [N] at hr;simp only [unfV] at hr;rw [ab] at a7;have a4:fn<=sbk ks.length:=by simp only at a7;omega
 have c9:fn<=31:=by have:=H.top;unfold sbk at a4;omega
 have HP:Hid (∀ V K,Mem w1 V K->∀ i:Nat,i<fn->Calls prog 125 #[.pointer (some ⟨p,0,none⟩),.int .i64 d,.int .i64 i] V fun e W'=>∃ g,e=.returned (unfV g m (.iface t v) (rp (ks.map Bk.b) d i))/\(∃ K,Mem V W' K)/\∀ q,rp (ks.map Bk.b) d i=some q->Row W' (some ⟨g,63,none⟩) q.b/\q.b.length+64<=m):=by
  intro V K hV i hi;exact j9e (H1.join hV) hd hn hm (by rw [<-z];exact hV.old (j9 z)) d i hs (by omega)
 have c5:Hid (∀ V K,Mem w1 V K->V.cell? ⟨0,0,none⟩=some (.iface t v)):=fun V K hV=>by rw [<-z];exact hV.old (j9 z)
 have d2:=H.mhi;have c7:0<W.heap.size:=j9 a0;generalize ks.map Bk.b=bl at *;generalize J:rdL bl d ft (fn-1) 1 fb=T;have HT:Hid (rdL bl d ft (fn-1) 1 fb=T):=J;clear hM H1 H a0 z N a7 a4 J;go_enter func95,ntmps95;go_wp2_with fail;refine hr.mono ?_;rintro e A ⟨g,rfl,⟨K,S⟩,hq⟩;obtain ⟨y,a3⟩:=hq _ rfl;simp only at y a3;go_upto_region 5 with fail;refine j5 (fun V=>RdAt w1 V A.heap.size (A.heap.size+1) (pcA ft fc 0 fn (.slice (some ⟨g,63,none⟩) fb.length (m-63))) d ft fc (.slice none 0 0) [] [] K/\Row V (some ⟨g,63,none⟩) fb)
  ⟨⟨by
   have h3:=(S.alloc (.cells (pcA ft fc 0 fn (.slice (some ⟨g,63,none⟩) fb.length (m-63))) pcT (0,0))).push (A.heap.size+1) (.cells (enA d ft fc (.slice none 0 0)) enT (0,0)) (by simp);refine h3.perm ?_;rw [ap];exact aq,Or.inl ⟨rfl,rfl,rfl⟩⟩,yh (yh y)⟩ ?_
 rintro wx ⟨hx,O⟩;generalize A.heap.size+1=b8 at *;generalize A.heap.size=b6 at *;obtain ⟨a',c',X1,wy,P,hy,c0,b9⟩:=hx.put (c:=m-63) rfl O (by simp;omega) 86;rw [au,aw,aM] at *;have b0:=hx.c8 3;have b1:=hx.c6 4;simp at b0 b1;have HY:Hid (RdAt w1 (wy.setCell ⟨b8,3,none⟩ (.slice a' fb.length c')) b6 b8 (pcA ft fc 0 fn (.slice (some ⟨g,63,none⟩) fb.length (m-63))) d ft fc (.slice a' fb.length c') fb X1 K):=hy;clear hx O y hq S hr hy;generalize hF:pcA ft fc 0 fn (.slice (some ⟨g,63,none⟩) fb.length (m-63))=F at *;have HF:Hid (F[0]?=some (.int .u64 ft)/\F[3]?=some (.int .i64 fn)):=by subst hF;exact ⟨rfl,rfl⟩
 clear hF;go_wp2_with (refine jl (.tmp 29) (.tmp 31) 86 86 (by with_reducible rfl) P rfl rfl (by simp [Act.eval]) (by simp [Act.eval]) ?_)
 go_loopw [9] (fun u wr=>∃ i:Nat,u=.int .i64 i/\1<=i/\i<=31+1/\∃ acc vr X R,RdAt w1 wr b6 b8 F d ft fc vr acc X R/\rdL bl d ft (fn-i) i acc=T/\acc.length<=i*70000) (fun u _=>fn-(intOf u).toNat)
 case atStart=>exact ⟨1,rfl,by omega,by omega,fb,_,_,_,HY.out,HT.out,by omega⟩
 case round =>
  obtain ⟨i,rfl,d4,d3,acc,vr,X,R,C,J,d6⟩:=hrel;have b2:=C.c6 3;have a6:=C.c6 0;rw [HF.out.2] at b2;rw [HF.out.1] at a6;by_cases hlt:i<fn
  ·obtain ⟨k,hk⟩:∃ k,fn-i=k+1:=⟨fn-i-1,by omega⟩;rw [hk,rdL] at J;have hP:=HP.out _ _ C.mem i hlt;cases hrp:rp bl d i with
   | none =>
    rw [hrp] at J hP;simp only [unfV] at hP;have U:Hid (T=none):=J.symm;have HA:Hid (RdAt w1 wr b6 b8 F d ft fc vr acc X R):=C;clear J hrp C HY HT a6;go_wp2_with fail;refine hP.mono ?_;rintro e A ⟨g2,rfl,⟨K2,S⟩,-⟩;go_upto_region 10 with fail;refine j5 (fun V=>RdAt w1 V b6 b8 F d ft fc vr acc X (R++(K2++[(A.heap.size,.cells pc0 pcT (0,0))]))) (HA.out.join (S.alloc _)) ?_;intro wx hx;have f:Hid _:=HM.out.join hx.mem;have kr:=f.out.cell 0 rfl;have kf:=f.out.free 0 rfl;clear hx HA S hP
    go_wp2
    exact bodyPost_ret (v:=.tuple #[.agg en0,.iface t v]) (by simp [results,results95,go_sem,kr]) rfl ⟨.nilIface,by rw [U.out];rfl,[],_,(((f.out.set 0 rfl 0 _).set 0 rfl 1 _).set 0 rfl 2 _).set 0 rfl 3 _,fun r e=>by rw [U.out] at e;cases e⟩
   | some q =>
    rw [hrp] at J hP;obtain ⟨Z,qc,qi,qn,E⟩:=q;simp only [unfV] at hP;have I:(if Z=ft then rdL bl d ft k (i+1) (acc++E) else none)=T:=J;have HA:Hid (RdAt w1 wr b6 b8 F d ft fc vr acc X R):=C;clear J hrp C HY HT a6;by_cases hqt:Z=ft
    ·rw [if_pos hqt] at I;have c4:Hid (rdL bl d ft k (i+1) (acc++E)=T):=I;subst hqt;have bn:(Z != Z)=false:=by simp
     clear I;go_wp2_with fail;refine hP.mono ?_;rintro e A ⟨g2,rfl,⟨K2,S⟩,hq⟩;obtain ⟨y,a3⟩:=hq _ rfl;have Q:Row A (some ⟨g2,63,none⟩) E:=y;have d0:E.length+64<=m:=a3;clear hq y a3;go_upto_region 10 with fail;refine j5 (fun V=>Mem wr V (K2++[(A.heap.size,.cells (pcA Z qc qi qn (.slice (some ⟨g2,63,none⟩) E.length (m-63))) pcT (0,0))])/\Row V (some ⟨g2,63,none⟩) E) ⟨S.alloc _,yh Q⟩ ?_;rintro wx ⟨B,O⟩;have hx:=HA.out.join B;have G:∀ j,wx.cell? ⟨A.heap.size,j,none⟩=(pcA Z qc qi qn (.slice (some ⟨g2,63,none⟩) E.length (m-63)))[j]?:=fun j=>cell_of (B.at_ (A.heap.size,_) (af _ (ae.mpr rfl))) j;have k0:=G 0;have k4:=G 4;have a5:=hx.c6 0;have a9:=hx.c8 3;rw [HF.out.1] at a5;simp at k0 k4 a9;generalize A.heap.size=c3 at *;obtain ⟨a2,c2,X2,wy,P,hy,c0,b9⟩:=hx.put (c:=m-63) rfl O (by omega) 86;have HY:Hid (RdAt w1 (wy.setCell ⟨b8,3,none⟩ (.slice a2 (acc.length+E.length) c2)) b6 b8 F d Z fc (.slice a2 (acc.length+E.length) c2) (acc++E) X2 _):=hy;obtain ⟨a1,c1,e1,-⟩:=hx.own.shape;subst e1;clear hx B O HA S hP hy G Q;go_wp2_with (refine jl (.tmp 59) (.tmp 61) 86 86 (by with_reducible rfl) P rfl rfl (by simp [Act.eval]) (by simp [Act.eval]) ?_)
     go_roundw
     case rel=>exact ⟨i+1,by go_num,by omega,by omega,acc++E,_,X2,_,HY.out,by rw [show fn-(i+1)=k by omega];exact c4.out,by rw [ar];omega⟩
     case measure=>simp [intOf];omega
    ·rw [if_neg hqt] at I;have U:Hid (T=none):=I.symm;have bn:(Z != ft)=true:=by simpa using hqt
     clear I hqt;go_wp2_with fail;refine hP.mono ?_;rintro e A ⟨g2,rfl,⟨K2,S⟩,-⟩;go_upto_region 10 with fail;refine j5 (fun V=>Mem wr V (K2++[(A.heap.size,.cells (pcA Z qc qi qn (.slice (some ⟨g2,63,none⟩) E.length (m-63))) pcT (0,0))])) (S.alloc _) ?_;intro wx B;have hx:=HA.out.join B;have G:∀ j,wx.cell? ⟨A.heap.size,j,none⟩=(pcA Z qc qi qn (.slice (some ⟨g2,63,none⟩) E.length (m-63)))[j]?:=fun j=>cell_of (B.at_ (A.heap.size,_) (af _ (ae.mpr rfl))) j;have k0:=G 0;have a5:=hx.c6 0;rw [HF.out.1] at a5;simp at k0;generalize A.heap.size=c3 at *;have d5:=c5.out _ _ hx.mem;have f:Hid _:=HM.out.join hx.mem;have kr:=f.out.cell 0 rfl;have kf:=f.out.free 0 rfl;clear hx B HA S hP G;go_wp2_with fail
     go_region
     all_goals go_wp2
     exact bodyPost_ret (v:=.tuple #[.agg en0,.iface t v]) (by simp [results,results95,go_sem,kr]) rfl ⟨.nilIface,by rw [U.out];rfl,[],_,((((f.out.set 0 rfl 0 _).set 0 rfl 1 _).set 0 rfl 2 _).set 0 rfl 3 _).drew,fun r e=>by rw [U.out] at e;cases e⟩
  ·have e:fn-i=0:=by omega
   rw [e,rdL] at J;have a8:Hid (T=some acc):=J.symm;have f:Hid (Mem W wr ([(W.heap.size,.cells en0 enT (0,0))]++((b6,.cells F pcT (0,0))::(b8,.cells (enA d ft fc vr) enT (0,0))::(X++R)))):=HM.out.join C.mem;have kr:=f.out.cell 0 rfl;have kf:=f.out.free 0 rfl;obtain ⟨a2,c2,e1,-⟩:=C.own.shape;subst e1;have b7:=C.c8 0;have b5:=C.c8 1;have b4:=C.c8 2;have b3:=C.c8 3;simp at b7 b5 b4 b3;have HO:Hid (OwnV (.slice a2 acc.length c2) acc X):=C.own;clear C HY HT J
   go_wp2
   refine bodyPost_ret (v:=.tuple #[.agg (enA d ft fc (.slice a2 acc.length c2)),.nilIface]) (by simp [results,results95,go_sem,kr]) rfl ⟨.slice a2 acc.length c2,by rw [a8.out];rfl,X,_,((((f.out.set 0 rfl 0 _).set 0 rfl 1 _).set 0 rfl 2 _).set 0 rfl 3 _).perm (jv [_,_,_] X R),fun r e=>?_⟩;rw [a8.out] at e;cases e;exact HO.out
end
end
section
open Go.RowKit Sm Cf
def spU:Sp Int:=jz 4 id (fun _ y=>y)
def spA:Sp (Int×Int):=jz 4 Prod.fst (fun x y=>(y,x.2))
def spB:Sp (Int×Int):=jz 4 Prod.snd (fun x y=>(x.1,y))
def spP:Sp (Int×Int):=j0j [spA,spB]
theorem j1w:∀ q,0<=q->q<256 ^ 4->IntKind.u32.wrap q=q:=fun q b c=>wraps_u32 q b (by omega)
theorem jq1 (x y:Int):spU.eq x y=decide (x=y):=rfl
theorem jlj (x y:Int×Int):spP.eq x y=decide (x=y):=by
 obtain ⟨a,b⟩:=x;obtain ⟨c,d⟩:=y;simp only [spP,j0j,spA,spB,jz,aj,aw];by_cases h:(a,b)=(c,d)
 ·rw [decide_eq_true h];apply decide_eq_true;intro i hi;simp only [Prod.mk.injEq] at h
  match i,hi with
  | 0,_=>simp [h.1]
  | 1,_=>simp [h.2]
 ·rw [decide_eq_false h];apply decide_eq_false;intro hc;apply h;have f:=hc 0 (by omega);have e:=hc 1 (by omega);simp at f e;rw [f,e]
theorem jao (V:World) (g b:Nat):Calls prog 302 #[.pointer (some ⟨g,b,none⟩)] V fun e c=>e=.returned (.pointer (some ⟨g,b+0,none⟩))/\V=c:=by
 go_enter func302,ntmps302
 go_wp2
 go_ret;exact ⟨rfl,rfl⟩
theorem jht (V:World) (g b:Nat):Calls prog 310 #[.pointer (some ⟨g,b,none⟩)] V fun e c=>e=.returned (.pointer (some ⟨g,b+0,none⟩))/\V=c:=by
 go_enter func310,ntmps310
 go_wp2
 go_ret;exact ⟨rfl,rfl⟩
theorem jhs (V:World) (g b:Nat):Calls prog 311 #[.pointer (some ⟨g,b,none⟩)] V fun e c=>e=.returned (.pointer (some ⟨g,b+1,none⟩))/\V=c:=by
 go_enter func311,ntmps311
 go_wp2
 go_ret;exact ⟨rfl,rfl⟩
theorem jy (b c post:List Value) (o:Nat) (v:Value) (h:c[o]?=some v):(b++(c++post)).toArray[b.length+o]?=some v:=by
 have d:=(ah.mp h).1;simp only [List.getElem?_toArray];rw [List.getElem?_append_right (by omega),List.getElem?_append_left (by omega),aO];exact h
theorem set_mid (b c post:List Value) (o:Nat) (v:Value) (h:o<c.length):(b++(c++post)).toArray.setIfInBounds (b.length+o) v=(b++(c.set o v++post)).toArray:=by
 simp only [List.setIfInBounds_toArray];rw [List.set_append_right _ _ (by omega),List.set_append_left _ _ (by omega),aO]
theorem Mem.put3 {a b c:Value} (h:Mem w V ((rb,.cells #[a,b,c] t (0,0))::M)) (x y z:Value) :
  Mem w (((V.setCell ⟨rb,0,none⟩ x).setCell ⟨rb,1,none⟩ y).setCell ⟨rb,2,none⟩ z) ((rb,.cells #[x,y,z] t (0,0))::M):=by
 have e:=h.set 0 rfl 0 x;have d:=Mem.set e 0 rfl 1 y;exact Mem.set d 0 rfl 2 z
theorem jr2:∀ x g T b post V K,JU w x g T b post V K->∃ A M,Lens w JU 0 x g T b post V K M A/\A[b.length+0]?=some (.int .u32 (id x)) /\
   ∀ y c,Mem w c ((g,.cells (A.setIfInBounds (b.length+0) (.int .u32 y)) T (0,0))::M)->JU w y g T b post c K:=by
 intro x g T b post V K h;refine ⟨_,K,⟨h,Sub.refl _,fun c h=>h⟩,jy _ _ _ 0 _ rfl,fun y c d=>?_⟩;rw [set_mid _ _ _ 0 _ (by simp)] at d;exact d
theorem jan (h:Mem w W L) :
  Calls prog 252 #[] W fun e J=>∃ f E,e=.returned f.val/\Mem w J (E++L)/\Fd w E IU JU f spU:=by
 have G:Mem w (W.alloc (.cells #[.nilFunc,.nilFunc,.nilFunc] 308)) ((W.heap.size,.cells #[.nilFunc,.nilFunc,.nilFunc] 308)::L):=(h.push W.heap.size _ rfl).perm aq;have C:=jfv G 4 302;obtain ⟨rb,q⟩:∃ rb,W.heap.size=rb:=⟨_,rfl⟩;rw [q] at C;go_enter func252,ntmps252;go_wp2_with fail;refine C.mono ?_;rintro e V ⟨bs,c,rfl,B⟩;have b:Mem w V ((rb,.cells #[.nilFunc,.nilFunc,.nilFunc] 308)::((bs,.cells #[.int .i64 4] 3)::(c,.cells #[.func (.func 302) #[] #[]] 331)::L)):=B.perm (by
  refine aU ?_ (ax (l₁:=[_,_]));exact aV _)
 have H:Hid (Fd w ([(rb,.cells (j10 bs c).cells.toArray 308),(bs,.cells #[.int .i64 4] 3),(c,.cells #[.func (.func 302) #[] #[]] 331)]) IU JU (j10 bs c) spU) :=
  jgs bs c 4 302 0 (by omega) j1w id (fun _ y=>y) (by simp) (by simp) (enters_of func302 (by kernel_rfl) rfl) jao (fun x r V g I h=>h) jr2
 clear C G B h;generalize j10 bs c=f at H;obtain ⟨k,j,i,A,z,u⟩:=f;have d:=b.put3 (.func (.func k) #[] A) (.func (.func j) #[] z) (.func (.func i) #[] u);have Q:V.cell? ⟨rb,0,none⟩=some .nilFunc:=b.cell 0 rfl 0;have P:V.cell? ⟨rb,1,none⟩=some .nilFunc:=b.cell 0 rfl 1;have O:V.cell? ⟨rb,2,none⟩=some .nilFunc:=b.cell 0 rfl 2;have N:=b.free 0 rfl;clear b;simp only [Fv.val];go_wp2_with fail;refine bodyPost_ret (v:=.agg #[.func (.func k) #[] A,.func (.func j) #[] z,.func (.func i) #[] u]) ?_ rfl ⟨⟨k,j,i,A,z,u⟩,[_,_,_],rfl,d,H.out⟩;exact results_cell_row (p:=0) (ty:=308) rfl _ _ rb 308 _ (0,0) _ rfl (d.get 0 rfl) underlying308 rfl (by kernel_rfl)
theorem jr4:∀ x g T b post V K,JP w x g T b post V K->∃ A M,Lens w JP 0 x g T b post V K M A/\A[b.length+0]?=some (.int .u32 x.1) /\
   ∀ y c,Mem w c ((g,.cells (A.setIfInBounds (b.length+0) (.int .u32 y)) T (0,0))::M)->JP w (y,x.2) g T b post c K:=by
 intro x g T b post V K h;refine ⟨_,K,⟨h,Sub.refl _,fun c h=>h⟩,jy _ _ _ 0 _ rfl,fun y c d=>?_⟩;rw [set_mid _ _ _ 0 _ (by simp)] at d;exact d
theorem jr3:∀ x g T b post V K,JP w x g T b post V K->∃ A M,Lens w JP 1 x g T b post V K M A/\A[b.length+1]?=some (.int .u32 x.2) /\
   ∀ y c,Mem w c ((g,.cells (A.setIfInBounds (b.length+1) (.int .u32 y)) T (0,0))::M)->JP w (x.1,y) g T b post c K:=by
 intro x g T b post V K h;refine ⟨_,K,⟨h,Sub.refl _,fun c h=>h⟩,jy _ _ _ 1 _ rfl,fun y c d=>?_⟩;rw [set_mid _ _ _ 1 _ (by simp)] at d;exact d
theorem jj9 (h:Mem w W L) :
  Calls prog 254 #[] W fun e W'=>∃ f E,e=.returned f.val/\Mem w W' (E++L)/\Fd w E IP JP f spP:=by
 have h0:Mem w (W.alloc (.cells #[.nilFunc,.nilFunc,.nilFunc] 315)) ((W.heap.size,.cells #[.nilFunc,.nilFunc,.nilFunc] 315)::L):=(h.push W.heap.size _ rfl).perm aq;have C:=j7w h0 4 310;obtain ⟨rb,a0⟩:∃ rb,W.heap.size=rb:=⟨_,rfl⟩;rw [a0] at C;go_enter func254,ntmps254;go_wp2_with fail;refine C.mono ?_;rintro e V ⟨bs,H,rfl,z⟩;have C2:=j7w z 4 311;clear C z h0 h;go_wp2_with fail;refine C2.mono ?_;rintro e V2 ⟨d,i,rfl,b⟩;obtain ⟨B,u⟩:∃ B,j1v bs H=B:=⟨_,rfl⟩;obtain ⟨A,k⟩:∃ A,j1v d i=A:=⟨_,rfl⟩;obtain ⟨lb,a1⟩:∃ lb,V2.heap.size=lb:=⟨_,rfl⟩;have c:Mem w (V2.alloc (.cells ([B,A].flatMap Fv.cells).toArray 315)) ((lb,.cells ([B,A].flatMap Fv.cells).toArray 315)::(d,.cells #[.int .i64 4] 3)::(i,.cells #[.func (.func 311) #[] #[]] 337)::(bs,.cells #[.int .i64 4] 3)::(H,.cells #[.func (.func 310) #[] #[]] 337)::(rb,.cells #[.nilFunc,.nilFunc,.nilFunc] 315)::L) :=
  (b.push lb _ a1.symm).perm aq
 have C3:=jjl c lb 2;rw [u,k];clear C2 b c;obtain ⟨k1,k2,k3,c1,c2,c3⟩:=B;obtain ⟨q1,q2,q3,d1,d2,d3⟩:=A;simp only [Fv.val];simp only [ay,List.flatMap_nil,Fv.cells,az,au,List.append_nil] at C3;go_wp2_with fail;refine C3.mono ?_;rintro e I ⟨G,rfl,z⟩;obtain ⟨E,j⟩:∃ E:List (Nat×Obj),E=[(G,.cells #[.slice (some ⟨lb,0,none⟩) 2 2] 338),(lb,.cells #[.func (.func k1) #[] c1,.func (.func k2) #[] c2,.func (.func k3) #[] c3,.func (.func q1) #[] d1,.func (.func q2) #[] d2,.func (.func q3) #[] d3] 315),
  (d,.cells #[.int .i64 4] 3),(i,.cells #[.func (.func 311) #[] #[]] 337),(bs,.cells #[.int .i64 4] 3),(H,.cells #[.func (.func 310) #[] #[]] 337)]:=⟨_,rfl⟩
 have b:Mem w I ((rb,.cells #[.nilFunc,.nilFunc,.nilFunc] 315)::(E++L)):=z.perm (by
  rw [j];exact ax (l₁:=[_,_,_,_,_,_]))
 have HF:Hid (Fd w E IP JP (j4c G) spP):=by
  refine jkf G lb 2 [⟨k1,k2,k3,c1,c2,c3⟩,⟨q1,q2,q3,d1,d2,d3⟩] [spA,spB] rfl (by omega) (by rw [j];simp) (by rw [j];simp [Fv.cells]) ?_ (fun x g T J post V V' K h hB=>Mem.after h hB) (fun x g T J post V K h=>Mem.sub h);rw [<-u,<-k];refine FdAll.cons ?_ (FdAll.cons ?_ FdAll.nil)
  ·exact j8c bs H 4 310 0 (by omega) j1w Prod.fst (fun x y=>(y,x.2)) (by rw [j];simp) (by rw [j];simp) (enters_of func310 (by kernel_rfl) rfl) jht (fun x r V g N h=>h.1) jr4
  ·exact j8c d i 4 311 1 (by omega) j1w Prod.snd (fun x y=>(x.1,y)) (by rw [j];simp) (by rw [j];simp) (enters_of func311 (by kernel_rfl) rfl) jhs (fun x r V g N h=>h.2) jr3
 clear C3 z j u k;generalize j4c G=f at HF;obtain ⟨Z,U,S,Q,P,O⟩:=f;have c:=b.put3 (.func (.func Z) #[] Q) (.func (.func U) #[] P) (.func (.func S) #[] O);have e0:I.cell? ⟨rb,0,none⟩=some .nilFunc:=b.cell 0 rfl 0;have e1:I.cell? ⟨rb,1,none⟩=some .nilFunc:=b.cell 0 rfl 1;have e2:I.cell? ⟨rb,2,none⟩=some .nilFunc:=b.cell 0 rfl 2;have e3:=b.free 0 rfl;clear b;simp only [Fv.val];go_wp2_with fail;refine bodyPost_ret (v:=.agg #[.func (.func Z) #[] Q,.func (.func U) #[] P,.func (.func S) #[] O]) ?_ rfl ⟨⟨Z,U,S,Q,P,O⟩,_::E,rfl,c,HF.out.more (fun q hq=>aA _ hq)⟩;exact results_cell_row (p:=0) (ty:=315) rfl _ _ rb 315 _ (0,0) _ rfl (c.get 0 rfl) underlying315 rfl (by kernel_rfl)
theorem jl9 (V:World) (g b:Nat):Calls prog 232 #[.pointer (some ⟨g,b,none⟩)] V fun e c=>e=.returned (.pointer (some ⟨g,b+0,none⟩))/\V=c:=by
 go_enter func232,ntmps232
 go_wp2
 go_ret;exact ⟨rfl,rfl⟩
theorem jph (V:World) (g b:Nat):Calls prog 234 #[.pointer (some ⟨g,b,none⟩)] V fun e c=>e=.returned (.pointer (some ⟨g,b+1,none⟩))/\V=c:=by
 go_enter func234,ntmps234
 go_wp2
 go_ret;exact ⟨rfl,rfl⟩
theorem jl6 (V:World) (g b:Nat):Calls prog 237 #[.pointer (some ⟨g,b,none⟩)] V fun e c=>e=.returned (.pointer (some ⟨g,b+10,none⟩))/\V=c:=by
 go_enter func237,ntmps237
 go_wp2
 go_ret;exact ⟨rfl,rfl⟩
theorem jsl (V:World) (g b:Nat):Calls prog 241 #[.pointer (some ⟨g,b,none⟩)] V fun e c=>e=.returned (.pointer (some ⟨g,b+24,none⟩))/\V=c:=by
 go_enter func241,ntmps241
 go_wp2
 go_ret;exact ⟨rfl,rfl⟩
theorem jsm (V:World) (g b:Nat):Calls prog 242 #[.pointer (some ⟨g,b,none⟩)] V fun e c=>e=.returned (.pointer (some ⟨g,b+25,none⟩))/\V=c:=by
 go_enter func242,ntmps242
 go_wp2
 go_ret;exact ⟨rfl,rfl⟩
theorem je7 (V:World) (g b:Nat):Calls prog 244 #[.pointer (some ⟨g,b,none⟩)] V fun e c=>e=.returned (.pointer (some ⟨g,b+26,none⟩))/\V=c:=by
 go_enter func244,ntmps244
 go_wp2
 go_ret;exact ⟨rfl,rfl⟩
theorem jl7 (V:World) (g b:Nat):Calls prog 245 #[.pointer (some ⟨g,b,none⟩)] V fun e c=>e=.returned (.pointer (some ⟨g,b+29,none⟩))/\V=c:=by
 go_enter func245,ntmps245
 go_wp2
 go_ret;exact ⟨rfl,rfl⟩
theorem jhu (V:World) (g b:Nat):Calls prog 246 #[.pointer (some ⟨g,b,none⟩)] V fun e c=>e=.returned (.pointer (some ⟨g,b+30,none⟩))/\V=c:=by
 go_enter func246,ntmps246
 go_wp2
 go_ret;exact ⟨rfl,rfl⟩
theorem jl8 (V:World) (g b:Nat):Calls prog 247 #[.pointer (some ⟨g,b,none⟩)] V fun e c=>e=.returned (.pointer (some ⟨g,b+31,none⟩))/\V=c:=by
 go_enter func247,ntmps247
 go_wp2
 go_ret;exact ⟨rfl,rfl⟩
theorem jhw (V:World) (g b:Nat):Calls prog 248 #[.pointer (some ⟨g,b,none⟩)] V fun e c=>e=.returned (.pointer (some ⟨g,b+32,none⟩))/\V=c:=by
 go_enter func248,ntmps248
 go_wp2
 go_ret;exact ⟨rfl,rfl⟩
theorem jce (V:World) (g b:Nat):Calls prog 227 #[.pointer (some ⟨g,b,none⟩)] V fun e c=>e=.returned (.pointer (some ⟨g,b+23,none⟩))/\V=c:=by
 go_enter func227,ntmps227
 go_wp2
 go_ret;exact ⟨rfl,rfl⟩
theorem j4q (V:World) (g b:Nat):Calls prog 228 #[.pointer (some ⟨g,b,none⟩)] V fun e c=>e=.returned (.pointer (some ⟨g,b+27,none⟩))/\V=c:=by
 go_enter func228,ntmps228
 go_wp2
 go_ret;exact ⟨rfl,rfl⟩
theorem j5k (V:World) (g b:Nat):Calls prog 229 #[.pointer (some ⟨g,b,none⟩)] V fun e c=>e=.returned (.pointer (some ⟨g,b+28,none⟩))/\V=c:=by
 go_enter func229,ntmps229
 go_wp2
 go_ret;exact ⟨rfl,rfl⟩
theorem jpi (V:World) (g b:Nat):Calls prog 236 #[.pointer (some ⟨g,b,none⟩)] V fun e c=>e=.returned (.slice (some ⟨g,b+2,none⟩) 8 8)/\V=c:=by
 go_enter func236,ntmps236
 go_wp2
 go_ret;exact ⟨rfl,rfl⟩
theorem jap (V:World) (g b:Nat):Calls prog 238 #[.pointer (some ⟨g,b,none⟩)] V fun e c=>e=.returned (.slice (some ⟨g,b+11,none⟩) 6 6)/\V=c:=by
 go_enter func238,ntmps238
 go_wp2
 go_ret;exact ⟨rfl,rfl⟩
theorem jla (V:World) (g b:Nat):Calls prog 239 #[.pointer (some ⟨g,b,none⟩)] V fun e c=>e=.returned (.slice (some ⟨g,b+17,none⟩) 6 6)/\V=c:=by
 go_enter func239,ntmps239
 go_wp2
 go_ret;exact ⟨rfl,rfl⟩
end
section
open Go.RowKit Sm
section
variable {w W:World} {p h m:Nat} {D:Dk} {hc:Array Value} {ks:List Bk} {L:List (Nat×Obj)}
theorem jnf (H:DkAt w W p h m D hc ks L) (hd:D.dead=false) (hn:4<=ks.length) (hm:256<=m) (hgl:W.cell? ⟨0,0,none⟩=some (.iface t v)) (slot:Nat) (hs:slot<=1) :
  Calls prog 95 #[.pointer (some ⟨p,0,none⟩),.int .i64 slot] W fun e W'=>∃ vr,e=.returned (rdV (.iface t v) vr (rd (ks.map Bk.b) slot))/\∃ X K,Mem W W' (X++K)/\∀ x,rd (ks.map Bk.b) slot=some x->OwnV vr x.r X:=by
 unfold rd;cases hrp:rp (ks.map Bk.b) slot 0 with
 | none =>
  refine (jj0 H hd hn hm hgl slot hs hrp).mono ?_;rintro e W' ⟨rfl,K,hK⟩;exact ⟨.nilIface,rfl,[],K,hK,fun x e=>by cases e⟩
 | some f =>
  obtain ⟨ft,fc,fi,fn,fb⟩:=f;have hq:=(rp_n hrp).1;simp only at hq;have hn0:0<=fn:=by
   have hz:slot*sbk ks.length+0<ks.length:=j27 hs hn (by unfold sbk;omega);have e1:(ks.map Bk.b).getD (slot*sbk ks.length+0) []=(ks[slot*sbk ks.length+0]'hz).b:=by simp [ac,aa (show slot*sbk ks.length<ks.length by simpa using hz)]
   have o:=H.st.ok _ (List.getElem_mem hz);unfold rp at hrp;rw [ab,e1] at hrp;split at hrp
   ·cases hrp
   ·rename_i q hu;split at hrp
    ·cases hrp
    ·simp only [Option.some.injEq] at hrp;subst hrp;exact (j3m hu o.len hm o.bytes).2.2.2.2.1.1
  obtain ⟨fk,rfl⟩:=Int.eq_ofNat_of_zero_le hn0;have hrp2:rp (ks.map Bk.b) slot 0=some ⟨ft,fc,0,fk,fb⟩:=by rw [hrp,hq];rfl
  refine (jne H hd hn hm hgl slot hs hrp2).mono ?_;rintro e W' ⟨vr,rfl,X,K,hK,hO⟩;refine ⟨vr,rfl,X,K,hK,fun x e=>?_⟩;simp only [Int.toNat_natCast,Option.map_eq_some_iff] at e;obtain ⟨r,hr,rfl⟩:=e;exact hO r hr
end
def enC (x:En×Value):List Value:=[.int .i64 x.1.s,.int .u64 x.1.t,.int .i64 x.1.c,x.2]
def enCs (l:List (En×Value)):List Value:=l.flatMap enC
theorem ja8 (l:List (En×Value)):(enCs l).length=l.length*4:=by
 induction l with
 | nil=>rfl
 | cons x l ih=>simp only [enCs,ay,ar,aj] at ih ⊢;rw [ih];simp [enC];omega
inductive OwnL:List (En×Value)->List (Nat×Obj)->Prop where
 | nil:OwnL [] []
 | cons {x:En×Value} {X:List (Nat×Obj)} {l:List (En×Value)} {Xs:List (Nat×Obj)} (h:OwnV x.2 x.1.r X) (t:OwnL l Xs):OwnL (x::l) (X++Xs)
theorem OwnL.snoc {l:List (En×Value)} (h:OwnL l Xs) {x:En×Value} (hx:OwnV x.2 x.1.r X):OwnL (l++[x]) (Xs++X):=by
 induction h with
 | nil=>have:=OwnL.cons hx .nil;simpa using this
 | cons h t ih=>rw [az,ap];exact .cons h ih
def ES (v:Value) (l:List (En×Value)) (Y:List (Nat×Obj)):Prop :=
 (v=.slice none 0 0/\l=[]/\Y=[])\/∃ g cap cur Xs,v=.slice (some ⟨g,0,none⟩) l.length cap/\0<l.length/\l.length<=cap/\cap*4<=cur.size/\cur.toList.take (l.length*4)=enCs l/\OwnL l Xs/\Y=(g,.cells cur enT (0,0))::Xs
theorem ES.shape {l:List (En×Value)} (h:ES v l Y):∃ a c,v=.slice a l.length c:=by
 rcases h with ⟨rfl,rfl,rfl⟩|⟨g,cap,cur,Xs,rfl,_⟩
 ·exact ⟨none,0,rfl⟩
 ·exact ⟨_,_,rfl⟩
theorem jor:(prog.info? enT).map (fun i=>(i.zero,i.size,i.bytes))=some (some (.agg en0),4,48):=by kernel_rfl
theorem cells_one {s t c:Int} {n k:Nat}:∀ u∈[aP .i64 s,.int .u64 t,.int .i64 c,.slice a n k],u.oneCell'=true:=by
 intro u b;simp at b;rcases b with rfl|rfl|rfl|rfl<;>rfl
theorem jgz {l:List (En×Value)} (hE:ES v l Y) (H:Mem w W (Y++(X++K))) (hl:l.length<=100) {x:En} (hx:OwnV vr x.r X)
  (hc:∀ j,j<4->W.cell? ⟨gt,j,none⟩=(enA x.s x.t x.c vr)[j]?) (ty:TypeId) :
  ∃ Z U Y' W',(aS #[124,124] ty #[v,.slice (some ⟨gt,0,none⟩) 1 1]).run prog W=.ok (.slice Z (l.length+1) U) W'/\ES (.slice Z (l.length+1) U) (l++[(x,vr)]) Y'/\Mem w W' (Y'++K):=by
 obtain ⟨i,hi,Q,d,G⟩:=info_parts jor;obtain ⟨av,cv,ev,-⟩:=hx.shape;have k:∀ j u,(enC (x,vr))[j]?=some u->W.cell? ((⟨gt,0,none⟩:Addr).add j)=some u:=by
  intro j u S;have J:=(ah.mp S).1;have e:((⟨gt,0,none⟩:Addr).add j)=⟨gt,j,none⟩:=by
   by_cases e:j=0
   ·subst e;simp [Addr.add]
   ·simp [Addr.add,e]
  rw [e,hc j (by simpa [enC] using J),<-S];simp [enC,enA]
 have C:∀ u∈enC (x,vr),u.oneCell'=true:=by rw [ev];exact cells_one
 have f:(enC (x,vr)).length=4:=rfl;have b:(l++[(x,vr)]).length=l.length+1:=by simp
 have E:enCs (l++[(x,vr)])=enCs l++enC (x,vr):=by simp [enCs]
 rcases hE with ⟨rfl,rfl,rfl⟩|⟨g,cap,cur,Xs,rfl,h0,h1,h2,h3,h4,rfl⟩
 ·have hr:=run_append_nil (P:=prog) W 124 ty enT i (.agg en0) underlying124 hi Q ⟨gt,0,none⟩ 1 1 (enC (x,vr)) (by rw [d];rfl) k (by omega) (by omega) (by rw [G];omega);have A:=grownCap_ge W 1 0 enT;refine ⟨_,_,_,_,hr,Or.inr ⟨W.heap.size,grownCap W 1 0 enT,(enC (x,vr)).toArray++aT (aQ en0).cells (grownCap W 1 0 enT-1),X,by simp,by simp,by simpa using A,?_,?_,(by have:=OwnL.cons (x:=(x,vr)) hx .nil;simpa using this),rfl⟩,?_⟩
  ·simp only [aX,aB,size_zeroCells,f,aR];simp only [aj,aw];omega
  ·simp only [aY];rw [aD (by rw [f];rfl)];simp [enCs]
  ·have:=(H.drew.alloc (.cells ((enC (x,vr)).toArray++aT (aQ en0).cells (grownCap W 1 0 enT-1)) enT)).perm aq;simpa using this
 ·have N:W.heap[g]?=some (.cells cur enT (0,0)):=H.get 0 rfl;have y:(cur.toList.take (l.length*4)).length=l.length*4:=by rw [h3,ja8]
  have O:(((g,Obj.cells cur enT (0,0))::Xs)++(X++K)).Perm ((g,.cells cur enT (0,0))::((Xs++X)++K)):=by rw [az,ap]
  by_cases hroom:l.length+1<=cap
  ·have hr:=run_append_room (P:=prog) W 124 ty enT i underlying124 hi g l.length cap cur N ⟨gt,0,none⟩ 1 1 (enC (x,vr)) (by rw [d];rfl) k C hroom (by rw [d,f];omega);refine ⟨_,_,_,_,hr,Or.inr ⟨g,cap,(cur.toList.take (l.length*i.size)++enC (x,vr)++cur.toList.drop (l.length*i.size+(enC (x,vr)).length)).toArray,Xs++X,by rw [b],by rw [b];omega,by rw [b];exact hroom,?_,?_,h4.snoc hx,rfl⟩,?_⟩
   ·simp only [aB,ar,al,List.length_drop,Array.length_toList,f,d];omega
   ·rw [b,E,<-h3,aE,d,aD (by rw [ar,y,f];omega)]
   ·exact (H.perm O).wrote 0 rfl (j8 W g cur _ enT N)
  ·have z:∀ q u,(cur.toList.take (l.length*4))[q]?=some u->W.cell? ((⟨g,0,none⟩:Addr).add q)=some u:=by
    intro q u I;have B:=(ah.mp I).1;rw [y] at B;have e:((⟨g,0,none⟩:Addr).add q)=⟨g,q,none⟩:=by
     by_cases e:q=0
     ·subst e;simp [Addr.add]
     ·simp [Addr.add,e]
    rw [e,cell_of N];rw [List.getElem?_take,if_pos B] at I;simpa using I
   have hr:=run_append_grow (P:=prog) W 124 ty enT i (.agg en0) underlying124 hi Q ⟨g,0,none⟩ l.length cap (cur.toList.take (l.length*4)) (by rw [d,y]) z ⟨gt,0,none⟩ 1 1 (enC (x,vr)) (by rw [d];rfl) k (by omega) (by omega) (growslice_fits (by omega) (by rw [G];omega));have A:=grownCap_ge W (l.length+1) cap enT;refine ⟨_,_,_,_,hr,Or.inr ⟨W.heap.size,grownCap W (l.length+1) cap enT,(cur.toList.take (l.length*4)).toArray++(enC (x,vr)).toArray++aT (aQ en0).cells (grownCap W (l.length+1) cap enT-(l.length+1)),Xs++X,by rw [b],by rw [b];omega,by rw [b];exact A,?_,?_,h4.snoc hx,rfl⟩,?_⟩
   ·simp only [aX,aB,size_zeroCells,y,f,aR];simp only [aj,aw];omega
   ·rw [b,E,<-h3,aY,aY,aE,aE,aD (by rw [ar,y,f];omega)]
   ·exact ((H.perm O).sub.drew.alloc _).perm aq
end
section
open Go.RowKit Sm Cf
structure TIn (t:Ten):Prop where
 len:TLen t
 key:j6 t.key
 vmac:j6 t.vmac
 host:j6 t.host
 name:t.name.size<=1000000
 pool:t.pool.length<=1000000
 stat:t.stat.length<=1000000
 twi:t.twi.length<=1000000
def IT:Rp Ten (Value×Value×Value):=fun t r V g off =>
 TIn t/\V.rangeAt g off (tc t r.1 r.2.1 r.2.2)/\Rw V 1 r.1 (ux t.pool)/\Rw V 2 r.2.1 (px t.stat)/\Rw V 2 r.2.2 (px t.twi)
def lv (h:Nat):List (List Value)->Value
 | []=>nilV
 | x::xs=>.slice (some ⟨h,0,none⟩) (x::xs).length (x::xs).length
def lb (h:Nat) (T:TypeId):List (List Value)->List (Nat×Obj)
 | []=>[]
 | x::xs=>[(h,.cells (x::xs).flatten.toArray T (0,0))]
def JT:St' Ten:=fun w t g T pre post V K=>TLen t/\(t.pool.length<=255/\t.stat.length<=255/\t.twi.length<=255)/\∃ hp hs hq,
 Mem w V ((g,.cells (pre++(tc t (lv hp (ux t.pool)) (lv hs (px t.stat)) (lv hq (px t.twi))++post)).toArray T (0,0)) ::
  (lb hp 33 (ux t.pool)++(lb hs 122 (px t.stat)++(lb hq 122 (px t.twi)++K))))
theorem Mem.subl (h:Mem w V L) (hs:K.Sublist L):Mem w V K :=
 ⟨h.below,fun p b=>h.low p (hs.subset b),fun p b=>h.at_ p (hs.subset b),h.apart.sublist (hs.map _)⟩
theorem Mem.dropA {A:List (Nat×Obj)} (h:Mem w V (A++K)):Mem w V K:=h.subl (aF A K)
theorem jbt {xs b:List (List Value)} (e:xs.length=b.length):lv h xs=lv h b:=by
 cases xs with
 | nil=>cases b with
  | nil=>rfl
  | cons y b=>simp at e
 | cons x xs=>cases b with
  | nil=>simp at e
  | cons y b=>simp only [lv,e]
theorem tset {t t':Ten} {p s q p' s' q':Value} (h:TLen t) (e:∀ n j a b c d f g x y i a1 U P N I E Z S O J H C A B hi G st k r z u Q,
  t=⟨n,j,[a,b,c,d,f,g,x,y],i,[a1,U,P,N,I,E],[Z,S,O,J,H,C],A,B,hi,G,st,k,r,z,u,Q⟩->(tc t p s q).set o v=tc t' p' s' q'):(tc t p s q).set o v=tc t' p' s' q':=by
 obtain ⟨n,j,key,i,vm,ho,A,B,hi,G,st,k,r,z,u,Q⟩:=t;obtain ⟨h1,h2,h3⟩:=h;obtain ⟨a,b,c,d,f,g,x,y,rfl⟩:=kt h1;obtain ⟨a1,U,P,N,I,E,rfl⟩:=six6 h2;obtain ⟨Z,S,O,J,H,C,rfl⟩:=six6 h3;exact e n j a b c d f g x y i a1 U P N I E Z S O J H C A B hi G st k r z u Q rfl
theorem tget {t:Ten} {p s q:Value} (h:TLen t) (e:∀ n j a b c d f g x y i a1 U P N I E Z S O J H C A B hi G st k r z u Q,
  t=⟨n,j,[a,b,c,d,f,g,x,y],i,[a1,U,P,N,I,E],[Z,S,O,J,H,C],A,B,hi,G,st,k,r,z,u,Q⟩->(tc t p s q)[o]?=some v):(tc t p s q)[o]?=some v:=by
 obtain ⟨n,j,key,i,vm,ho,A,B,hi,G,st,k,r,z,u,Q⟩:=t;obtain ⟨h1,h2,h3⟩:=h;obtain ⟨a,b,c,d,f,g,x,y,rfl⟩:=kt h1;obtain ⟨a1,U,P,N,I,E,rfl⟩:=six6 h2;obtain ⟨Z,S,O,J,H,C,rfl⟩:=six6 h3;exact e n j a b c d f g x y i a1 U P N I E Z S O J H C A B hi G st k r z u Q rfl
theorem j15 {β:Type} (o:Nat) (G:o<33) (old:Ten->Value) (r:β->Value) (c:Ten->β->Ten) (e:∀ t p s q,TLen t->(tc t p s q)[o]?=some (old t)) (d:∀ t y p s q,TLen t->(tc t p s q).set o (r y)=tc (c t y) p s q)
  (H:∀ t y,TLen t->TLen (c t y)) (E:∀ t y,(c t y).pool=t.pool/\(c t y).stat=t.stat/\(c t y).twi=t.twi) :
  ∀ t g T b post V K,JT w t g T b post V K->∃ A M,Lens w JT o t g T b post V K M A/\A[b.length+o]?=some (old t) /\
   ∀ y i,Mem w i ((g,.cells (A.setIfInBounds (b.length+o) (r y)) T (0,0))::M)->JT w (c t y) g T b post i K:=by
 rintro t g T b post V K ⟨f,hb,k,hs,j,I⟩;refine ⟨_,_,⟨I,fun q j=>?_,fun i h=>h.dropA.dropA.dropA⟩,jy _ _ _ o _ (e _ _ _ _ f),fun y i u=>?_⟩
 ·exact af _ (af _ (af _ j))
 ·rw [set_mid _ _ _ o _ (by rw [ji f];exact G),d _ _ _ _ _ f] at u;obtain ⟨C,B,z⟩:=E t y;refine ⟨H t y f,⟨by rw [C];exact hb.1,by rw [B];exact hb.2.1,by rw [z];exact hb.2.2⟩,k,hs,j,?_⟩;rw [C,B,z];exact u
theorem jf2 (d a b c post:List Value) (y:List Int) (hb:b.length=y.length):spl (d++((a++(b++c))++post)).toArray (d.length+a.length) y=(d++((a++(y.map (aP .u8)++c))++post)).toArray:=by
 unfold spl;simp only [ap];congr 1;have f:(d++(a++(b++(c++post)))).take (d.length+a.length)=d++a:=by
  rw [<-ap];exact aD (by simp)
 have e:(d++(a++(b++(c++post)))).drop (d.length+a.length+y.length)=c++post:=by
  rw [<-ap,<-ap];exact List.drop_left' (by simp [hb];omega)
 rw [f,e];simp only [ap]
theorem j9w (o n:Nat) (f:Ten->List Int->Ten) (hcut:∀ t p s q,TLen t->∃ a b c,a.length=o/\b.length=n/\tc t p s q=a++(b++c)/\∀ y,tc (f t y) p s q=a++(y.map (aP .u8)++c))
  (N:∀ t y,y.length=n->TLen t->TLen (f t y)) (J:∀ t y,(f t y).pool=t.pool/\(f t y).stat=t.stat/\(f t y).twi=t.twi) :
  ∀ t g T d post V K,JT w t g T d post V K->∃ A M,Lens w JT o t g T d post V K M A/\d.length+o+n<=A.size /\
   ∀ y k,y.length=n->j6 y->Mem w k ((g,.cells (spl A (d.length+o) y) T (0,0))::M)->JT w (f t y) g T d post k K:=by
 rintro t g T d post V K ⟨z,hb,i,hs,j,O⟩;obtain ⟨a,b,c,B,u,e,r⟩:=hcut t (lv i (ux t.pool)) (lv hs (px t.stat)) (lv j (px t.twi)) z;refine ⟨_,_,⟨O,fun q j=>?_,fun k h=>h.dropA.dropA.dropA⟩,?_,fun y k I _ C=>?_⟩
 ·exact af _ (af _ (af _ j))
 ·rw [e];simp [B,u];omega
 ·rw [e,<-B,jf2 d a b c post y (by omega),<-r y] at C;obtain ⟨H,G,E⟩:=J t y;refine ⟨N t y I z,⟨by rw [H];exact hb.1,by rw [G];exact hb.2.1,by rw [E];exact hb.2.2⟩,i,hs,j,?_⟩;rw [H,G,E];exact C
theorem jqx (m:Nat) (b:0<m):madeCells (aP .u32 0).cells (m*1)=(ux (aG m 0)).flatten.toArray:=by
 apply aZ.mp;have:=yb (aP .u32 0).cells m (by decide);rw [show (aP IntKind.u32 0).cells.size=1 from rfl] at this;rw [this];simp [ux,aR]
theorem jlq (m:Nat) (b:0<m):madeCells (aQ #[.int .u32 0,.int .u32 0]).cells (m*2)=(px (aG m (0,0))).flatten.toArray:=by
 apply aZ.mp;have:=yb (aQ #[.int .u32 0,.int .u32 0]).cells m (by decide);rw [show (aQ #[aP .u32 0,.int .u32 0]).cells.size=2 from rfl] at this;rw [this];simp [px,aR]
theorem j0r {xs:List (List Value)} (e:xs≠[]):lb h T xs=[(h,.cells xs.flatten.toArray T (0,0))]:=by
 cases xs with
 | nil=>exact absurd rfl e
 | cons x xs=>rfl
theorem j0o {xs:List (List Value)} (e:xs≠[]):lv h xs=.slice (some ⟨h,0,none⟩) xs.length xs.length:=by
 cases xs with
 | nil=>exact absurd rfl e
 | cons x xs=>rfl
def j1o (t:Ten) (m:Nat):Ten:=if m=0 then t else { t with pool:=aG m 0 }
theorem jdd:∀ t g T i post V K,JT w t g T i post V K->∃ A M y,Lens w JT 23 t g T i post V K M A/\A[i.length+23]?=some y /\
   ∀ m B,m<=255->j75 w B g A T (i.length+23) M m->JT w (j1o t m) g T i post B K:=by
 rintro t g T i post V K ⟨k,hb,C,hs,r,S⟩;refine ⟨_,_,_,⟨S,fun q r=>?_,fun B h=>h.dropA.dropA.dropA⟩,jy _ _ _ 23 _ (tget (v:=lv C (ux t.pool)) k (by rintro n G a b c d f g x y E a1 b1 c1 d1 f1 Z a2 b2 c2 d2 f2 U O P hi fi st H I N J bu rfl;rfl)),fun m B Q j=>?_⟩
 ·exact af _ (af _ (af _ r))
 ·rcases j with ⟨rfl,j⟩|⟨h0,h,j⟩
  ·exact ⟨k,hb,C,hs,r,j⟩
  ·have u:ux (aG m 0)≠[]:=by
    cases m with
    | zero=>omega
    | succ m=>simp [ux,aH]
   have z:(ux (aG m 0)).length=m:=by simp [ux]
   rw [set_mid _ _ _ 23 _ (by rw [ji k];omega),jqx m h0] at j;unfold j1o;rw [if_neg (by omega)];refine ⟨⟨k.key,k.vmac,k.host⟩,?_,h,hs,r,?_⟩
   ·simp only [aI];exact ⟨Q,hb.2.1,hb.2.2⟩
   ·have e:(tc t (lv C (ux t.pool)) (lv hs (px t.stat)) (lv r (px t.twi))).set 23 (.slice (some ⟨h,0,none⟩) m m)=tc { t with pool:=aG m 0 } (lv h (ux (aG m 0))) (lv hs (px t.stat)) (lv r (px t.twi)):=by
     rw [j0o u,z];exact tset k (by rintro n G a b c d f g x y E a1 b1 c1 d1 f1 Z a2 b2 c2 d2 f2 U O P hi fi st H I N J bu rfl;rfl)
    rw [e] at j;simp only at j ⊢;rw [j0r u];exact j.subl ((aF _ _).cons_cons _ |>.cons_cons _)
theorem jdb:∀ t g T k post V K,JT w t g T k post V K->t.pool.length<=255/\∃ hb M Q sc,(0<t.pool.length->Q=some ⟨hb,0,none⟩)/\Sub K M/\(∀ r,Mem w r M->Mem w r K)/\V.cell? ⟨g,k.length+23,none⟩=some (.slice Q t.pool.length sc) /\
   IMU w hb M V t.pool/\∀ i r,i.length=t.pool.length->IMU w hb M r i->JT w { t with pool:=i } g T k post r K:=by
 rintro t g T k post V K ⟨O,hb,z,hs,u,P⟩;have C:V.cell? ⟨g,k.length+23,none⟩=some (lv z (ux t.pool)):=by
  rw [P.cell 0 rfl];exact jy _ _ _ 23 _ (tget O (by rintro n vn a b c d f g x y Z a1 b1 c1 d1 f1 g1 a2 b2 c2 d2 f2 g2 po lo hi fi st tw se qu ra bu rfl;rfl))
 have B:∀ l,(ux l).length=l.length:=by intro l;simp [ux]
 have j:∀ l,ux l=[] ↔ l=[]:=by intro l;simp [ux]
 obtain ⟨G,S⟩:∃ G:Nat×Obj,G=(g,.cells (k++(tc t (lv z (ux t.pool)) (lv hs (px t.stat)) (lv u (px t.twi))++post)).toArray T (0,0)):=⟨_,rfl⟩;rw [<-S] at P;have I:Mem w V (lb z 33 (ux t.pool)++(G::((lb hs 122 (px t.stat))++((lb u 122 (px t.twi))++K)))):=P.perm (ax (l₁:=_)).symm;have J:∀ i r,i.length=t.pool.length->Mem w r (lb z 33 (ux i)++(G::((lb hs 122 (px t.stat))++((lb u 122 (px t.twi))++K))))->JT w { t with pool:=i } g T k post r K:=by
  intro i r E H;refine ⟨⟨O.key,O.vmac,O.host⟩,⟨by rw [E];exact hb.1,hb.2.1,hb.2.2⟩,z,hs,u,?_⟩;have e:lv z (ux i)=lv z (ux t.pool):=jbt (by rw [B,B,E]);have U:tc { t with pool:=i } (lv z (ux i)) (lv hs (px t.stat)) (lv u (px t.twi))=tc t (lv z (ux t.pool)) (lv hs (px t.stat)) (lv u (px t.twi)):=by rw [e];rfl
  simp only at U ⊢;rw [U,<-S];exact H.perm (ax (l₁:=_))
 by_cases h0:t.pool=[]
 ·refine ⟨hb.1,z,(G::((lb hs 122 (px t.stat))++((lb u 122 (px t.twi))++K))),none,0,fun h=>by rw [h0] at h;simp at h,?_,fun r h=>h.sub.dropA.dropA,?_,?_,?_⟩
  ·exact fun q u=>aA _ (af _ (af _ u))
  ·rw [C,(j _).mpr h0,h0];rfl
  ·unfold IMU;rw [if_pos h0];rw [(j _).mpr h0] at I;exact I
  ·intro i r E H;have A:i=[]:=by rw [h0] at E;exact aJ E
   unfold IMU at H;rw [if_pos A] at H;refine J i r E ?_;rw [(j _).mpr A];exact H
 ·have N:ux t.pool≠[]:=fun e=>h0 ((j _).mp e);refine ⟨hb.1,z,(G::((lb hs 122 (px t.stat))++((lb u 122 (px t.twi))++K))),some ⟨z,0,none⟩,t.pool.length,fun _=>rfl,?_,fun r h=>h.sub.dropA.dropA,?_,?_,?_⟩
  ·exact fun q u=>aA _ (af _ (af _ u))
  ·rw [C,j0o N,B]
  ·unfold IMU;rw [if_neg h0];rw [j0r N] at I;exact I
  ·intro i r E H;have A:i≠[]:=by rintro rfl;simp at E;exact h0 (aJ E.symm)
   unfold IMU at H;rw [if_neg A] at H;refine J i r E ?_;rw [j0r (fun e=>A ((j _).mp e))];exact H
def j1n (t:Ten) (m:Nat):Ten:=if m=0 then t else { t with stat:=aG m (0,0) }
theorem jdc:∀ t g T i post V K,JT w t g T i post V K->∃ A M y,Lens w JT 27 t g T i post V K M A/\A[i.length+27]?=some y /\
   ∀ m C,m<=255->j3g w C g A T (i.length+27) M m->JT w (j1n t m) g T i post C K:=by
 rintro t g T i post V K ⟨k,hb,B,hs,r,S⟩;refine ⟨_,_,_,⟨S,fun q r=>?_,fun C h=>h.dropA.dropA.dropA⟩,jy _ _ _ 27 _ (tget (v:=lv hs (px t.stat)) k (by rintro n G a b c d f g x y E a1 b1 c1 d1 f1 Z a2 b2 c2 d2 f2 U O P hi fi st H I N J bu rfl;rfl)),fun m C Q j=>?_⟩
 ·exact af _ (af _ (af _ r))
 ·rcases j with ⟨rfl,j⟩|⟨h0,h,j⟩
  ·exact ⟨k,hb,B,hs,r,j⟩
  ·have u:px (aG m (0,0))≠[]:=by
    cases m with
    | zero=>omega
    | succ m=>simp [px,aH]
   have z:(px (aG m (0,0))).length=m:=by simp [px]
   rw [set_mid _ _ _ 27 _ (by rw [ji k];omega),jlq m h0] at j;unfold j1n;rw [if_neg (by omega)];refine ⟨⟨k.key,k.vmac,k.host⟩,?_,B,h,r,?_⟩
   ·simp only [aI];exact ⟨hb.1,Q,hb.2.2⟩
   ·have e:(tc t (lv B (ux t.pool)) (lv hs (px t.stat)) (lv r (px t.twi))).set 27 (.slice (some ⟨h,0,none⟩) m m)=tc { t with stat:=aG m (0,0) } (lv B (ux t.pool)) (lv h (px (aG m (0,0)))) (lv r (px t.twi)):=by
     rw [j0o u,z];exact tset k (by rintro n G a b c d f g x y E a1 b1 c1 d1 f1 Z a2 b2 c2 d2 f2 U O P hi fi st H I N J bu rfl;rfl)
    rw [e] at j;simp only at j ⊢;rw [j0r u];exact (j.subl ((((aF _ _).append_left _).cons_cons _).cons_cons _)).perm ((ax (l₁:=_)).symm.cons _)
theorem jda:∀ t g T k post V K,JT w t g T k post V K->t.stat.length<=255/\∃ hb M Q sc,(0<t.stat.length->Q=some ⟨hb,0,none⟩)/\Sub K M/\(∀ r,Mem w r M->Mem w r K)/\V.cell? ⟨g,k.length+27,none⟩=some (.slice Q t.stat.length sc) /\
   IMP w hb M V t.stat/\∀ i r,i.length=t.stat.length->IMP w hb M r i->JT w { t with stat:=i } g T k post r K:=by
 rintro t g T k post V K ⟨O,hb,I,hs,u,P⟩;have B:V.cell? ⟨g,k.length+27,none⟩=some (lv hs (px t.stat)):=by
  rw [P.cell 0 rfl];exact jy _ _ _ 27 _ (tget O (by rintro n vn a b c d f g x y Z a1 b1 c1 d1 f1 g1 a2 b2 c2 d2 f2 g2 po lo hi fi st tw se qu ra bu rfl;rfl))
 have A:∀ l,(px l).length=l.length:=by intro l;simp [px]
 have j:∀ l,px l=[] ↔ l=[]:=by intro l;simp [px]
 obtain ⟨G,S⟩:∃ G:Nat×Obj,G=(g,.cells (k++(tc t (lv I (ux t.pool)) (lv hs (px t.stat)) (lv u (px t.twi))++post)).toArray T (0,0)):=⟨_,rfl⟩;rw [<-S] at P;have H:Mem w V (lb hs 122 (px t.stat)++(G::((lb I 33 (ux t.pool))++((lb u 122 (px t.twi))++K)))):=P.perm (by
  refine aU ((aK _ _ _).cons _) ?_;exact (ax (l₁:=_)).symm)
 have J:∀ i r,i.length=t.stat.length->Mem w r (lb hs 122 (px i)++(G::((lb I 33 (ux t.pool))++((lb u 122 (px t.twi))++K))))->JT w { t with stat:=i } g T k post r K:=by
  intro i r C E;refine ⟨⟨O.key,O.vmac,O.host⟩,⟨hb.1,by rw [C];exact hb.2.1,hb.2.2⟩,I,hs,u,?_⟩;have e:lv hs (px i)=lv hs (px t.stat):=jbt (by rw [A,A,C]);have U:tc { t with stat:=i } (lv I (ux t.pool)) (lv hs (px i)) (lv u (px t.twi))=tc t (lv I (ux t.pool)) (lv hs (px t.stat)) (lv u (px t.twi)):=by rw [e];rfl
  simp only at U ⊢;rw [U,<-S];exact E.perm (by
   refine aU (ax (l₁:=_)) ?_;exact (aK _ _ _).cons _)
 by_cases h0:t.stat=[]
 ·refine ⟨hb.2.1,hs,(G::((lb I 33 (ux t.pool))++((lb u 122 (px t.twi))++K))),none,0,fun h=>by rw [h0] at h;simp at h,?_,fun r h=>h.sub.dropA.dropA,?_,?_,?_⟩
  ·exact fun q u=>aA _ (af _ (af _ u))
  ·rw [B,(j _).mpr h0,h0];rfl
  ·unfold IMP;rw [if_pos h0];rw [(j _).mpr h0] at H;exact H
  ·intro i r C E;have z:i=[]:=by rw [h0] at C;exact aJ C
   unfold IMP at E;rw [if_pos z] at E;refine J i r C ?_;rw [(j _).mpr z];exact E
 ·have N:px t.stat≠[]:=fun e=>h0 ((j _).mp e);refine ⟨hb.2.1,hs,(G::((lb I 33 (ux t.pool))++((lb u 122 (px t.twi))++K))),some ⟨hs,0,none⟩,t.stat.length,fun _=>rfl,?_,fun r h=>h.sub.dropA.dropA,?_,?_,?_⟩
  ·exact fun q u=>aA _ (af _ (af _ u))
  ·rw [B,j0o N,A]
  ·unfold IMP;rw [if_neg h0];rw [j0r N] at H;exact H
  ·intro i r C E;have z:i≠[]:=by rintro rfl;simp at C;exact h0 (aJ C.symm)
   unfold IMP at E;rw [if_neg z] at E;refine J i r C ?_;rw [j0r (fun e=>z ((j _).mp e))];exact E
def j3s (t:Ten) (m:Nat):Ten:=if m=0 then t else { t with twi:=aG m (0,0) }
theorem jge:∀ t g T i post V K,JT w t g T i post V K->∃ A M y,Lens w JT 28 t g T i post V K M A/\A[i.length+28]?=some y /\
   ∀ m C,m<=255->j3g w C g A T (i.length+28) M m->JT w (j3s t m) g T i post C K:=by
 rintro t g T i post V K ⟨k,hb,B,hs,r,S⟩;refine ⟨_,_,_,⟨S,fun q r=>?_,fun C h=>h.dropA.dropA.dropA⟩,jy _ _ _ 28 _ (tget (v:=lv r (px t.twi)) k (by rintro n G a b c d f g x y E a1 b1 c1 d1 f1 Z a2 b2 c2 d2 f2 U O P hi fi st H I N J bu rfl;rfl)),fun m C Q j=>?_⟩
 ·exact af _ (af _ (af _ r))
 ·rcases j with ⟨rfl,j⟩|⟨h0,h,j⟩
  ·exact ⟨k,hb,B,hs,r,j⟩
  ·have u:px (aG m (0,0))≠[]:=by
    cases m with
    | zero=>omega
    | succ m=>simp [px,aH]
   have z:(px (aG m (0,0))).length=m:=by simp [px]
   rw [set_mid _ _ _ 28 _ (by rw [ji k];omega),jlq m h0] at j;unfold j3s;rw [if_neg (by omega)];refine ⟨⟨k.key,k.vmac,k.host⟩,?_,B,hs,h,?_⟩
   ·simp only [aI];exact ⟨hb.1,hb.2.1,Q⟩
   ·have e:(tc t (lv B (ux t.pool)) (lv hs (px t.stat)) (lv r (px t.twi))).set 28 (.slice (some ⟨h,0,none⟩) m m)=tc { t with twi:=aG m (0,0) } (lv B (ux t.pool)) (lv hs (px t.stat)) (lv h (px (aG m (0,0)))):=by
     rw [j0o u,z];exact tset k (by rintro n G a b c d f g x y E a1 b1 c1 d1 f1 Z a2 b2 c2 d2 f2 U O P hi fi st H I N J bu rfl;rfl)
    rw [e] at j;simp only at j ⊢;rw [j0r u];refine Mem.perm (j.subl (((((aF _ _).append_left _).append_left _).cons_cons _).cons_cons _)) ?_;refine aW _ ?_;refine aU ?_ ((ax (l₁:=_)).symm.append_left _);exact (ax (l₁:=_)).symm
theorem jgc:∀ t g T r post V K,JT w t g T r post V K->t.twi.length<=255/\∃ hb M Q sc,(0<t.twi.length->Q=some ⟨hb,0,none⟩)/\Sub K M/\(∀ u,Mem w u M->Mem w u K)/\V.cell? ⟨g,r.length+28,none⟩=some (.slice Q t.twi.length sc) /\
   IMP w hb M V t.twi/\∀ i u,i.length=t.twi.length->IMP w hb M u i->JT w { t with twi:=i } g T r post u K:=by
 rintro t g T r post V K ⟨O,hb,I,hs,k,P⟩;have B:V.cell? ⟨g,r.length+28,none⟩=some (lv k (px t.twi)):=by
  rw [P.cell 0 rfl];exact jy _ _ _ 28 _ (tget O (by rintro n vn a b c d f g x y Z a1 b1 c1 d1 f1 g1 a2 b2 c2 d2 f2 g2 po lo hi fi st tw se qu ra bu rfl;rfl))
 have A:∀ l,(px l).length=l.length:=by intro l;simp [px]
 have j:∀ l,px l=[] ↔ l=[]:=by intro l;simp [px]
 obtain ⟨G,S⟩:∃ G:Nat×Obj,G=(g,.cells (r++(tc t (lv I (ux t.pool)) (lv hs (px t.stat)) (lv k (px t.twi))++post)).toArray T (0,0)):=⟨_,rfl⟩;rw [<-S] at P;have H:Mem w V (lb k 122 (px t.twi)++(G::((lb I 33 (ux t.pool))++((lb hs 122 (px t.stat))++K)))):=P.perm (by
  refine aU (((aK _ _ _).append_left _).cons _) ?_;refine aU ((aK _ _ _).cons _) ?_;exact (ax (l₁:=_)).symm)
 have J:∀ i u,i.length=t.twi.length->Mem w u (lb k 122 (px i)++(G::((lb I 33 (ux t.pool))++((lb hs 122 (px t.stat))++K))))->JT w { t with twi:=i } g T r post u K:=by
  intro i u C E;refine ⟨⟨O.key,O.vmac,O.host⟩,⟨hb.1,hb.2.1,by rw [C];exact hb.2.2⟩,I,hs,k,?_⟩;have e:lv k (px i)=lv k (px t.twi):=jbt (by rw [A,A,C]);have U:tc { t with twi:=i } (lv I (ux t.pool)) (lv hs (px t.stat)) (lv k (px i))=tc t (lv I (ux t.pool)) (lv hs (px t.stat)) (lv k (px t.twi)):=by rw [e];rfl
  simp only at U ⊢;rw [U,<-S];exact E.perm (by
   refine aU (ax (l₁:=_)) ?_;refine aW _ ?_;refine aU (aK _ _ _) ?_;exact (aK _ _ _).append_left _)
 by_cases h0:t.twi=[]
 ·refine ⟨hb.2.2,k,(G::((lb I 33 (ux t.pool))++((lb hs 122 (px t.stat))++K))),none,0,fun h=>by rw [h0] at h;simp at h,?_,fun u h=>h.sub.dropA.dropA,?_,?_,?_⟩
  ·exact fun q k=>aA _ (af _ (af _ k))
  ·rw [B,(j _).mpr h0,h0];rfl
  ·unfold IMP;rw [if_pos h0];rw [(j _).mpr h0] at H;exact H
  ·intro i u C E;have z:i=[]:=by rw [h0] at C;exact aJ C
   unfold IMP at E;rw [if_pos z] at E;refine J i u C ?_;rw [(j _).mpr z];exact E
 ·have N:px t.twi≠[]:=fun e=>h0 ((j _).mp e);refine ⟨hb.2.2,k,(G::((lb I 33 (ux t.pool))++((lb hs 122 (px t.stat))++K))),some ⟨k,0,none⟩,t.twi.length,fun _=>rfl,?_,fun u h=>h.sub.dropA.dropA,?_,?_,?_⟩
  ·exact fun q k=>aA _ (af _ (af _ k))
  ·rw [B,j0o N,A]
  ·unfold IMP;rw [if_neg h0];rw [j0r N] at H;exact H
  ·intro i u C E;have z:i≠[]:=by rintro rfl;simp at C;exact h0 (aJ C.symm)
   unfold IMP at E;rw [if_neg z] at E;refine J i u C ?_;rw [j0r (fun e=>z ((j _).mp e))];exact E
end
end Go.Proofs.YtdigofgjhaakmaaGreatDoor
