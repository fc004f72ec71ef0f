/-
  What package log's find answers where there is power.
  Settings as bytes: the program's tenant(): all fields of a tenant, in their order.
  Rows of bytes in a row of slices of the call's own; what package log's newest and kept answer.
  Settings as bytes: the program's Tenant and Same, at every tenant.
-/
import Derived.Test.YtdigofgjhaakmaaGreatDoorW11
import Derived.Deep.MidRow
import Derived.Deep.WholeRow
set_option linter.unusedVariables false
set_option maxRecDepth 20000
set_option maxHeartbeats 40000000
namespace Go.Proofs.YtdigofgjhaakmaaGreatDoor
open Go.RowKit
open Sm
def lfnd (bl:List (List Int)):Nat→List En
 | 0=>[]
 | i+1=>lfnd bl i++(rd bl i).toList
theorem fnd_len (bl:List (List Int)) (i:Nat):(lfnd bl i).length≤i:=by
 induction i with
 | zero=>simp [lfnd]
 | succ i ih=>cases h:rd bl i <;> simp [lfnd,h] <;> omega
theorem fd_two {bl:List (List Int)} {x y:En} (h:lfnd bl 2=[x,y]):fd bl=if ltr x.t y.t then [y,x] else [x,y]:=by
 unfold fd
 simp only [lfnd] at h
 cases h0:rd bl 0 <;> cases h1:rd bl 1 <;> rw [h0,h1] at h <;> simp at h
 obtain ⟨rfl,rfl⟩:=h
 rfl
theorem fd_less {bl:List (List Int)} (h:(lfnd bl 2).length≠2):fd bl=lfnd bl 2:=by
 unfold fd
 simp only [lfnd] at h ⊢
 cases h0:rd bl 0 <;> cases h1:rd bl 1 <;> rw [h0,h1] at h <;> simp at h ⊢
theorem es_two {v:Value} {x y:En×Value} {Y:List (Nat×Obj)} (h:ES v [x,y] Y) {w W:World} {K:List (Nat×Obj)} (hM:Mem w W (Y++K)) :
  ∃ g cap cur X1 X2,v=.slice (some ⟨g,0,none⟩) 2 cap∧2≤cap∧cap * 4≤cur.size∧cur.toList.take 8=enC x++enC y∧OwnV x.2 x.1.r X1∧OwnV y.2 y.1.r X2∧Y=(g,.cells cur enT (0,0))::(X1++X2)∧(∀ j,j < 8→W.cell? ⟨g,j,none⟩=(enC x++enC y)[j]?)∧∀ j,W.frozen? ⟨g,j,none⟩=false:=by
 rcases h with ⟨_,e,_⟩ | ⟨g,cap,cur,Xs,rfl,_,h1,h2,h3,h4,rfl⟩
 ·cases e
 ·cases h4 with
  | cons a t =>
   cases t with
   | cons b t2 =>
    cases t2
    have e8:cur.toList.take 8=enC x++enC y:=by
     have:=h3
     simpa [enCs] using this
    refine ⟨g,cap,cur,_,_,rfl,h1,h2,e8,a,b,by simp,fun j hj=>?_,fun j=>?_⟩
    ·rw [hM.cell 0 rfl j,← e8,List.getElem?_take,if_pos hj];simp
    ·exact hM.free 0 rfl j
theorem set8 (cur:Array Value) (h:8≤cur.size) (a b c d e f g i:Value):((((((((cur.setIfInBounds 0 a).setIfInBounds 1 b).setIfInBounds 2 c).setIfInBounds 3 d).setIfInBounds 4 e).setIfInBounds 5 f).setIfInBounds 6 g).setIfInBounds 7 i).toList.take 8=[a,b,c,d,e,f,g,i]:=by
 obtain ⟨l⟩:=cur
 match l,h with
 | c0::c1::c2::c3::c4::c5::c6::c7::r,_=>simp
section
variable {w W:World} {p h m:Nat} {D:Dk} {hc:Array Value} {ks:List Bk} {L:List (Nat×Obj)}
set_option maxRecDepth 20000 in
theorem find_live (H:DkAt w W p h m D hc ks L) {a:Addr} (hG:Gl W a) (hd:D.dead=false) (hn:4≤ks.length) (hm:256≤m) :
  Calls Tryz.prog 68 #[.pointer (some ⟨p,0,none⟩)] W fun e W'=>∃ v,e=.returned (.tuple #[v,.int .i64 0])∧∃ l,l.map Prod.fst=fd (ks.map Bk.b)∧∃ Y,ES v l Y∧∃ K,Mem W W' (Y++K):=by
 have HR:Hid (∀ V K,Mem W V K→∀ i:Nat,i≤1→Calls Tryz.prog 95 #[.pointer (some ⟨p,0,none⟩),.int .i64 i] V fun e W'=>∃ vr,e=.returned (rdV (.iface 342 (.pointer (some a))) vr (rd (ks.map Bk.b) i))∧∃ X K,Mem V W' (X++K)∧∀ x,rd (ks.map Bk.b) i=some x→OwnV vr x.r X) :=
  fun V K hV i hi=>rd_live (H.join hV) hd hn hm (hG.on hV).sent i hi
 have HG:Hid (Gl W a):=hG
 generalize ks.map Bk.b=bl at *
 clear hG H
 generalize hF:fd bl=FD
 have HF:Hid (fd bl=FD):=hF
 clear hF
 go_enter Tryz.func68,Tryz.ntmps68
 go_wp2_with fail
 go_loopw [4,9] (fun o u wr=>∃ i:Nat,u=.int .i64 i∧i≤2∧∃ l Y K,l.map Prod.fst=lfnd bl i∧ES o l Y∧Mem W wr (Y++K)) (fun _ u _=>2 - (intOf u).toNat)
 case atStart=>exact ⟨0,rfl,by omega,[],[],[],rfl,Or.inl ⟨rfl,rfl,rfl⟩,Mem.nil W⟩
 case round =>
  obtain ⟨i,rfl,hi,l,Y,K,hl,hE,hM⟩:=hrel
  have hll:l.length≤i:=by have:=fnd_len bl i;rw [←hl] at this;simpa using this
  by_cases hlt:i < 2
  ·have hr:=HR.out _ _ hM i (by omega)
   cases hrd:rd bl i with
   | none =>
    rw [hrd] at hr
    simp only [rdV] at hr
    have HL:Hid (l.map Prod.fst=lfnd bl (i+1)):=by show _=_;rw [hl,lfnd,hrd];simp
    have HE:Hid (ES u4 l Y):=hE
    have HM:Hid (Mem W wr (Y++K)):=hM
    clear hl hE hrd hM
    go_wp2_with fail
    refine hr.mono ?_
    rintro e w2 ⟨vr,rfl,X,K2,h2,-⟩
    go_upto_region 8 with fail
    refine wp_letter (fun V=>Mem wr V (X++K2++[(w2.heap.size,.cells en0 enT (0,0))]++[(w2.heap.size+1,.cells #[.int .i64 0] 28)])) ((h2.alloc _).push (w2.heap.size+1) _ (by simp)) ?_
    intro wx hx
    have hMx:=HM.out.join hx
    have gx:=HG.out.on hMx
    have s1:=gx.sent
    have hI:=is_same a wx
    have HMx:Hid (Mem W wx (Y++(K++(X++K2++[(w2.heap.size,.cells en0 enT (0,0))]++[(w2.heap.size+1,.cells #[.int .i64 0] 28)])))):=by rw [←List.append_assoc];exact hMx
    clear hx hMx gx h2 hr
    go_wp2_with fail
    refine hI.mono ?_
    rintro e w' ⟨rfl,rfl⟩
    go_wp2_with fail
    go_roundw
    case rel=>exact ⟨i+1,by go_num,by omega,l,Y,_,HL.out,HE.out,HMx.out⟩
    case measure=>simp [intOf];omega
   | some x =>
    rw [hrd] at hr
    simp only [rdV] at hr
    have HL:Hid (∀ vr:Value,(l++[(x,vr)]).map Prod.fst=lfnd bl (i+1)):=by intro vr;rw [lfnd,hrd,List.map_append,hl];simp
    have HE:Hid (ES u4 l Y):=hE
    have HM:Hid (Mem W wr (Y++K)):=hM
    clear hl hE hrd hM
    obtain ⟨xs,xt,xc,xr⟩:=x
    simp only at hr
    go_wp2_with fail
    refine hr.mono ?_
    rintro e w2 ⟨vr,rfl,X,K2,h2,hO⟩
    have hO2:OwnV vr xr X:=hO _ rfl
    obtain ⟨av,cv,ev,-⟩:=hO2.shape
    subst ev
    clear hO
    go_upto_region 8 with fail
    refine wp_letter (fun V=>Mem wr V (X++K2++[(w2.heap.size,.cells (enA xs xt xc (.slice av xr.length cv)) enT (0,0))]++[(w2.heap.size+1,.cells #[.int .i64 0] 28)])) ((h2.alloc _).push (w2.heap.size+1) _ (by simp)) ?_
    intro wx hx
    have hMx:=HM.out.join hx
    have gx:=HG.out.on hMx
    have s1:=gx.sent
    have hI:=is_nil a wx
    have hA:=as_nil (.iface 164 (.pointer (some ⟨w2.heap.size+1,0,none⟩))) wx
    have kb:∀ j,wx.cell? ⟨w2.heap.size,j,none⟩=(enA xs xt xc (.slice av xr.length cv))[j]?:=fun j=>cell_of (hx.at_ (w2.heap.size,.cells (enA xs xt xc (.slice av xr.length cv)) enT (0,0)) (by simp)) j
    have k0:=kb 0
    have k1:=kb 1
    have k2:=kb 2
    have k3:=kb 3
    simp at k0 k1 k2 k3
    have HMx:Hid (Mem W wx (Y++(X++(K++(K2++[(w2.heap.size,.cells (enA xs xt xc (.slice av xr.length cv)) enT (0,0))]++[(w2.heap.size+1,.cells #[.int .i64 0] 28)]))))):=by
     refine hMx.perm ?_
     rw [List.append_assoc]
     refine List.Perm.append_left Y ?_
     rw [List.append_assoc,List.append_assoc,List.append_assoc]
     exact perm_front K X _
    obtain ⟨ao,co,eo⟩:=HE.out.shape
    subst eo
    have hA4:∀ j,j < 4→(wx.alloc (.cells (enA xs xt xc (.slice av xr.length cv)) enT)).cell? ⟨wx.heap.size,j,none⟩=(enA xs xt xc (.slice av xr.length cv))[j]?:=fun j _=>by
     have:=((Mem.nil wx).push1 (o:=.cells (enA xs xt xc (.slice av xr.length cv)) enT) rfl).cell 0 rfl j
     exact this
    have hMA:Mem W (wx.alloc (.cells (enA xs xt xc (.slice av xr.length cv)) enT)) (Y++(X++((K++(K2++[(w2.heap.size,.cells (enA xs xt xc (.slice av xr.length cv)) enT (0,0))]++[(w2.heap.size+1,.cells #[.int .i64 0] 28)]))++[(wx.heap.size,.cells (enA xs xt xc (.slice av xr.length cv)) enT (0,0))]))):=by
     have:=HMx.out.alloc (.cells (enA xs xt xc (.slice av xr.length cv)) enT (0,0))
     simpa [List.append_assoc] using this
    obtain ⟨a',c',Y',W',hrun,hE',hM'⟩:=es_append HE.out hMA (by omega) (x:=⟨xs,xt,xc,xr⟩) hO2 hA4 124
    have HE':Hid (ES (.slice a' (l.length+1) c') (l++[(⟨xs,xt,xc,xr⟩,.slice av xr.length cv)]) Y'):=hE'
    have HM':Hid _:=hM'
    clear hx hMx gx h2 hr kb hMA hA4 hE' hM' hO2 HMx
    go_wp2_with fail
    refine hI.mono ?_
    rintro e w' ⟨rfl,rfl⟩
    go_wp2_with fail
    refine hA.mono ?_
    rintro e w' ⟨rfl,rfl⟩
    go_wp2_with (refine wpList_append_runL (.tmp 18) (.tmp 20) 124 124 (by with_reducible rfl) hrun rfl rfl (by simp [Act.eval]) (by simp [Act.eval]) ?_)
    go_roundw
    case rel=>exact ⟨i+1,by go_num,by omega,_,Y',_,HL.out _,HE'.out,HM'.out⟩
    case measure=>simp [intOf];omega
  ·have e2:i=2:=by omega
   subst e2
   by_cases h2:l.length=2
   ·obtain ⟨x,y,rfl⟩:∃ x y,l=[x,y]:=by
     match l,h2 with
     | [x,y],_=>exact ⟨x,y,rfl⟩
    have hfd:FD=if ltr x.1.t y.1.t then [y.1,x.1] else [x.1,y.1]:=by rw [←HF.out];exact fd_two hl.symm
    obtain ⟨g,cap,cur,X1,X2,ev,hcp,hsz,hcur,o1,o2,hY,hcell,hfree⟩:=es_two hE hM
    subst ev
    obtain ⟨⟨xs,xt,xc,xr⟩,xv⟩:=x
    obtain ⟨⟨ys,yt,yc,yr⟩,yv⟩:=y
    obtain ⟨ax,cx,ex,-⟩:=o1.shape
    obtain ⟨ay,cy,ey,-⟩:=o2.shape
    simp only at ex ey hfd
    subst ex;subst ey
    have k0:=hcell 0 (by omega)
    have k1:=hcell 1 (by omega)
    have k2:=hcell 2 (by omega)
    have k3:=hcell 3 (by omega)
    have k4:=hcell 4 (by omega)
    have k5:=hcell 5 (by omega)
    have k6:=hcell 6 (by omega)
    have k7:=hcell 7 (by omega)
    simp [enC] at k0 k1 k2 k3 k4 k5 k6 k7
    have HLT:Hid (∀ k,Calls Tryz.prog 97 #[.int .u64 xt,.int .u64 yt] (wr.drewN k) fun e W'=>e=.returned (.bool (ltr xt yt))∧wr.drewN k=W'):=fun k=>llater_any _ _ _
    have HE:Hid (ES _ _ Y):=hE
    have HM:Hid (Mem W wr (Y++K)):=hM
    have q1:(1:Int) < (2:Int):=by decide
    clear hl hE hM HR HF hcell h2 hll
    cases hlt2:ltr xt yt with
    | false =>
     rw [hlt2] at hfd HLT
     have HF2:Hid (FD=[⟨xs,xt,xc,xr⟩,⟨ys,yt,yc,yr⟩]):=hfd
     clear hfd hlt2 hcur
     go_upto_region 12 with fail
     go_quiet (first | (go_at_call 97;exact quiet_eq (HLT.out _)))
     go_wp2
     exact bodyPost_ret (v:=.tuple #[.slice (some ⟨g,0,none⟩) 2 cap,.int .i64 0]) (by simp [results,Tryz.results68,go_sem]) rfl ⟨_,rfl,_,by rw [HF2.out];rfl,Y,HE.out,K,HM.out.drewN _⟩
    | true =>
     rw [hlt2] at hfd HLT
     have HF2:Hid (FD=[⟨ys,yt,yc,yr⟩,⟨xs,xt,xc,xr⟩]):=hfd
     have HY:Hid (Y=(g,.cells cur enT (0,0))::(X1++X2)∧2≤cap∧cap * 4≤cur.size∧OwnV (.slice ax xr.length cx) xr X1∧OwnV (.slice ay yr.length cy) yr X2):=⟨hY,hcp,hsz,o1,o2⟩
     clear hfd hlt2 hcur hY
     go_upto_region 12 with fail
     go_quiet (first | (go_at_call 97;exact quiet_eq (HLT.out _)))
     go_upto_region 13 with fail
     refine wp_letter (fun V=>Mem W V (Y++K)∧V.cell? ⟨g,0,none⟩=some (.int .i64 xs)∧V.cell? ⟨g,1,none⟩=some (.int .u64 xt)∧V.cell? ⟨g,2,none⟩=some (.int .i64 xc)∧V.cell? ⟨g,3,none⟩=some (.slice ax xr.length cx)∧V.cell? ⟨g,4,none⟩=some (.int .i64 ys)∧V.cell? ⟨g,5,none⟩=some (.int .u64 yt)∧V.cell? ⟨g,6,none⟩=some (.int .i64 yc)∧V.cell? ⟨g,7,none⟩=some (.slice ay yr.length cy)∧∀ j,V.frozen? ⟨g,j,none⟩=false) ⟨HM.out.drewN _,k0,k1,k2,k3,k4,k5,k6,k7,hfree⟩ ?_
     clear k0 k1 k2 k3 k4 k5 k6 k7 hfree HLT
     rintro wx ⟨hx,k0,k1,k2,k3,k4,k5,k6,k7,hfree⟩
     have HX:Hid (Mem W wx (Y++K)):=hx
     clear hx HM
     go_region
     all_goals go_wp2
     refine bodyPost_ret (v:=.tuple #[.slice (some ⟨g,0,none⟩) 2 cap,.int .i64 0]) (by simp [results,Tryz.results68,go_sem]) rfl ⟨_,rfl,[(⟨ys,yt,yc,yr⟩,.slice ay yr.length cy),(⟨xs,xt,xc,xr⟩,.slice ax xr.length cx)],by rw [HF2.out];rfl,(g,.cells ((((((((cur.setIfInBounds 0 (.int .i64 ys)).setIfInBounds 1 (.int .u64 yt)).setIfInBounds 2 (.int .i64 yc)).setIfInBounds 3 (.slice ay yr.length cy)).setIfInBounds 4 (.int .i64 xs)).setIfInBounds 5 (.int .u64 xt)).setIfInBounds 6 (.int .i64 xc)).setIfInBounds 7 (.slice ax xr.length cx)) enT (0,0))::(X2++X1),?_,K,?_⟩
     ·obtain ⟨hY,hcp,hsz,o1,o2⟩:=HY.out
      refine Or.inr ⟨g,cap,_,X2++X1,rfl,by simp,by simpa using hcp,by simpa using hsz,?_,?_,rfl⟩
      ·exact set8 cur (by omega) _ _ _ _ _ _ _ _
      ·have:=OwnL.cons (x:=(⟨ys,yt,yc,yr⟩,.slice ay yr.length cy)) o2 (OwnL.cons (x:=(⟨xs,xt,xc,xr⟩,.slice ax xr.length cx)) o1 .nil)
       simpa using this
     ·obtain ⟨hY,hcp,hsz,o1,o2⟩:=HY.out
      have hx:=HX.out
      rw [hY] at hx
      have hx2:=hx.perm (show ((g,Obj.cells cur enT (0,0))::(X1++X2)++K).Perm ((g,.cells cur enT (0,0))::(X2++X1)++K) from ((List.perm_append_comm).append_right K).cons _)
      exact ((((((((hx2.set 0 rfl 0 _).set 0 rfl 1 _).set 0 rfl 2 _).set 0 rfl 3 _).set 0 rfl 4 _).set 0 rfl 5 _).set 0 rfl 6 _).set 0 rfl 7 _).drew
   ·have HF2:Hid (l.map Prod.fst=FD):=by
     show _=_
     rw [←HF.out,fd_less (by rw [←hl];simpa using h2),hl]
    have HE:Hid (ES u4 l Y):=hE
    have HM:Hid (Mem W wr (Y++K)):=hM
    obtain ⟨ao,co,eo⟩:=hE.shape
    subst eo
    have hdd:((l.length:Int) == 2)=false:=by simp;omega
    clear hl hE hM HR HF
    go_upto_region 12 with fail
    go_quiet (fail)
    go_wp2
    exact bodyPost_ret (v:=.tuple #[.slice ao l.length co,.int .i64 0]) (by simp [results,Tryz.results68,go_sem]) rfl ⟨_,rfl,l,HF2.out,Y,HE.out,K,HM.out.drewN _⟩
end
end Go.Proofs.YtdigofgjhaakmaaGreatDoor
namespace Go.Proofs.YtdigofgjhaakmaaGreatDoor
open Go.RowKit
open Sm
open Cf
theorem tenant_any {w W:World} {L:List (Nat×Obj)} (h:Mem w W L) :
  Calls Tryz.prog 160 #[] W fun e W'=>∃ f E,e=.returned f.val∧Mem w W' (E++L)∧Fd w E IT JT f spT:=by
 have hM0:Mem w (W.alloc (.cells #[.nilFunc,.nilFunc,.nilFunc] 246)) ((W.heap.size,.cells #[.nilFunc,.nilFunc,.nilFunc] 246)::([]++L)):=(h.push W.heap.size _ rfl).perm List.perm_append_comm
 obtain ⟨rb,hrb⟩:∃ rb,W.heap.size=rb:=⟨_,rfl⟩
 rw [hrb] at hM0
 clear h
 go_enter Tryz.func160,Tryz.ntmps160
 have C1:=c_Name hM0
 go_wp2_with fail
 refine C1.mono ?_
 rintro e V1 ⟨⟨k1a,k1b,k1c,q1a,q1b,q1c⟩,E1,rfl,hM1,S1,hF1⟩
 have F1:Hid (Fd w E1 _ _ ⟨k1a,k1b,k1c,q1a,q1b,q1c⟩ _):=hF1
 have T1:Hid (Sub [] E1):=S1
 simp only [Fv.val]
 clear C1 hM0 hF1 S1
 have C2:=c_Vni hM1
 go_wp2_with fail
 refine C2.mono ?_
 rintro e V2 ⟨⟨k2a,k2b,k2c,q2a,q2b,q2c⟩,E2,rfl,hM2,S2,hF2⟩
 have F2:Hid (Fd w E2 _ _ ⟨k2a,k2b,k2c,q2a,q2b,q2c⟩ _):=hF2
 have T2:Hid (Sub E1 E2):=S2
 simp only [Fv.val]
 clear C2 hM1 hF2 S2
 have C3:=c_Key hM2
 go_wp2_with fail
 refine C3.mono ?_
 rintro e V3 ⟨⟨k3a,k3b,k3c,q3a,q3b,q3c⟩,E3,rfl,hM3,S3,hF3⟩
 have F3:Hid (Fd w E3 _ _ ⟨k3a,k3b,k3c,q3a,q3b,q3c⟩ _):=hF3
 have T3:Hid (Sub E2 E3):=S3
 simp only [Fv.val]
 clear C3 hM2 hF3 S3
 have C4:=c_Vtep hM3
 go_wp2_with fail
 refine C4.mono ?_
 rintro e V4 ⟨⟨k4a,k4b,k4c,q4a,q4b,q4c⟩,E4,rfl,hM4,S4,hF4⟩
 have F4:Hid (Fd w E4 _ _ ⟨k4a,k4b,k4c,q4a,q4b,q4c⟩ _):=hF4
 have T4:Hid (Sub E3 E4):=S4
 simp only [Fv.val]
 clear C4 hM3 hF4 S4
 have C5:=c_VtepMac hM4
 go_wp2_with fail
 refine C5.mono ?_
 rintro e V5 ⟨⟨k5a,k5b,k5c,q5a,q5b,q5c⟩,E5,rfl,hM5,S5,hF5⟩
 have F5:Hid (Fd w E5 _ _ ⟨k5a,k5b,k5c,q5a,q5b,q5c⟩ _):=hF5
 have T5:Hid (Sub E4 E5):=S5
 simp only [Fv.val]
 clear C5 hM4 hF5 S5
 have C6:=c_Host hM5
 go_wp2_with fail
 refine C6.mono ?_
 rintro e V6 ⟨⟨k6a,k6b,k6c,q6a,q6b,q6c⟩,E6,rfl,hM6,S6,hF6⟩
 have F6:Hid (Fd w E6 _ _ ⟨k6a,k6b,k6c,q6a,q6b,q6c⟩ _):=hF6
 have T6:Hid (Sub E5 E6):=S6
 simp only [Fv.val]
 clear C6 hM5 hF6 S6
 have C7:=c_Lo hM6
 go_wp2_with fail
 refine C7.mono ?_
 rintro e V7 ⟨⟨k7a,k7b,k7c,q7a,q7b,q7c⟩,E7,rfl,hM7,S7,hF7⟩
 have F7:Hid (Fd w E7 _ _ ⟨k7a,k7b,k7c,q7a,q7b,q7c⟩ _):=hF7
 have T7:Hid (Sub E6 E7):=S7
 simp only [Fv.val]
 clear C7 hM6 hF7 S7
 have C8:=c_Hi hM7
 go_wp2_with fail
 refine C8.mono ?_
 rintro e V8 ⟨⟨k8a,k8b,k8c,q8a,q8b,q8c⟩,E8,rfl,hM8,S8,hF8⟩
 have F8:Hid (Fd w E8 _ _ ⟨k8a,k8b,k8c,q8a,q8b,q8c⟩ _):=hF8
 have T8:Hid (Sub E7 E8):=S8
 simp only [Fv.val]
 clear C8 hM7 hF8 S8
 have C9:=c_Filter hM8
 go_wp2_with fail
 refine C9.mono ?_
 rintro e V9 ⟨⟨k9a,k9b,k9c,q9a,q9b,q9c⟩,E9,rfl,hM9,S9,hF9⟩
 have F9:Hid (Fd w E9 _ _ ⟨k9a,k9b,k9c,q9a,q9b,q9c⟩ _):=hF9
 have T9:Hid (Sub E8 E9):=S9
 simp only [Fv.val]
 clear C9 hM8 hF9 S9
 have C10:=c_Sess hM9
 go_wp2_with fail
 refine C10.mono ?_
 rintro e V10 ⟨⟨k10a,k10b,k10c,q10a,q10b,q10c⟩,E10,rfl,hM10,S10,hF10⟩
 have F10:Hid (Fd w E10 _ _ ⟨k10a,k10b,k10c,q10a,q10b,q10c⟩ _):=hF10
 have T10:Hid (Sub E9 E10):=S10
 simp only [Fv.val]
 clear C10 hM9 hF10 S10
 have C11:=c_Queue hM10
 go_wp2_with fail
 refine C11.mono ?_
 rintro e V11 ⟨⟨k11a,k11b,k11c,q11a,q11b,q11c⟩,E11,rfl,hM11,S11,hF11⟩
 have F11:Hid (Fd w E11 _ _ ⟨k11a,k11b,k11c,q11a,q11b,q11c⟩ _):=hF11
 have T11:Hid (Sub E10 E11):=S11
 simp only [Fv.val]
 clear C11 hM10 hF11 S11
 have C12:=c_Rate hM11
 go_wp2_with fail
 refine C12.mono ?_
 rintro e V12 ⟨⟨k12a,k12b,k12c,q12a,q12b,q12c⟩,E12,rfl,hM12,S12,hF12⟩
 have F12:Hid (Fd w E12 _ _ ⟨k12a,k12b,k12c,q12a,q12b,q12c⟩ _):=hF12
 have T12:Hid (Sub E11 E12):=S12
 simp only [Fv.val]
 clear C12 hM11 hF12 S12
 have C13:=c_Burst hM12
 go_wp2_with fail
 refine C13.mono ?_
 rintro e V13 ⟨⟨k13a,k13b,k13c,q13a,q13b,q13c⟩,E13,rfl,hM13,S13,hF13⟩
 have F13:Hid (Fd w E13 _ _ ⟨k13a,k13b,k13c,q13a,q13b,q13c⟩ _):=hF13
 have T13:Hid (Sub E12 E13):=S13
 simp only [Fv.val]
 clear C13 hM12 hF13 S13
 have C14:=c_Pool hM13
 go_wp2_with fail
 refine C14.mono ?_
 rintro e V14 ⟨⟨k14a,k14b,k14c,q14a,q14b,q14c⟩,E14,rfl,hM14,S14,hF14⟩
 have F14:Hid (Fd w E14 _ _ ⟨k14a,k14b,k14c,q14a,q14b,q14c⟩ _):=hF14
 have T14:Hid (Sub E13 E14):=S14
 simp only [Fv.val]
 clear C14 hM13 hF14 S14
 have C15:=c_Statics hM14
 go_wp2_with fail
 refine C15.mono ?_
 rintro e V15 ⟨⟨k15a,k15b,k15c,q15a,q15b,q15c⟩,E15,rfl,hM15,S15,hF15⟩
 have F15:Hid (Fd w E15 _ _ ⟨k15a,k15b,k15c,q15a,q15b,q15c⟩ _):=hF15
 have T15:Hid (Sub E14 E15):=S15
 simp only [Fv.val]
 clear C15 hM14 hF15 S15
 have C16:=c_Twices hM15
 go_wp2_with fail
 refine C16.mono ?_
 rintro e V16 ⟨⟨k16a,k16b,k16c,q16a,q16b,q16c⟩,E16,rfl,hM16,S16,hF16⟩
 have F16:Hid (Fd w E16 _ _ ⟨k16a,k16b,k16c,q16a,q16b,q16c⟩ _):=hF16
 have T16:Hid (Sub E15 E16):=S16
 simp only [Fv.val]
 clear C16 hM15 hF16 S16
 have C17:=c_address hM16
 go_wp2_with fail
 refine C17.mono ?_
 rintro e V17 ⟨⟨k17a,k17b,k17c,q17a,q17b,q17c⟩,E17,rfl,hM17,S17,hF17⟩
 have F17:Hid (Fd w E17 _ _ ⟨k17a,k17b,k17c,q17a,q17b,q17c⟩ _):=hF17
 have T17:Hid (Sub E16 E17):=S17
 simp only [Fv.val]
 clear C17 hM16 hF17 S17
 have C18:=c_PoolI hM17 ⟨k17a,k17b,k17c,q17a,q17b,q17c⟩ F17.out
 simp only [Fv.val] at C18
 go_wp2_with fail
 refine C18.mono ?_
 rintro e V18 ⟨⟨k18a,k18b,k18c,q18a,q18b,q18c⟩,E18,rfl,hM18,S18,hF18⟩
 have F18:Hid (Fd w E18 _ _ ⟨k18a,k18b,k18c,q18a,q18b,q18c⟩ _):=hF18
 have T18:Hid (Sub E17 E18):=S18
 simp only
 clear C18 hM17 hF18 S18
 have C19:=c_pair hM18
 go_wp2_with fail
 refine C19.mono ?_
 rintro e V19 ⟨⟨k19a,k19b,k19c,q19a,q19b,q19c⟩,E19,rfl,hM19,S19,hF19⟩
 have F19:Hid (Fd w E19 _ _ ⟨k19a,k19b,k19c,q19a,q19b,q19c⟩ _):=hF19
 have T19:Hid (Sub E18 E19):=S19
 simp only [Fv.val]
 clear C19 hM18 hF19 S19
 have C20:=c_StaticsI hM19 ⟨k19a,k19b,k19c,q19a,q19b,q19c⟩ F19.out
 simp only [Fv.val] at C20
 go_wp2_with fail
 refine C20.mono ?_
 rintro e V20 ⟨⟨k20a,k20b,k20c,q20a,q20b,q20c⟩,E20,rfl,hM20,S20,hF20⟩
 have F20:Hid (Fd w E20 _ _ ⟨k20a,k20b,k20c,q20a,q20b,q20c⟩ _):=hF20
 have T20:Hid (Sub E19 E20):=S20
 simp only
 clear C20 hM19 hF20 S20
 have C21:=c_pair hM20
 go_wp2_with fail
 refine C21.mono ?_
 rintro e V21 ⟨⟨k21a,k21b,k21c,q21a,q21b,q21c⟩,E21,rfl,hM21,S21,hF21⟩
 have F21:Hid (Fd w E21 _ _ ⟨k21a,k21b,k21c,q21a,q21b,q21c⟩ _):=hF21
 have T21:Hid (Sub E20 E21):=S21
 simp only [Fv.val]
 clear C21 hM20 hF21 S21
 have C22:=c_TwicesI hM21 ⟨k21a,k21b,k21c,q21a,q21b,q21c⟩ F21.out
 simp only [Fv.val] at C22
 go_wp2_with fail
 refine C22.mono ?_
 rintro e V22 ⟨⟨k22a,k22b,k22c,q22a,q22b,q22c⟩,E22,rfl,hM22,S22,hF22⟩
 have F22:Hid (Fd w E22 _ _ ⟨k22a,k22b,k22c,q22a,q22b,q22c⟩ _):=hF22
 have T22:Hid (Sub E21 E22):=S22
 simp only
 clear C22 hM21 hF22 S22
 obtain ⟨lb,hlb⟩:∃ lb,V22.heap.size=lb:=⟨_,rfl⟩
 obtain ⟨fs,hfs⟩:∃ fs:List Fv,fs=[⟨k1a,k1b,k1c,q1a,q1b,q1c⟩,⟨k2a,k2b,k2c,q2a,q2b,q2c⟩,⟨k3a,k3b,k3c,q3a,q3b,q3c⟩,⟨k4a,k4b,k4c,q4a,q4b,q4c⟩,⟨k5a,k5b,k5c,q5a,q5b,q5c⟩,⟨k6a,k6b,k6c,q6a,q6b,q6c⟩,⟨k7a,k7b,k7c,q7a,q7b,q7c⟩,⟨k8a,k8b,k8c,q8a,q8b,q8c⟩,⟨k9a,k9b,k9c,q9a,q9b,q9c⟩,⟨k10a,k10b,k10c,q10a,q10b,q10c⟩,⟨k11a,k11b,k11c,q11a,q11b,q11c⟩,⟨k12a,k12b,k12c,q12a,q12b,q12c⟩,⟨k13a,k13b,k13c,q13a,q13b,q13c⟩,⟨k14a,k14b,k14c,q14a,q14b,q14c⟩,⟨k15a,k15b,k15c,q15a,q15b,q15c⟩,⟨k16a,k16b,k16c,q16a,q16b,q16c⟩,⟨k18a,k18b,k18c,q18a,q18b,q18c⟩,⟨k20a,k20b,k20c,q20a,q20b,q20c⟩,⟨k22a,k22b,k22c,q22a,q22b,q22c⟩]:=⟨_,rfl⟩
 have hMx:Mem w (V22.alloc (.cells (fs.flatMap Fv.cells).toArray 246)) ((lb,.cells (fs.flatMap Fv.cells).toArray 246)::(rb,.cells #[.nilFunc,.nilFunc,.nilFunc] 246)::(E22++L)) :=
  (hM22.push lb _ hlb.symm).perm List.perm_append_comm
 have Cx:=mk_all_T hMx lb 19
 have HA:Hid (FdAll w E22 IT JT fs tsp):=by
  have U22:Sub E22 E22:=Sub.refl _
  have U21:Sub E21 E22:=T22.out.trans U22
  have U20:Sub E20 E22:=T21.out.trans U21
  have U19:Sub E19 E22:=T20.out.trans U20
  have U18:Sub E18 E22:=T19.out.trans U19
  have U17:Sub E17 E22:=T18.out.trans U18
  have U16:Sub E16 E22:=T17.out.trans U17
  have U15:Sub E15 E22:=T16.out.trans U16
  have U14:Sub E14 E22:=T15.out.trans U15
  have U13:Sub E13 E22:=T14.out.trans U14
  have U12:Sub E12 E22:=T13.out.trans U13
  have U11:Sub E11 E22:=T12.out.trans U12
  have U10:Sub E10 E22:=T11.out.trans U11
  have U9:Sub E9 E22:=T10.out.trans U10
  have U8:Sub E8 E22:=T9.out.trans U9
  have U7:Sub E7 E22:=T8.out.trans U8
  have U6:Sub E6 E22:=T7.out.trans U7
  have U5:Sub E5 E22:=T6.out.trans U6
  have U4:Sub E4 E22:=T5.out.trans U5
  have U3:Sub E3 E22:=T4.out.trans U4
  have U2:Sub E2 E22:=T3.out.trans U3
  have U1:Sub E1 E22:=T2.out.trans U2
  rw [hfs]
  exact .cons (F1.out.more U1) (.cons (F2.out.more U2) (.cons (F3.out.more U3) (.cons (F4.out.more U4) (.cons (F5.out.more U5) (.cons (F6.out.more U6) (.cons (F7.out.more U7) (.cons (F8.out.more U8) (.cons (F9.out.more U9) (.cons (F10.out.more U10) (.cons (F11.out.more U11) (.cons (F12.out.more U12) (.cons (F13.out.more U13) (.cons (F14.out.more U14) (.cons (F15.out.more U15) (.cons (F16.out.more U16) (.cons (F18.out.more U18) (.cons (F20.out.more U20) (.cons (F22.out.more U22) (.nil)))))))))))))))))))
 clear hMx hM22 F1 T1 F2 T2 F3 T3 F4 T4 F5 T5 F6 T6 F7 T7 F8 T8 F9 T9 F10 T10 F11 T11 F12 T12 F13 T13 F14 T14 F15 T15 F16 T16 F17 T17 F18 T18 F19 T19 F20 T20 F21 T21 F22 T22
 rw [hfs] at Cx
 simp only [List.flatMap_cons,List.flatMap_nil,Fv.cells,List.cons_append,List.nil_append,List.append_nil] at Cx
 go_wp2_with fail
 refine Cx.mono ?_
 rintro e V ⟨cb,rfl,hM⟩
 obtain ⟨E,hE⟩:∃ E:List (Nat×Obj),E=(cb,.cells #[.slice (some ⟨lb,0,none⟩) 19 19] 317)::(lb,.cells (fs.flatMap Fv.cells).toArray 246)::E22:=⟨_,rfl⟩
 have hM2:Mem w V ((rb,.cells #[.nilFunc,.nilFunc,.nilFunc] 246)::(E++L)):=by
  rw [hE,hfs]
  simp only [List.flatMap_cons,List.flatMap_nil,Fv.cells,List.cons_append,List.nil_append,List.append_nil]
  exact hM.perm (List.perm_middle (l₁:=[_,_]))
 have HF:Hid (Fd w E IT JT (fvAll_T cb) spT):=by
  refine fd_all_T cb lb 19 fs tsp (by rw [hfs];rfl) (by omega) (by rw [hE];exact List.mem_cons_self ..) (by rw [hE];exact List.mem_cons_of_mem _ (List.mem_cons_self ..)) ?_ ?_ ?_
  ·have:∀ fs ss,FdAll w E22 IT JT fs ss→FdAll w E IT JT fs ss:=by
    intro fs ss hA
    induction hA with
    | nil=>exact .nil
    | cons h1 _ ih=>exact .cons (h1.more (by rw [hE];exact fun q hq=>List.mem_cons_of_mem _ (List.mem_cons_of_mem _ hq))) ih
   exact this _ _ HA.out
  ·rintro x g T pre post V V' K ⟨h1,h2,hp,hs,hq,h3⟩ hB
   exact ⟨h1,h2,hp,hs,hq,h3.after hB⟩
  ·rintro x g T pre post V K ⟨h1,h2,hp,hs,hq,h3⟩
   exact h3.sub.dropA.dropA.dropA
 clear Cx hM hE hfs HA
 generalize fvAll_T cb=f at HF
 obtain ⟨m1,m2,m3,n1,n2,n3⟩:=f
 have hM3:=hM2.put3 (.func (.func m1) #[] n1) (.func (.func m2) #[] n2) (.func (.func m3) #[] n3)
 have e0:V.cell? ⟨rb,0,none⟩=some .nilFunc:=hM2.cell 0 rfl 0
 have e1:V.cell? ⟨rb,1,none⟩=some .nilFunc:=hM2.cell 0 rfl 1
 have e2:V.cell? ⟨rb,2,none⟩=some .nilFunc:=hM2.cell 0 rfl 2
 have e3:=hM2.free 0 rfl
 clear hM2
 simp only [Fv.val]
 go_wp2_with fail
 refine bodyPost_ret (v:=.agg #[.func (.func m1) #[] n1,.func (.func m2) #[] n2,.func (.func m3) #[] n3]) ?_ rfl ⟨⟨m1,m2,m3,n1,n2,n3⟩,_::E,rfl,hM3,HF.out.more (fun q hq=>List.mem_cons_of_mem _ hq)⟩
 exact results_cell_row (p:=0) (ty:=246) rfl _ _ rb 246 _ (0,0) _ rfl (hM3.get 0 rfl) Tryz.underlying246 rfl (by kernel_rfl)
end Go.Proofs.YtdigofgjhaakmaaGreatDoor
namespace Go.Proofs.YtdigofgjhaakmaaGreatDoor
open Go.RowKit
open Sm
def Bk.hdB (k:Bk):Value:=.slice (some ⟨k.g,0,none⟩) k.b.length k.cap
def RS (v:Value) (bl:List (List Int)) (Y:List (Nat×Obj)):Prop :=
 (v=.slice none 0 0∧bl=[]∧Y=[])∨∃ h cap hc,∃ ks:List Bk,v=.slice (some ⟨h,0,none⟩) bl.length cap∧0 < bl.length∧bl.length≤cap∧cap≤hc.size∧hc.toList.take bl.length=ks.map Bk.hdB∧(∀ k∈ks,k.Ok k.b.length∧k.cap=k.b.length)∧ks.map Bk.b=bl∧Y=(h,.cells hc 86)::ks.map Bk.ob
theorem RS.shape {v:Value} {bl:List (List Int)} {Y:List (Nat×Obj)} (h:RS v bl Y):∃ a c,v=.slice a bl.length c:=by
 rcases h with ⟨rfl,rfl,rfl⟩ | ⟨h,cap,hc,ks,rfl,_⟩
 ·exact ⟨none,0,rfl⟩
 ·exact ⟨_,_,rfl⟩
theorem rs_append {w W:World} {v:Value} {bl:List (List Int)} {Y K:List (Nat×Obj)} {k:Bk} (hE:RS v bl Y) (hM:Mem w W (Y++(k.ob::K))) (hk:k.Ok k.b.length) (hkc:k.cap=k.b.length) (hl:bl.length≤1000) {ad:Addr} (hone:W.cell? ad=some k.hdB) (ty:TypeId) :
  ∃ a' c' Y' W',(Builtin.append_ #[84,84] ty #[v,.slice (some ad) 1 1]).run Tryz.prog W=.ok (.slice a' (bl.length+1) c') W'∧RS (.slice a' (bl.length+1) c') (bl++[k.b]) Y'∧Mem w W' (Y'++K):=by
 rcases hE with ⟨rfl,rfl,rfl⟩ | ⟨h,cap,hc,ks,rfl,h0,h1,h2,h3,h4,h5,rfl⟩
 ·obtain ⟨h',c',W',hr,hc',e1,e2,e3,hM'⟩:=append_first hM ty ad k.hdB hone
  refine ⟨_,_,(h',.cells hc' 86)::[k.ob],W',hr,Or.inr ⟨h',c',hc',[k],rfl,by simp,by simpa using e1,e2,by simpa using e3,by simpa using ⟨hk,hkc⟩,by simp,rfl⟩,?_⟩
  simpa using hM'
 ·have hlen:ks.length=bl.length:=by rw [←h5,List.length_map]
  obtain ⟨h',c',W',hr,hc',e1,e2,e3,hM'⟩:=append_head (R:=ks.map Bk.ob++(k.ob::K)) hM h1 h2 hl ty ad k.hdB rfl hone
  refine ⟨_,_,(h',.cells hc' 86)::(ks++[k]).map Bk.ob,W',hr,Or.inr ⟨h',c',hc',ks++[k],by simp,by simp,by simpa using e1,e2,?_,?_,?_,rfl⟩,?_⟩
  ·rw [List.length_append,List.length_singleton,e3,h3];simp
  ·intro q hq
   rcases List.mem_append.mp hq with c | c
   ·exact h4 q c
   ·simp at c;subst c;exact ⟨hk,hkc⟩
  ·rw [List.map_append,h5];simp
  ·simpa [List.append_assoc] using hM'
def lastE (l:List (En×Value)):En×Value:=l.getLastD (En.zero,.slice none 0 0)
theorem lastE_nw (l:List (En×Value)):(lastE l).1=nw (l.map Prod.fst):=by
 unfold lastE nw
 rw [List.getLastD_eq_getLast?,List.getLastD_eq_getLast?,List.getLast?_map]
 cases l.getLast? <;> rfl
theorem es_one {v:Value} {x:En×Value} {Y:List (Nat×Obj)} (h:ES v [x] Y) {w W:World} {K:List (Nat×Obj)} (hM:Mem w W (Y++K)) :
  ∃ g cap,v=.slice (some ⟨g,0,none⟩) 1 cap∧1≤cap∧∀ j,j < 4→W.cell? ⟨g,j,none⟩=(enC x)[j]?:=by
 rcases h with ⟨_,e,_⟩ | ⟨g,cap,cur,Xs,rfl,_,h1,h2,h3,h4,rfl⟩
 ·cases e
 ·have e4:cur.toList.take 4=enC x:=by
   have:=h3
   simpa [enCs] using this
  refine ⟨g,cap,rfl,h1,fun j hj=>?_⟩
  rw [hM.cell 0 rfl j,← e4,List.getElem?_take,if_pos hj];simp
theorem es_own {v:Value} {l:List (En×Value)} {Y:List (Nat×Obj)} (h:ES v l Y) {x:En×Value} (hx:x∈l):∃ X R,OwnV x.2 x.1.r X∧Y.Perm (X++R):=by
 rcases h with ⟨_,rfl,_⟩ | ⟨g,cap,cur,Xs,rfl,h0,h1,h2,h3,h4,rfl⟩
 ·simp at hx
 ·have:∃ X R,OwnV x.2 x.1.r X∧Xs.Perm (X++R):=by
   clear h0 h1 h2 h3
   induction h4 with
   | nil=>simp at hx
   | cons a t ih =>
    rcases List.mem_cons.mp hx with e | e
    ·subst e;exact ⟨_,_,a,List.Perm.refl _⟩
    ·obtain ⟨X',R',o,pm⟩:=ih e
     exact ⟨X',_,o,(List.Perm.append_left _ pm).trans (perm_front _ X' R')⟩
  obtain ⟨X,R,o,pm⟩:=this
  exact ⟨X,(g,.cells cur enT (0,0))::R,o,(pm.cons _).trans (List.perm_middle).symm⟩
theorem es_vals {v:Value} {l:List (En×Value)} {Y:List (Nat×Obj)} (h:ES v l Y) {x:En×Value} (hx:x∈l):∃ a c,x.2=.slice a x.1.r.length c:=by
 obtain ⟨X,R,o,-⟩:=es_own h hx
 obtain ⟨a,c,e,-⟩:=o.shape
 exact ⟨a,c,e⟩
set_option maxRecDepth 20000 in
theorem newest_any {w W:World} {v:Value} {l:List (En×Value)} {Y K:List (Nat×Obj)} (hE:ES v l Y) (hM:Mem w W (Y++K)) (h2:l.length≤2) :
  Calls Tryz.prog 69 #[v] W fun e W'=>e=.returned (.agg (enA (lastE l).1.s (lastE l).1.t (lastE l).1.c (lastE l).2))∧∃ K',Mem W W' K':=by
 have hA:Mem W (W.alloc (.cells en0 enT)) [(W.heap.size,.cells en0 enT (0,0))]:=(Mem.nil W).push1 rfl
 have kr:=hA.cell 0 rfl
 have kf:=hA.free 0 rfl
 have HA:Hid (Mem W (W.alloc (.cells en0 enT)) [(W.heap.size,.cells en0 enT (0,0))]):=hA
 have hold:∀ g j,W.heap.size > g→(W.alloc (.cells en0 enT)).cell? ⟨g,j,none⟩=W.cell? ⟨g,j,none⟩:=fun g j hg=>hA.old hg
 match l,h2 with
 | [],_ =>
  rcases hE with ⟨rfl,_,_⟩ | ⟨g,cap,cur,Xs,rfl,h0,_⟩
  ·generalize hw1:W.alloc (.cells en0 enT)=w1 at *
   clear hM hA hold
   go_enter Tryz.func69,Tryz.ntmps69
   go_wp2
   exact bodyPost_ret (v:=.agg en0) (by simp [results,Tryz.results69,go_sem,kr]) rfl ⟨rfl,_,(((HA.out.set 0 rfl 0 _).set 0 rfl 1 _).set 0 rfl 2 _).set 0 rfl 3 _⟩
  ·simp at h0
 | [x],_ =>
  obtain ⟨g,cap,rfl,hc1,hcell⟩:=es_one hE hM
  obtain ⟨av,cv,ev⟩:=es_vals hE (List.mem_singleton.mpr rfl)
  obtain ⟨⟨xs,xt,xc,xr⟩,xv⟩:=x
  simp only at ev
  subst ev
  have hgl:W.heap.size > g:=by have:=cell_lt (hcell 0 (by omega));exact this
  have k0:=(hold g 0 hgl).trans (hcell 0 (by omega))
  have k1:=(hold g 1 hgl).trans (hcell 1 (by omega))
  have k2:=(hold g 2 hgl).trans (hcell 2 (by omega))
  have k3:=(hold g 3 hgl).trans (hcell 3 (by omega))
  simp [enC] at k0 k1 k2 k3
  generalize hw1:W.alloc (.cells en0 enT)=w1 at *
  clear hM hA hold hcell hE
  show Calls _ _ _ _ fun e W'=>e=.returned (.agg (enA xs xt xc (.slice av xr.length cv)))∧∃ K',Mem W W' K'
  go_enter Tryz.func69,Tryz.ntmps69
  go_wp2
  exact bodyPost_ret (v:=.agg (enA xs xt xc (.slice av xr.length cv))) (by simp [results,Tryz.results69,go_sem,kr]) rfl ⟨rfl,_,(((HA.out.set 0 rfl 0 _).set 0 rfl 1 _).set 0 rfl 2 _).set 0 rfl 3 _⟩
 | [y,x],_ =>
  obtain ⟨g,cap,cur,X1,X2,rfl,hcp,hsz,hcur,o1,o2,hY,hcell,hfree⟩:=es_two hE hM
  obtain ⟨av,cv,ev,-⟩:=o2.shape
  obtain ⟨⟨xs,xt,xc,xr⟩,xv⟩:=x
  simp only at ev
  subst ev
  have hgl:W.heap.size > g:=by have:=cell_lt (hcell 0 (by omega));exact this
  have k0:=(hold g 4 hgl).trans (hcell 4 (by omega))
  have k1:=(hold g 5 hgl).trans (hcell 5 (by omega))
  have k2:=(hold g 6 hgl).trans (hcell 6 (by omega))
  have k3:=(hold g 7 hgl).trans (hcell 7 (by omega))
  simp [enC] at k0 k1 k2 k3
  generalize hw1:W.alloc (.cells en0 enT)=w1 at *
  clear hM hA hold hcell hE hcur hY o1 o2 hfree
  show Calls _ _ _ _ fun e W'=>e=.returned (.agg (enA xs xt xc (.slice av xr.length cv)))∧∃ K',Mem W W' K'
  go_enter Tryz.func69,Tryz.ntmps69
  go_wp2
  exact bodyPost_ret (v:=.agg (enA xs xt xc (.slice av xr.length cv))) (by simp [results,Tryz.results69,go_sem,kr]) rfl ⟨rfl,_,(((HA.out.set 0 rfl 0 _).set 0 rfl 1 _).set 0 rfl 2 _).set 0 rfl 3 _⟩
theorem keep_one {w W:World} {v:Value} {bl:List (List Int)} {Y K:List (Nat×Obj)} (hE:RS v bl Y) (hM:Mem w W (Y++K)) (hl:bl.length≤1000) {r:List Int} (hr:IsBytes r) {w2:World} {g:Nat} (h2:Mem W w2 [(g,.cells (bs r) 5)]) (ty:TypeId) :
  ∃ a' c' Y' W',(Builtin.append_ #[84,84] ty #[v,.slice (some ⟨w2.heap.size,0,none⟩) 1 1]).run Tryz.prog (w2.alloc (.cells #[.slice (some ⟨g,0,none⟩) r.length r.length] 86))=.ok (.slice a' (bl.length+1) c') W'∧RS (.slice a' (bl.length+1) c') (bl++[r]) Y'∧∃ K',Mem w W' (Y'++K'):=by
 have hk:(Bk.mk g r.length (bs r) r).Ok (Bk.mk g r.length (bs r) r).b.length:=⟨Nat.le_refl _,by simp,by show List.take _ (List.map _ _)=_;exact List.take_of_length_le (by simp),rfl,hr⟩
 have h3:=(hM.join h2).alloc (.cells #[.slice (some ⟨g,0,none⟩) r.length r.length] 86)
 have h4:Mem w (w2.alloc (.cells #[.slice (some ⟨g,0,none⟩) r.length r.length] 86)) (Y++((Bk.mk g r.length (bs r) r).ob::(K++[(w2.heap.size,.cells #[.slice (some ⟨g,0,none⟩) r.length r.length] 86)]))):=by
  refine h3.perm ?_
  simp only [List.append_assoc,List.singleton_append]
  exact List.Perm.append_left Y List.perm_middle
 obtain ⟨a',c',Y',W',e1,e2,e3⟩:=rs_append hE h4 hk rfl hl (ad:=⟨w2.heap.size,0,none⟩) (by
  have:=((Mem.nil w2).push1 (o:=.cells #[.slice (some ⟨g,0,none⟩) r.length r.length] 86) rfl).cell 0 rfl 0
  exact this) ty
 exact ⟨a',c',Y',W',e1,e2,_,e3⟩
set_option maxRecDepth 20000 in
theorem kept_few {w W:World} {v:Value} {l:List (En×Value)} {Y K:List (Nat×Obj)} (hE:ES v l Y) (hM:Mem w W (Y++K)) (h2:l.length≤1) (hb:∀ x∈l,x.1.r.length≤1000000000) :
  Calls Tryz.prog 70 #[v] W fun e W'=>∃ v',e=.returned v'∧∃ Y',RS v' (kp (l.map Prod.fst)) Y'∧∃ K',Mem W W' (Y'++K'):=by
 match l,h2 with
 | [],_ =>
  rcases hE with ⟨rfl,_,_⟩ | ⟨g,cap,cur,Xs,rfl,h0,_⟩
  ·clear hM hb
   go_enter Tryz.func70,Tryz.ntmps70
   go_wp2_with fail
   refine wp_loop_rounds 1 ?_
   rw [rounds_succ]
   go_wp2
   go_ret
   exact ⟨_,rfl,[],Or.inl ⟨rfl,rfl,rfl⟩,[],Mem.nil W⟩
  ·simp at h0
 | [x],_ =>
  obtain ⟨g,cap,rfl,hc1,hcell⟩:=es_one hE hM
  obtain ⟨X,R,o,pm⟩:=es_own hE (List.mem_singleton.mpr rfl)
  have hbx:=hb x (List.mem_singleton.mpr rfl)
  obtain ⟨av,cv,ev,hav,hrow⟩:=o.row ((hM.perm (pm.append_right K)).perm (List.Perm.of_eq (List.append_assoc X R K))) (by omega)
  obtain ⟨⟨xs,xt,xc,xr⟩,xv⟩:=x
  simp only at ev hrow hbx
  subst ev
  have hisb:IsBytes xr:=hrow.bytes
  have k0:=hcell 0 (by omega)
  have k1:=hcell 1 (by omega)
  have k2:=hcell 2 (by omega)
  have k3:=hcell 3 (by omega)
  simp [enC] at k0 k1 k2 k3
  have hA:Mem W (W.alloc (.cells (enA xs xt xc (.slice av xr.length cv)) enT)) [(W.heap.size,.cells (enA xs xt xc (.slice av xr.length cv)) enT (0,0))]:=(Mem.nil W).push1 rfl
  have HROW:Hid (∀ V K',Mem W V K'→Row V av xr):=fun V K' hV=>hV.row hrow
  clear hM hcell hE hb o pm hrow
  go_enter Tryz.func70,Tryz.ntmps70
  go_wp2_with fail
  refine wp_loop_rounds 2 ?_
  rw [rounds_succ]
  go_upto_region 5 with fail
  refine wp_letter (fun V=>Mem W V [(W.heap.size,.cells (enA xs xt xc (.slice av xr.length cv)) enT (0,0))]) hA ?_
  intro w1 h1
  have j3:=h1.cell 0 rfl 3
  simp at j3
  have HM1:Hid (Mem W w1 [(W.heap.size,.cells (enA xs xt xc (.slice av xr.length cv)) enT (0,0))]):=h1
  clear h1 hA
  go_quiet (fail)
  have hs:=lsame_any rfl (row_drewN (n:=nq) (HROW.out _ _ HM1.out)) cv
  go_wp2_with fail
  refine hs.mono ?_
  rintro e w2 ⟨g2,rfl,h2⟩
  obtain ⟨a',c',Y',W',hrun,hR,K',hM'⟩:=keep_one (v:=.slice none 0 0) (bl:=[]) (Y:=[]) (Or.inl ⟨rfl,rfl,rfl⟩) (HM1.out.drewN nq) (by simp) hisb h2 84
  rw [List.length_nil,Nat.zero_add] at hrun hR
  have HR:Hid (RS (.slice a' 1 c') [xr] Y'):=hR
  have HM':Hid (Mem W W' (Y'++K')):=hM'
  clear hR hM' h2 hs HM1
  go_wp2_with (refine wpList_append_runL (.tmp 27) (.tmp 31) 84 84 (by with_reducible rfl) hrun rfl rfl (by simp [Act.eval]) (by simp [Act.eval]) ?_)
  rw [rounds_succ]
  go_wp2
  go_ret
  exact ⟨_,rfl,Y',HR.out,K',HM'.out⟩
end Go.Proofs.YtdigofgjhaakmaaGreatDoor
namespace Go.Proofs.YtdigofgjhaakmaaGreatDoor
open Go.RowKit
open Sm
open Cf
def TV (V:World) (v:Value) (t:Ten):Prop:=TLen t∧∃ p s q,v=.agg (tc t p s q).toArray∧Rw V 1 p (ux t.pool)∧Rw V 2 s (px t.stat)∧Rw V 2 q (px t.twi)
def tenc (t:Ten):List Int:=spT.enc t
theorem two_blocks' (w:World) (a b:Obj):Mem w ((w.alloc a).alloc b) [(w.heap.size+1,b),(w.heap.size,a)]:=by
 have h:=((Mem.nil w).push w.heap.size a rfl).push (w.heap.size+1) b (by simp)
 exact h.perm (List.Perm.swap _ _ _)
end Go.Proofs.YtdigofgjhaakmaaGreatDoor
