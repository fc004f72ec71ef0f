/-
  What package log's kept answers, of two entries.
  Settings as bytes: the document's own put16, put32, name, pairs.
  Settings held against one another: which tenants the statements speak of.
  What a tenant that comes in is.
  Settings as bytes: the program's OpenTenant, at all bytes.
  Settings as bytes: the document's own reader: take and n.
  Settings as bytes: whether nothing of a tenant is cut off; a place.
-/
import Derived.Test.YtdigofgjhaakmaaGreatDoorW12
import Derived.Test.YtdigofgjhaakmaaGreatDoorW02
import Derived.ProofKit
import Derived.OpenShut
import Derived.Deep.Slices
set_option linter.unusedVariables false
set_option linter.unusedSimpArgs false
set_option maxRecDepth 100000
set_option maxHeartbeats 40000000
namespace Go.Proofs.YtdigofgjhaakmaaGreatDoor
open Go.RowKit
open Sm
set_option maxRecDepth 20000 in
theorem kept_two {w W:World} {v:Value} {y x:En×Value} {Y K:List (Nat×Obj)} (hE:ES v [y,x] Y) (hM:Mem w W (Y++K)) (hb:∀ q∈[y,x],q.1.r.length≤1000000000) :
  Calls Tryz.prog 70 #[v] W fun e W'=>∃ v',e=.returned v'∧∃ Y',RS v' (kp [y.1,x.1]) Y'∧∃ K',Mem W W' (Y'++K'):=by
 obtain ⟨g,cap,cur,X1,X2,ev0,hcp,hsz,hcur,o1,o2,hY,hcell,hfree⟩:=es_two hE hM
 have HN:Hid (∀ V K',Mem W V K'→Calls Tryz.prog 69 #[v] V fun e W'=>e=.returned (.agg (enA x.1.s x.1.t x.1.c x.2))∧∃ K',Mem V W' K'):=fun V K' hV =>
  newest_any hE (by have:=hM.join hV;rw [List.append_assoc] at this;exact this) (by simp)
 have hb1:=hb y (by simp)
 have hb2:=hb x (by simp)
 subst hY
 obtain ⟨ay,cy,ey,-,hry⟩:=o1.row (X:=X1) (R:=(g,.cells cur enT (0,0))::(X2++K)) (hM.perm (by
  have:((g,Obj.cells cur enT (0,0))::(X1++X2)++K)=[(g,.cells cur enT (0,0))]++(X1++(X2++K)):=by simp
  rw [this];exact perm_front _ _ _)) (by omega)
 obtain ⟨ax,cx,ex,-,hrx⟩:=o2.row (X:=X2) (R:=(g,.cells cur enT (0,0))::(X1++K)) (hM.perm (by
  have:((g,Obj.cells cur enT (0,0))::(X1++X2)++K)=((g,.cells cur enT (0,0))::X1)++(X2++K):=by simp
  rw [this];exact perm_front _ _ _)) (by omega)
 subst ev0
 obtain ⟨⟨xs,xt,xc,xr⟩,xv⟩:=x
 obtain ⟨⟨ys,yt,yc,yr⟩,yv⟩:=y
 simp only at ex ey hb1 hb2 hrx hry HN
 subst ex;subst ey
 have hix:IsBytes xr:=hrx.bytes
 have hiy:IsBytes yr:=hry.bytes
 have k0:=hcell 0 (by omega)
 have k1:=hcell 1 (by omega)
 have k2:=hcell 2 (by omega)
 have k3:=hcell 3 (by omega)
 have k4:=hcell 4 (by omega)
 have k5:=hcell 5 (by omega)
 have k6:=hcell 6 (by omega)
 have k7:=hcell 7 (by omega)
 simp [enC] at k0 k1 k2 k3 k4 k5 k6 k7
 have hglt:g < W.heap.size:=cell_lt k0
 have HCX:Hid (∀ V K',Mem W V K'→V.cell? ⟨g,4,none⟩=some (.int .i64 xs)∧V.cell? ⟨g,5,none⟩=some (.int .u64 xt)∧V.cell? ⟨g,6,none⟩=some (.int .i64 xc)∧V.cell? ⟨g,7,none⟩=some (.slice ax xr.length cx)∧Row V ax xr∧Row V ay yr) :=
  fun V K' hV=>⟨by rw [←k4];exact hV.old hglt,by rw [←k5];exact hV.old hglt,by rw [←k6];exact hV.old hglt,by rw [←k7];exact hV.old hglt,hV.row hrx,hV.row hry⟩
 have hA:Mem W (W.alloc (.cells (enA ys yt yc (.slice ay yr.length cy)) enT)) [(W.heap.size,.cells (enA ys yt yc (.slice ay yr.length cy)) enT (0,0))]:=(Mem.nil W).push1 rfl
 have HKP:Hid (kp [⟨ys,yt,yc,yr⟩,⟨xs,xt,xc,xr⟩]=if IntKind.i64.wrap (yc+1)=xc then [yr,xr] else [xr]):=by
  show _=_
  simp only [kp,nw,kpL,List.getLastD]
  show (if IntKind.i64.wrap (yc+1)=xc then [yr] else [])++[xr]=_
  split <;> rfl
 clear hM hcell hE hb o1 o2 hrx hry hcur hfree k4 k5 k6 k7
 show Calls _ _ _ _ fun e W'=>∃ v',e=.returned v'∧∃ Y',RS v' (kp [⟨ys,yt,yc,yr⟩,⟨xs,xt,xc,xr⟩]) Y'∧∃ K',Mem W W' (Y'++K')
 generalize kp [⟨ys,yt,yc,yr⟩,⟨xs,xt,xc,xr⟩]=KP at *
 go_enter Tryz.func70,Tryz.ntmps70
 go_wp2_with fail
 refine wp_loop_rounds 3 ?_
 rw [rounds_succ]
 go_upto_region 5 with fail
 refine wp_letter (fun V=>Mem W V [(W.heap.size,.cells (enA ys yt yc (.slice ay yr.length cy)) enT (0,0))]) hA ?_
 intro w1 h1
 have j2:=h1.cell 0 rfl 2
 simp at j2
 have HM1:Hid (Mem W w1 [(W.heap.size,.cells (enA ys yt yc (.slice ay yr.length cy)) enT (0,0))]):=h1
 have HN1:Hid (Calls Tryz.prog 69 #[.slice (some ⟨g,0,none⟩) 2 cap] w1.drew fun e W'=>e=.returned (.agg (enA xs xt xc (.slice ax xr.length cx)))∧∃ K',Mem w1.drew W' K'):=HN.out _ _ HM1.out.drew
 have hlt1:W.heap.size < w1.drew.heap.size:=h1.lt (List.mem_singleton.mpr rfl)
 have w11:IntKind.i64.wrap 1=1:=by decide
 have j2d:w1.drew.cell? ⟨W.heap.size,2,none⟩=some (.int .i64 yc):=j2
 have hfld:∀ V:World,(Instr.field enT (.agg (enA xs xt xc (.slice ax xr.length cx))) 2).run Tryz.prog V=.ok (.int .i64 xc) V:=fun V=>by kernel_rfl
 have j3d:w1.drew.cell? ⟨W.heap.size,3,none⟩=some (.slice ay yr.length cy):=by
  have:=h1.cell 0 rfl 3
  simpa using this
 clear h1 hA j2
 by_cases hq:IntKind.i64.wrap (yc+1)=xc
 ·have HKQ:Hid (KP=[yr,xr]):=by rw [HKP.out];exact if_pos hq
  have bq:(IntKind.i64.wrap (yc+1) == xc)=true:=by simpa using hq
  clear hq
  go_region_held3 (fun w'=>w'.cell? ⟨W.heap.size,2,none⟩=some (.int .i64 yc)) (first | go_keep | assumption | exact (q5.old hlt1).trans j2d)
   (first | (go_at_call 69;with_reducible refine HN1.out.mono ?_;rintro e w5 ⟨rfl,K5,q5⟩))
  have hM5:=HM1.out.drew.join q5
  have j3:w5.cell? ⟨W.heap.size,3,none⟩=some (.slice ay yr.length cy):=(q5.old hlt1).trans j3d
  have hs:=lsame_any rfl (HCX.out _ _ hM5).2.2.2.2.2 cy
  have HM5:Hid (Mem W w5 ([]++([(W.heap.size,.cells (enA ys yt yc (.slice ay yr.length cy)) enT (0,0))]++K5))):=hM5
  clear q5 hM5 j2d j3d HM1 HN1
  go_wp2_with fail
  refine hs.mono ?_
  rintro e w6 ⟨g6,rfl,h6⟩
  obtain ⟨a1,c1,Y1,W1,hrun1,hR1,K1,hM1⟩:=keep_one (v:=.slice none 0 0) (bl:=[]) (Y:=[]) (Or.inl ⟨rfl,rfl,rfl⟩) HM5.out (by simp) hiy h6 84
  rw [List.length_nil,Nat.zero_add] at hrun1 hR1
  have HR1:Hid (RS (.slice a1 1 c1) [yr] Y1):=hR1
  have HMA:Hid (Mem W W1 (Y1++K1)):=hM1
  obtain ⟨k4,k5,k6,k7,-,-⟩:=HCX.out _ _ hM1
  clear hR1 hM1 h6 hs HM5
  go_wp2_with (refine wpList_append_runL (.tmp 27) (.tmp 31) 84 84 (by with_reducible rfl) hrun1 rfl rfl (by simp [Act.eval]) (by simp [Act.eval]) ?_)
  rw [rounds_succ]
  go_upto_region 5 with fail
  refine wp_letter (fun V=>Mem W V (Y1++(K1++[(W1.heap.size,.cells (enA xs xt xc (.slice ax xr.length cx)) enT (0,0))]))∧V.cell? ⟨W1.heap.size,3,none⟩=some (.slice ax xr.length cx)) ⟨by have:=HMA.out.alloc (.cells (enA xs xt xc (.slice ax xr.length cx)) enT (0,0));rw [List.append_assoc] at this;exact this,by
   have:=((Mem.nil W1).push1 (o:=.cells (enA xs xt xc (.slice ax xr.length cx)) enT) rfl).cell 0 rfl 3
   exact this⟩ ?_
  rintro wb ⟨hb0,hb3⟩
  have HB:Hid (Mem W wb (Y1++(K1++[(W1.heap.size,.cells (enA xs xt xc (.slice ax xr.length cx)) enT (0,0))]))):=hb0
  clear hb0
  go_quiet (fail)
  have hs2:=lsame_any rfl (HCX.out _ _ (HB.out.drewN nq)).2.2.2.2.1 cx
  go_wp2_with fail
  refine hs2.mono ?_
  rintro e w7 ⟨g7,rfl,h7⟩
  obtain ⟨a2,c2,Y2,W2,hrun2,hR2,K2,hM2⟩:=keep_one HR1.out (HB.out.drewN nq) (by simp) hix h7 84
  have HR2:Hid (RS (.slice a2 2 c2) [yr,xr] Y2):=hR2
  have HM2:Hid (Mem W W2 (Y2++K2)):=hM2
  clear hR2 hM2 h7 hs2 HB
  go_wp2_with (refine wpList_append_runL (.tmp 27) (.tmp 31) 84 84 (by with_reducible rfl) hrun2 rfl rfl (by simp [Act.eval]) (by simp [Act.eval]) ?_)
  rw [rounds_succ]
  go_wp2
  go_ret
  exact ⟨_,rfl,Y2,by rw [HKQ.out];exact HR2.out,K2,HM2.out⟩
 ·have HKQ:Hid (KP=[xr]):=by rw [HKP.out];exact if_neg hq
  have bq:(IntKind.i64.wrap (yc+1) == xc)=false:=by simpa using hq
  clear hq
  go_region_held3 (fun w'=>w'.cell? ⟨W.heap.size,2,none⟩=some (.int .i64 yc)) (first | go_keep | assumption | exact (q5.old hlt1).trans j2d)
   (first | (go_at_call 69;with_reducible refine HN1.out.mono ?_;rintro e w5 ⟨rfl,K5,q5⟩))
  have hM5:=HM1.out.drew.join q5
  obtain ⟨k4,k5,k6,k7,-,-⟩:=HCX.out _ _ hM5
  have HM5:Hid (Mem W w5 ([]++([(W.heap.size,.cells (enA ys yt yc (.slice ay yr.length cy)) enT (0,0))]++K5))):=hM5
  have HR1:Hid (RS (.slice none 0 0) [] []):=Or.inl ⟨rfl,rfl,rfl⟩
  clear q5 hM5 j2d j3d HM1 HN1
  go_wp2_with fail
  rw [rounds_succ]
  go_upto_region 5 with fail
  refine wp_letter (fun V=>Mem W V ([]++(([(W.heap.size,.cells (enA ys yt yc (.slice ay yr.length cy)) enT (0,0))]++K5)++[(w5.heap.size,.cells (enA xs xt xc (.slice ax xr.length cx)) enT (0,0))]))∧V.cell? ⟨w5.heap.size,3,none⟩=some (.slice ax xr.length cx)) ⟨by have:=HM5.out.alloc (.cells (enA xs xt xc (.slice ax xr.length cx)) enT (0,0));rw [List.append_assoc] at this;exact this,by
   have:=((Mem.nil w5).push1 (o:=.cells (enA xs xt xc (.slice ax xr.length cx)) enT) rfl).cell 0 rfl 3
   exact this⟩ ?_
  rintro wb ⟨hb0,hb3⟩
  have HB:Hid (Mem W wb ([]++(([(W.heap.size,.cells (enA ys yt yc (.slice ay yr.length cy)) enT (0,0))]++K5)++[(w5.heap.size,.cells (enA xs xt xc (.slice ax xr.length cx)) enT (0,0))]))):=hb0
  clear hb0
  go_quiet (fail)
  have hs2:=lsame_any rfl (HCX.out _ _ (HB.out.drewN nq)).2.2.2.2.1 cx
  go_wp2_with fail
  refine hs2.mono ?_
  rintro e w7 ⟨g7,rfl,h7⟩
  obtain ⟨a2,c2,Y2,W2,hrun2,hR2,K2,hM2⟩:=keep_one HR1.out (HB.out.drewN nq) (by simp) hix h7 84
  have HR2:Hid (RS (.slice a2 1 c2) [xr] Y2):=hR2
  have HM2:Hid (Mem W W2 (Y2++K2)):=hM2
  clear hR2 hM2 h7 hs2 HB
  go_wp2_with (refine wpList_append_runL (.tmp 27) (.tmp 31) 84 84 (by with_reducible rfl) hrun2 rfl rfl (by simp [Act.eval]) (by simp [Act.eval]) ?_)
  rw [rounds_succ]
  go_wp2
  go_ret
  exact ⟨_,rfl,Y2,by rw [HKQ.out];exact HR2.out,K2,HM2.out⟩
theorem kept_any {w W:World} {v:Value} {l:List (En×Value)} {Y K:List (Nat×Obj)} (hE:ES v l Y) (hM:Mem w W (Y++K)) (h2:l.length≤2) (hb:∀ x∈l,x.1.r.length≤1000000000) :
  Calls Tryz.prog 70 #[v] W fun e W'=>∃ v',e=.returned v'∧∃ Y',RS v' (kp (l.map Prod.fst)) Y'∧∃ K',Mem W W' (Y'++K'):=by
 by_cases h1:l.length≤1
 ·exact kept_few hE hM h1 hb
 ·match l,h1,h2 with
  | [y,x],_,_=>exact kept_two hE hM hb
end Go.Proofs.YtdigofgjhaakmaaGreatDoor
namespace Go.Proofs.YtdigofgjhaakmaaGreatDoor
open Go.RowKit
open Sm
open Cf
def Ob (w W:World) (v:Value) (l:List Int) (L:List (Nat×Obj)) (n:Nat):Prop:=Out w W v l L∧l.length≤n
section
variable {w W W':World} {v:Value} {l:List Int} {L:List (Nat×Obj)} {n:Nat}
theorem Ob.mem (h:Ob w W v l L n):Mem w W L:=h.1.mem
theorem Ob.after (h:Ob w W v l L n) (hb:Below W.heap.size W W'):Ob w W' v l L n:=⟨h.1.after hb,h.2⟩
theorem step_append_run {ops:Array Oper} {o:Oper} {a:Act} {W:World} {K:Act→World→Prop} {Q:Exit→Act→World→Prop} {E:Prop} (hgd:o.guard=none)
  (s x:Operand) (t tn:TypeId) (ho:o.op=.call { callee:=.builtin .append,args:=#[s,x],argTypes:=#[t,tn] }) {vs vx:Value} (hs:a.eval s=vs) (hx:a.eval x=vx)
  {v':Value} {w':World} (hr:(Builtin.append_ #[t,tn] o.type #[vs,vx]).run Tryz.prog W=.ok v' w') (h:K (a.put o.dst v') w') :
  if Region.wanted o (yielded ops a.tmps)=true then Oper.wp Tryz.prog o a W K Q else E:=by
 have hw:Region.wanted o (yielded ops a.tmps)=true:=by simp [Region.wanted,hgd]
 rw [if_pos hw]
 exact wp_append_out s x t tn ho hs hx hr h
theorem spP_enc (x:Int×Int):spP.enc x=be 4 x.1++be 4 x.2:=by
 simp [spP,spAll,cat,spA,spB,spNum]
theorem rw_at {V:World} {sz:Nat} {a:Option Addr} {n c:Nat} {xs:List (List Value)} (h:Rw V sz (.slice a n c) xs) (i:Nat) (hi:i < xs.length):∃ b off,a=some ⟨b,off,none⟩∧∀ j u,(xs.getD i [])[j]? = some u→V.cell? ⟨b,off+i * sz+j,none⟩=some u:=by
 obtain ⟨a',c',e,_,_,_,hr⟩:=h
 simp only [Value.slice.injEq] at e
 obtain ⟨rfl,-,rfl⟩:=e
 rcases hr with e | ⟨b,off,rfl,hc⟩
 ·rw [e] at hi;simp at hi
 ·exact ⟨b,off,rfl,hc i hi⟩
end
def Lgt (t:Ten):Prop:=t.name.size≤300∧t.pool.length≤300∧t.stat.length≤300∧t.twi.length≤300
instance (t:Ten):Decidable (Lgt t):=by unfold Lgt;infer_instance
end Go.Proofs.YtdigofgjhaakmaaGreatDoor
namespace Go.Proofs.YtdigofgjhaakmaaGreatDoor
open Go.ChangeShapes Go.WideShapes Go.ChangeAt Go.RowKit Go.Joins
open Sm
open Cf
section
variable {H:Type} {enc:TypeId×Value→H} {W:World} {base:Nat} {held:Bool}
end
end Go.Proofs.YtdigofgjhaakmaaGreatDoor
namespace Go.Proofs.YtdigofgjhaakmaaGreatDoor
open Go.RowKit
open Sm
open Cf
theorem rw_own_U {w V:World} {K:List (Nat×Obj)} (l:List Int) (hp:Nat) (h:Mem w V (lb hp 33 (ux l)++K)) (hl:l.length≤255):Rw V 1 (lv hp (ux l)) (ux l):=by
 have hlen:(ux l).length=l.length:=by simp [ux]
 by_cases h0:l=[]
 ·subst h0;exact ⟨none,0,rfl,Nat.le_refl _,by omega,fun _=>rfl,Or.inl rfl⟩
 ·have hne:ux l≠[]:=by simpa [ux] using h0
  rw [lb_one hne] at h
  rw [lv_one hne]
  refine ⟨_,_,rfl,Nat.le_refl _,by omega,(fun e=>by cases e),Or.inr ⟨hp,0,rfl,fun i hi j u hj=>?_⟩⟩
  obtain ⟨x,hx⟩:∃ x,l[i]? = some x:=⟨_,List.getElem?_eq_getElem (by omega)⟩
  have ex:(ux l).getD i []=[.int .u32 x]:=by simp [ux,List.getD,hx]
  rw [ex] at hj
  rw [h.cell 0 rfl,flat_TU l i x hx]
  have:=get_mid (ux (l.take i)).flatten [.int .u32 x] (ux (l.drop (i+1))).flatten j u hj
  rw [flatl_TU,List.length_take,Nat.min_eq_left (by omega)] at this
  rw [Nat.zero_add];exact this
theorem rw_own_P {w V:World} {K:List (Nat×Obj)} (l:List (Int×Int)) (hp:Nat) (h:Mem w V (lb hp 122 (px l)++K)) (hl:l.length≤255):Rw V 2 (lv hp (px l)) (px l):=by
 have hlen:(px l).length=l.length:=by simp [px]
 by_cases h0:l=[]
 ·subst h0;exact ⟨none,0,rfl,Nat.le_refl _,by omega,fun _=>rfl,Or.inl rfl⟩
 ·have hne:px l≠[]:=by simpa [px] using h0
  rw [lb_one hne] at h
  rw [lv_one hne]
  refine ⟨_,_,rfl,Nat.le_refl _,by omega,(fun e=>by cases e),Or.inr ⟨hp,0,rfl,fun i hi j u hj=>?_⟩⟩
  obtain ⟨x,hx⟩:∃ x,l[i]? = some x:=⟨_,List.getElem?_eq_getElem (by omega)⟩
  have ex:(px l).getD i []=[.int .u32 x.1,.int .u32 x.2]:=by simp [px,List.getD,hx]
  rw [ex] at hj
  rw [h.cell 0 rfl,flat_TP l i x hx]
  have:=get_mid (px (l.take i)).flatten [.int .u32 x.1,.int .u32 x.2] (px (l.drop (i+1))).flatten j u hj
  rw [flatl_TP,List.length_take,Nat.min_eq_left (by omega)] at this
  rw [Nat.zero_add];exact this
abbrev tz:Array Value:=(tc ten0 nilV nilV nilV).toArray
theorem results_two' {fn:Func} {p q:Tmp} {ty:TypeId} (h:fn.results=#[.cell p ty,.tmp q]) (tmps:Array Value) (w:World) (g:Nat) (cs:Array Value)
  (hp:tmps.getD p undef=.pointer (some ⟨g,0,none⟩)) (hl:(loadVar ty ⟨g,0,none⟩).run Tryz.prog w=.ok (.agg cs) w) :
  (results fn tmps).run Tryz.prog w=.ok (.tuple #[.agg cs,tmps.getD q undef]) w:=by
 have hp':tmps[p]?.getD undef=.pointer (some ⟨g,0,none⟩):=by simpa using hp
 simp [results,h,hp',asAddr,hl]
def tk (n:Nat):Option (List Int)→List Int
 | some r=>if n≤r.length then r.take n else List.replicate n 0
 | none=>List.replicate n 0
def nx (n:Nat):Option (List Int)→Option (List Int)
 | some r=>if n≤r.length then some (r.drop n) else none
 | none=>none
def Fit (t:Ten):Prop:=t.name.size≤255∧t.pool.length≤255∧t.stat.length≤255∧t.twi.length≤255∧0≤t.filter∧t.filter≤255∧0≤t.sess∧t.sess≤65535∧0≤t.queue∧t.queue≤65535
instance (t:Ten):Decidable (Fit t):=by unfold Fit;infer_instance
end Go.Proofs.YtdigofgjhaakmaaGreatDoor
