/-
  Settings as bytes: whether two lists are the same (lych/api.Pair).
  Settings as bytes: whether two lists are the same (uint32).
  What package log's smaller functions answer: slotBlocks, other, later, fits, Room; and readPiece.
-/
import Derived.Test.YtdigofgjhaakmaaGreatDoorW07
import Derived.Test.YtdigofgjhaakmaaGreatDoorW08
import Derived.Test.YtdigofgjhaakmaaGreatDoorW01
import Derived.Test.YtdigofgjhaakmaaGreatDoorW03
set_option linter.unusedVariables false
set_option maxRecDepth 20000
set_option maxHeartbeats 40000000
namespace Go.Proofs.YtdigofgjhaakmaaGreatDoor
open Go.RowKit
open Sm
open Cf
theorem isme_TP {w W:World} {L:List (Nat×Obj)} (h:Mem w W L) (bi kw kr ks:Nat) (cw cr cs:Array Value) (x y:Int×Int)
  (ci:∀ V,Mem w V L→V.cell? ⟨bi,0,none⟩=some (.func (.func kw) #[] cw)∧V.cell? ⟨bi,1,none⟩=some (.func (.func kr) #[] cr)∧V.cell? ⟨bi,2,none⟩=some (.func (.func ks) #[] cs))
  (es:∀ args V,(callFunc ks args).run Tryz.prog V=.ok (.enter ks args) V) (q:Bool)
  (hs:∀ gx gy V,Mem w V ((gx,.cells #[.int .u32 x.1,.int .u32 x.2] 122)::(gy,.cells #[.int .u32 y.1,.int .u32 y.2] 122)::L)→Calls Tryz.prog ks (#[.pointer (some ⟨gx,0,none⟩),.pointer (some ⟨gy,0,none⟩)]++cs) V fun e V'=>e=.returned (.bool q)∧Mem w V' L) :
  Calls Tryz.prog 307 #[.agg #[.int .u32 x.1,.int .u32 x.2],.agg #[.int .u32 y.1,.int .u32 y.2],.pointer (some ⟨bi,0,none⟩)] W fun e W'=>e=.returned (.bool q)∧Mem w W' L:=by
 have hM:Mem w ((W.alloc (.cells #[.int .u32 x.1,.int .u32 x.2] 122)).alloc (.cells #[.int .u32 y.1,.int .u32 y.2] 122)) ((W.heap.size,.cells #[.int .u32 x.1,.int .u32 x.2] 122)::(W.heap.size+1,.cells #[.int .u32 y.1,.int .u32 y.2] 122)::L):=by
  have h1:=(h.push W.heap.size (.cells #[.int .u32 x.1,.int .u32 x.2] 122) rfl).push (W.heap.size+1) (.cells #[.int .u32 y.1,.int .u32 y.2] 122) (by simp)
  refine h1.perm ?_
  rw [List.append_assoc]
  exact List.perm_append_comm
 obtain ⟨d0,d1,d2⟩:=ci _ hM.sub.sub
 have CS:=hs _ _ _ hM
 clear hM ci hs h
 go_enter Tryz.func307,Tryz.ntmps307
 go_wp2_with fail
 refine CS.mono ?_
 rintro e V ⟨rfl,hM2⟩
 go_wp2_with fail
 go_ret
 exact ⟨rfl,hM2⟩
theorem eqf_TP {w W:World} {L:List (Nat×Obj)} (h:Mem w W L) (bi kw kr ks:Nat) (cw cr cs:Array Value) (sv tv:Value) (xs ys:List (Int×Int))
  (ci:∀ V,Mem w V L→V.cell? ⟨bi,0,none⟩=some (.func (.func kw) #[] cw)∧V.cell? ⟨bi,1,none⟩=some (.func (.func kr) #[] cr)∧V.cell? ⟨bi,2,none⟩=some (.func (.func ks) #[] cs))
  (es:∀ args V,(callFunc ks args).run Tryz.prog V=.ok (.enter ks args) V)
  (hx:∀ V,Mem w V L→Rw V 2 sv (px xs)) (hy:∀ V,Mem w V L→Rw V 2 tv (px ys)) (hbx:xs.length≤1000000)
  (hs:∀ (x y:(Int×Int)) gx gy V,Mem w V ((gx,.cells #[Value.int .u32 x.1,Value.int .u32 x.2] 122)::(gy,.cells #[Value.int .u32 y.1,Value.int .u32 y.2] 122)::L)→Calls Tryz.prog ks (#[.pointer (some ⟨gx,0,none⟩),.pointer (some ⟨gy,0,none⟩)]++cs) V fun e V'=>e=.returned (.bool (decide (x=y)))∧Mem w V' L) :
  Calls Tryz.prog 306 #[sv,tv,.func (.func 307) #[] #[.pointer (some ⟨bi,0,none⟩)]] W fun e W'=>e=.returned (.bool (decide (xs=ys)))∧Mem w W' L:=by
 obtain ⟨a,c,rfl,hlc,hcb,ha,hra⟩:=hx _ h
 obtain ⟨a',c',rfl,hlc',hcb',ha',hra'⟩:=hy _ h
 have hlx:(px xs).length=xs.length:=by simp [px]
 have hly:(px ys).length=ys.length:=by simp [px]
 rw [hlx] at hlc hra hx ⊢
 rw [hly] at hlc' hra' hy ⊢
 have CE:=fun V (hV:Mem w V L) (x y:(Int×Int))=>isme_TP hV bi kw kr ks cw cr cs x y ci es (decide (x=y)) (hs x y)
 have HC:Hid (∀ V (hV:Mem w V L) (x y:(Int×Int)),Calls Tryz.prog 307 #[.agg #[.int .u32 x.1,.int .u32 x.2],.agg #[.int .u32 y.1,.int .u32 y.2],.pointer (some ⟨bi,0,none⟩)] V fun e W'=>e=.returned (.bool (decide (x=y)))∧Mem w W' L):=CE
 clear CE hs ci es
 by_cases hl:xs.length=ys.length
 ·obtain ⟨n,hn⟩:∃ n,xs.length=n:=⟨_,rfl⟩
  rw [←hl,hn]
  rw [←hl,hn] at hlc' hra' hy
  rw [hn] at hlc hra hx
  have hn2:ys.length=n:=by omega
  obtain ⟨D,hD⟩:∃ D,decide (xs=ys)=D:=⟨_,rfl⟩
  rw [hD]
  have HX:Hid (∀ V,Mem w V L→∀ i,i < n→∃ b off,a=some ⟨b,off,none⟩∧V.rangeAt b (off+i * 2) ((px xs).getD i [])):=by
   intro V hV i hi
   obtain ⟨a2,c2,e,_,_,_,hr⟩:=hx V hV
   simp only [Value.slice.injEq] at e
   obtain ⟨rfl,-,rfl⟩:=e
   rcases hr with e | ⟨b,off,rfl,hc⟩
   ·rw [e] at hlx;simp at hlx;omega
   ·exact ⟨b,off,rfl,fun j u hj=>hc i (by omega) j u hj⟩
  have HY:Hid (∀ V,Mem w V L→∀ i,i < n→∃ b off,a'=some ⟨b,off,none⟩∧V.rangeAt b (off+i * 2) ((px ys).getD i [])):=by
   intro V hV i hi
   obtain ⟨a2,c2,e,_,_,_,hr⟩:=hy V hV
   simp only [Value.slice.injEq] at e
   obtain ⟨rfl,-,rfl⟩:=e
   rcases hr with e | ⟨b,off,rfl,hc⟩
   ·rw [e] at hly;simp at hly;omega
   ·exact ⟨b,off,rfl,fun j u hj=>hc i (by omega) j u hj⟩
  clear hx hy hra hra' hlc hlc' hcb hcb' ha ha' hl hlx hly
  go_enter Tryz.func306,Tryz.ntmps306
  go_wp2_with fail
  go_loopw [17] (fun u17 w'=>∃ i:Nat,i≤n∧u17=.int .i64 i∧Hid (Mem w w' L∧∀ j,j < i→xs[j]? = ys[j]?)) (fun u17 w'=>n - (intOf u17).toNat)
  case atStart=>exact ⟨0,Nat.zero_le _,rfl,h,fun j hj=>by omega⟩
  case round =>
   obtain ⟨i,hi,rfl,HR⟩:=hrel
   obtain ⟨hM,hall⟩:=HR.out
   by_cases hlt:i < n
   ·have h1:(i:Int) < n:=by omega
    obtain ⟨b,off,rfl,rx⟩:=HX.out _ hM i hlt
    obtain ⟨b',off',rfl,ry⟩:=HY.out _ hM i hlt
    obtain ⟨x,hxi⟩:∃ x,xs[i]? = some x:=⟨_,List.getElem?_eq_getElem (by omega)⟩
    obtain ⟨y,hyi⟩:∃ y,ys[i]? = some y:=⟨_,List.getElem?_eq_getElem (by omega)⟩
    have ex:(px xs).getD i []=[Value.int .u32 x.1,Value.int .u32 x.2]:=by simp [px,List.getD,hxi]
    have ey:(px ys).getD i []=[Value.int .u32 y.1,Value.int .u32 y.2]:=by simp [px,List.getD,hyi]
    rw [ex] at rx
    rw [ey] at ry
    have d3:wr.cell? ⟨b,off+i * 2,none⟩=some (.int .u32 x.1):=by have:=rx 0 _ rfl;simpa using this
    have d5:wr.cell? ⟨b,off+i * 2+1,none⟩=some (.int .u32 x.2):=by have:=rx 1 _ rfl;simpa using this
    have hM1:Mem w (wr.alloc (.cells #[.int .u32 x.1,.int .u32 x.2] 122)) L:=hM.after ((Below.refl _ _).alloc (Nat.le_refl _) _)
    have hM2:Mem w ((wr.alloc (.cells #[.int .u32 x.1,.int .u32 x.2] 122)).alloc (.cells #[.int .u32 y.1,.int .u32 y.2] 122)) L:=hM1.after ((Below.refl _ _).alloc (Nat.le_refl _) _)
    have ry1:=World.rangeAt_alloc ry (.cells #[.int .u32 x.1,.int .u32 x.2] 122)
    have d4:(wr.alloc (.cells #[.int .u32 x.1,.int .u32 x.2] 122)).cell? ⟨b',off'+i * 2,none⟩=some (.int .u32 y.1):=by have:=ry1 0 _ rfl;simpa using this
    have d6:(wr.alloc (.cells #[.int .u32 x.1,.int .u32 x.2] 122)).cell? ⟨b',off'+i * 2+1,none⟩=some (.int .u32 y.2):=by have:=ry1 1 _ rfl;simpa using this
    have CW:=HC.out _ hM2 x y
    clear hM1 hM2 ry1
    have HA:Hid (∀ j,j < i→xs[j]? = ys[j]?):=hall
    clear HX HY HC ex ey rx ry hall HR h
    cases hd:decide (x=y) with
    | false =>
     rw [hd] at CW
     obtain rfl:D=false:=by
      rw [←hD]
      apply decide_eq_false
      intro hc
      rw [hc,hyi] at hxi
      have hxy:x=y:=(Option.some.inj hxi).symm
      rw [decide_eq_true hxy] at hd
      cases hd
     clear hd hD hxi hyi
     go_wp2_with fail
     refine CW.mono ?_
     rintro e V ⟨rfl,hM2⟩
     go_wp2_with fail
     go_ret
     exact ⟨rfl,hM2⟩
    | true =>
     rw [hd] at CW
     have hxy:=of_decide_eq_true hd
     have HF:Hid (∀ j,j < i+1→xs[j]? = ys[j]?):=by
      intro j hj
      by_cases e:j=i
      ·rw [e,hxi,hyi,hxy]
      ·exact HA.out j (by omega)
     clear hd hxy hxi hyi
     go_wp2_with fail
     refine CW.mono ?_
     rintro e V ⟨rfl,hM2⟩
     have HH:Hid (Mem w V L∧∀ j,j < i+1→xs[j]? = ys[j]?):=⟨hM2,HF.out⟩
     clear CW hM2
     go_wp2_with fail
     go_roundw
     case rel=>exact ⟨i+1,by omega,by go_num,HH⟩
     case measure=>simp [intOf];omega
   ·have h1:¬ ((i:Int) < n):=by omega
    obtain rfl:i=n:=by omega
    obtain rfl:D=true:=by
     rw [←hD]
     apply decide_eq_true
     apply List.ext_getElem?
     intro j
     by_cases hj:j < i
     ·exact hall j hj
     ·rw [List.getElem?_eq_none (by omega),List.getElem?_eq_none (by omega)]
    clear HR hall hD HC HX HY
    go_wp2_with fail
    go_ret
    exact ⟨rfl,hM⟩
 ·rw [decide_eq_false (fun e=>hl (by rw [e]))]
  have h1:((xs.length:Int) != (ys.length:Int))=true:=by simp;omega
  have h2:¬ ((xs.length:Int)=(ys.length:Int)):=by omega
  clear hx hy hra hra' HC hl
  go_enter Tryz.func306,Tryz.ntmps306
  go_wp2_with fail
  go_ret
  exact ⟨rfl,h⟩
theorem ism_TP {w W:World} {L:List (Nat×Obj)} (h:Mem w W L) (bo bi ko kw kr ks:Nat) (cw cr cs:Array Value) (p p' q q':Addr) (sv tv:Value) (xs ys:List (Int×Int))
  (co:∀ V,Mem w V L→V.cell? ⟨bo,0,none⟩=some (.func (.func ko) #[] #[]))
  (ci:∀ V,Mem w V L→V.cell? ⟨bi,0,none⟩=some (.func (.func kw) #[] cw)∧V.cell? ⟨bi,1,none⟩=some (.func (.func kr) #[] cr)∧V.cell? ⟨bi,2,none⟩=some (.func (.func ks) #[] cs))
  (eo:∀ args V,(callFunc ko args).run Tryz.prog V=.ok (.enter ko args) V) (ho:∀ V,Calls Tryz.prog ko #[.pointer (some p)] V fun e V'=>e=.returned (.pointer (some p'))∧V=V')
  (hq:∀ V,Calls Tryz.prog ko #[.pointer (some q)] V fun e V'=>e=.returned (.pointer (some q'))∧V=V')
  (es:∀ args V,(callFunc ks args).run Tryz.prog V=.ok (.enter ks args) V)
  (cx:∀ V,Mem w V L→V.cell? p'=some sv) (cy:∀ V,Mem w V L→V.cell? q'=some tv)
  (hx:∀ V,Mem w V L→Rw V 2 sv (px xs)) (hy:∀ V,Mem w V L→Rw V 2 tv (px ys)) (hbx:xs.length≤1000000)
  (hs:∀ (x y:(Int×Int)) gx gy V,Mem w V ((gx,.cells #[Value.int .u32 x.1,Value.int .u32 x.2] 122)::(gy,.cells #[Value.int .u32 y.1,Value.int .u32 y.2] 122)::L)→Calls Tryz.prog ks (#[.pointer (some ⟨gx,0,none⟩),.pointer (some ⟨gy,0,none⟩)]++cs) V fun e V'=>e=.returned (.bool (decide (x=y)))∧Mem w V' L) :
  Calls Tryz.prog 305 #[.pointer (some p),.pointer (some q),.pointer (some ⟨bo,0,none⟩),.pointer (some ⟨bi,0,none⟩)] W fun e W'=>e=.returned (.bool (decide (xs=ys)))∧Mem w W' L:=by
 have HM:Hid (Mem w W.drew L):=h.drew
 have c2:=co _ HM.out
 have c3:=cx _ HM.out
 have c4:=cy _ HM.out
 have CE:=eqf_TP HM.out bi kw kr ks cw cr cs sv tv xs ys ci es hx hy hbx hs
 obtain ⟨a,c,rfl,-⟩:=hx _ h
 obtain ⟨a',c',rfl,-⟩:=hy _ h
 have KS:Hid (∀ V,Mem w V L→V.cell? ⟨bo,0,none⟩=some (.func (.func ko) #[] #[])∧V.cell? p'=some (.slice a (px xs).length c)∧V.cell? q'=some (.slice a' (px ys).length c')):=fun V hV=>⟨co V hV,cx V hV,cy V hV⟩
 have hmf:∀ (fn:Fn) (first cap:Array Value) (w:World),(Instr.makeFunc fn first cap).run Tryz.prog w=.ok (.func fn first cap) w:=fun _ _ _ _=>rfl
 clear h co cx cy hx hy hs ci
 generalize (px xs).length=m1 at *
 generalize (px ys).length=m2 at *
 go_enter Tryz.func305,Tryz.ntmps305
 go_upto_region 1 with fail
 go_region_held3 (fun V=>V.cell? ⟨bo,0,none⟩=some (.func (.func ko) #[] #[])∧V.cell? p'=some (.slice a m1 c)∧V.cell? q'=some (.slice a' m2 c')) (first | assumption | exact KS.out _ hM2 | go_keep)
  (first | (go_at_fn ko;with_reducible refine (ho _).mono ?_;rintro e V ⟨rfl,rfl⟩) | (go_at_fn ko;with_reducible refine (hq _).mono ?_;rintro e V ⟨rfl,rfl⟩) | (go_at_call 306;refine CE.mono ?_;rintro e V ⟨rfl,hM2⟩))
 all_goals
  go_wp2_with fail
  go_ret
  exact ⟨rfl,by assumption⟩
theorem isme_TU {w W:World} {L:List (Nat×Obj)} (h:Mem w W L) (bi kw kr ks:Nat) (cw cr cs:Array Value) (x y:Int)
  (ci:∀ V,Mem w V L→V.cell? ⟨bi,0,none⟩=some (.func (.func kw) #[] cw)∧V.cell? ⟨bi,1,none⟩=some (.func (.func kr) #[] cr)∧V.cell? ⟨bi,2,none⟩=some (.func (.func ks) #[] cs))
  (es:∀ args V,(callFunc ks args).run Tryz.prog V=.ok (.enter ks args) V) (q:Bool)
  (hs:∀ gx gy V,Mem w V ((gx,.cells #[.int .u32 x] 33)::(gy,.cells #[.int .u32 y] 33)::L)→Calls Tryz.prog ks (#[.pointer (some ⟨gx,0,none⟩),.pointer (some ⟨gy,0,none⟩)]++cs) V fun e V'=>e=.returned (.bool q)∧Mem w V' L) :
  Calls Tryz.prog 300 #[.int .u32 x,.int .u32 y,.pointer (some ⟨bi,0,none⟩)] W fun e W'=>e=.returned (.bool q)∧Mem w W' L:=by
 have hM:Mem w ((W.alloc (.cells #[.int .u32 x] 33)).alloc (.cells #[.int .u32 y] 33)) ((W.heap.size,.cells #[.int .u32 x] 33)::(W.heap.size+1,.cells #[.int .u32 y] 33)::L):=by
  have h1:=(h.push W.heap.size (.cells #[.int .u32 x] 33) rfl).push (W.heap.size+1) (.cells #[.int .u32 y] 33) (by simp)
  refine h1.perm ?_
  rw [List.append_assoc]
  exact List.perm_append_comm
 obtain ⟨d0,d1,d2⟩:=ci _ hM.sub.sub
 have CS:=hs _ _ _ hM
 clear hM ci hs h
 go_enter Tryz.func300,Tryz.ntmps300
 go_wp2_with fail
 refine CS.mono ?_
 rintro e V ⟨rfl,hM2⟩
 go_wp2_with fail
 go_ret
 exact ⟨rfl,hM2⟩
theorem eqf_TU {w W:World} {L:List (Nat×Obj)} (h:Mem w W L) (bi kw kr ks:Nat) (cw cr cs:Array Value) (sv tv:Value) (xs ys:List Int)
  (ci:∀ V,Mem w V L→V.cell? ⟨bi,0,none⟩=some (.func (.func kw) #[] cw)∧V.cell? ⟨bi,1,none⟩=some (.func (.func kr) #[] cr)∧V.cell? ⟨bi,2,none⟩=some (.func (.func ks) #[] cs))
  (es:∀ args V,(callFunc ks args).run Tryz.prog V=.ok (.enter ks args) V)
  (hx:∀ V,Mem w V L→Rw V 1 sv (ux xs)) (hy:∀ V,Mem w V L→Rw V 1 tv (ux ys)) (hbx:xs.length≤1000000)
  (hs:∀ (x y:Int) gx gy V,Mem w V ((gx,.cells #[Value.int .u32 x] 33)::(gy,.cells #[Value.int .u32 y] 33)::L)→Calls Tryz.prog ks (#[.pointer (some ⟨gx,0,none⟩),.pointer (some ⟨gy,0,none⟩)]++cs) V fun e V'=>e=.returned (.bool (decide (x=y)))∧Mem w V' L) :
  Calls Tryz.prog 299 #[sv,tv,.func (.func 300) #[] #[.pointer (some ⟨bi,0,none⟩)]] W fun e W'=>e=.returned (.bool (decide (xs=ys)))∧Mem w W' L:=by
 obtain ⟨a,c,rfl,hlc,hcb,ha,hra⟩:=hx _ h
 obtain ⟨a',c',rfl,hlc',hcb',ha',hra'⟩:=hy _ h
 have hlx:(ux xs).length=xs.length:=by simp [ux]
 have hly:(ux ys).length=ys.length:=by simp [ux]
 rw [hlx] at hlc hra hx ⊢
 rw [hly] at hlc' hra' hy ⊢
 have CE:=fun V (hV:Mem w V L) (x y:Int)=>isme_TU hV bi kw kr ks cw cr cs x y ci es (decide (x=y)) (hs x y)
 have HC:Hid (∀ V (hV:Mem w V L) (x y:Int),Calls Tryz.prog 300 #[.int .u32 x,.int .u32 y,.pointer (some ⟨bi,0,none⟩)] V fun e W'=>e=.returned (.bool (decide (x=y)))∧Mem w W' L):=CE
 clear CE hs ci es
 by_cases hl:xs.length=ys.length
 ·obtain ⟨n,hn⟩:∃ n,xs.length=n:=⟨_,rfl⟩
  rw [←hl,hn]
  rw [←hl,hn] at hlc' hra' hy
  rw [hn] at hlc hra hx
  have hn2:ys.length=n:=by omega
  obtain ⟨D,hD⟩:∃ D,decide (xs=ys)=D:=⟨_,rfl⟩
  rw [hD]
  have HX:Hid (∀ V,Mem w V L→∀ i,i < n→∃ b off,a=some ⟨b,off,none⟩∧V.rangeAt b (off+i * 1) ((ux xs).getD i [])):=by
   intro V hV i hi
   obtain ⟨a2,c2,e,_,_,_,hr⟩:=hx V hV
   simp only [Value.slice.injEq] at e
   obtain ⟨rfl,-,rfl⟩:=e
   rcases hr with e | ⟨b,off,rfl,hc⟩
   ·rw [e] at hlx;simp at hlx;omega
   ·exact ⟨b,off,rfl,fun j u hj=>hc i (by omega) j u hj⟩
  have HY:Hid (∀ V,Mem w V L→∀ i,i < n→∃ b off,a'=some ⟨b,off,none⟩∧V.rangeAt b (off+i * 1) ((ux ys).getD i [])):=by
   intro V hV i hi
   obtain ⟨a2,c2,e,_,_,_,hr⟩:=hy V hV
   simp only [Value.slice.injEq] at e
   obtain ⟨rfl,-,rfl⟩:=e
   rcases hr with e | ⟨b,off,rfl,hc⟩
   ·rw [e] at hly;simp at hly;omega
   ·exact ⟨b,off,rfl,fun j u hj=>hc i (by omega) j u hj⟩
  clear hx hy hra hra' hlc hlc' hcb hcb' ha ha' hl hlx hly
  go_enter Tryz.func299,Tryz.ntmps299
  go_wp2_with fail
  go_loopw [17] (fun u17 w'=>∃ i:Nat,i≤n∧u17=.int .i64 i∧Hid (Mem w w' L∧∀ j,j < i→xs[j]? = ys[j]?)) (fun u17 w'=>n - (intOf u17).toNat)
  case atStart=>exact ⟨0,Nat.zero_le _,rfl,h,fun j hj=>by omega⟩
  case round =>
   obtain ⟨i,hi,rfl,HR⟩:=hrel
   obtain ⟨hM,hall⟩:=HR.out
   by_cases hlt:i < n
   ·have h1:(i:Int) < n:=by omega
    obtain ⟨b,off,rfl,rx⟩:=HX.out _ hM i hlt
    obtain ⟨b',off',rfl,ry⟩:=HY.out _ hM i hlt
    obtain ⟨x,hxi⟩:∃ x,xs[i]? = some x:=⟨_,List.getElem?_eq_getElem (by omega)⟩
    obtain ⟨y,hyi⟩:∃ y,ys[i]? = some y:=⟨_,List.getElem?_eq_getElem (by omega)⟩
    have ex:(ux xs).getD i []=[Value.int .u32 x]:=by simp [ux,List.getD,hxi]
    have ey:(ux ys).getD i []=[Value.int .u32 y]:=by simp [ux,List.getD,hyi]
    rw [ex] at rx
    rw [ey] at ry
    have d3:wr.cell? ⟨b,off+i,none⟩=some (.int .u32 x):=by have:=rx 0 _ rfl;simpa using this
    have d4:wr.cell? ⟨b',off'+i,none⟩=some (.int .u32 y):=by have:=ry 0 _ rfl;simpa using this
    have CW:=HC.out _ hM x y
    have HA:Hid (∀ j,j < i→xs[j]? = ys[j]?):=hall
    clear HX HY HC ex ey rx ry hall HR h
    cases hd:decide (x=y) with
    | false =>
     rw [hd] at CW
     obtain rfl:D=false:=by
      rw [←hD]
      apply decide_eq_false
      intro hc
      rw [hc,hyi] at hxi
      have hxy:x=y:=(Option.some.inj hxi).symm
      rw [decide_eq_true hxy] at hd
      cases hd
     clear hd hD hxi hyi
     go_wp2_with fail
     refine CW.mono ?_
     rintro e V ⟨rfl,hM2⟩
     go_wp2_with fail
     go_ret
     exact ⟨rfl,hM2⟩
    | true =>
     rw [hd] at CW
     have hxy:=of_decide_eq_true hd
     have HF:Hid (∀ j,j < i+1→xs[j]? = ys[j]?):=by
      intro j hj
      by_cases e:j=i
      ·rw [e,hxi,hyi,hxy]
      ·exact HA.out j (by omega)
     clear hd hxy hxi hyi
     go_wp2_with fail
     refine CW.mono ?_
     rintro e V ⟨rfl,hM2⟩
     have HH:Hid (Mem w V L∧∀ j,j < i+1→xs[j]? = ys[j]?):=⟨hM2,HF.out⟩
     clear CW hM2
     go_wp2_with fail
     go_roundw
     case rel=>exact ⟨i+1,by omega,by go_num,HH⟩
     case measure=>simp [intOf];omega
   ·have h1:¬ ((i:Int) < n):=by omega
    obtain rfl:i=n:=by omega
    obtain rfl:D=true:=by
     rw [←hD]
     apply decide_eq_true
     apply List.ext_getElem?
     intro j
     by_cases hj:j < i
     ·exact hall j hj
     ·rw [List.getElem?_eq_none (by omega),List.getElem?_eq_none (by omega)]
    clear HR hall hD HC HX HY
    go_wp2_with fail
    go_ret
    exact ⟨rfl,hM⟩
 ·rw [decide_eq_false (fun e=>hl (by rw [e]))]
  have h1:((xs.length:Int) != (ys.length:Int))=true:=by simp;omega
  have h2:¬ ((xs.length:Int)=(ys.length:Int)):=by omega
  clear hx hy hra hra' HC hl
  go_enter Tryz.func299,Tryz.ntmps299
  go_wp2_with fail
  go_ret
  exact ⟨rfl,h⟩
theorem ism_TU {w W:World} {L:List (Nat×Obj)} (h:Mem w W L) (bo bi ko kw kr ks:Nat) (cw cr cs:Array Value) (p p' q q':Addr) (sv tv:Value) (xs ys:List Int)
  (co:∀ V,Mem w V L→V.cell? ⟨bo,0,none⟩=some (.func (.func ko) #[] #[]))
  (ci:∀ V,Mem w V L→V.cell? ⟨bi,0,none⟩=some (.func (.func kw) #[] cw)∧V.cell? ⟨bi,1,none⟩=some (.func (.func kr) #[] cr)∧V.cell? ⟨bi,2,none⟩=some (.func (.func ks) #[] cs))
  (eo:∀ args V,(callFunc ko args).run Tryz.prog V=.ok (.enter ko args) V) (ho:∀ V,Calls Tryz.prog ko #[.pointer (some p)] V fun e V'=>e=.returned (.pointer (some p'))∧V=V')
  (hq:∀ V,Calls Tryz.prog ko #[.pointer (some q)] V fun e V'=>e=.returned (.pointer (some q'))∧V=V')
  (es:∀ args V,(callFunc ks args).run Tryz.prog V=.ok (.enter ks args) V)
  (cx:∀ V,Mem w V L→V.cell? p'=some sv) (cy:∀ V,Mem w V L→V.cell? q'=some tv)
  (hx:∀ V,Mem w V L→Rw V 1 sv (ux xs)) (hy:∀ V,Mem w V L→Rw V 1 tv (ux ys)) (hbx:xs.length≤1000000)
  (hs:∀ (x y:Int) gx gy V,Mem w V ((gx,.cells #[Value.int .u32 x] 33)::(gy,.cells #[Value.int .u32 y] 33)::L)→Calls Tryz.prog ks (#[.pointer (some ⟨gx,0,none⟩),.pointer (some ⟨gy,0,none⟩)]++cs) V fun e V'=>e=.returned (.bool (decide (x=y)))∧Mem w V' L) :
  Calls Tryz.prog 298 #[.pointer (some p),.pointer (some q),.pointer (some ⟨bo,0,none⟩),.pointer (some ⟨bi,0,none⟩)] W fun e W'=>e=.returned (.bool (decide (xs=ys)))∧Mem w W' L:=by
 have HM:Hid (Mem w W.drew L):=h.drew
 have c2:=co _ HM.out
 have c3:=cx _ HM.out
 have c4:=cy _ HM.out
 have CE:=eqf_TU HM.out bi kw kr ks cw cr cs sv tv xs ys ci es hx hy hbx hs
 obtain ⟨a,c,rfl,-⟩:=hx _ h
 obtain ⟨a',c',rfl,-⟩:=hy _ h
 have KS:Hid (∀ V,Mem w V L→V.cell? ⟨bo,0,none⟩=some (.func (.func ko) #[] #[])∧V.cell? p'=some (.slice a (ux xs).length c)∧V.cell? q'=some (.slice a' (ux ys).length c')):=fun V hV=>⟨co V hV,cx V hV,cy V hV⟩
 have hmf:∀ (fn:Fn) (first cap:Array Value) (w:World),(Instr.makeFunc fn first cap).run Tryz.prog w=.ok (.func fn first cap) w:=fun _ _ _ _=>rfl
 clear h co cx cy hx hy hs ci
 generalize (ux xs).length=m1 at *
 generalize (ux ys).length=m2 at *
 go_enter Tryz.func298,Tryz.ntmps298
 go_upto_region 1 with fail
 go_region_held3 (fun V=>V.cell? ⟨bo,0,none⟩=some (.func (.func ko) #[] #[])∧V.cell? p'=some (.slice a m1 c)∧V.cell? q'=some (.slice a' m2 c')) (first | assumption | exact KS.out _ hM2 | go_keep)
  (first | (go_at_fn ko;with_reducible refine (ho _).mono ?_;rintro e V ⟨rfl,rfl⟩) | (go_at_fn ko;with_reducible refine (hq _).mono ?_;rintro e V ⟨rfl,rfl⟩) | (go_at_call 299;refine CE.mono ?_;rintro e V ⟨rfl,hM2⟩))
 all_goals
  go_wp2_with fail
  go_ret
  exact ⟨rfl,by assumption⟩
end Go.Proofs.YtdigofgjhaakmaaGreatDoor
namespace Go.Proofs.YtdigofgjhaakmaaGreatDoor
open Go.RowKit
open Sm
section
variable {w W:World} {p h m:Nat} {D:Dk} {hc:Array Value} {ks:List Bk} {L:List (Nat×Obj)}
theorem DkAt.on (H:DkAt w W p h m D hc ks L) {W':World} {L':List (Nat×Obj)} (s:St w W' p (dkA h ks.length D) dkT h m hc ks L'):DkAt w W' p h m D hc ks L':=⟨s,H.pos,H.top,H.mlo,H.mhi,H.left,H.pre⟩
theorem DkAt.join (H:DkAt w W p h m D hc ks L) {W':World} {K:List (Nat×Obj)} (k:Mem W W' K):DkAt w W' p h m D hc ks (K++L):=H.on (H.st.join k)
theorem lsb_any (H:DkAt w W p h m D hc ks L):Calls Tryz.prog 49 #[.pointer (some ⟨p,0,none⟩)] W fun e W'=>e=.returned (.int .i64 (sbk ks.length))∧W=W':=by
 have hb:=dblocks_any H
 have hp:=H.pos
 have ht:=H.top
 have HS:Hid ((((ks.length:Int) - 1) / 2)=(sbk ks.length:Int)):=by show _=_;unfold sbk;omega
 generalize sbk ks.length=q at *
 generalize ks.length=n at *
 clear H
 go_enter Tryz.func49,Tryz.ntmps49
 go_wp2_with fail
 refine hb.mono ?_
 rintro e w' ⟨rfl,rfl⟩
 go_wp2
 go_ret
 exact ⟨ret_int HS.out,rfl⟩
theorem lfits_any (H:DkAt w W p h m D hc ks L):Calls Tryz.prog 48 #[.pointer (some ⟨p,0,none⟩)] W fun e W'=>e=.returned (.bool (decide (4≤ks.length) && decide (256≤m)))∧W=W':=by
 have hb:=dblocks_any H
 have hs:=dsize_any H
 generalize ks.length=n at *
 clear H
 by_cases h4:4≤n
 ·have h4':(4:Int)≤n:=by omega
  go_enter Tryz.func48,Tryz.ntmps48
  go_wp2_with fail
  refine hb.mono ?_
  rintro e w' ⟨rfl,rfl⟩
  go_wp2_with fail
  refine hs.mono ?_
  rintro e w' ⟨rfl,rfl⟩
  go_wp2
  go_ret
  refine ⟨?_,rfl⟩
  have e:decide ((256:Int)≤m)=decide (256≤m):=by
   by_cases q:256≤m
   ·rw [decide_eq_true q,decide_eq_true (by omega)]
   ·rw [decide_eq_false q,decide_eq_false (by omega)]
  simp [h4,e]
 ·have h4':¬ (4:Int)≤n:=by omega
  go_enter Tryz.func48,Tryz.ntmps48
  go_wp2_with fail
  refine hb.mono ?_
  rintro e w' ⟨rfl,rfl⟩
  go_wp2
  go_ret
  exact ⟨by simp,rfl⟩
def room (n m:Nat):Nat:=if 4≤n∧256≤m then min (sbk n * (m - 64)) 16384 else 0
theorem lroom_any (H:DkAt w W p h m D hc ks L):Calls Tryz.prog 14 #[.pointer (some ⟨p,0,none⟩)] W fun e W'=>e=.returned (.int .i64 (room ks.length m))∧W=W':=by
 have hf:=lfits_any H
 have hb:=lsb_any H
 have hs:=dsize_any H
 have hmh:=H.mhi
 have ht:=H.top
 unfold room
 by_cases hh:4≤ks.length∧256≤m
 ·rw [if_pos hh]
  rw [show (decide (4≤ks.length) && decide (256≤m))=true by simp [hh]] at hf
  have hq:sbk ks.length≤31:=by unfold sbk;omega
  obtain ⟨-,hm⟩:=hh
  obtain ⟨x,hx⟩:∃ x:Nat,x=sbk ks.length * (m - 64):=⟨_,rfl⟩
  have hx2:(sbk ks.length:Int) * ((m:Int) - 64)=x:=by
   rw [hx,Int.natCast_mul,Int.natCast_sub (by omega)];rfl
  have hx3:x≤31 * 65536:=by rw [hx];exact Nat.mul_le_mul hq (by omega)
  rw [←hx]
  have hwx:IntKind.i64.wrap (x:Int)=x:=by rw [IntKind.wrap_i64];omega
  have w64:IntKind.i64.wrap ((m:Int) - 64)=(m:Int) - 64:=by rw [IntKind.wrap_i64];omega
  generalize sbk ks.length=q at *
  clear H hx
  go_enter Tryz.func14,Tryz.ntmps14
  go_wp2_with fail
  refine hf.mono ?_
  rintro e w' ⟨rfl,rfl⟩
  go_wp2_with fail
  refine hb.mono ?_
  rintro e w' ⟨rfl,rfl⟩
  go_wp2_with fail
  refine hs.mono ?_
  rintro e w' ⟨rfl,rfl⟩
  go_wp2
  all_goals go_ret
  all_goals exact ⟨ret_int (by omega),rfl⟩
 ·rw [if_neg hh]
  rw [show (decide (4≤ks.length) && decide (256≤m))=false by simp;omega] at hf
  clear H hb hs
  go_enter Tryz.func14,Tryz.ntmps14
  go_wp2_with fail
  refine hf.mono ?_
  rintro e w' ⟨rfl,rfl⟩
  go_wp2
  go_ret
  exact ⟨rfl,rfl⟩
end
theorem lother_any (W:World) (s:Nat) (h:s≤1):Calls Tryz.prog 120 #[.int .i64 s] W fun e W'=>e=.returned (.int .i64 ((1 - s:Nat):Int))∧W=W':=by
 go_enter Tryz.func120,Tryz.ntmps120
 go_wp2
 go_ret
 exact ⟨ret_int (by omega),rfl⟩
theorem llater_any (W:World) (a b:Int):Calls Tryz.prog 97 #[.int .u64 a,.int .u64 b] W fun e W'=>e=.returned (.bool (ltr a b))∧W=W':=by
 go_enter Tryz.func97,Tryz.ntmps97
 go_wp2
 go_ret
 refine ⟨?_,rfl⟩
 unfold ltr
 rw [show IntKind.i64.wrap (IntKind.u64.wrap (a - b))=wrap64 (IntKind.u64.wrap (a - b)) by unfold wrap64;exact IntKind.wrap_i64 _]
 rfl
end Go.Proofs.YtdigofgjhaakmaaGreatDoor
