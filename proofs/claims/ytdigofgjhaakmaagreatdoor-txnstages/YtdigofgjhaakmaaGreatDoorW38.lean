/-
  The document's store: Stage.
  The statements' seat of settings: they may be; what a call made, read as settings.
  A store opened: txn.Open.
-/
import Derived.Test.YtdigofgjhaakmaaGreatDoorW37
import Derived.Test.YtdigofgjhaakmaaGreatDoorW34
import Derived.Test.YtdigofgjhaakmaaGreatDoorW27
import Derived.Test.YtdigofgjhaakmaaGreatDoorW31
import Derived.Test.YtdigofgjhaakmaaGreatDoorW35
import Derived.Test.YtdigofgjhaakmaaGreatDoorW32
import Derived.Test.YtdigofgjhaakmaaGreatDoorW26
import Derived.Test.YtdigofgjhaakmaaGreatDoorW21
set_option linter.unusedVariables false
set_option linter.unusedSimpArgs false
set_option maxRecDepth 20000
set_option maxHeartbeats 40000000
namespace Go.Proofs.YtdigofgjhaakmaaGreatDoor
open Go.RowKit
open Sm
open Cf
open Df
open Va
open Ad
section
variable {ver:Int} {c t:Cgf} {u ut:Value} {op:Bool} {w W:World} {pm:Nat} {L:List (Nat×Obj)}
end
end Go.Proofs.YtdigofgjhaakmaaGreatDoor
namespace Go.Proofs.YtdigofgjhaakmaaGreatDoor
open Go.RowKit
open La (adr adr_range)
open Va
namespace Va
abbrev sc (f:Int) (ts:List Ten):Cgf:=⟨adr 10 9 0 200,[2,1,0,0,0,0],[2,2,0,0,0,0],[2,3,0,0,0,0],[200,0,0,0,0,0,0,0],f,ts⟩
theorem sc_len (f:Int) (ts:List Ten):CLen (sc f ts):=⟨rfl,rfl,rfl,rfl⟩
theorem lss_seat (a b:Nat):lss ⟨#[UInt8.ofNat (97+a % 8)]⟩ ⟨#[UInt8.ofNat (97+b % 8)]⟩=decide (a % 8 < b % 8):=by
 have key:∀ m n:Fin 8,Op.bytesLess [UInt8.ofNat (97+m.val)] [UInt8.ofNat (97+n.val)]=decide (m.val < n.val):=by decide
 unfold lss
 rw [Lib.toList_data,Lib.toList_data]
 exact key ⟨a % 8,by omega⟩ ⟨b % 8,by omega⟩
theorem getD_some {ts:List Ten} {i:Nat} {t:Ten} (h:ts[i]? = some t):ts.getD i ten0=t:=by simp [List.getD,h]
theorem mem_take {ts:List Ten} {i:Nat} {o:Ten} (h:o∈ts.take i):∃ j,j < i∧ts[j]? = some o:=by
 obtain ⟨j,hj,e⟩:=List.mem_iff_getElem.mp h
 have hj':j < i∧j < ts.length:=by simp at hj;omega
 refine ⟨j,hj'.1,?_⟩
 rw [List.getElem?_eq_getElem hj'.2]
 simp at e
 rw [e]
theorem SQ.own {i:Nat} {t:Ten} (h:SQ i t) {x:Int} (hx:x∈t.pool++snd' t.stat):x=adr 5 5 i 1∨x=adr 5 5 i 2∨x=adr 5 6 i 9:=by
 rcases List.mem_append.mp hx with hx | hx
 ·rcases h.pool x hx with e | e
  ·exact Or.inl e
  ·exact Or.inr (Or.inl e)
 ·obtain ⟨p,hp,rfl⟩:=List.mem_map.mp hx
  rw [h.stat p hp];exact Or.inr (Or.inr rfl)
theorem SQ.place {f:Int} {ts:List Ten} {i:Nat} {t:Ten} (hi:i < 8) (ht:ts[i]? = some t) (h:SQ i t) (hp:∀ j o,j < i→ts[j]? = some o→SQ j o):POk (sc f ts) i:=by
 have e:=getD_some ht
 refine ⟨by show TOk (ts.getD i ten0);rw [e];exact h.ok,?_,fun o ho=>?_⟩
 ·by_cases h0:i=0
  ·exact Or.inl h0
  ·right
   obtain ⟨o,ho⟩:∃ o,ts[i - 1]? = some o:=⟨_,List.getElem?_eq_getElem (by have:=(List.getElem?_eq_some_iff.mp ht).1;omega)⟩
   show lss (ts.getD (i - 1) ten0).name (ts.getD i ten0).name=true
   rw [e,getD_some ho,h.name,(hp (i - 1) o (by omega) ho).name,lss_seat]
   exact decide_eq_true (by omega)
 ·obtain ⟨j,hj,hjo⟩:=mem_take ho
  show o.vni≠(ts.getD i ten0).vni
  rw [e,h.vni,(hp j o hj hjo).vni]
  omega
theorem chk_seat {f:Int} {ts:List Ten} (hf:f≤1000) (hl:ts.length≤8) (h:∀ j t,ts[j]? = some t→SQ j t):chk (sc f ts)=0:=by
 refine chk_ok ⟨by show adr 10 9 0 200≠0;decide,hf,by show ts.length≤16;omega⟩ (fun i hi=>?_)
 have hi':i < ts.length:=hi
 obtain ⟨t,ht⟩:∃ t,ts[i]? = some t:=⟨_,List.getElem?_eq_getElem hi'⟩
 have hq:=h i t ht
 refine (hq.place (by omega) ht (fun j o _ ho=>h j o ho)).none hi (fun x hx=>?_)
 have hx':x∈t.pool++snd' t.stat:=by have:=getD_some ht;rw [←this];exact hx
 have hx2:=hq.own hx'
 refine ⟨fun e=>?_,fun o ho hm=>?_⟩
 ·have e':x=adr 10 9 0 200:=e
  simp only [adr] at hx2 e'
  omega
 ·obtain ⟨j,hj,hjo⟩:=mem_take ho
  have hx3:=(h j o hjo).own hm
  simp only [adr] at hx2 hx3
  omega
end Va
theorem cv_ys {w X:World} {c:Cgf} {u:Value} {ys:List Ty} {B C:List (Nat×Obj)} (hcl:CLen c) (ez:ys.map (fun y=>y.1.1)=c.ten) (hB:OwB 46 33 u ys.length (ys.map (fun y=>zc y.1)).flatten B) (hz:∀ y∈ys,ZB y.1 C) (hM:Mem w X (B++C)):CV X (.agg (cc c u).toArray) c:=by
 have h:=cvs_tsb (u:=u) hcl (B:=B) (C:=C) ⟨ys.map (·.1),by rw [List.map_map];exact ez,by rw [List.length_map,List.map_map];exact hB,fun z hz'=>by obtain ⟨y,hy,rfl⟩:=List.mem_map.mp hz';exact hz y hy⟩ hM
 exact h w X (Nat.le_refl _) hM.below (fun b _ _=>rfl)
theorem zx_zb {ys:List Ty} (h:∀ y∈ys,ZX y.1 y.2) {C:List (Nat×Obj)} (hs:∀ x∈ys.flatMap (·.2),x∈C):∀ y∈ys,ZB y.1 C:=fun y hy=>(h y hy).zb (fun x hx=>hs x (List.mem_flatMap.mpr ⟨y,hy,hx⟩))
end Go.Proofs.YtdigofgjhaakmaaGreatDoor
namespace Go.Proofs.YtdigofgjhaakmaaGreatDoor
open Go.RowKit
open Sm
open Cf
open Df
theorem build_s {c:Cgf} (hl:CLen c) (u:Value) (ver:Int) (V:World):(Instr.build stS #[(0,.int .u64 ver),(1,.agg (cc c u).toArray)]).run Tryz.prog V=.ok (.agg (Value.int .u64 ver::cc c u).toArray) V:=by
 obtain ⟨ip,m1,m2,m3,ky,dr,te⟩:=c
 obtain ⟨h1,h2,h3,h4⟩:=hl
 obtain ⟨a,b,c,d,f,g,x,y,rfl⟩:=eight8 h4
 obtain ⟨a1,b1,c1,d1,f1,g1,rfl⟩:=six6 h1
 obtain ⟨a2,b2,c2,d2,f2,g2,rfl⟩:=six6 h2
 obtain ⟨a3,b3,c3,d3,f3,g3,rfl⟩:=six6 h3
 kernel_rfl
theorem build_S {c:Cgf} (hl:CLen c) (u:Value) (ver:Int) (pl:Nat) (V:World):(Instr.build stT #[(0,.pointer (some ⟨pl,0,none⟩)),(1,.agg (Value.int .u64 ver::cc c u).toArray)]).run Tryz.prog V=.ok (.agg (xA pl ver c u none false).toArray) V:=by
 obtain ⟨ip,m1,m2,m3,ky,dr,te⟩:=c
 obtain ⟨h1,h2,h3,h4⟩:=hl
 obtain ⟨a,b,c,d,f,g,x,y,rfl⟩:=eight8 h4
 obtain ⟨a1,b1,c1,d1,f1,g1,rfl⟩:=six6 h1
 obtain ⟨a2,b2,c2,d2,f2,g2,rfl⟩:=six6 h2
 obtain ⟨a3,b3,c3,d3,f3,g3,rfl⟩:=six6 h3
 kernel_rfl
def Rst (all:List (List Int)) (ver:Int) (c:Cgf):Prop:=(all=[]∧ver=0∧c=cfg0)∨(all.getLast? = some (rcd16 ver c)∧0≤ver∧ver < 1000000∧Fine c∧(rcd16 ver c).length≤16384)
theorem ends_last16 {got all:List (List Int)} (h:Ends got all) (h0:all≠[]):got.getLast? = all.getLast?:=by
 obtain ⟨h1,h2,h3⟩:=h
 have hg:got≠[]:=fun e=>h0 (h2 e)
 rw [h3,List.getLast?_drop,if_neg]
 intro hle
 apply hg
 rw [h3];exact List.drop_eq_nil_of_le hle
theorem lastR {w:World} {v:Value} {got all:List (List Int)} {Y:List (Nat×Obj)} (h:RS v got Y) (he:Ends got all) (hY:∀ x∈Y,w.heap[x.1]? = some x.2) (hal:all.length≤900) {ver:Int} {c:Cgf} (hR:Rst all ver c) :
 Calls Tryz.prog 42 #[v] w (RdP w ver c):=by
 rcases hR with ⟨rfl,rfl,rfl⟩ | ⟨h1,h2,h3,h4,h5⟩
 ·have hg:got=[]:=by have:=he.1;simp at this;exact this
  subst hg
  obtain ⟨rfl,rfl⟩:=rs_nil h
  refine (last_nil w).mono ?_
  rintro e V ⟨rfl,hb⟩
  refine ⟨nilV,[],rfl,⟨hb,by simp,by simp,by simp⟩,fun w1 _ V _ _=>⟨cfg0_len,nilV,rfl,[],rfl,⟨none,0,rfl,Nat.le_refl _,by omega,fun _=>rfl,Or.inl rfl⟩,by simp⟩⟩
 ·have hne:all≠[]:=fun e=>by rw [e] at h1;simp at h1
  have:=last_some h hY ((ends_last16 he hne).trans h1) (by omega) (by have:=he.1;omega) (by rw [rcd_len];omega) (rcd_back h4)
  rw [rcd_take,num_be8 h2 (by omega)] at this
  exact this
theorem open16 {w W:World} {p h m N:Nat} {D:Dk} {B:Int} {all:List (List Int)} {L:List (Nat×Obj)} (H:Sd w W p h m N D B all L) {ga:Addr} (hG:Gl w ga) (hd:D.dead=false) (hn:4≤N) (hm:256≤m) (hB:B≤1000000) (hB0:0≤B) (hal:all.length≤900) {ver:Int} {c:Cgf} (hR:Rst all ver c) :
 Calls Tryz.prog 11 #[.pointer (some ⟨p,0,none⟩)] W fun e W'=>∃ ps,e=.returned (.tuple #[.pointer (some ⟨ps,0,none⟩),.int .i64 0])∧∃ pl u K,Sy w W' p h m N D pl B all (bxS ps pl ver c u none false::(K++L))∧On w K (fun X=>TSV X u c.ten)∧Below W.heap.size W W':=by
 have C:=sd_openB H hG hd hn hm hB hB0
 have HR:Hid (Rst all ver c∧all.length≤900):=⟨hR,hal⟩
 clear H hG hR
 go_enter Tryz.func11,Tryz.ntmps11
 go_wp2_with fail
 refine C.mono ?_
 rintro e V1 ⟨pl,v',rfl,got,Y,hRS,hE,hSy,hbo⟩
 have HBO:Hid (Below W.heap.size W V1):=hbo
 obtain ⟨a0,c0,hsh⟩:=hRS.shape
 have CL:=lastR hRS hE (fun x hx=>hSy.has (List.mem_append_left _ hx)) HR.out.2 HR.out.1
 obtain ⟨R,hMR,hback⟩:=hSy.frame
 have HB:Hid (∀ W' L',Mem w W' (L'++R)→Sy w W' p h m N D pl B all L'):=hback
 have HM:Hid (Mem w V1 ((Y++L)++R)):=hMR
 have C2:=failed_any 0 V1
 have hz0:((0:Int) != 0)=false:=rfl
 obtain ⟨gl,hgl⟩:∃ n,got.length=n:=⟨_,rfl⟩
 rw [hgl] at hsh
 subst hsh
 clear C hRS hE hSy hMR hback HR hbo
 go_wp2_with fail
 refine C2.mono ?_
 rintro e _ ⟨rfl,rfl⟩
 go_wp2_with fail
 refine CL.mono ?_
 rintro e V2 ⟨u,K,rfl,hM2,hon⟩
 have hM3:=HM.out.more hM2
 have hcv:=hon V1 (Nat.le_refl _) V2 hM2.below (fun x hx=>hM2.at_ x hx)
 have hcl:=hcv.1
 have huu:∀ X,CV X (.agg (cc c u).toArray) c→TSV X u c.ten:=by
  intro X hX
  obtain ⟨u',e,h'⟩:=hX.2
  have:u=u':=by
   have e2:=congrArg (fun v=>match v with | .agg a=>a[28]? | _=>none) e
   simp only [cc_28 hcl,Option.some.injEq] at e2
   exact e2
  rw [this];exact h'
 have hu:=(huu _ hcv).one
 have hws:w.heap.size≤V1.heap.size:=HM.out.below.size
 have HON:Hid (On w K (fun X=>TSV X u c.ten)):=(hon w hws).imp huu
 obtain ⟨A,hA⟩:∃ A,(Value.int .u64 ver::cc c u).toArray=A:=⟨_,rfl⟩
 have hsz:A.size=30:=by rw [←hA];simp [cc_len hcl]
 have hone:A.all (·.oneCell')=true:=by rw [←hA];exact st_one ver hu
 have i30:(Tryz.prog.info? stS).map (·.size)=some A.size:=by rw [hsz];kernel_rfl
 have z30:s0A.size=A.size:=by rw [hsz];rfl
 have hbS:∀ V,(Instr.build stT #[(0,.pointer (some ⟨pl,0,none⟩)),(1,.agg A)]).run Tryz.prog V=.ok (.agg (xA pl ver c u none false).toArray) V:=fun V=>by rw [←hA];exact build_S hcl u ver pl V
 obtain ⟨X,hX⟩:∃ X,(xA pl ver c u none false).toArray=X:=⟨_,rfl⟩
 simp only [hX] at hbS
 obtain ⟨g7,hg7⟩:∃ g,V2.heap.size=g:=⟨_,rfl⟩
 have hk7:(V2.alloc (.cells s0A stS)).heap[g7]? = some (.cells s0A stS (0,0)):=by rw [←hg7];exact heap_alloc_new _ _
 have HM4:Hid (Mem w ((V2.alloc (.cells s0A stS)).setRow g7 A) ((g7,.cells A stS (0,0))::(K++((Y++L)++R)))∧Below W.heap.size W ((V2.alloc (.cells s0A stS)).setRow g7 A)):=by
  have hbx:=HBO.out.trans (hM2.below.mono HBO.out.size)
  rw [←hg7,World.setRow_alloc_new];exact ⟨hM3.front _ rfl,hbx.alloc hbx.size _⟩
 rw [hA]
 have HBO2:Hid (Below W.heap.size W V2):=HBO.out.trans (hM2.below.mono HBO.out.size)
 clear hM2 hM3 hon hcv huu HM CL C2 hA HBO
 go_upto_region 5 with (refine wpList_store_row rfl stS (.tmp 7) (.tmp 21) (by with_reducible rfl) g7 A (by simp [Act.eval];try exact hg7) (by first | rfl | simp [Act.eval]) stS s0A hk7 i30 z30 hone ?_)
 refine wp_letter (fun X=>Mem w X ((g7,.cells A stS (0,0))::(K++((Y++L)++R)))∧Below W.heap.size W X) (by exact HM4.out) ?_
 rintro V3 ⟨hM,hb3⟩
 try simp only [hg7]
 clear HM4 hk7 hg7
 have k7:=hM.get 0 rfl
 have C3:=failed_any 0 V3
 have hS:Sy w (V3.alloc (.cells X stT)) p h m N D pl B all (bxS V3.heap.size pl ver c u none false::(((g7,.cells A stS (0,0))::(K++Y))++L)):=by
  apply HB.out
  refine (show Mem w (V3.alloc (.cells X stT)) ((V3.heap.size,.cells X stT (0,0))::(g7,.cells A stS (0,0))::(K++((Y++L)++R))) from hM.front _ rfl).perm ?_
  rw [bxS,hX]
  simp only [List.cons_append,List.append_assoc]
  exact List.Perm.refl _
 have HS:Hid (Sy w (V3.alloc (.cells X stT)) p h m N D pl B all (bxS V3.heap.size pl ver c u none false::(((g7,.cells A stS (0,0))::(K++Y))++L))∧On w ((g7,.cells A stS (0,0))::(K++Y)) (fun X=>TSV X u c.ten)∧Below W.heap.size W (V3.alloc (.cells X stT))):=⟨hS,HON.out.more fun x hx=>by simp [hx],hb3.alloc hb3.size _⟩
 have hbV:=hbS V3
 clear hM hS HB HON hX hbS
 go_wp2_with fail
 refine C3.mono ?_
 rintro e _ ⟨rfl,rfl⟩
 go_wp2_with (first | (refine wpList_load_row rfl stS (.tmp 7) (by with_reducible rfl) g7 (by first | rfl | simp [Act.eval]) stS A (0,0) _ k7 Tryz.underlying96 rfl i30 ?_) | (refine wpList_bld rfl stT _ (by with_reducible rfl) hbV (by simp [Act.eval,Act.put]) ?_) | fail)
 go_ret2
 exact ⟨_,rfl,pl,u,_,HS.out.1,HS.out.2.1,HS.out.2.2⟩
end Go.Proofs.YtdigofgjhaakmaaGreatDoor
