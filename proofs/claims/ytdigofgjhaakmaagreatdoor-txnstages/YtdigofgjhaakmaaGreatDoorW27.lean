/-
  What is changed: the statements' own tenant (lychseat.Tenant(1, 3)).
  What is changed: the document's Find.
  A store's box: what its smaller methods do.
  Which settings may be: what is asked of a tenant, question by question.
  Settings as text: the words of settings, and that they are read back.
  Settings as text: the program's reader: the value of a word.
-/
import Derived.Test.YtdigofgjhaakmaaGreatDoorW26
import Derived.Test.YtdigofgjhaakmaaGreatDoorW21
import Derived.Deep.MidRow
import Derived.Test.YtdigofgjhaakmaaGreatDoorW01
import Derived.Lib.SpaceUEq
import Derived.Shelf.Abstract
import Derived.Laws.EntriesVeiled
set_option linter.unusedVariables false
set_option linter.unusedSimpArgs false
set_option maxRecDepth 20000
set_option maxHeartbeats 40000000
namespace Go.Proofs.YtdigofgjhaakmaaGreatDoor
open Go.RowKit
open Sm
open Cf
open Df
namespace Df
abbrev u15 (pool:List Int) (lo hi se qu ra bu:Int):Ten:=⟨⟨#[98]⟩,101,[2,0,0,0,0,0,0,0],168361986,[2,9,1,0,0,0],[2,7,1,0,0,0],pool,lo,hi,0,[],[],se,qu,ra,bu⟩
def k15:Ten:=u15 [84214017] 1024 1024 1 1 0 3
end Df
namespace Df
end Df
end Go.Proofs.YtdigofgjhaakmaaGreatDoor
namespace Go.Proofs.YtdigofgjhaakmaaGreatDoor
open Go.RowKit
open Sm
open Cf
abbrev stT:TypeId:=101
def xA (pl:Nat) (ver:Int) (c:Cgf) (u:Value) (sp:Option Addr) (dn:Bool):List Value:=.pointer (some ⟨pl,0,none⟩)::.int .u64 ver::(cc c u++[.pointer sp,.bool dn])
def bgn (dn:Bool) (sp:Option Addr):Int:=if dn then 113 else if sp.isNone then 111 else 0
def bgc (dn:Bool) (sp:Option Addr) (v ver:Int):Int:=if dn then 113 else if sp.isSome then 110 else if v=ver then 0 else 112
section
variable {pl:Nat} {ver:Int} {c:Cgf} {u:Value} {sp:Option Addr} {dn:Bool}
theorem xA_split (hl:CLen c):∃ A:List Value,A.length=31∧∀ sp dn,xA pl ver c u sp dn=A++[.pointer sp,.bool dn] :=
 ⟨.pointer (some ⟨pl,0,none⟩)::.int .u64 ver::cc c u,by simp [cc_len hl],fun _ _=>rfl⟩
theorem xA_size (hl:CLen c):(xA pl ver c u sp dn).toArray.size=33:=by simp [xA,cc_len hl]
theorem xA_1:(xA pl ver c u sp dn).toArray[1]? = some (.int .u64 ver):=rfl
theorem xA_0:(xA pl ver c u sp dn).toArray[0]? = some (.pointer (some ⟨pl,0,none⟩)):=rfl
theorem xA_31 (hl:CLen c):(xA pl ver c u sp dn).toArray[31]? = some (.pointer sp):=by
 obtain ⟨A,hA,h⟩:=xA_split (pl:=pl) (ver:=ver) (u:=u) hl
 rw [h,List.getElem?_toArray,List.getElem?_append_right (by omega),hA];rfl
theorem xA_32 (hl:CLen c):(xA pl ver c u sp dn).toArray[32]? = some (.bool dn):=by
 obtain ⟨A,hA,h⟩:=xA_split (pl:=pl) (ver:=ver) (u:=u) hl
 rw [h,List.getElem?_toArray,List.getElem?_append_right (by omega),hA];rfl
theorem xA_set31 (hl:CLen c) (q:Option Addr):(xA pl ver c u sp dn).toArray.setIfInBounds 31 (.pointer q)=(xA pl ver c u q dn).toArray:=by
 obtain ⟨A,hA,h⟩:=xA_split (pl:=pl) (ver:=ver) (u:=u) hl
 rw [h,h]
 simp [List.set_append_right,hA]
theorem xA_set32 (hl:CLen c) (q:Bool):(xA pl ver c u sp dn).toArray.setIfInBounds 32 (.bool q)=(xA pl ver c u sp q).toArray:=by
 obtain ⟨A,hA,h⟩:=xA_split (pl:=pl) (ver:=ver) (u:=u) hl
 rw [h,h]
 simp [List.set_append_right,hA]
theorem xA_cfg:∀ j x,(cc c u)[j]? = some x→(xA pl ver c u sp dn).toArray[2+j]? = some x:=by
 intro j x hj
 have hl:=(List.getElem?_eq_some_iff.mp hj).1
 rw [List.getElem?_toArray,show 2+j=j+1+1 by omega,xA,List.getElem?_cons_succ,List.getElem?_cons_succ,List.getElem?_append_left hl]
 exact hj
variable {w W:World} {ps:Nat} {L:List (Nat×Obj)}
theorem xA_range (hM:Mem w W ((ps,.cells (xA pl ver c u sp dn).toArray stT (0,0))::L)):W.rangeAt ps 2 (cc c u):=fun j x hj=>by
 rw [hM.cell 0 rfl];exact xA_cfg j x hj
end
section
variable {W:World} {ps:Nat} {sp:Option Addr} {dn:Bool} {ver v:Int}
theorem begun_any (h31:W.cell? ⟨ps,31,none⟩=some (.pointer sp)) (h32:W.cell? ⟨ps,32,none⟩=some (.bool dn)) :
 Calls Tryz.prog 53 #[.pointer (some ⟨ps,0,none⟩)] W fun e W'=>e=.returned (.int .i64 (bgn dn sp))∧W=W':=by
 cases dn <;> cases sp
 all_goals
  go_enter Tryz.func53,Tryz.ntmps53
  go_wp2
  go_ret
  exact ⟨rfl,rfl⟩
theorem begin_no (h1:W.cell? ⟨ps,1,none⟩=some (.int .u64 ver)) (h31:W.cell? ⟨ps,31,none⟩=some (.pointer sp)) (h32:W.cell? ⟨ps,32,none⟩=some (.bool dn)) (hk:bgc dn sp v ver≠0) :
 Calls Tryz.prog 22 #[.pointer (some ⟨ps,0,none⟩),.int .u64 v] W fun e W'=>e=.returned (.int .i64 (bgc dn sp v ver))∧W=W':=by
 cases dn
 ·cases sp
  ·have hv:¬ v=ver:=fun h=>hk (by simp [bgc,h])
   have hv2:(v != ver)=true:=by simp [hv]
   have e:bgc false none v ver=112:=by simp [bgc,hv]
   rw [e]
   clear hk e
   go_enter Tryz.func22,Tryz.ntmps22
   go_wp2
   go_ret
   exact ⟨rfl,rfl⟩
  ·go_enter Tryz.func22,Tryz.ntmps22
   go_wp2
   go_ret
   exact ⟨rfl,rfl⟩
 ·go_enter Tryz.func22,Tryz.ntmps22
  go_wp2
  go_ret
  exact ⟨rfl,rfl⟩
theorem abort_no (h31:W.cell? ⟨ps,31,none⟩=some (.pointer sp)) (h32:W.cell? ⟨ps,32,none⟩=some (.bool dn)) (hk:bgn dn sp≠0) :
 Calls Tryz.prog 23 #[.pointer (some ⟨ps,0,none⟩)] W fun e W'=>e=.returned (.int .i64 (bgn dn sp))∧W=W':=by
 have C:=begun_any h31 h32
 have C2:=failed_any (bgn dn sp) W
 have h2:(bgn dn sp != 0)=true:=by simp [hk]
 rw [h2] at C2
 generalize bgn dn sp=k at C C2
 clear hk h2
 go_enter Tryz.func23,Tryz.ntmps23
 go_wp2_with fail
 refine C.mono ?_
 rintro e _ ⟨rfl,rfl⟩
 go_wp2_with fail
 refine C2.mono ?_
 rintro e _ ⟨rfl,rfl⟩
 go_wp2_with fail
 go_ret
 exact ⟨rfl,rfl⟩
end
section
variable {w W:World} {ps:Nat} {A:Array Value} {L:List (Nat×Obj)}
theorem stage_any (hM:Mem w W ((ps,.cells A stT (0,0))::L)) (hA:A.size=33) {cl:Array Value} {q:Option Addr} (h31:A[31]? = some (.pointer q)) :
 Calls Tryz.prog 52 #[.pointer (some ⟨ps,0,none⟩),.agg cl] W fun e W'=>∃ g,e=.returned (.tuple #[])∧Mem w W' ((ps,.cells (A.setIfInBounds 31 (.pointer (some ⟨g,0,none⟩))) stT (0,0))::(g,.cells cl 39)::L):=by
 obtain ⟨g,hg⟩:∃ g,W.heap.size=g:=⟨_,rfl⟩
 have hM1:Mem w (W.alloc (.cells cl 39)) ((g,.cells cl 39)::(ps,.cells A stT (0,0))::L):=hM.front _ hg.symm
 have c31:(W.alloc (.cells cl 39)).cell? ⟨ps,31,none⟩=some (.pointer q):=by rw [hM1.cell 1 rfl];exact h31
 have f31:(W.alloc (.cells cl 39)).frozen? ⟨ps,31,none⟩=false:=hM1.free 1 rfl 31
 have HM:Hid (Mem w ((W.alloc (.cells cl 39)).setCell ⟨ps,31,none⟩ (.pointer (some ⟨g,0,none⟩))) ((ps,.cells (A.setIfInBounds 31 (.pointer (some ⟨g,0,none⟩))) stT (0,0))::(g,.cells cl 39)::L)):=(hM1.set 1 rfl 31 (.pointer (some ⟨g,0,none⟩))).perm (List.Perm.swap _ _ _)
 clear hM1 hM
 go_enter Tryz.func52,Tryz.ntmps52
 go_wp2_with fail
 go_end0
 exact ⟨g,rfl,HM.out⟩
end
end Go.Proofs.YtdigofgjhaakmaaGreatDoor
namespace Go.Proofs.YtdigofgjhaakmaaGreatDoor
open Go.RowKit
open Va
open Ad (nam)
theorem tq3 {W:World} {g:Nat} {t:Ten} (hv:Vs W) (h:TBo W g t) (hm:TSm t):Ask W 168 #[.pointer (some ⟨g,0,none⟩)] (nam t.name.data.toList):=by
 refine ⟨enters_of Tryz.func168 (by kernel_rfl) rfl,fun V hV=>?_⟩
 obtain ⟨tl,pa,sa,qa,pc,sc,qc,hg,hx⟩:=h.later hV
 have c0:=cell_tl hg hx.name
 have C:=name_any (hv.below hV) t.name (by have:=hm.1;omega)
 clear h hm hg hx hv
 simp only [List.append_toArray,List.cons_append,List.nil_append,Array.empty_append]
 generalize nam t.name.data.toList=B at *
 generalize t.name=s at *
 go_enter Tryz.func168,Tryz.ntmps168
 go_wp2_with fail
 refine C.mono ?_
 rintro _ X ⟨rfl,hb⟩
 go_wp2_with fail
 go_ret
 exact ⟨rfl,hb⟩
theorem tq4 {W:World} {g:Nat} {t:Ten} (h:TBo W g t) (hm:TSm t):Ask W 170 #[.pointer (some ⟨g,0,none⟩)] (wi t.vni 1 16777215):=by
 refine ⟨enters_of Tryz.func170 (by kernel_rfl) rfl,fun V hV=>?_⟩
 obtain ⟨tl,pa,sa,qa,pc,sc,qc,hg,hx⟩:=h.later hV
 have c0:=cell_tl hg hx.vni
 have C:=within_u32 V t.vni 1 16777215
 clear h hm hg hx
 simp only [List.append_toArray,List.cons_append,List.nil_append,Array.empty_append]
 generalize wi t.vni 1 16777215=B at *
 generalize t.vni=x at *
 go_enter Tryz.func170,Tryz.ntmps170
 go_wp2_with fail
 refine C.mono ?_
 rintro _ X ⟨rfl,rfl⟩
 go_wp2_with fail
 go_ret
 exact ⟨rfl,Below.refl _ _⟩
theorem tq5 {W:World} {g:Nat} {t:Ten} (h:TBo W g t) (hm:TSm t):Ask W 172 #[.pointer (some ⟨g,0,none⟩)] (decide ((t.pool.length:Int)≤8)):=by
 refine ⟨enters_of Tryz.func172 (by kernel_rfl) rfl,fun V hV=>?_⟩
 obtain ⟨tl,pa,sa,qa,pc,sc,qc,hg,hx⟩:=h.later hV
 have c0:=cell_tl hg hx.pool
 clear h hm hg hx
 simp only [List.append_toArray,List.cons_append,List.nil_append,Array.empty_append]
 generalize t.pool.length=n at *
 go_enter Tryz.func172,Tryz.ntmps172
 go_wp2_with fail
 go_ret
 exact ⟨rfl,Below.refl _ _⟩
theorem tq6 {W:World} {g:Nat} {t:Ten} (h:TBo W g t) (hm:TSm t):Ask W 173 #[.pointer (some ⟨g,0,none⟩)] (unl t.pool):=by
 refine ⟨enters_of Tryz.func173 (by kernel_rfl) rfl,fun V hV=>?_⟩
 obtain ⟨tl,pa,sa,qa,pc,sc,qc,hg,hx⟩:=h.later hV
 have c0:=cell_tl hg hx.pool
 have C:=unlike_any hx.rp hm.2.1
 clear h hm hg hx
 simp only [List.append_toArray,List.cons_append,List.nil_append,Array.empty_append]
 generalize unl t.pool=B at *
 generalize t.pool.length=n at *
 go_enter Tryz.func173,Tryz.ntmps173
 go_wp2_with fail
 refine C.mono ?_
 rintro _ X ⟨rfl,rfl⟩
 go_wp2_with fail
 go_ret
 exact ⟨rfl,Below.refl _ _⟩
theorem tq7 {W:World} {g:Nat} {t:Ten} (h:TBo W g t) (hm:TSm t):Ask W 175 #[.pointer (some ⟨g,0,none⟩)] (wi t.lo 1 t.hi):=by
 refine ⟨enters_of Tryz.func175 (by kernel_rfl) rfl,fun V hV=>?_⟩
 obtain ⟨tl,pa,sa,qa,pc,sc,qc,hg,hx⟩:=h.later hV
 have c0:=cell_tl hg hx.lo
 have c1:=cell_tl hg hx.hi
 have C:=within_u16 V t.lo 1 t.hi
 clear h hm hg hx
 simp only [List.append_toArray,List.cons_append,List.nil_append,Array.empty_append]
 generalize wi t.lo 1 t.hi=B at *
 generalize t.lo=x at *
 generalize t.hi=y at *
 go_enter Tryz.func175,Tryz.ntmps175
 go_wp2_with fail
 refine C.mono ?_
 rintro _ X ⟨rfl,rfl⟩
 go_wp2_with fail
 go_ret
 exact ⟨rfl,Below.refl _ _⟩
theorem tq8 {W:World} {g:Nat} {t:Ten} (h:TBo W g t) (hm:TSm t):Ask W 177 #[.pointer (some ⟨g,0,none⟩)] (wi t.filter 0 2):=by
 refine ⟨enters_of Tryz.func177 (by kernel_rfl) rfl,fun V hV=>?_⟩
 obtain ⟨tl,pa,sa,qa,pc,sc,qc,hg,hx⟩:=h.later hV
 have c0:=cell_tl hg hx.filter
 have C:=within_int V t.filter 0 2
 clear h hm hg hx
 simp only [List.append_toArray,List.cons_append,List.nil_append,Array.empty_append]
 generalize wi t.filter 0 2=B at *
 generalize t.filter=x at *
 go_enter Tryz.func177,Tryz.ntmps177
 go_wp2_with fail
 refine C.mono ?_
 rintro _ X ⟨rfl,rfl⟩
 go_wp2_with fail
 go_ret
 exact ⟨rfl,Below.refl _ _⟩
theorem tq9 {W:World} {g:Nat} {t:Ten} (h:TBo W g t) (hm:TSm t):Ask W 179 #[.pointer (some ⟨g,0,none⟩)] (decide ((t.stat.length:Int)≤16)):=by
 refine ⟨enters_of Tryz.func179 (by kernel_rfl) rfl,fun V hV=>?_⟩
 obtain ⟨tl,pa,sa,qa,pc,sc,qc,hg,hx⟩:=h.later hV
 have c0:=cell_tl hg hx.stat
 clear h hm hg hx
 simp only [List.append_toArray,List.cons_append,List.nil_append,Array.empty_append]
 generalize t.stat.length=n at *
 go_enter Tryz.func179,Tryz.ntmps179
 go_wp2_with fail
 go_ret
 exact ⟨rfl,Below.refl _ _⟩
theorem tq10 {W:World} {g:Nat} {t:Ten} (h:TBo W g t) (hm:TSm t):Ask W 180 #[.pointer (some ⟨g,0,none⟩)] (decide ((t.twi.length:Int)≤16)):=by
 refine ⟨enters_of Tryz.func180 (by kernel_rfl) rfl,fun V hV=>?_⟩
 obtain ⟨tl,pa,sa,qa,pc,sc,qc,hg,hx⟩:=h.later hV
 have c0:=cell_tl hg hx.twi
 clear h hm hg hx
 simp only [List.append_toArray,List.cons_append,List.nil_append,Array.empty_append]
 generalize t.twi.length=n at *
 go_enter Tryz.func180,Tryz.ntmps180
 go_wp2_with fail
 go_ret
 exact ⟨rfl,Below.refl _ _⟩
theorem tq11 {W:World} {g:Nat} {t:Ten} (h:TBo W g t) (hm:TSm t):Ask W 181 #[.pointer (some ⟨g,0,none⟩)] (unl (fst' t.stat) && unl (snd' t.stat)):=by
 refine ⟨enters_of Tryz.func181 (by kernel_rfl) rfl,fun V hV=>?_⟩
 obtain ⟨tl,pa,sa,qa,pc,sc,qc,hg,hx⟩:=h.later hV
 have c0:=cell_tl hg hx.stat
 have C:=firsts_any hx.rs hm.2.2.1
 have H2:Hid (∀ X,Below V.heap.size V X→X.cell? ⟨g,27,none⟩=some (.slice sa t.stat.length sc)∧Calls Tryz.prog 183 #[.slice sa t.stat.length sc] X fun e w'=>∃ u,e=.returned u∧Rw w' 1 u (ux (snd' t.stat))∧Below X.heap.size X w'):=fun X hX=>⟨by rw [hX.cell (p:=⟨g,27,none⟩) (cell_lt c0)];exact c0,seconds_any (hx.later hX).rs hm.2.2.1⟩
 have HL:Hid (t.stat.length≤1000000):=hm.2.2.1
 have hl1:(fst' t.stat).length=t.stat.length:=by simp [fst']
 have hl2:(snd' t.stat).length=t.stat.length:=by simp [snd']
 clear h hm hg hx
 simp only [List.append_toArray,List.cons_append,List.nil_append,Array.empty_append]
 obtain ⟨B1,hB1⟩:∃ B,unl (fst' t.stat)=B:=⟨_,rfl⟩
 rw [hB1]
 generalize fst' t.stat=L1 at *
 generalize snd' t.stat=L2 at *
 generalize t.stat.length=n at *
 go_enter Tryz.func181,Tryz.ntmps181
 go_wp2_with fail
 refine C.mono ?_
 rintro _ X ⟨u,rfl,hr,hb⟩
 have C1:=unlike_any hr (by rw [hl1];exact HL.out)
 obtain ⟨k1,C2⟩:=H2.out X hb
 have HB:Hid (Below V.heap.size V X):=hb
 clear C hr hb H2 c0
 rw [hB1] at C1
 clear hB1
 cases B1 with
 | false =>
  go_wp2_with fail
  refine C1.mono ?_
  rintro _ _ ⟨rfl,rfl⟩
  go_wp2_with fail
  go_ret
  exact ⟨rfl,HB.out⟩
 | true =>
  go_wp2_with fail
  refine C1.mono ?_
  rintro _ _ ⟨rfl,rfl⟩
  go_wp2_with fail
  refine C2.mono ?_
  rintro _ X2 ⟨u2,rfl,hr2,hb2⟩
  have C3:=unlike_any hr2 (by rw [hl2];exact HL.out)
  clear C2 C1 hr2
  have HB2:Hid (Below V.heap.size V X2):=HB.out.trans (hb2.mono HB.out.size)
  clear hb2 HB
  go_wp2_with fail
  refine C3.mono ?_
  rintro _ _ ⟨rfl,rfl⟩
  go_wp2_with fail
  go_ret
  exact ⟨by simp,HB2.out⟩
theorem tq12 {W:World} {g:Nat} {t:Ten} (h:TBo W g t) (hm:TSm t):Ask W 184 #[.pointer (some ⟨g,0,none⟩)] (unl (fst' t.twi) && unl (snd' t.twi)):=by
 refine ⟨enters_of Tryz.func184 (by kernel_rfl) rfl,fun V hV=>?_⟩
 obtain ⟨tl,pa,sa,qa,pc,sc,qc,hg,hx⟩:=h.later hV
 have c0:=cell_tl hg hx.twi
 have C:=firsts_any hx.rq hm.2.2.2
 have H2:Hid (∀ X,Below V.heap.size V X→X.cell? ⟨g,28,none⟩=some (.slice qa t.twi.length qc)∧Calls Tryz.prog 183 #[.slice qa t.twi.length qc] X fun e w'=>∃ u,e=.returned u∧Rw w' 1 u (ux (snd' t.twi))∧Below X.heap.size X w'):=fun X hX=>⟨by rw [hX.cell (p:=⟨g,28,none⟩) (cell_lt c0)];exact c0,seconds_any (hx.later hX).rq hm.2.2.2⟩
 have HL:Hid (t.twi.length≤1000000):=hm.2.2.2
 have hl1:(fst' t.twi).length=t.twi.length:=by simp [fst']
 have hl2:(snd' t.twi).length=t.twi.length:=by simp [snd']
 clear h hm hg hx
 simp only [List.append_toArray,List.cons_append,List.nil_append,Array.empty_append]
 obtain ⟨B1,hB1⟩:∃ B,unl (fst' t.twi)=B:=⟨_,rfl⟩
 rw [hB1]
 generalize fst' t.twi=L1 at *
 generalize snd' t.twi=L2 at *
 generalize t.twi.length=n at *
 go_enter Tryz.func184,Tryz.ntmps184
 go_wp2_with fail
 refine C.mono ?_
 rintro _ X ⟨u,rfl,hr,hb⟩
 have C1:=unlike_any hr (by rw [hl1];exact HL.out)
 obtain ⟨k1,C2⟩:=H2.out X hb
 have HB:Hid (Below V.heap.size V X):=hb
 clear C hr hb H2 c0
 rw [hB1] at C1
 clear hB1
 cases B1 with
 | false =>
  go_wp2_with fail
  refine C1.mono ?_
  rintro _ _ ⟨rfl,rfl⟩
  go_wp2_with fail
  go_ret
  exact ⟨rfl,HB.out⟩
 | true =>
  go_wp2_with fail
  refine C1.mono ?_
  rintro _ _ ⟨rfl,rfl⟩
  go_wp2_with fail
  refine C2.mono ?_
  rintro _ X2 ⟨u2,rfl,hr2,hb2⟩
  have C3:=unlike_any hr2 (by rw [hl2];exact HL.out)
  clear C2 C1 hr2
  have HB2:Hid (Below V.heap.size V X2):=HB.out.trans (hb2.mono HB.out.size)
  clear hb2 HB
  go_wp2_with fail
  refine C3.mono ?_
  rintro _ _ ⟨rfl,rfl⟩
  go_wp2_with fail
  go_ret
  exact ⟨by simp,HB2.out⟩
theorem tp1 {W:World} {g:Nat} {t:Ten} (h:TBo W g t) (hm:TSm t):PrU W 165 #[.pointer (some ⟨g,0,none⟩)] (hs t.pool):=by
 refine ⟨enters_of Tryz.func165 (by kernel_rfl) rfl,fun x V hV=>?_⟩
 obtain ⟨tl,pa,sa,qa,pc,sc,qc,hg,hx⟩:=h.later hV
 have c0:=cell_tl hg hx.pool
 have C:=contains_u hx.rp hm.2.1 x
 clear h hm hg hx
 simp only [List.append_toArray,List.cons_append,List.nil_append,Array.empty_append]
 generalize hs t.pool x=B at *
 generalize t.pool.length=n at *
 go_enter Tryz.func165,Tryz.ntmps165
 go_wp2_with fail
 refine C.mono ?_
 rintro _ X ⟨rfl,rfl⟩
 go_wp2_with fail
 go_ret
 exact ⟨rfl,Below.refl _ _⟩
theorem tp2 {W:World} {g:Nat} {t:Ten} (h:TBo W g t) (hm:TSm t):PrU W 167 #[.pointer (some ⟨g,0,none⟩)] (owns t):=by
 refine ⟨enters_of Tryz.func167 (by kernel_rfl) rfl,fun x V hV=>?_⟩
 obtain ⟨tl,pa,sa,qa,pc,sc,qc,hg,hx⟩:=h.later hV
 have C:=owns_any hx.tv hm x
 have i33:=i33_of hx.len
 clear h hm hx
 simp only [List.append_toArray,List.cons_append,List.nil_append,Array.empty_append]
 generalize owns t x=B at *
 generalize tl.toArray=A at *
 go_enter Tryz.func167,Tryz.ntmps167
 go_wp2_with (refine wpList_load_row rfl 46 (.tmp 1) (by with_reducible rfl) g (by first | rfl | simp [Act.eval]) 46 A (0,0) _ hg Tryz.underlying46 rfl i33 ?_)
 refine C.mono ?_
 rintro _ X ⟨rfl,hb⟩
 go_wp2_with fail
 go_ret
 exact ⟨rfl,hb⟩
theorem tq13 {W:World} {g:Nat} {t:Ten} (h:TBo W g t) (hm:TSm t) {g1:Nat} (hc:W.cell? ⟨g1,0,none⟩=some (.func (.func 165) #[] #[.pointer (some ⟨g,0,none⟩)])):Ask W 185 #[.pointer (some ⟨g,0,none⟩),.pointer (some ⟨g1,0,none⟩)] ((snd' t.stat).any (hs t.pool)):=by
 refine ⟨enters_of Tryz.func185 (by kernel_rfl) rfl,fun V hV=>?_⟩
 obtain ⟨tl,pa,sa,qa,pc,sc,qc,hg,hx⟩:=h.later hV
 have c0:=cell_tl hg hx.stat
 have c1:V.cell? ⟨g1,0,none⟩=some (.func (.func 165) #[] #[.pointer (some ⟨g,0,none⟩)]):=by rw [hV.cell (p:=⟨g1,0,none⟩) (cell_lt hc)];exact hc
 have C:∀ X,Below V.heap.size V X→Calls Tryz.prog 183 #[.slice sa t.stat.length sc] X fun e w'=>∃ u,e=.returned u∧Rw w' 1 u (ux (snd' t.stat))∧Below V.heap.size V w':=fun X hb=>by
  refine (seconds_any (hx.later hb).rs hm.2.2.1).mono ?_
  rintro _ Y ⟨u,h1,h2,h3⟩
  exact ⟨u,h1,h2,hb.trans (h3.mono hb.size)⟩
 have HS:Hid (∀ X,Below V.heap.size V X→X.cell? ⟨g,27,none⟩=some (.slice sa t.stat.length sc)∧X.cell? ⟨g1,0,none⟩=some (.func (.func 165) #[] #[.pointer (some ⟨g,0,none⟩)])):=fun X hX=>⟨by rw [hX.cell (p:=⟨g,27,none⟩) (cell_lt c0)];exact c0,by rw [hX.cell (p:=⟨g1,0,none⟩) (cell_lt c1)];exact c1⟩
 have hl:(snd' t.stat).length≤1000000:=by simp [snd'];exact hm.2.2.1
 have H2:Hid (∀ X u,Below V.heap.size V X→Rw X 1 u (ux (snd' t.stat))→Calls Tryz.prog 141 #[u,.func (.func 165) #[] #[.pointer (some ⟨g,0,none⟩)]] X fun e w'=>e=.returned (.bool ((snd' t.stat).any (hs t.pool)))∧Below V.heap.size V w'):=fun X u hX hr=>(containsf_u hr hl (tp1 (h.later (hV.trans (hX.mono hV.size))) hm)).mono (fun e w' hh=>⟨hh.1,hX.trans (hh.2.mono hX.size)⟩)
 clear h hm hg hx hc hl hV
 simp only [List.append_toArray,List.cons_append,List.nil_append,Array.empty_append]
 generalize (snd' t.stat).any (hs t.pool)=B at *
 generalize snd' t.stat=L1 at *
 generalize t.stat.length=n at *
 go_enter Tryz.func185,Tryz.ntmps185
 go_upto_region 1 with fail
 refine wp_region_held_drew (S:=fun X=>X.cell? ⟨g,27,none⟩=some (.slice sa n sc)∧X.cell? ⟨g1,0,none⟩=some (.func (.func 165) #[] #[.pointer (some ⟨g,0,none⟩)])) (by kernel_rfl) (HS.out _ (by first | exact Below.refl _ _ | exact (Below.refl _ _).drew)) (fun hHeld=>?_)
 refine tkq 0 rfl (v:=?_) (Or.inl ⟨by rfl,?qy0⟩) ?_
 case qy0=>intro w hSw;(try dsimp only at hSw);go_simp;all_goals with_reducible rfl
 try simp only [sqa,sqb,sqc,Act.put,sqd,sqe,sqf]
 refine tkq 1 rfl (v:=?_) (Or.inl ⟨by rfl,?qy1⟩) ?_
 case qy1=>intro w hSw;(try dsimp only at hSw);go_simp;all_goals with_reducible rfl
 try simp only [sqa,sqb,sqc,Act.put,sqd,sqe,sqf]
 refine tkq 3 rfl (v:=?_) (Or.inl ⟨by rfl,?qy3⟩) ?_
 case qy3=>intro w hSw;(try dsimp only at hSw);go_simp;all_goals with_reducible rfl
 try simp only [sqa,sqb,sqc,Act.put,sqd,sqe,sqf]
 refine wpAnyH_ready (rs:=[2]) (by kernel_rfl) (by simp) ?_
 refine AllReadyH.cons rfl (fun K hK=>?_) AllReadyH.nil
 go_simp
 with_reducible refine (C _ (by first | exact Below.refl _ _ | exact (Below.refl _ _).drew)).mono ?_
 rintro _ X ⟨u,rfl,hr,hb⟩
 try go_wp2_with fail
 refine hK.out _ _ (HS.out X hb) (fun hHeld=>?_)
 clear hK K
 try simp only [sqa,sqb,sqc,Act.put,sqd,sqe,sqf]
 refine wpAnyH_ready (rs:=[4]) (by kernel_rfl) (by simp) ?_
 refine AllReadyH.cons rfl (fun K hK=>?_) AllReadyH.nil
 go_simp
 with_reducible refine (H2.out X u hb hr).mono ?_
 rintro _ X2 ⟨rfl,hb2⟩
 try go_wp2_with fail
 refine hK.out _ _ (HS.out X2 hb2) (fun hHeld=>?_)
 clear hK K
 try simp only [sqa,sqb,sqc,Act.put,sqd,sqe,sqf]
 refine tkq 5 rfl (v:=?_) (Or.inl ⟨by rfl,?qy5⟩) ?_
 case qy5=>intro w hSw;(try dsimp only at hSw);go_simp;all_goals with_reducible rfl
 try simp only [sqa,sqb,sqc,Act.put,sqd,sqe,sqf]
 refine wpAnyH_done (by kernel_rfl) ?_ _
 go_wp2_with fail
 go_ret
 exact ⟨rfl,hb2⟩
theorem tq14 {W:World} {g:Nat} {t:Ten} (h:TBo W g t) (hm:TSm t) {g1:Nat} (hc:W.cell? ⟨g1,0,none⟩=some (.func (.func 167) #[] #[.pointer (some ⟨g,0,none⟩)])):Ask W 186 #[.pointer (some ⟨g,0,none⟩),.pointer (some ⟨g1,0,none⟩)] ((fst' t.twi).any (owns t)):=by
 refine ⟨enters_of Tryz.func186 (by kernel_rfl) rfl,fun V hV=>?_⟩
 obtain ⟨tl,pa,sa,qa,pc,sc,qc,hg,hx⟩:=h.later hV
 have c0:=cell_tl hg hx.twi
 have c1:V.cell? ⟨g1,0,none⟩=some (.func (.func 167) #[] #[.pointer (some ⟨g,0,none⟩)]):=by rw [hV.cell (p:=⟨g1,0,none⟩) (cell_lt hc)];exact hc
 have C:∀ X,Below V.heap.size V X→Calls Tryz.prog 182 #[.slice qa t.twi.length qc] X fun e w'=>∃ u,e=.returned u∧Rw w' 1 u (ux (fst' t.twi))∧Below V.heap.size V w':=fun X hb=>by
  refine (firsts_any (hx.later hb).rq hm.2.2.2).mono ?_
  rintro _ Y ⟨u,h1,h2,h3⟩
  exact ⟨u,h1,h2,hb.trans (h3.mono hb.size)⟩
 have HS:Hid (∀ X,Below V.heap.size V X→X.cell? ⟨g,28,none⟩=some (.slice qa t.twi.length qc)∧X.cell? ⟨g1,0,none⟩=some (.func (.func 167) #[] #[.pointer (some ⟨g,0,none⟩)])):=fun X hX=>⟨by rw [hX.cell (p:=⟨g,28,none⟩) (cell_lt c0)];exact c0,by rw [hX.cell (p:=⟨g1,0,none⟩) (cell_lt c1)];exact c1⟩
 have hl:(fst' t.twi).length≤1000000:=by simp [fst'];exact hm.2.2.2
 have H2:Hid (∀ X u,Below V.heap.size V X→Rw X 1 u (ux (fst' t.twi))→Calls Tryz.prog 141 #[u,.func (.func 167) #[] #[.pointer (some ⟨g,0,none⟩)]] X fun e w'=>e=.returned (.bool ((fst' t.twi).any (owns t)))∧Below V.heap.size V w'):=fun X u hX hr=>(containsf_u hr hl (tp2 (h.later (hV.trans (hX.mono hV.size))) hm)).mono (fun e w' hh=>⟨hh.1,hX.trans (hh.2.mono hX.size)⟩)
 clear h hm hg hx hc hl hV
 simp only [List.append_toArray,List.cons_append,List.nil_append,Array.empty_append]
 generalize (fst' t.twi).any (owns t)=B at *
 generalize fst' t.twi=L1 at *
 generalize t.twi.length=n at *
 go_enter Tryz.func186,Tryz.ntmps186
 go_upto_region 1 with fail
 refine wp_region_held_drew (S:=fun X=>X.cell? ⟨g,28,none⟩=some (.slice qa n qc)∧X.cell? ⟨g1,0,none⟩=some (.func (.func 167) #[] #[.pointer (some ⟨g,0,none⟩)])) (by kernel_rfl) (HS.out _ (by first | exact Below.refl _ _ | exact (Below.refl _ _).drew)) (fun hHeld=>?_)
 refine tkq 0 rfl (v:=?_) (Or.inl ⟨by rfl,?qy0⟩) ?_
 case qy0=>intro w hSw;(try dsimp only at hSw);go_simp;all_goals with_reducible rfl
 try simp only [sqa,sqb,sqc,Act.put,sqd,sqe,sqf]
 refine tkq 1 rfl (v:=?_) (Or.inl ⟨by rfl,?qy1⟩) ?_
 case qy1=>intro w hSw;(try dsimp only at hSw);go_simp;all_goals with_reducible rfl
 try simp only [sqa,sqb,sqc,Act.put,sqd,sqe,sqf]
 refine tkq 3 rfl (v:=?_) (Or.inl ⟨by rfl,?qy3⟩) ?_
 case qy3=>intro w hSw;(try dsimp only at hSw);go_simp;all_goals with_reducible rfl
 try simp only [sqa,sqb,sqc,Act.put,sqd,sqe,sqf]
 refine wpAnyH_ready (rs:=[2]) (by kernel_rfl) (by simp) ?_
 refine AllReadyH.cons rfl (fun K hK=>?_) AllReadyH.nil
 go_simp
 with_reducible refine (C _ (by first | exact Below.refl _ _ | exact (Below.refl _ _).drew)).mono ?_
 rintro _ X ⟨u,rfl,hr,hb⟩
 try go_wp2_with fail
 refine hK.out _ _ (HS.out X hb) (fun hHeld=>?_)
 clear hK K
 try simp only [sqa,sqb,sqc,Act.put,sqd,sqe,sqf]
 refine wpAnyH_ready (rs:=[4]) (by kernel_rfl) (by simp) ?_
 refine AllReadyH.cons rfl (fun K hK=>?_) AllReadyH.nil
 go_simp
 with_reducible refine (H2.out X u hb hr).mono ?_
 rintro _ X2 ⟨rfl,hb2⟩
 try go_wp2_with fail
 refine hK.out _ _ (HS.out X2 hb2) (fun hHeld=>?_)
 clear hK K
 try simp only [sqa,sqb,sqc,Act.put,sqd,sqe,sqf]
 refine tkq 5 rfl (v:=?_) (Or.inl ⟨by rfl,?qy5⟩) ?_
 case qy5=>intro w hSw;(try dsimp only at hSw);go_simp;all_goals with_reducible rfl
 try simp only [sqa,sqb,sqc,Act.put,sqd,sqe,sqf]
 refine wpAnyH_done (by kernel_rfl) ?_ _
 go_wp2_with fail
 go_ret
 exact ⟨rfl,hb2⟩
theorem tq15 {W:World} {g:Nat} {t:Ten} (h:TBo W g t) (hm:TSm t):Ask W 187 #[.pointer (some ⟨g,0,none⟩)] (wi t.sess 1 256):=by
 refine ⟨enters_of Tryz.func187 (by kernel_rfl) rfl,fun V hV=>?_⟩
 obtain ⟨tl,pa,sa,qa,pc,sc,qc,hg,hx⟩:=h.later hV
 have c0:=cell_tl hg hx.sess
 have C:=within_int V t.sess 1 256
 clear h hm hg hx
 simp only [List.append_toArray,List.cons_append,List.nil_append,Array.empty_append]
 generalize wi t.sess 1 256=B at *
 generalize t.sess=x at *
 go_enter Tryz.func187,Tryz.ntmps187
 go_wp2_with fail
 refine C.mono ?_
 rintro _ X ⟨rfl,rfl⟩
 go_wp2_with fail
 go_ret
 exact ⟨rfl,Below.refl _ _⟩
theorem tq16 {W:World} {g:Nat} {t:Ten} (h:TBo W g t) (hm:TSm t):Ask W 188 #[.pointer (some ⟨g,0,none⟩)] (wi t.queue 1 64):=by
 refine ⟨enters_of Tryz.func188 (by kernel_rfl) rfl,fun V hV=>?_⟩
 obtain ⟨tl,pa,sa,qa,pc,sc,qc,hg,hx⟩:=h.later hV
 have c0:=cell_tl hg hx.queue
 have C:=within_int V t.queue 1 64
 clear h hm hg hx
 simp only [List.append_toArray,List.cons_append,List.nil_append,Array.empty_append]
 generalize wi t.queue 1 64=B at *
 generalize t.queue=x at *
 go_enter Tryz.func188,Tryz.ntmps188
 go_wp2_with fail
 refine C.mono ?_
 rintro _ X ⟨rfl,rfl⟩
 go_wp2_with fail
 go_ret
 exact ⟨rfl,Below.refl _ _⟩
theorem tq18 {W:World} {g:Nat} {t:Ten} (h:TBo W g t) (hm:TSm t):Ask W 190 #[.pointer (some ⟨g,0,none⟩)] (wi t.burst 1 1000000):=by
 refine ⟨enters_of Tryz.func190 (by kernel_rfl) rfl,fun V hV=>?_⟩
 obtain ⟨tl,pa,sa,qa,pc,sc,qc,hg,hx⟩:=h.later hV
 have c0:=cell_tl hg hx.burst
 have C:=within_u32 V t.burst 1 1000000
 clear h hm hg hx
 simp only [List.append_toArray,List.cons_append,List.nil_append,Array.empty_append]
 generalize wi t.burst 1 1000000=B at *
 generalize t.burst=x at *
 go_enter Tryz.func190,Tryz.ntmps190
 go_wp2_with fail
 refine C.mono ?_
 rintro _ X ⟨rfl,rfl⟩
 go_wp2_with fail
 go_ret
 exact ⟨rfl,Below.refl _ _⟩
theorem tq17 {W:World} {g:Nat} {t:Ten} (h:TBo W g t) (hm:TSm t):Ask W 189 #[.pointer (some ⟨g,0,none⟩)] (decide (t.rate≤1000000)):=by
 refine ⟨enters_of Tryz.func189 (by kernel_rfl) rfl,fun V hV=>?_⟩
 obtain ⟨tl,pa,sa,qa,pc,sc,qc,hg,hx⟩:=h.later hV
 have c0:=cell_tl hg hx.rate
 clear h hm hg hx
 simp only [List.append_toArray,List.cons_append,List.nil_append,Array.empty_append]
 generalize t.rate=n at *
 go_enter Tryz.func189,Tryz.ntmps189
 go_wp2_with fail
 go_ret
 exact ⟨rfl,Below.refl _ _⟩
theorem tq19 {W:World} {g:Nat} {t:Ten} (h:TBo W g t) (hm:TSm t):Ask W 191 #[.pointer (some ⟨g,0,none⟩)] (t.vtep != 0):=by
 refine ⟨enters_of Tryz.func191 (by kernel_rfl) rfl,fun V hV=>?_⟩
 obtain ⟨tl,pa,sa,qa,pc,sc,qc,hg,hx⟩:=h.later hV
 have c0:=cell_tl hg hx.vtep
 clear h hm hg hx
 simp only [List.append_toArray,List.cons_append,List.nil_append,Array.empty_append]
 generalize t.vtep=n at *
 go_enter Tryz.func191,Tryz.ntmps191
 go_wp2_with fail
 go_ret
 exact ⟨rfl,Below.refl _ _⟩
end Go.Proofs.YtdigofgjhaakmaaGreatDoor
namespace Go.Proofs.YtdigofgjhaakmaaGreatDoor
open Go.RowKit
open Ad
open Go.Lib (decDigits)
open Sm (IsBytes)
namespace La
def dec (n:Int):List UInt8:=decDigits n.toNat
def ipx (n:Int):List UInt8:=ipt n.toNat
def fw (n:Int):List UInt8:=if n=1 then wAddress else if n=2 then wPort else wAny
def txtG (c:Cgf):List (List UInt8):=[wGateway,ipx c.ip,mact c.mac,mact c.omac,mact c.nmac,keyt c.key,wDrain,dec c.drain]
def txtH (t:Ten):List (List UInt8):=[wTenant,t.name.data.toList,wVni,dec t.vni,wKey,keyt t.key,wVtep,ipx t.vtep,mact t.vmac,wHost,mact t.host]
def txtP (t:Ten):List (List (List UInt8)):=if t.pool=[] then [] else [wPool::t.pool.map ipx]
def txtS (b:List UInt8) (l:List (Int×Int)):List (List (List UInt8)):=l.map fun p=>[b,ipx p.1,ipx p.2]
def txtR (t:Ten):List (List (List UInt8)):=txtP t++([wPorts,dec t.lo,dec t.hi]::[wFilter,fw t.filter]::(txtS wStatic t.stat++(txtS wTwice t.twi++[[wQuota,dec t.sess,dec t.queue],[wRate,dec t.rate,dec t.burst]])))
def txtT (t:Ten):List (List (List UInt8)):=txtH t::txtR t
def lnsOf (c:Cgf):List (List (List UInt8)):=txtG c::c.ten.flatMap txtT
def txt (c:Cgf):List UInt8:=(lnsOf c).flatMap spc
def R32 (x:Int):Prop:=0≤x∧x < 4294967296
structure TFit (t:Ten):Prop where
 len:TLen t
 name:nam t.name.data.toList=true
 vni:0≤t.vni∧t.vni≤16777215
 key:IsBytes t.key
 vtep:R32 t.vtep
 vmac:IsBytes t.vmac
 host:IsBytes t.host
 pool:∀ x∈t.pool,R32 x
 lo:0≤t.lo∧t.lo≤65535
 hi:0≤t.hi∧t.hi≤65535
 filter:0≤t.filter∧t.filter≤2
 stat:∀ p∈t.stat,R32 p.1∧R32 p.2
 twi:∀ p∈t.twi,R32 p.1∧R32 p.2
 sess:0≤t.sess∧t.sess≤65535
 queue:0≤t.queue∧t.queue≤65535
 rate:R32 t.rate
 burst:R32 t.burst
structure CFit (c:Cgf):Prop where
 len:CLen c
 ip:R32 c.ip
 mac:IsBytes c.mac
 omac:IsBytes c.omac
 nmac:IsBytes c.nmac
 key:IsBytes c.key
 drain:R32 c.drain
 ten:∀ t∈c.ten,TFit t
end La
end Go.Proofs.YtdigofgjhaakmaaGreatDoor
namespace Go.Proofs.YtdigofgjhaakmaaGreatDoor
open Go.RowKit
open Cf
open La
open Ad
end Go.Proofs.YtdigofgjhaakmaaGreatDoor
