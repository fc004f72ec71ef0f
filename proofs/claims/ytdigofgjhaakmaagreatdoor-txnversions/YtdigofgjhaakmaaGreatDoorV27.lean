/-
  What is changed: the statements' own tenant (lychseat.Tenant(1, 3)).
  A store's box: what its smaller methods do.
  Settings as text: the words of settings, and that they are read back.
  Settings as text: the program's reader: the value of a word.
  Which settings may be: what is asked of a tenant, question by question.
  A record: the version and the settings as bytes (state.bytes).
  Settings as text: the program's reader: by what a word's value is told: addr's functions, numbers up to a bound, names, filters.
  Settings as text: the program's reader: the value of a word, of six or eight bytes.
  Which settings may be: a tenant's rules, its error.
  What is changed: lychlaw15's known is true.
-/
import Derived.Test.YtdigofgjhaakmaaGreatDoorV26
import Derived.Test.YtdigofgjhaakmaaGreatDoorV21
import Derived.Deep.MidRow
import Derived.Lib.SpaceUEq
import Derived.Shelf.Abstract
import Derived.Laws.EntriesVeiled
import Derived.Test.YtdigofgjhaakmaaGreatDoorV01
import Derived.Test.YtdigofgjhaakmaaGreatDoorV18
import Derived.Test.YtdigofgjhaakmaaGreatDoorV20
set_option linter.unusedVariables false
set_option linter.unusedSimpArgs false
set_option maxRecDepth 20000
set_option maxHeartbeats 40000000
namespace Go.Proofs.YtdigofgjhaakmaaGreatDoor
open Go.RowKit
open Sm
open Cf
open Df
namespace Df
abbrev u15 (pool:List Int) (lo hi se qu ra bu:Int):Ten:=⟨⟨#[98]⟩,101,[2,0,0,0,0,0,0,0],168361986,[2,9,1,0,0,0],[2,7,1,0,0,0],pool,lo,hi,0,[],[],se,qu,ra,bu⟩
def k15:Ten:=u15 [84214017] 1024 1024 1 1 0 3
end Df
end Go.Proofs.YtdigofgjhaakmaaGreatDoor
namespace Go.Proofs.YtdigofgjhaakmaaGreatDoor
open Go.RowKit
open Sm
open Cf
abbrev stT:TypeId:=101
def xA (pl:Nat) (ver:Int) (c:Cgf) (u:Value) (sp:Option Addr) (dn:Bool):List Value:=.pointer (some ⟨pl,0,none⟩)::.int .u64 ver::(cc c u++[.pointer sp,.bool dn])
def bgn (dn:Bool) (sp:Option Addr):Int:=if dn then 113 else if sp.isNone then 111 else 0
def bgc (dn:Bool) (sp:Option Addr) (v ver:Int):Int:=if dn then 113 else if sp.isSome then 110 else if v=ver then 0 else 112
section
variable {pl:Nat} {ver:Int} {c:Cgf} {u:Value} {sp:Option Addr} {dn:Bool}
theorem xA_split (hl:CLen c):∃ A:List Value,A.length=31∧∀ sp dn,xA pl ver c u sp dn=A++[.pointer sp,.bool dn] :=
 ⟨.pointer (some ⟨pl,0,none⟩)::.int .u64 ver::cc c u,by simp [cc_len hl],fun _ _=>rfl⟩
theorem xA_size (hl:CLen c):(xA pl ver c u sp dn).toArray.size=33:=by simp [xA,cc_len hl]
theorem xA_1:(xA pl ver c u sp dn).toArray[1]? = some (.int .u64 ver):=rfl
theorem xA_0:(xA pl ver c u sp dn).toArray[0]? = some (.pointer (some ⟨pl,0,none⟩)):=rfl
theorem xA_31 (hl:CLen c):(xA pl ver c u sp dn).toArray[31]? = some (.pointer sp):=by
 obtain ⟨A,hA,h⟩:=xA_split (pl:=pl) (ver:=ver) (u:=u) hl
 rw [h,List.getElem?_toArray,List.getElem?_append_right (by omega),hA];rfl
theorem xA_32 (hl:CLen c):(xA pl ver c u sp dn).toArray[32]? = some (.bool dn):=by
 obtain ⟨A,hA,h⟩:=xA_split (pl:=pl) (ver:=ver) (u:=u) hl
 rw [h,List.getElem?_toArray,List.getElem?_append_right (by omega),hA];rfl
theorem xA_set31 (hl:CLen c) (q:Option Addr):(xA pl ver c u sp dn).toArray.setIfInBounds 31 (.pointer q)=(xA pl ver c u q dn).toArray:=by
 obtain ⟨A,hA,h⟩:=xA_split (pl:=pl) (ver:=ver) (u:=u) hl
 rw [h,h]
 simp [List.set_append_right,hA]
theorem xA_set32 (hl:CLen c) (q:Bool):(xA pl ver c u sp dn).toArray.setIfInBounds 32 (.bool q)=(xA pl ver c u sp q).toArray:=by
 obtain ⟨A,hA,h⟩:=xA_split (pl:=pl) (ver:=ver) (u:=u) hl
 rw [h,h]
 simp [List.set_append_right,hA]
theorem xA_cfg:∀ j x,(cc c u)[j]? = some x→(xA pl ver c u sp dn).toArray[2+j]? = some x:=by
 intro j x hj
 have hl:=(List.getElem?_eq_some_iff.mp hj).1
 rw [List.getElem?_toArray,show 2+j=j+1+1 by omega,xA,List.getElem?_cons_succ,List.getElem?_cons_succ,List.getElem?_append_left hl]
 exact hj
variable {w W:World} {ps:Nat} {L:List (Nat×Obj)}
theorem xA_range (hM:Mem w W ((ps,.cells (xA pl ver c u sp dn).toArray stT (0,0))::L)):W.rangeAt ps 2 (cc c u):=fun j x hj=>by
 rw [hM.cell 0 rfl];exact xA_cfg j x hj
end
section
variable {W:World} {ps:Nat} {sp:Option Addr} {dn:Bool} {ver v:Int}
theorem begun_any (h31:W.cell? ⟨ps,31,none⟩=some (.pointer sp)) (h32:W.cell? ⟨ps,32,none⟩=some (.bool dn)) :
 Calls Tryz.prog 53 #[.pointer (some ⟨ps,0,none⟩)] W fun e W'=>e=.returned (.int .i64 (bgn dn sp))∧W=W':=by
 cases dn <;> cases sp
 all_goals
  go_enter Tryz.func53,Tryz.ntmps53
  go_wp2
  go_ret
  exact ⟨rfl,rfl⟩
theorem begin_no (h1:W.cell? ⟨ps,1,none⟩=some (.int .u64 ver)) (h31:W.cell? ⟨ps,31,none⟩=some (.pointer sp)) (h32:W.cell? ⟨ps,32,none⟩=some (.bool dn)) (hk:bgc dn sp v ver≠0) :
 Calls Tryz.prog 22 #[.pointer (some ⟨ps,0,none⟩),.int .u64 v] W fun e W'=>e=.returned (.int .i64 (bgc dn sp v ver))∧W=W':=by
 cases dn
 ·cases sp
  ·have hv:¬ v=ver:=fun h=>hk (by simp [bgc,h])
   have hv2:(v != ver)=true:=by simp [hv]
   have e:bgc false none v ver=112:=by simp [bgc,hv]
   rw [e]
   clear hk e
   go_enter Tryz.func22,Tryz.ntmps22
   go_wp2
   go_ret
   exact ⟨rfl,rfl⟩
  ·go_enter Tryz.func22,Tryz.ntmps22
   go_wp2
   go_ret
   exact ⟨rfl,rfl⟩
 ·go_enter Tryz.func22,Tryz.ntmps22
  go_wp2
  go_ret
  exact ⟨rfl,rfl⟩
theorem abort_no (h31:W.cell? ⟨ps,31,none⟩=some (.pointer sp)) (h32:W.cell? ⟨ps,32,none⟩=some (.bool dn)) (hk:bgn dn sp≠0) :
 Calls Tryz.prog 23 #[.pointer (some ⟨ps,0,none⟩)] W fun e W'=>e=.returned (.int .i64 (bgn dn sp))∧W=W':=by
 have C:=begun_any h31 h32
 have C2:=failed_any (bgn dn sp) W
 have h2:(bgn dn sp != 0)=true:=by simp [hk]
 rw [h2] at C2
 generalize bgn dn sp=k at C C2
 clear hk h2
 go_enter Tryz.func23,Tryz.ntmps23
 go_wp2_with fail
 refine C.mono ?_
 rintro e _ ⟨rfl,rfl⟩
 go_wp2_with fail
 refine C2.mono ?_
 rintro e _ ⟨rfl,rfl⟩
 go_wp2_with fail
 go_ret
 exact ⟨rfl,rfl⟩
end
section
variable {w W:World} {ps:Nat} {A:Array Value} {L:List (Nat×Obj)}
theorem stage_any (hM:Mem w W ((ps,.cells A stT (0,0))::L)) (hA:A.size=33) {cl:Array Value} {q:Option Addr} (h31:A[31]? = some (.pointer q)) :
 Calls Tryz.prog 52 #[.pointer (some ⟨ps,0,none⟩),.agg cl] W fun e W'=>∃ g,e=.returned (.tuple #[])∧Mem w W' ((ps,.cells (A.setIfInBounds 31 (.pointer (some ⟨g,0,none⟩))) stT (0,0))::(g,.cells cl 39)::L):=by
 obtain ⟨g,hg⟩:∃ g,W.heap.size=g:=⟨_,rfl⟩
 have hM1:Mem w (W.alloc (.cells cl 39)) ((g,.cells cl 39)::(ps,.cells A stT (0,0))::L):=hM.front _ hg.symm
 have c31:(W.alloc (.cells cl 39)).cell? ⟨ps,31,none⟩=some (.pointer q):=by rw [hM1.cell 1 rfl];exact h31
 have f31:(W.alloc (.cells cl 39)).frozen? ⟨ps,31,none⟩=false:=hM1.free 1 rfl 31
 have HM:Hid (Mem w ((W.alloc (.cells cl 39)).setCell ⟨ps,31,none⟩ (.pointer (some ⟨g,0,none⟩))) ((ps,.cells (A.setIfInBounds 31 (.pointer (some ⟨g,0,none⟩))) stT (0,0))::(g,.cells cl 39)::L)):=(hM1.set 1 rfl 31 (.pointer (some ⟨g,0,none⟩))).perm (List.Perm.swap _ _ _)
 clear hM1 hM
 go_enter Tryz.func52,Tryz.ntmps52
 go_wp2_with fail
 go_end0
 exact ⟨g,rfl,HM.out⟩
end
end Go.Proofs.YtdigofgjhaakmaaGreatDoor
namespace Go.Proofs.YtdigofgjhaakmaaGreatDoor
open Go.RowKit
open Ad
open Go.Lib (decDigits)
open Sm (IsBytes)
namespace La
def dec (n:Int):List UInt8:=decDigits n.toNat
def ipx (n:Int):List UInt8:=ipt n.toNat
def fw (n:Int):List UInt8:=if n=1 then wAddress else if n=2 then wPort else wAny
def txtG (c:Cgf):List (List UInt8):=[wGateway,ipx c.ip,mact c.mac,mact c.omac,mact c.nmac,keyt c.key,wDrain,dec c.drain]
def txtH (t:Ten):List (List UInt8):=[wTenant,t.name.data.toList,wVni,dec t.vni,wKey,keyt t.key,wVtep,ipx t.vtep,mact t.vmac,wHost,mact t.host]
def txtP (t:Ten):List (List (List UInt8)):=if t.pool=[] then [] else [wPool::t.pool.map ipx]
def txtS (b:List UInt8) (l:List (Int×Int)):List (List (List UInt8)):=l.map fun p=>[b,ipx p.1,ipx p.2]
def txtR (t:Ten):List (List (List UInt8)):=txtP t++([wPorts,dec t.lo,dec t.hi]::[wFilter,fw t.filter]::(txtS wStatic t.stat++(txtS wTwice t.twi++[[wQuota,dec t.sess,dec t.queue],[wRate,dec t.rate,dec t.burst]])))
def txtT (t:Ten):List (List (List UInt8)):=txtH t::txtR t
def lnsOf (c:Cgf):List (List (List UInt8)):=txtG c::c.ten.flatMap txtT
def txt (c:Cgf):List UInt8:=(lnsOf c).flatMap spc
def R32 (x:Int):Prop:=0≤x∧x < 4294967296
structure TFit (t:Ten):Prop where
 len:TLen t
 name:nam t.name.data.toList=true
 vni:0≤t.vni∧t.vni≤16777215
 key:IsBytes t.key
 vtep:R32 t.vtep
 vmac:IsBytes t.vmac
 host:IsBytes t.host
 pool:∀ x∈t.pool,R32 x
 lo:0≤t.lo∧t.lo≤65535
 hi:0≤t.hi∧t.hi≤65535
 filter:0≤t.filter∧t.filter≤2
 stat:∀ p∈t.stat,R32 p.1∧R32 p.2
 twi:∀ p∈t.twi,R32 p.1∧R32 p.2
 sess:0≤t.sess∧t.sess≤65535
 queue:0≤t.queue∧t.queue≤65535
 rate:R32 t.rate
 burst:R32 t.burst
structure CFit (c:Cgf):Prop where
 len:CLen c
 ip:R32 c.ip
 mac:IsBytes c.mac
 omac:IsBytes c.omac
 nmac:IsBytes c.nmac
 key:IsBytes c.key
 drain:R32 c.drain
 ten:∀ t∈c.ten,TFit t
end La
end Go.Proofs.YtdigofgjhaakmaaGreatDoor
namespace Go.Proofs.YtdigofgjhaakmaaGreatDoor
open Go.RowKit
open Cf
open La
open Ad
end Go.Proofs.YtdigofgjhaakmaaGreatDoor
namespace Go.Proofs.YtdigofgjhaakmaaGreatDoor
open Go.RowKit
open Va
open Ad (nam)
theorem tq3 {W:World} {g:Nat} {t:Ten} (hv:Vs W) (h:TBo W g t) (hm:TSm t):Ask W 168 #[.pointer (some ⟨g,0,none⟩)] (nam t.name.data.toList):=by
 refine ⟨enters_of Tryz.func168 (by kernel_rfl) rfl,fun V hV=>?_⟩
 obtain ⟨tl,pa,sa,qa,pc,sc,qc,hg,hx⟩:=h.later hV
 have c0:=cell_tl hg hx.name
 have C:=name_any (hv.below hV) t.name (by have:=hm.1;omega)
 clear h hm hg hx hv
 simp only [List.append_toArray,List.cons_append,List.nil_append,Array.empty_append]
 generalize nam t.name.data.toList=B at *
 generalize t.name=s at *
 go_enter Tryz.func168,Tryz.ntmps168
 go_wp2_with fail
 refine C.mono ?_
 rintro _ X ⟨rfl,hb⟩
 go_wp2_with fail
 go_ret
 exact ⟨rfl,hb⟩
theorem tq4 {W:World} {g:Nat} {t:Ten} (h:TBo W g t) (hm:TSm t):Ask W 170 #[.pointer (some ⟨g,0,none⟩)] (wi t.vni 1 16777215):=by
 refine ⟨enters_of Tryz.func170 (by kernel_rfl) rfl,fun V hV=>?_⟩
 obtain ⟨tl,pa,sa,qa,pc,sc,qc,hg,hx⟩:=h.later hV
 have c0:=cell_tl hg hx.vni
 have C:=within_u32 V t.vni 1 16777215
 clear h hm hg hx
 simp only [List.append_toArray,List.cons_append,List.nil_append,Array.empty_append]
 generalize wi t.vni 1 16777215=B at *
 generalize t.vni=x at *
 go_enter Tryz.func170,Tryz.ntmps170
 go_wp2_with fail
 refine C.mono ?_
 rintro _ X ⟨rfl,rfl⟩
 go_wp2_with fail
 go_ret
 exact ⟨rfl,Below.refl _ _⟩
theorem tq5 {W:World} {g:Nat} {t:Ten} (h:TBo W g t) (hm:TSm t):Ask W 172 #[.pointer (some ⟨g,0,none⟩)] (decide ((t.pool.length:Int)≤8)):=by
 refine ⟨enters_of Tryz.func172 (by kernel_rfl) rfl,fun V hV=>?_⟩
 obtain ⟨tl,pa,sa,qa,pc,sc,qc,hg,hx⟩:=h.later hV
 have c0:=cell_tl hg hx.pool
 clear h hm hg hx
 simp only [List.append_toArray,List.cons_append,List.nil_append,Array.empty_append]
 generalize t.pool.length=n at *
 go_enter Tryz.func172,Tryz.ntmps172
 go_wp2_with fail
 go_ret
 exact ⟨rfl,Below.refl _ _⟩
theorem tq6 {W:World} {g:Nat} {t:Ten} (h:TBo W g t) (hm:TSm t):Ask W 173 #[.pointer (some ⟨g,0,none⟩)] (unl t.pool):=by
 refine ⟨enters_of Tryz.func173 (by kernel_rfl) rfl,fun V hV=>?_⟩
 obtain ⟨tl,pa,sa,qa,pc,sc,qc,hg,hx⟩:=h.later hV
 have c0:=cell_tl hg hx.pool
 have C:=unlike_any hx.rp hm.2.1
 clear h hm hg hx
 simp only [List.append_toArray,List.cons_append,List.nil_append,Array.empty_append]
 generalize unl t.pool=B at *
 generalize t.pool.length=n at *
 go_enter Tryz.func173,Tryz.ntmps173
 go_wp2_with fail
 refine C.mono ?_
 rintro _ X ⟨rfl,rfl⟩
 go_wp2_with fail
 go_ret
 exact ⟨rfl,Below.refl _ _⟩
theorem tq7 {W:World} {g:Nat} {t:Ten} (h:TBo W g t) (hm:TSm t):Ask W 175 #[.pointer (some ⟨g,0,none⟩)] (wi t.lo 1 t.hi):=by
 refine ⟨enters_of Tryz.func175 (by kernel_rfl) rfl,fun V hV=>?_⟩
 obtain ⟨tl,pa,sa,qa,pc,sc,qc,hg,hx⟩:=h.later hV
 have c0:=cell_tl hg hx.lo
 have c1:=cell_tl hg hx.hi
 have C:=within_u16 V t.lo 1 t.hi
 clear h hm hg hx
 simp only [List.append_toArray,List.cons_append,List.nil_append,Array.empty_append]
 generalize wi t.lo 1 t.hi=B at *
 generalize t.lo=x at *
 generalize t.hi=y at *
 go_enter Tryz.func175,Tryz.ntmps175
 go_wp2_with fail
 refine C.mono ?_
 rintro _ X ⟨rfl,rfl⟩
 go_wp2_with fail
 go_ret
 exact ⟨rfl,Below.refl _ _⟩
theorem tq8 {W:World} {g:Nat} {t:Ten} (h:TBo W g t) (hm:TSm t):Ask W 177 #[.pointer (some ⟨g,0,none⟩)] (wi t.filter 0 2):=by
 refine ⟨enters_of Tryz.func177 (by kernel_rfl) rfl,fun V hV=>?_⟩
 obtain ⟨tl,pa,sa,qa,pc,sc,qc,hg,hx⟩:=h.later hV
 have c0:=cell_tl hg hx.filter
 have C:=within_int V t.filter 0 2
 clear h hm hg hx
 simp only [List.append_toArray,List.cons_append,List.nil_append,Array.empty_append]
 generalize wi t.filter 0 2=B at *
 generalize t.filter=x at *
 go_enter Tryz.func177,Tryz.ntmps177
 go_wp2_with fail
 refine C.mono ?_
 rintro _ X ⟨rfl,rfl⟩
 go_wp2_with fail
 go_ret
 exact ⟨rfl,Below.refl _ _⟩
theorem tq9 {W:World} {g:Nat} {t:Ten} (h:TBo W g t) (hm:TSm t):Ask W 179 #[.pointer (some ⟨g,0,none⟩)] (decide ((t.stat.length:Int)≤16)):=by
 refine ⟨enters_of Tryz.func179 (by kernel_rfl) rfl,fun V hV=>?_⟩
 obtain ⟨tl,pa,sa,qa,pc,sc,qc,hg,hx⟩:=h.later hV
 have c0:=cell_tl hg hx.stat
 clear h hm hg hx
 simp only [List.append_toArray,List.cons_append,List.nil_append,Array.empty_append]
 generalize t.stat.length=n at *
 go_enter Tryz.func179,Tryz.ntmps179
 go_wp2_with fail
 go_ret
 exact ⟨rfl,Below.refl _ _⟩
theorem tq10 {W:World} {g:Nat} {t:Ten} (h:TBo W g t) (hm:TSm t):Ask W 180 #[.pointer (some ⟨g,0,none⟩)] (decide ((t.twi.length:Int)≤16)):=by
 refine ⟨enters_of Tryz.func180 (by kernel_rfl) rfl,fun V hV=>?_⟩
 obtain ⟨tl,pa,sa,qa,pc,sc,qc,hg,hx⟩:=h.later hV
 have c0:=cell_tl hg hx.twi
 clear h hm hg hx
 simp only [List.append_toArray,List.cons_append,List.nil_append,Array.empty_append]
 generalize t.twi.length=n at *
 go_enter Tryz.func180,Tryz.ntmps180
 go_wp2_with fail
 go_ret
 exact ⟨rfl,Below.refl _ _⟩
theorem tq11 {W:World} {g:Nat} {t:Ten} (h:TBo W g t) (hm:TSm t):Ask W 181 #[.pointer (some ⟨g,0,none⟩)] (unl (fst' t.stat) && unl (snd' t.stat)):=by
 refine ⟨enters_of Tryz.func181 (by kernel_rfl) rfl,fun V hV=>?_⟩
 obtain ⟨tl,pa,sa,qa,pc,sc,qc,hg,hx⟩:=h.later hV
 have c0:=cell_tl hg hx.stat
 have C:=firsts_any hx.rs hm.2.2.1
 have H2:Hid (∀ X,Below V.heap.size V X→X.cell? ⟨g,27,none⟩=some (.slice sa t.stat.length sc)∧Calls Tryz.prog 183 #[.slice sa t.stat.length sc] X fun e w'=>∃ u,e=.returned u∧Rw w' 1 u (ux (snd' t.stat))∧Below X.heap.size X w'):=fun X hX=>⟨by rw [hX.cell (p:=⟨g,27,none⟩) (cell_lt c0)];exact c0,seconds_any (hx.later hX).rs hm.2.2.1⟩
 have HL:Hid (t.stat.length≤1000000):=hm.2.2.1
 have hl1:(fst' t.stat).length=t.stat.length:=by simp [fst']
 have hl2:(snd' t.stat).length=t.stat.length:=by simp [snd']
 clear h hm hg hx
 simp only [List.append_toArray,List.cons_append,List.nil_append,Array.empty_append]
 obtain ⟨B1,hB1⟩:∃ B,unl (fst' t.stat)=B:=⟨_,rfl⟩
 rw [hB1]
 generalize fst' t.stat=L1 at *
 generalize snd' t.stat=L2 at *
 generalize t.stat.length=n at *
 go_enter Tryz.func181,Tryz.ntmps181
 go_wp2_with fail
 refine C.mono ?_
 rintro _ X ⟨u,rfl,hr,hb⟩
 have C1:=unlike_any hr (by rw [hl1];exact HL.out)
 obtain ⟨k1,C2⟩:=H2.out X hb
 have HB:Hid (Below V.heap.size V X):=hb
 clear C hr hb H2 c0
 rw [hB1] at C1
 clear hB1
 cases B1 with
 | false =>
  go_wp2_with fail
  refine C1.mono ?_
  rintro _ _ ⟨rfl,rfl⟩
  go_wp2_with fail
  go_ret
  exact ⟨rfl,HB.out⟩
 | true =>
  go_wp2_with fail
  refine C1.mono ?_
  rintro _ _ ⟨rfl,rfl⟩
  go_wp2_with fail
  refine C2.mono ?_
  rintro _ X2 ⟨u2,rfl,hr2,hb2⟩
  have C3:=unlike_any hr2 (by rw [hl2];exact HL.out)
  clear C2 C1 hr2
  have HB2:Hid (Below V.heap.size V X2):=HB.out.trans (hb2.mono HB.out.size)
  clear hb2 HB
  go_wp2_with fail
  refine C3.mono ?_
  rintro _ _ ⟨rfl,rfl⟩
  go_wp2_with fail
  go_ret
  exact ⟨by simp,HB2.out⟩
theorem tq12 {W:World} {g:Nat} {t:Ten} (h:TBo W g t) (hm:TSm t):Ask W 184 #[.pointer (some ⟨g,0,none⟩)] (unl (fst' t.twi) && unl (snd' t.twi)):=by
 refine ⟨enters_of Tryz.func184 (by kernel_rfl) rfl,fun V hV=>?_⟩
 obtain ⟨tl,pa,sa,qa,pc,sc,qc,hg,hx⟩:=h.later hV
 have c0:=cell_tl hg hx.twi
 have C:=firsts_any hx.rq hm.2.2.2
 have H2:Hid (∀ X,Below V.heap.size V X→X.cell? ⟨g,28,none⟩=some (.slice qa t.twi.length qc)∧Calls Tryz.prog 183 #[.slice qa t.twi.length qc] X fun e w'=>∃ u,e=.returned u∧Rw w' 1 u (ux (snd' t.twi))∧Below X.heap.size X w'):=fun X hX=>⟨by rw [hX.cell (p:=⟨g,28,none⟩) (cell_lt c0)];exact c0,seconds_any (hx.later hX).rq hm.2.2.2⟩
 have HL:Hid (t.twi.length≤1000000):=hm.2.2.2
 have hl1:(fst' t.twi).length=t.twi.length:=by simp [fst']
 have hl2:(snd' t.twi).length=t.twi.length:=by simp [snd']
 clear h hm hg hx
 simp only [List.append_toArray,List.cons_append,List.nil_append,Array.empty_append]
 obtain ⟨B1,hB1⟩:∃ B,unl (fst' t.twi)=B:=⟨_,rfl⟩
 rw [hB1]
 generalize fst' t.twi=L1 at *
 generalize snd' t.twi=L2 at *
 generalize t.twi.length=n at *
 go_enter Tryz.func184,Tryz.ntmps184
 go_wp2_with fail
 refine C.mono ?_
 rintro _ X ⟨u,rfl,hr,hb⟩
 have C1:=unlike_any hr (by rw [hl1];exact HL.out)
 obtain ⟨k1,C2⟩:=H2.out X hb
 have HB:Hid (Below V.heap.size V X):=hb
 clear C hr hb H2 c0
 rw [hB1] at C1
 clear hB1
 cases B1 with
 | false =>
  go_wp2_with fail
  refine C1.mono ?_
  rintro _ _ ⟨rfl,rfl⟩
  go_wp2_with fail
  go_ret
  exact ⟨rfl,HB.out⟩
 | true =>
  go_wp2_with fail
  refine C1.mono ?_
  rintro _ _ ⟨rfl,rfl⟩
  go_wp2_with fail
  refine C2.mono ?_
  rintro _ X2 ⟨u2,rfl,hr2,hb2⟩
  have C3:=unlike_any hr2 (by rw [hl2];exact HL.out)
  clear C2 C1 hr2
  have HB2:Hid (Below V.heap.size V X2):=HB.out.trans (hb2.mono HB.out.size)
  clear hb2 HB
  go_wp2_with fail
  refine C3.mono ?_
  rintro _ _ ⟨rfl,rfl⟩
  go_wp2_with fail
  go_ret
  exact ⟨by simp,HB2.out⟩
theorem tp1 {W:World} {g:Nat} {t:Ten} (h:TBo W g t) (hm:TSm t):PrU W 165 #[.pointer (some ⟨g,0,none⟩)] (hs t.pool):=by
 refine ⟨enters_of Tryz.func165 (by kernel_rfl) rfl,fun x V hV=>?_⟩
 obtain ⟨tl,pa,sa,qa,pc,sc,qc,hg,hx⟩:=h.later hV
 have c0:=cell_tl hg hx.pool
 have C:=contains_u hx.rp hm.2.1 x
 clear h hm hg hx
 simp only [List.append_toArray,List.cons_append,List.nil_append,Array.empty_append]
 generalize hs t.pool x=B at *
 generalize t.pool.length=n at *
 go_enter Tryz.func165,Tryz.ntmps165
 go_wp2_with fail
 refine C.mono ?_
 rintro _ X ⟨rfl,rfl⟩
 go_wp2_with fail
 go_ret
 exact ⟨rfl,Below.refl _ _⟩
theorem tp2 {W:World} {g:Nat} {t:Ten} (h:TBo W g t) (hm:TSm t):PrU W 167 #[.pointer (some ⟨g,0,none⟩)] (owns t):=by
 refine ⟨enters_of Tryz.func167 (by kernel_rfl) rfl,fun x V hV=>?_⟩
 obtain ⟨tl,pa,sa,qa,pc,sc,qc,hg,hx⟩:=h.later hV
 have C:=owns_any hx.tv hm x
 have i33:=i33_of hx.len
 clear h hm hx
 simp only [List.append_toArray,List.cons_append,List.nil_append,Array.empty_append]
 generalize owns t x=B at *
 generalize tl.toArray=A at *
 go_enter Tryz.func167,Tryz.ntmps167
 go_wp2_with (refine wpList_load_row rfl 46 (.tmp 1) (by with_reducible rfl) g (by first | rfl | simp [Act.eval]) 46 A (0,0) _ hg Tryz.underlying46 rfl i33 ?_)
 refine C.mono ?_
 rintro _ X ⟨rfl,hb⟩
 go_wp2_with fail
 go_ret
 exact ⟨rfl,hb⟩
theorem tq13 {W:World} {g:Nat} {t:Ten} (h:TBo W g t) (hm:TSm t) {g1:Nat} (hc:W.cell? ⟨g1,0,none⟩=some (.func (.func 165) #[] #[.pointer (some ⟨g,0,none⟩)])):Ask W 185 #[.pointer (some ⟨g,0,none⟩),.pointer (some ⟨g1,0,none⟩)] ((snd' t.stat).any (hs t.pool)):=by
 refine ⟨enters_of Tryz.func185 (by kernel_rfl) rfl,fun V hV=>?_⟩
 obtain ⟨tl,pa,sa,qa,pc,sc,qc,hg,hx⟩:=h.later hV
 have c0:=cell_tl hg hx.stat
 have c1:V.cell? ⟨g1,0,none⟩=some (.func (.func 165) #[] #[.pointer (some ⟨g,0,none⟩)]):=by rw [hV.cell (p:=⟨g1,0,none⟩) (cell_lt hc)];exact hc
 have C:∀ X,Below V.heap.size V X→Calls Tryz.prog 183 #[.slice sa t.stat.length sc] X fun e w'=>∃ u,e=.returned u∧Rw w' 1 u (ux (snd' t.stat))∧Below V.heap.size V w':=fun X hb=>by
  refine (seconds_any (hx.later hb).rs hm.2.2.1).mono ?_
  rintro _ Y ⟨u,h1,h2,h3⟩
  exact ⟨u,h1,h2,hb.trans (h3.mono hb.size)⟩
 have HS:Hid (∀ X,Below V.heap.size V X→X.cell? ⟨g,27,none⟩=some (.slice sa t.stat.length sc)∧X.cell? ⟨g1,0,none⟩=some (.func (.func 165) #[] #[.pointer (some ⟨g,0,none⟩)])):=fun X hX=>⟨by rw [hX.cell (p:=⟨g,27,none⟩) (cell_lt c0)];exact c0,by rw [hX.cell (p:=⟨g1,0,none⟩) (cell_lt c1)];exact c1⟩
 have hl:(snd' t.stat).length≤1000000:=by simp [snd'];exact hm.2.2.1
 have H2:Hid (∀ X u,Below V.heap.size V X→Rw X 1 u (ux (snd' t.stat))→Calls Tryz.prog 141 #[u,.func (.func 165) #[] #[.pointer (some ⟨g,0,none⟩)]] X fun e w'=>e=.returned (.bool ((snd' t.stat).any (hs t.pool)))∧Below V.heap.size V w'):=fun X u hX hr=>(containsf_u hr hl (tp1 (h.later (hV.trans (hX.mono hV.size))) hm)).mono (fun e w' hh=>⟨hh.1,hX.trans (hh.2.mono hX.size)⟩)
 clear h hm hg hx hc hl hV
 simp only [List.append_toArray,List.cons_append,List.nil_append,Array.empty_append]
 generalize (snd' t.stat).any (hs t.pool)=B at *
 generalize snd' t.stat=L1 at *
 generalize t.stat.length=n at *
 go_enter Tryz.func185,Tryz.ntmps185
 go_upto_region 1 with fail
 refine wp_region_held_drew (S:=fun X=>X.cell? ⟨g,27,none⟩=some (.slice sa n sc)∧X.cell? ⟨g1,0,none⟩=some (.func (.func 165) #[] #[.pointer (some ⟨g,0,none⟩)])) (by kernel_rfl) (HS.out _ (by first | exact Below.refl _ _ | exact (Below.refl _ _).drew)) (fun hHeld=>?_)
 refine tkq 0 rfl (v:=?_) (Or.inl ⟨by rfl,?qy0⟩) ?_
 case qy0=>intro w hSw;(try dsimp only at hSw);go_simp;all_goals with_reducible rfl
 try simp only [sqa,sqb,sqc,Act.put,sqd,sqe,sqf]
 refine tkq 1 rfl (v:=?_) (Or.inl ⟨by rfl,?qy1⟩) ?_
 case qy1=>intro w hSw;(try dsimp only at hSw);go_simp;all_goals with_reducible rfl
 try simp only [sqa,sqb,sqc,Act.put,sqd,sqe,sqf]
 refine tkq 3 rfl (v:=?_) (Or.inl ⟨by rfl,?qy3⟩) ?_
 case qy3=>intro w hSw;(try dsimp only at hSw);go_simp;all_goals with_reducible rfl
 try simp only [sqa,sqb,sqc,Act.put,sqd,sqe,sqf]
 refine wpAnyH_ready (rs:=[2]) (by kernel_rfl) (by simp) ?_
 refine AllReadyH.cons rfl (fun K hK=>?_) AllReadyH.nil
 go_simp
 with_reducible refine (C _ (by first | exact Below.refl _ _ | exact (Below.refl _ _).drew)).mono ?_
 rintro _ X ⟨u,rfl,hr,hb⟩
 try go_wp2_with fail
 refine hK.out _ _ (HS.out X hb) (fun hHeld=>?_)
 clear hK K
 try simp only [sqa,sqb,sqc,Act.put,sqd,sqe,sqf]
 refine wpAnyH_ready (rs:=[4]) (by kernel_rfl) (by simp) ?_
 refine AllReadyH.cons rfl (fun K hK=>?_) AllReadyH.nil
 go_simp
 with_reducible refine (H2.out X u hb hr).mono ?_
 rintro _ X2 ⟨rfl,hb2⟩
 try go_wp2_with fail
 refine hK.out _ _ (HS.out X2 hb2) (fun hHeld=>?_)
 clear hK K
 try simp only [sqa,sqb,sqc,Act.put,sqd,sqe,sqf]
 refine tkq 5 rfl (v:=?_) (Or.inl ⟨by rfl,?qy5⟩) ?_
 case qy5=>intro w hSw;(try dsimp only at hSw);go_simp;all_goals with_reducible rfl
 try simp only [sqa,sqb,sqc,Act.put,sqd,sqe,sqf]
 refine wpAnyH_done (by kernel_rfl) ?_ _
 go_wp2_with fail
 go_ret
 exact ⟨rfl,hb2⟩
theorem tq14 {W:World} {g:Nat} {t:Ten} (h:TBo W g t) (hm:TSm t) {g1:Nat} (hc:W.cell? ⟨g1,0,none⟩=some (.func (.func 167) #[] #[.pointer (some ⟨g,0,none⟩)])):Ask W 186 #[.pointer (some ⟨g,0,none⟩),.pointer (some ⟨g1,0,none⟩)] ((fst' t.twi).any (owns t)):=by
 refine ⟨enters_of Tryz.func186 (by kernel_rfl) rfl,fun V hV=>?_⟩
 obtain ⟨tl,pa,sa,qa,pc,sc,qc,hg,hx⟩:=h.later hV
 have c0:=cell_tl hg hx.twi
 have c1:V.cell? ⟨g1,0,none⟩=some (.func (.func 167) #[] #[.pointer (some ⟨g,0,none⟩)]):=by rw [hV.cell (p:=⟨g1,0,none⟩) (cell_lt hc)];exact hc
 have C:∀ X,Below V.heap.size V X→Calls Tryz.prog 182 #[.slice qa t.twi.length qc] X fun e w'=>∃ u,e=.returned u∧Rw w' 1 u (ux (fst' t.twi))∧Below V.heap.size V w':=fun X hb=>by
  refine (firsts_any (hx.later hb).rq hm.2.2.2).mono ?_
  rintro _ Y ⟨u,h1,h2,h3⟩
  exact ⟨u,h1,h2,hb.trans (h3.mono hb.size)⟩
 have HS:Hid (∀ X,Below V.heap.size V X→X.cell? ⟨g,28,none⟩=some (.slice qa t.twi.length qc)∧X.cell? ⟨g1,0,none⟩=some (.func (.func 167) #[] #[.pointer (some ⟨g,0,none⟩)])):=fun X hX=>⟨by rw [hX.cell (p:=⟨g,28,none⟩) (cell_lt c0)];exact c0,by rw [hX.cell (p:=⟨g1,0,none⟩) (cell_lt c1)];exact c1⟩
 have hl:(fst' t.twi).length≤1000000:=by simp [fst'];exact hm.2.2.2
 have H2:Hid (∀ X u,Below V.heap.size V X→Rw X 1 u (ux (fst' t.twi))→Calls Tryz.prog 141 #[u,.func (.func 167) #[] #[.pointer (some ⟨g,0,none⟩)]] X fun e w'=>e=.returned (.bool ((fst' t.twi).any (owns t)))∧Below V.heap.size V w'):=fun X u hX hr=>(containsf_u hr hl (tp2 (h.later (hV.trans (hX.mono hV.size))) hm)).mono (fun e w' hh=>⟨hh.1,hX.trans (hh.2.mono hX.size)⟩)
 clear h hm hg hx hc hl hV
 simp only [List.append_toArray,List.cons_append,List.nil_append,Array.empty_append]
 generalize (fst' t.twi).any (owns t)=B at *
 generalize fst' t.twi=L1 at *
 generalize t.twi.length=n at *
 go_enter Tryz.func186,Tryz.ntmps186
 go_upto_region 1 with fail
 refine wp_region_held_drew (S:=fun X=>X.cell? ⟨g,28,none⟩=some (.slice qa n qc)∧X.cell? ⟨g1,0,none⟩=some (.func (.func 167) #[] #[.pointer (some ⟨g,0,none⟩)])) (by kernel_rfl) (HS.out _ (by first | exact Below.refl _ _ | exact (Below.refl _ _).drew)) (fun hHeld=>?_)
 refine tkq 0 rfl (v:=?_) (Or.inl ⟨by rfl,?qy0⟩) ?_
 case qy0=>intro w hSw;(try dsimp only at hSw);go_simp;all_goals with_reducible rfl
 try simp only [sqa,sqb,sqc,Act.put,sqd,sqe,sqf]
 refine tkq 1 rfl (v:=?_) (Or.inl ⟨by rfl,?qy1⟩) ?_
 case qy1=>intro w hSw;(try dsimp only at hSw);go_simp;all_goals with_reducible rfl
 try simp only [sqa,sqb,sqc,Act.put,sqd,sqe,sqf]
 refine tkq 3 rfl (v:=?_) (Or.inl ⟨by rfl,?qy3⟩) ?_
 case qy3=>intro w hSw;(try dsimp only at hSw);go_simp;all_goals with_reducible rfl
 try simp only [sqa,sqb,sqc,Act.put,sqd,sqe,sqf]
 refine wpAnyH_ready (rs:=[2]) (by kernel_rfl) (by simp) ?_
 refine AllReadyH.cons rfl (fun K hK=>?_) AllReadyH.nil
 go_simp
 with_reducible refine (C _ (by first | exact Below.refl _ _ | exact (Below.refl _ _).drew)).mono ?_
 rintro _ X ⟨u,rfl,hr,hb⟩
 try go_wp2_with fail
 refine hK.out _ _ (HS.out X hb) (fun hHeld=>?_)
 clear hK K
 try simp only [sqa,sqb,sqc,Act.put,sqd,sqe,sqf]
 refine wpAnyH_ready (rs:=[4]) (by kernel_rfl) (by simp) ?_
 refine AllReadyH.cons rfl (fun K hK=>?_) AllReadyH.nil
 go_simp
 with_reducible refine (H2.out X u hb hr).mono ?_
 rintro _ X2 ⟨rfl,hb2⟩
 try go_wp2_with fail
 refine hK.out _ _ (HS.out X2 hb2) (fun hHeld=>?_)
 clear hK K
 try simp only [sqa,sqb,sqc,Act.put,sqd,sqe,sqf]
 refine tkq 5 rfl (v:=?_) (Or.inl ⟨by rfl,?qy5⟩) ?_
 case qy5=>intro w hSw;(try dsimp only at hSw);go_simp;all_goals with_reducible rfl
 try simp only [sqa,sqb,sqc,Act.put,sqd,sqe,sqf]
 refine wpAnyH_done (by kernel_rfl) ?_ _
 go_wp2_with fail
 go_ret
 exact ⟨rfl,hb2⟩
theorem tq15 {W:World} {g:Nat} {t:Ten} (h:TBo W g t) (hm:TSm t):Ask W 187 #[.pointer (some ⟨g,0,none⟩)] (wi t.sess 1 256):=by
 refine ⟨enters_of Tryz.func187 (by kernel_rfl) rfl,fun V hV=>?_⟩
 obtain ⟨tl,pa,sa,qa,pc,sc,qc,hg,hx⟩:=h.later hV
 have c0:=cell_tl hg hx.sess
 have C:=within_int V t.sess 1 256
 clear h hm hg hx
 simp only [List.append_toArray,List.cons_append,List.nil_append,Array.empty_append]
 generalize wi t.sess 1 256=B at *
 generalize t.sess=x at *
 go_enter Tryz.func187,Tryz.ntmps187
 go_wp2_with fail
 refine C.mono ?_
 rintro _ X ⟨rfl,rfl⟩
 go_wp2_with fail
 go_ret
 exact ⟨rfl,Below.refl _ _⟩
theorem tq16 {W:World} {g:Nat} {t:Ten} (h:TBo W g t) (hm:TSm t):Ask W 188 #[.pointer (some ⟨g,0,none⟩)] (wi t.queue 1 64):=by
 refine ⟨enters_of Tryz.func188 (by kernel_rfl) rfl,fun V hV=>?_⟩
 obtain ⟨tl,pa,sa,qa,pc,sc,qc,hg,hx⟩:=h.later hV
 have c0:=cell_tl hg hx.queue
 have C:=within_int V t.queue 1 64
 clear h hm hg hx
 simp only [List.append_toArray,List.cons_append,List.nil_append,Array.empty_append]
 generalize wi t.queue 1 64=B at *
 generalize t.queue=x at *
 go_enter Tryz.func188,Tryz.ntmps188
 go_wp2_with fail
 refine C.mono ?_
 rintro _ X ⟨rfl,rfl⟩
 go_wp2_with fail
 go_ret
 exact ⟨rfl,Below.refl _ _⟩
theorem tq18 {W:World} {g:Nat} {t:Ten} (h:TBo W g t) (hm:TSm t):Ask W 190 #[.pointer (some ⟨g,0,none⟩)] (wi t.burst 1 1000000):=by
 refine ⟨enters_of Tryz.func190 (by kernel_rfl) rfl,fun V hV=>?_⟩
 obtain ⟨tl,pa,sa,qa,pc,sc,qc,hg,hx⟩:=h.later hV
 have c0:=cell_tl hg hx.burst
 have C:=within_u32 V t.burst 1 1000000
 clear h hm hg hx
 simp only [List.append_toArray,List.cons_append,List.nil_append,Array.empty_append]
 generalize wi t.burst 1 1000000=B at *
 generalize t.burst=x at *
 go_enter Tryz.func190,Tryz.ntmps190
 go_wp2_with fail
 refine C.mono ?_
 rintro _ X ⟨rfl,rfl⟩
 go_wp2_with fail
 go_ret
 exact ⟨rfl,Below.refl _ _⟩
theorem tq17 {W:World} {g:Nat} {t:Ten} (h:TBo W g t) (hm:TSm t):Ask W 189 #[.pointer (some ⟨g,0,none⟩)] (decide (t.rate≤1000000)):=by
 refine ⟨enters_of Tryz.func189 (by kernel_rfl) rfl,fun V hV=>?_⟩
 obtain ⟨tl,pa,sa,qa,pc,sc,qc,hg,hx⟩:=h.later hV
 have c0:=cell_tl hg hx.rate
 clear h hm hg hx
 simp only [List.append_toArray,List.cons_append,List.nil_append,Array.empty_append]
 generalize t.rate=n at *
 go_enter Tryz.func189,Tryz.ntmps189
 go_wp2_with fail
 go_ret
 exact ⟨rfl,Below.refl _ _⟩
theorem tq19 {W:World} {g:Nat} {t:Ten} (h:TBo W g t) (hm:TSm t):Ask W 191 #[.pointer (some ⟨g,0,none⟩)] (t.vtep != 0):=by
 refine ⟨enters_of Tryz.func191 (by kernel_rfl) rfl,fun V hV=>?_⟩
 obtain ⟨tl,pa,sa,qa,pc,sc,qc,hg,hx⟩:=h.later hV
 have c0:=cell_tl hg hx.vtep
 clear h hm hg hx
 simp only [List.append_toArray,List.cons_append,List.nil_append,Array.empty_append]
 generalize t.vtep=n at *
 go_enter Tryz.func191,Tryz.ntmps191
 go_wp2_with fail
 go_ret
 exact ⟨rfl,Below.refl _ _⟩
end Go.Proofs.YtdigofgjhaakmaaGreatDoor
namespace Go.Proofs.YtdigofgjhaakmaaGreatDoor
open Go.RowKit
open Sm
open Cf
abbrev stS:TypeId:=96
def rcd16 (ver:Int) (c:Cgf):List Int:=be 8 ver++cenc c
theorem cenc_pos (c:Cgf) (hl:CLen c) (ht:∀ t∈c.ten,TLen t):0 < (cenc c).length:=by
 rcases Nat.eq_zero_or_pos (cenc c).length with h | h
 ·have h1:=cdec_back c hl ht
  rw [List.length_eq_zero_iff.mp h] at h1
  exact absurd h1 (by simp only [show cdec []=none by kernel_rfl];exact nofun)
 ·exact h
theorem sbytes_any {w:World} {u:Value} {c:Cgf} {ver:Int} (h:CV w (.agg (cc c u).toArray) c) (hi:CIn c) (ht:∀ t∈c.ten,TIn t) (hv:0≤ver∧ver < 18446744073709551616) (hb:(cenc c).length≤100000000) :
 Calls Tryz.prog 61 #[.agg (.int .u64 ver::cc c u).toArray] w fun e w'=>∃ v,e=.returned v∧Out w w' v (rcd16 ver c) []:=by
 obtain ⟨g,hg⟩:∃ g,w.heap.size=g:=⟨_,rfl⟩
 have hpos:=cenc_pos c hi.len (fun t h=>(ht t h).len)
 obtain ⟨A,hA⟩:∃ A,(Value.int .u64 ver::cc c u).toArray=A:=⟨_,rfl⟩
 have hM0:Mem w (w.alloc (.cells A stS)) [(g,.cells A stS (0,0))]:=(Mem.nil w).push1 hg.symm
 have HO:Hid (Out w (w.alloc (.cells A stS)) (.slice none 0 0) [] [(g,.cells A stS (0,0))]):=Out.nil hM0
 have HC0:Hid (∀ V v l,Out w V v l [(g,.cells A stS (0,0))]→V.cell? ⟨g,0,none⟩=some (.int .u64 ver)∧V.rangeAt g 1 (cc c u)):=by
  intro V v l hO
  have hm:=hO.mem
  refine ⟨by rw [hm.cell 0 rfl,← hA];rfl,fun j x hj=>?_⟩
  rw [hm.cell 0 rfl,← hA,List.getElem?_toArray,Nat.add_comm,List.getElem?_cons_succ]
  exact hj
 have HC1:Hid (∀ V,Below w.heap.size w V→Calls Tryz.prog 88 #[.agg (cc c u).toArray] V fun e w'=>∃ u,e=.returned u∧Out V w' u (cenc c) []):=fun V hV=>cfgConfig_any (h.at_ hV (Nat.le_refl _)) hi ht (by omega)
 have hi29:(Tryz.prog.info? 39).map (·.size)=some (cc c u).length:=by rw [cc_len hi.len];kernel_rfl
 rw [hA]
 clear h hi ht hM0 hA
 generalize cc c u=cl at *
 go_enter Tryz.func61,Tryz.ntmps61
 go_wp2_with fail
 go_loopw [3,5] (fun u3 u5 w'=>∃ i:Nat,i≤8∧u5=.int .i64 i∧Hid (Out w w' u3 ((be 8 ver).take i) [(g,.cells A stS (0,0))])) (fun u3 u5 w'=>8 - (intOf u5).toNat)
 case atStart=>exact ⟨0,Nat.zero_le _,rfl,by simpa using HO⟩
 case round =>
  obtain ⟨i,hi,rfl,HR⟩:=hrel
  clear HO
  by_cases hlt:i < 8
  ·have h1:(i:Int) < 8:=by omega
   obtain ⟨k,hk⟩:∃ k:Nat,8 - 1 - i=k:=⟨_,rfl⟩
   have e2:IntKind.i64.wrap (7 - (i:Int))=(k:Int):=by rw [wrap64n (by omega) (by omega)];omega
   have e3:IntKind.i64.wrap (8 * (k:Int))=8 * (k:Int):=wrap64n (by omega) (by omega)
   have e4:¬ (8 * (k:Int) < 0):=by omega
   have htk:(be 8 ver).take (i+1)=(be 8 ver).take i++[ver / 2 ^ (8 * k) % 256]:=by rw [be_take 8 ver i hlt,hk,pow8]
   have hlen:((be 8 ver).take i).length+1≤1000000000:=by rw [List.length_take,be_len];omega
   have c0:=(HC0.out _ _ _ HR.out).1
   obtain ⟨v1,W1,hr,hO1⟩:=out_one HR.out (ver / 2 ^ (8 * k) % 256) (mod_byte _) hlen 86
   rw [←htk] at hO1
   clear htk hlen HC0 HC1
   go_wp2_with (at_builtin;refine wpList_append_run (.tmp 8) (.tmp 16) 86 86 (by with_reducible rfl) hr rfl rfl (by simp [Act.eval]) (by simp [Act.eval]) ?_)
   go_roundw
   case rel=>exact ⟨i+1,by omega,by go_num,hO1⟩
   case measure=>simp [intOf];omega
  ·have h1:¬ ((i:Int) < 8):=by omega
   obtain rfl:i=8:=by omega
   have hO:=HR.out
   rw [List.take_of_length_le (by rw [be_len];omega)] at hO
   have hra:=(HC0.out _ _ _ hO).2
   have C:=HC1.out _ hO.mem.below
   have HA:Hid (∀ V u,Out wr V u (cenc c) []→∃ a n m v' V',u=.slice a n m∧(Builtin.append_ #[86,86] 86 #[u3,.slice a n m]).run Tryz.prog V=.ok v' V'∧Out w V' v' (rcd16 ver c) []):=by
    intro V u hU
    obtain ⟨a,m,rfl,hs⟩:=hU.sl (by omega)
    obtain ⟨ad,rfl⟩:∃ ad,a=some ad:=by
     cases a with
     | none=>have:=hs.nil rfl;have:=hs.le;omega
     | some ad=>exact ⟨ad,rfl⟩
    obtain ⟨v',V',k1,k2⟩:=out_append (hO.drop.after hU.mem.below) ad (cenc c).length m (cenc c) rfl hs.row (by rw [be_len];omega) 86
    exact ⟨_,_,_,v',V',rfl,k1,k2⟩
   clear hO HR HC0 HC1
   go_wp2_with (refine wpList_load_mid rfl 39 (.tmp 20) (by with_reducible rfl) g 1 (by simp [Act.eval]) cl _ hra Tryz.underlying39 rfl hi29 ?_)
   refine C.mono ?_
   rintro e V ⟨u,rfl,hU⟩
   obtain ⟨a,n,m,v',V',rfl,hr,hO⟩:=HA.out V u hU
   clear HA C hU hra
   go_wp2_with (at_builtin;refine wpList_append_run (.tmp 19) (.tmp 22) 86 86 (by with_reducible rfl) hr rfl rfl (by simp [Act.eval]) (by simp [Act.eval]) ?_)
   go_ret
   exact ⟨_,rfl,hO⟩
end Go.Proofs.YtdigofgjhaakmaaGreatDoor
namespace Go.Proofs.YtdigofgjhaakmaaGreatDoor
open Go.RowKit
open La
open Ad
end Go.Proofs.YtdigofgjhaakmaaGreatDoor
namespace Go.Proofs.YtdigofgjhaakmaaGreatDoor
open Go.RowKit
open Cf
open La
open Ad
end Go.Proofs.YtdigofgjhaakmaaGreatDoor
namespace Go.Proofs.YtdigofgjhaakmaaGreatDoor
open Go.RowKit
open Va
open Ad (nam)
inductive RlsL (V:World):List (Nat×Array Value)→List Int→Prop
 | nil:RlsL V [] []
 | cons {k:Nat} {c:Array Value} {e:Int} {ks:List (Nat×Array Value)} {es:List Int} (h:Rul V k c e) (r:RlsL V ks es):RlsL V ((k,c)::ks) (e::es)
theorem RlsL.later {V X:World} (hb:Below V.heap.size V X) {ks:List (Nat×Array Value)} {es:List Int} (h:RlsL V ks es):RlsL X ks es:=by
 induction h with
 | nil=>exact .nil
 | cons h _ ih=>exact .cons (h.later hb) ih
theorem RlsL.snoc {V:World} {ks:List (Nat×Array Value)} {es:List Int} (h:RlsL V ks es) {k:Nat} {c:Array Value} {e:Int} (hr:Rul V k c e):RlsL V (ks++[(k,c)]) (es++[e]):=by
 induction h with
 | nil=>exact .cons hr .nil
 | cons h _ ih=>exact .cons h ih
def fv (p:Nat×Array Value):Value:=.func (.func p.1) #[] p.2
theorem RlsL.at_ {V:World} {ks:List (Nat×Array Value)} {es:List Int} (h:RlsL V ks es):ks.length=es.length∧∀ i,i < es.length→∃ k c,(ks.map fv)[i]? = some (.func (.func k) #[] c)∧Rul V k c (es.getD i 0):=by
 induction h with
 | nil=>exact ⟨rfl,fun i hi=>by simp at hi⟩
 | cons h _ ih =>
  refine ⟨by simp [ih.1],fun i hi=>?_⟩
  cases i with
  | zero=>exact ⟨_,_,rfl,h⟩
  | succ i =>
   obtain ⟨k,c,h1,h2⟩:=ih.2 i (by simpa using hi)
   exact ⟨k,c,by simpa using h1,by simpa [List.getD] using h2⟩
def Rls (W:World) (es:List Int) (e:Ending) (V:World):Prop:=∃ g,e=.returned (.slice (some ⟨g,0,none⟩) es.length es.length)∧(∀ i,i < es.length→∃ k c,V.cell? ⟨g,i,none⟩=some (.func (.func k) #[] c)∧Rul V k c (es.getD i 0))∧Below W.heap.size W V
theorem rls_of {W V:World} {g:Nat} {ks:List (Nat×Array Value)} {es:List Int} {cs:Array Value} (h:RlsL V ks es) (hb:Below W.heap.size W V) (hg:V.heap.size=g) (hc:cs.toList=ks.map fv) :
  (∀ i,i < es.length→∃ k c,(V.alloc (.cells cs 173)).cell? ⟨g,i,none⟩=some (.func (.func k) #[] c)∧Rul (V.alloc (.cells cs 173)) k c (es.getD i 0))∧Below W.heap.size W (V.alloc (.cells cs 173)):=by
 have hb1:Below V.heap.size V (V.alloc (.cells cs 173)):=(Below.refl _ _).alloc (Nat.le_refl _) _
 refine ⟨fun i hi=>?_,hb.trans (hb1.mono hb.size)⟩
 obtain ⟨k,c,h1,h2⟩:=h.at_.2 i hi
 refine ⟨k,c,?_,h2.later hb1⟩
 rw [←hg,World.cell?_alloc_new,← h1,← hc]
 simp
structure TR (W V:World) (g g1 g2:Nat) (t:Ten) (ks:List (Nat×Array Value)) (es:List Int):Prop where
 vs:Vs V
 bo:TBo V g t
 c1:V.cell? ⟨g1,0,none⟩=some (.func (.func 165) #[] #[.pointer (some ⟨g,0,none⟩)])
 c2:V.cell? ⟨g2,0,none⟩=some (.func (.func 167) #[] #[.pointer (some ⟨g,0,none⟩)])
 rl:RlsL V ks es
 below:Below W.heap.size W V
theorem TR.step {W V X:World} {g g1 g2:Nat} {t:Ten} {ks:List (Nat×Array Value)} {es:List Int} (h:TR W V g g1 g2 t ks es) {k:Nat} {c:Array Value} {e:Int} (hr:Rul X k c e) (hb:Below V.heap.size V X):TR W X g g1 g2 t (ks++[(k,c)]) (es++[e]) :=
 ⟨h.vs.below hb,h.bo.later hb,by rw [hb.cell (p:=⟨g1,0,none⟩) (cell_lt h.c1)];exact h.c1,by rw [hb.cell (p:=⟨g2,0,none⟩) (cell_lt h.c2)];exact h.c2,(h.rl.later hb).snoc hr,h.below.trans (hb.mono h.below.size)⟩
theorem trules_any {W:World} {v:Value} {t:Ten} (hv:Vs W) (h:TV W v t) (hm:TSm t):Calls Tryz.prog 134 #[v] W (Rls W (Va.trs t)):=by
 obtain ⟨tl,pa,sa,qa,pc,sc,qc,rfl,hx⟩:=h.tb
 have hmf:=mkf
 obtain ⟨g,hg⟩:∃ g,W.heap.size=g:=⟨_,rfl⟩
 have hM0:Mem W (W.alloc (.cells tl.toArray 46)) [(g,.cells tl.toArray 46)]:=(Mem.nil W).push1 hg.symm
 have HM0:Hid (Mem W (W.alloc (.cells tl.toArray 46)) [(g,.cells tl.toArray 46)]):=hM0
 have HX:Hid (Vs W∧TBx W tl t pa sa qa pc sc qc∧TSm t):=⟨hv,hx,hm⟩
 have HE:Hid (Va.trs t=[]++[ul 90 (nam t.name.data.toList),ul 91 (wi t.vni 1 16777215),ul 92 (decide ((t.pool.length:Int)≤8)),ul 92 (unl t.pool),ul 93 (wi t.lo 1 t.hi),ul 94 (wi t.filter 0 2),ul 94 (decide ((t.stat.length:Int)≤16)),ul 94 (decide ((t.twi.length:Int)≤16)),ul 94 (unl (fst' t.stat) && unl (snd' t.stat)),ul 94 (unl (fst' t.twi) && unl (snd' t.twi)),wn 94 ((snd' t.stat).any (hs t.pool)),wn 94 ((fst' t.twi).any (owns t)),ul 95 (wi t.sess 1 256),ul 95 (wi t.queue 1 64),ul 95 (decide (t.rate≤1000000)),ul 95 (wi t.burst 1 1000000),ul 96 (t.vtep != 0)]):=rfl
 clear hM0 hv h hx hm
 generalize Va.trs t=ES at *
 obtain ⟨A,hA⟩:∃ A,tl.toArray=A:=⟨_,rfl⟩
 rw [hA] at HM0 ⊢
 have HA:Hid (tl.toArray=A):=hA
 clear hA
 go_enter Tryz.func134,Tryz.ntmps134
 go_upto_region 1 with fail
 refine wp_letter (fun X=>Mem W X [(g,.cells A 46)]) (by exact HM0.out) ?_
 intro V0 hM1
 try simp only [hg]
 clear HM0 hg
 obtain ⟨g1,hg1⟩:∃ g1,V0.heap.size=g1:=⟨_,rfl⟩
 have HM1:Hid (Mem W (V0.alloc (.cells #[.func (.func 165) #[] #[.pointer (some ⟨g,0,none⟩)]] 176)) [(g1,.cells #[.func (.func 165) #[] #[.pointer (some ⟨g,0,none⟩)]] 176),(g,.cells A 46)]):=hM1.front _ hg1.symm
 clear hM1
 go_upto_region 2 with fail
 refine wp_letter (fun X=>Mem W X [(g1,.cells #[.func (.func 165) #[] #[.pointer (some ⟨g,0,none⟩)]] 176),(g,.cells A 46)]) (by exact HM1.out) ?_
 intro V1 hM2
 try simp only [hg1]
 clear HM1 hg1
 obtain ⟨g2,hg2⟩:∃ g2,V1.heap.size=g2:=⟨_,rfl⟩
 have HM2:Hid (Mem W (V1.alloc (.cells #[.func (.func 167) #[] #[.pointer (some ⟨g,0,none⟩)]] 176)) [(g2,.cells #[.func (.func 167) #[] #[.pointer (some ⟨g,0,none⟩)]] 176),(g1,.cells #[.func (.func 165) #[] #[.pointer (some ⟨g,0,none⟩)]] 176),(g,.cells A 46)]):=hM2.front _ hg2.symm
 clear hM2
 go_upto_region 3 with fail
 refine wp_letter (fun X=>Mem W X [(g2,.cells #[.func (.func 167) #[] #[.pointer (some ⟨g,0,none⟩)]] 176),(g1,.cells #[.func (.func 165) #[] #[.pointer (some ⟨g,0,none⟩)]] 176),(g,.cells A 46)]) (by exact HM2.out) ?_
 intro V2 hM3
 try simp only [hg2]
 clear HM2 hg2
 have Ha:Hid (TR W V2 g g1 g2 t [] []):=⟨HX.out.1.below hM3.below,⟨tl,pa,sa,qa,pc,sc,qc,by rw [HA.out];exact hM3.get 2 rfl,HX.out.2.1.later hM3.below⟩,hM3.cell 1 rfl 0,hM3.cell 0 rfl 0,.nil,hM3.below⟩
 have HS:Hid (TSm t):=HX.out.2.2
 clear HX hM3 HA
 go_wp2_with fail
 refine (unless_any (tq3 Ha.out.vs Ha.out.bo HS.out) 90).mono ?_
 rintro _ X0 ⟨k0,cs0,rfl,hr,hb⟩
 have H0:Hid (TR W X0 g g1 g2 t _ _):=Ha.out.step hr hb
 clear hr hb Ha
 go_wp2_with fail
 refine (unless_any (tq4 H0.out.bo HS.out) 91).mono ?_
 rintro _ X1 ⟨k1,cs1,rfl,hr,hb⟩
 have H1:Hid (TR W X1 g g1 g2 t _ _):=H0.out.step hr hb
 clear hr hb H0
 go_wp2_with fail
 refine (unless_any (tq5 H1.out.bo HS.out) 92).mono ?_
 rintro _ X2 ⟨k2,cs2,rfl,hr,hb⟩
 have H2:Hid (TR W X2 g g1 g2 t _ _):=H1.out.step hr hb
 clear hr hb H1
 go_wp2_with fail
 refine (unless_any (tq6 H2.out.bo HS.out) 92).mono ?_
 rintro _ X3 ⟨k3,cs3,rfl,hr,hb⟩
 have H3:Hid (TR W X3 g g1 g2 t _ _):=H2.out.step hr hb
 clear hr hb H2
 go_wp2_with fail
 refine (unless_any (tq7 H3.out.bo HS.out) 93).mono ?_
 rintro _ X4 ⟨k4,cs4,rfl,hr,hb⟩
 have H4:Hid (TR W X4 g g1 g2 t _ _):=H3.out.step hr hb
 clear hr hb H3
 go_wp2_with fail
 refine (unless_any (tq8 H4.out.bo HS.out) 94).mono ?_
 rintro _ X5 ⟨k5,cs5,rfl,hr,hb⟩
 have H5:Hid (TR W X5 g g1 g2 t _ _):=H4.out.step hr hb
 clear hr hb H4
 go_wp2_with fail
 refine (unless_any (tq9 H5.out.bo HS.out) 94).mono ?_
 rintro _ X6 ⟨k6,cs6,rfl,hr,hb⟩
 have H6:Hid (TR W X6 g g1 g2 t _ _):=H5.out.step hr hb
 clear hr hb H5
 go_wp2_with fail
 refine (unless_any (tq10 H6.out.bo HS.out) 94).mono ?_
 rintro _ X7 ⟨k7,cs7,rfl,hr,hb⟩
 have H7:Hid (TR W X7 g g1 g2 t _ _):=H6.out.step hr hb
 clear hr hb H6
 go_wp2_with fail
 refine (unless_any (tq11 H7.out.bo HS.out) 94).mono ?_
 rintro _ X8 ⟨k8,cs8,rfl,hr,hb⟩
 have H8:Hid (TR W X8 g g1 g2 t _ _):=H7.out.step hr hb
 clear hr hb H7
 go_wp2_with fail
 refine (unless_any (tq12 H8.out.bo HS.out) 94).mono ?_
 rintro _ X9 ⟨k9,cs9,rfl,hr,hb⟩
 have H9:Hid (TR W X9 g g1 g2 t _ _):=H8.out.step hr hb
 clear hr hb H8
 go_wp2_with fail
 refine (when_any (tq13 H9.out.bo HS.out H9.out.c1) 94).mono ?_
 rintro _ X10 ⟨k10,cs10,rfl,hr,hb⟩
 have H10:Hid (TR W X10 g g1 g2 t _ _):=H9.out.step hr hb
 clear hr hb H9
 go_wp2_with fail
 refine (when_any (tq14 H10.out.bo HS.out H10.out.c2) 94).mono ?_
 rintro _ X11 ⟨k11,cs11,rfl,hr,hb⟩
 have H11:Hid (TR W X11 g g1 g2 t _ _):=H10.out.step hr hb
 clear hr hb H10
 go_wp2_with fail
 refine (unless_any (tq15 H11.out.bo HS.out) 95).mono ?_
 rintro _ X12 ⟨k12,cs12,rfl,hr,hb⟩
 have H12:Hid (TR W X12 g g1 g2 t _ _):=H11.out.step hr hb
 clear hr hb H11
 go_wp2_with fail
 refine (unless_any (tq16 H12.out.bo HS.out) 95).mono ?_
 rintro _ X13 ⟨k13,cs13,rfl,hr,hb⟩
 have H13:Hid (TR W X13 g g1 g2 t _ _):=H12.out.step hr hb
 clear hr hb H12
 go_wp2_with fail
 refine (unless_any (tq17 H13.out.bo HS.out) 95).mono ?_
 rintro _ X14 ⟨k14,cs14,rfl,hr,hb⟩
 have H14:Hid (TR W X14 g g1 g2 t _ _):=H13.out.step hr hb
 clear hr hb H13
 go_wp2_with fail
 refine (unless_any (tq18 H14.out.bo HS.out) 95).mono ?_
 rintro _ X15 ⟨k15,cs15,rfl,hr,hb⟩
 have H15:Hid (TR W X15 g g1 g2 t _ _):=H14.out.step hr hb
 clear hr hb H14
 go_wp2_with fail
 refine (unless_any (tq19 H15.out.bo HS.out) 96).mono ?_
 rintro _ X16 ⟨k16,cs16,rfl,hr,hb⟩
 have H16:Hid (TR W X16 g g1 g2 t _ _):=H15.out.step hr hb
 clear hr hb H15
 obtain ⟨gl,hgl⟩:∃ gl,X16.heap.size=gl:=⟨_,rfl⟩
 have hF:=rls_of (cs:=#[.func (.func k0) #[] cs0,.func (.func k1) #[] cs1,.func (.func k2) #[] cs2,.func (.func k3) #[] cs3,.func (.func k4) #[] cs4,.func (.func k5) #[] cs5,.func (.func k6) #[] cs6,.func (.func k7) #[] cs7,.func (.func k8) #[] cs8,.func (.func k9) #[] cs9,.func (.func k10) #[] cs10,.func (.func k11) #[] cs11,.func (.func k12) #[] cs12,.func (.func k13) #[] cs13,.func (.func k14) #[] cs14,.func (.func k15) #[] cs15,.func (.func k16) #[] cs16]) H16.out.rl H16.out.below hgl rfl
 have HF:Hid ((∀ i,i < ES.length→∃ k c,(X16.alloc (.cells #[.func (.func k0) #[] cs0,.func (.func k1) #[] cs1,.func (.func k2) #[] cs2,.func (.func k3) #[] cs3,.func (.func k4) #[] cs4,.func (.func k5) #[] cs5,.func (.func k6) #[] cs6,.func (.func k7) #[] cs7,.func (.func k8) #[] cs8,.func (.func k9) #[] cs9,.func (.func k10) #[] cs10,.func (.func k11) #[] cs11,.func (.func k12) #[] cs12,.func (.func k13) #[] cs13,.func (.func k14) #[] cs14,.func (.func k15) #[] cs15,.func (.func k16) #[] cs16] 173)).cell? ⟨gl,i,none⟩=some (.func (.func k) #[] c)∧Rul (X16.alloc (.cells #[.func (.func k0) #[] cs0,.func (.func k1) #[] cs1,.func (.func k2) #[] cs2,.func (.func k3) #[] cs3,.func (.func k4) #[] cs4,.func (.func k5) #[] cs5,.func (.func k6) #[] cs6,.func (.func k7) #[] cs7,.func (.func k8) #[] cs8,.func (.func k9) #[] cs9,.func (.func k10) #[] cs10,.func (.func k11) #[] cs11,.func (.func k12) #[] cs12,.func (.func k13) #[] cs13,.func (.func k14) #[] cs14,.func (.func k15) #[] cs15,.func (.func k16) #[] cs16] 173)) k c (ES.getD i 0))∧Below W.heap.size W (X16.alloc (.cells #[.func (.func k0) #[] cs0,.func (.func k1) #[] cs1,.func (.func k2) #[] cs2,.func (.func k3) #[] cs3,.func (.func k4) #[] cs4,.func (.func k5) #[] cs5,.func (.func k6) #[] cs6,.func (.func k7) #[] cs7,.func (.func k8) #[] cs8,.func (.func k9) #[] cs9,.func (.func k10) #[] cs10,.func (.func k11) #[] cs11,.func (.func k12) #[] cs12,.func (.func k13) #[] cs13,.func (.func k14) #[] cs14,.func (.func k15) #[] cs15,.func (.func k16) #[] cs16] 173))∧ES.length=17):=by
  rw [HE.out];exact ⟨hF.1,hF.2,rfl⟩
 clear H16 HS HE hF
 go_wp2_with fail
 go_ret
 refine ⟨gl,?_,HF.out.1,HF.out.2.1⟩
 rw [HF.out.2.2,← hgl]
 rfl
end Go.Proofs.YtdigofgjhaakmaaGreatDoor
namespace Go.Proofs.YtdigofgjhaakmaaGreatDoor
open Go.RowKit
open Sm
open Cf
open Df
namespace Df
theorem one_chg {V:World} {ga:Nat} {y:Hv} (h:V.heap[ga]? = some (.cells (yc y).toArray 48)) (hl:TLen y.1.t) (hr:Rws V (yz y)):YV V (.slice (some ⟨ga,0,none⟩) 1 1) [y]:=by
 refine ⟨⟨some ⟨ga,0,none⟩,1,rfl,Nat.le_refl _,by omega,nofun,Or.inr ⟨ga,0,rfl,fun i hi j u hj=>?_⟩⟩,fun x hx=>by rw [List.mem_singleton] at hx;subst hx;exact ⟨hl,hr⟩⟩
 have hi0:i=0:=by simp at hi;exact hi
 subst hi0
 rw [cell_of h,Nat.zero_mul,Nat.add_zero,Nat.zero_add,List.getElem?_toArray]
 simpa [List.getD] using hj
theorem rws_nil (w:World) (t:Ten) (h1:t.pool=[]) (h2:t.stat=[]) (h3:t.twi=[]):Rws w (t,nilV,nilV,nilV):=by
 refine ⟨?_,?_,?_⟩
 ·show Rw w 1 nilV (ux t.pool);rw [h1];exact ⟨none,0,rfl,Nat.le_refl _,by omega,fun _=>rfl,Or.inl rfl⟩
 ·show Rw w 2 nilV (px t.stat);rw [h2];exact ⟨none,0,rfl,Nat.le_refl _,by omega,fun _=>rfl,Or.inl rfl⟩
 ·show Rw w 2 nilV (px t.twi);rw [h3];exact ⟨none,0,rfl,Nat.le_refl _,by omega,fun _=>rfl,Or.inl rfl⟩
end Df
end Go.Proofs.YtdigofgjhaakmaaGreatDoor
