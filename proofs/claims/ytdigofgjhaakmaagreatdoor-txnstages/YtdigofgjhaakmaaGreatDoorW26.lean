/-
  Settings as text: words and lines of a text, and what is read of them, in plain numbers.
  What is changed: Diff, for whatever tenants that are not too great.
  Settings as text: the program's reader: fail, take, expect, mustEnd.
  Settings as text: the text of settings, and that it is read back.
  What is changed: Diff's walk.
  What is changed: Find, the program's and the document's.
  Of no one layer: what holds wherever some blocks stand; a store beside other blocks.
  Which settings may be: numbers within bounds, lists without one twice, the pairs' sides.
  Settings as text: the text of settings, and that it is read back.
  Settings as text: the program's reader: expect, mustEnd, what values are read by.
-/
import Derived.Test.YtdigofgjhaakmaaGreatDoorW25
import Derived.Test.YtdigofgjhaakmaaGreatDoorW23
import Derived.Test.YtdigofgjhaakmaaGreatDoorW14
import Derived.Test.YtdigofgjhaakmaaGreatDoorW12
import Derived.Test.YtdigofgjhaakmaaGreatDoorW20
import Derived.Test.YtdigofgjhaakmaaGreatDoorW18
import Derived.Test.YtdigofgjhaakmaaGreatDoorW19
import Derived.Deep.MidRow
import Derived.Test.YtdigofgjhaakmaaGreatDoorW24
set_option linter.unusedVariables false
set_option linter.unusedSimpArgs false
set_option maxRecDepth 20000
set_option maxHeartbeats 40000000
namespace Go.Proofs.YtdigofgjhaakmaaGreatDoor
open Go.RowKit
open Ad
namespace La
def wGateway:List UInt8:=[103,97,116,101,119,97,121]
def wDrain:List UInt8:=[100,114,97,105,110]
def wTenant:List UInt8:=[116,101,110,97,110,116]
def wVni:List UInt8:=[118,110,105]
def wKey:List UInt8:=[107,101,121]
def wVtep:List UInt8:=[118,116,101,112]
def wHost:List UInt8:=[104,111,115,116]
def wPool:List UInt8:=[112,111,111,108]
def wPorts:List UInt8:=[112,111,114,116,115]
def wFilter:List UInt8:=[102,105,108,116,101,114]
def wStatic:List UInt8:=[115,116,97,116,105,99]
def wTwice:List UInt8:=[116,119,105,99,101]
def wQuota:List UInt8:=[113,117,111,116,97]
def wRate:List UInt8:=[114,97,116,101]
def wAny:List UInt8:=[97,110,121]
def wAddress:List UInt8:=[97,100,100,114,101,115,115]
def wPort:List UInt8:=[112,111,114,116]
abbrev Wd:=ByteArray×Nat
def ended (s:ByteArray) (ws:List Wd) (cur:Option Nat) (p:Nat):List Wd:=match cur with
 | none=>ws
 | some b=>ws++[(s.extract b p,b)]
structure Sg where
 ws:List Wd
 fin:Nat
 bad:Option Nat
def Sg.fail (σ:Sg) (a:Nat):Sg:=⟨σ.ws,σ.fin,some (σ.bad.getD a)⟩
def wd (σ:Sg):Wd:=match σ.ws with
 | []=>(⟨#[]⟩,σ.fin)
 | w::_=>w
def nxt (σ:Sg):Sg:=match σ.ws with
 | []=>σ.fail σ.fin
 | _::r=>⟨r,σ.fin,σ.bad⟩
abbrev wt (σ:Sg):List UInt8:=(wd σ).1.data.toList
def must (s:List UInt8) (σ:Sg):Sg:=if wt σ=s then nxt σ else (nxt σ).fail (wd σ).2
def val {α:Type} (f:List UInt8→Option α) (σ:Sg):Option α:=f (wt σ)
def vnx {α:Type} (f:List UInt8→Option α) (σ:Sg):Sg:=if (f (wt σ)).isSome then nxt σ else (nxt σ).fail (wd σ).2
def done (σ:Sg):Sg:=match σ.ws with
 | []=>σ
 | w::_=>σ.fail w.2
abbrev n32 (l:List UInt8):Option Nat:=num l 4294967295
abbrev n24 (l:List UInt8):Option Nat:=num l 16777215
abbrev n16 (l:List UInt8):Option Nat:=num l 65535
def nm (l:List UInt8):Option Unit:=if nam l then some () else none
def flt (l:List UInt8):Option Nat:=if l=wAny then some 0 else if l=wAddress then some 1 else if l=wPort then some 2 else none
abbrev m6 (o:Option (List Int)):List Int:=o.getD [0,0,0,0,0,0]
abbrev k8 (o:Option (List Int)):List Int:=o.getD [0,0,0,0,0,0,0,0]
def g1 (σ:Sg):Sg:=must wGateway σ
def g2 (σ:Sg):Sg:=vnx ip (g1 σ)
def g3 (σ:Sg):Sg:=vnx mac (g2 σ)
def g4 (σ:Sg):Sg:=vnx mac (g3 σ)
def g5 (σ:Sg):Sg:=vnx mac (g4 σ)
def g6 (σ:Sg):Sg:=vnx key (g5 σ)
def g7 (σ:Sg):Sg:=must wDrain (g6 σ)
def g8 (σ:Sg):Sg:=vnx n32 (g7 σ)
def gwC (σ:Sg):Cgf:=⟨nv (val ip (g1 σ)),m6 (val mac (g2 σ)),m6 (val mac (g3 σ)),m6 (val mac (g4 σ)),k8 (val key (g5 σ)),nv (val n32 (g7 σ)),[]⟩
def t1 (σ:Sg):Sg:=vnx nm σ
def t2 (σ:Sg):Sg:=must wVni (t1 σ)
def t3 (σ:Sg):Sg:=vnx n24 (t2 σ)
def t4 (σ:Sg):Sg:=must wKey (t3 σ)
def t5 (σ:Sg):Sg:=vnx key (t4 σ)
def t6 (σ:Sg):Sg:=must wVtep (t5 σ)
def t7 (σ:Sg):Sg:=vnx ip (t6 σ)
def t8 (σ:Sg):Sg:=vnx mac (t7 σ)
def t9 (σ:Sg):Sg:=must wHost (t8 σ)
def tnS (σ:Sg):Sg:=vnx mac (t9 σ)
def tnT (σ:Sg):Ten:={ ten0 with name:=(wd σ).1,vni:=nv (val n24 (t2 σ)),key:=k8 (val key (t4 σ)),vtep:=nv (val ip (t6 σ)),vmac:=m6 (val mac (t7 σ)),host:=m6 (val mac (t9 σ)) }
def pl:List Wd→Nat→Option Nat→List Int×Sg
 | [],fin,bad=>([],⟨[],fin,bad⟩)
 | w::r,fin,some a=>([],⟨w::r,fin,some a⟩)
 | w::r,fin,none=>match ip w.1.data.toList with
  | none=>([0],⟨r,fin,some w.2⟩)
  | some n=>((n:Int)::(pl r fin none).1,(pl r fin none).2)
def two2 {α:Type} (f:List UInt8→Option α) (σ:Sg):Sg:=vnx f (vnx f σ)
def ofl (o:Option Nat) (d:Int):Int:=match o with
 | none=>d
 | some n=>(n:Int)
def part (b:Wd) (t:Ten) (σ:Sg):Ten×Sg :=
 if b.1.data.toList=wPool then ({ t with pool:=t.pool++(pl σ.ws σ.fin σ.bad).1 },(pl σ.ws σ.fin σ.bad).2)
 else if b.1.data.toList=wPorts then ({ t with lo:=nv (val n16 σ),hi:=nv (val n16 (vnx n16 σ)) },two2 n16 σ)
 else if b.1.data.toList=wFilter then ({ t with filter:=ofl (val flt σ) t.filter },vnx flt σ)
 else if b.1.data.toList=wStatic then ({ t with stat:=t.stat++[(nv (val ip σ),nv (val ip (vnx ip σ)))] },two2 ip σ)
 else if b.1.data.toList=wTwice then ({ t with twi:=t.twi++[(nv (val ip σ),nv (val ip (vnx ip σ)))] },two2 ip σ)
 else if b.1.data.toList=wQuota then ({ t with sess:=nv (val n16 σ),queue:=nv (val n16 (vnx n16 σ)) },two2 n16 σ)
 else if b.1.data.toList=wRate then ({ t with rate:=nv (val n32 σ),burst:=nv (val n32 (vnx n32 σ)) },two2 n32 σ)
 else (t,σ.fail b.2)
def ln (c:Cgf) (σ:Sg):Cgf×Sg :=
 if wt σ=wTenant then ({ c with ten:=c.ten++[tnT (nxt σ)] },tnS (nxt σ))
 else match c.ten.getLast? with
  | none=>(c,(nxt σ).fail (wd σ).2)
  | some t=>({ c with ten:=c.ten.dropLast++[(part (wd σ) t (nxt σ)).1] },(part (wd σ) t (nxt σ)).2)
def rdn (o:Option Cgf) (σ:Sg):Cgf×Sg:=match o with
 | none=>(gwC σ,g8 σ)
 | some c=>ln c σ
end La
end Go.Proofs.YtdigofgjhaakmaaGreatDoor
namespace Go.Proofs.YtdigofgjhaakmaaGreatDoor
open Go.RowKit
open Sm
open Cf
open Df
namespace Df
def yN (s:ByteArray):Hv:=(⟨false,s,ten0⟩,nilV,nilV,nilV)
def yP (s:ByteArray) (z:Tv):Hv:=(⟨true,s,z.1⟩,z.2)
theorem build_n (s:ByteArray) (V:World):(Instr.build 48 #[(1,.string s)]).run Tryz.prog V=.ok (.agg (yc (yN s)).toArray) V:=by kernel_rfl
theorem build_p (s:ByteArray) (z:Tv) (hl:TLen z.1) (V:World):(Instr.build 48 #[(0,.bool true),(1,.string s),(2,tv z)]).run Tryz.prog V=.ok (.agg (yc (yP s z)).toArray) V:=by
 obtain ⟨⟨n,vn,key,vt,vm,ho,po,lo,hi,fi,st,tw,se,qu,ra,bu⟩,p,s',q⟩:=z
 obtain ⟨h1,h2,h3⟩:=hl
 obtain ⟨a,b,c,d,f,g,x,y,rfl⟩:=eight8 h1
 obtain ⟨a1,b1,c1,d1,f1,g1,rfl⟩:=six6 h2
 obtain ⟨a2,b2,c2,d2,f2,g2,rfl⟩:=six6 h3
 kernel_rfl
theorem look_fst (n:List UInt8) (M:List Tv):look nk n (M.map Prod.fst)=(look fk n M).map Prod.fst:=(map_look (f:=fk) (g:=nk) (h:=Prod.fst) (fun _=>rfl) n M).symm
end Df
end Go.Proofs.YtdigofgjhaakmaaGreatDoor
namespace Go.Proofs.YtdigofgjhaakmaaGreatDoor
open Go.RowKit
open Sm
open Cf
open La
theorem Mem.front {w V:World} {K:List (Nat×Obj)} (h:Mem w V K) (o:Obj) {n:Nat} (hn:n=V.heap.size):Mem w (V.alloc o) ((n,o)::K):=(h.push n o hn).perm List.perm_append_comm
def WIn (K:List (Nat×Obj)) (v:Value) (ws:List Wd):Prop:=∃ a c,v=.slice a ws.length c∧ws.length≤c∧c≤9223372036854775807 ∧
 (ws=[]∨∃ b off A T,a=some ⟨b,off,none⟩∧(b,Obj.cells A T (0,0))∈K∧∀ (i:Nat) (x:Wd),ws[i]? = some x→A[off+2 * i]? = some (.string x.1)∧A[off+2 * i+1]? = some (.int .i64 x.2))
theorem WIn.sub {K L:List (Nat×Obj)} {v:Value} {ws:List Wd} (h:WIn K v ws) (hs:∀ p∈K,p∈L):WIn L v ws:=by
 obtain ⟨a,c,h1,h2,h3,h4⟩:=h
 refine ⟨a,c,h1,h2,h3,?_⟩
 rcases h4 with h | ⟨b,off,A,T,e,hm,hc⟩
 ·exact Or.inl h
 ·exact Or.inr ⟨b,off,A,T,e,hs _ hm,hc⟩
def LnS (w V:World) (g:Nat) (post:List Value) (T:TypeId) (σ:Sg) (W K:List (Nat×Obj)):Prop :=
 σ.bad=none∧(∀ x∈σ.ws,x.1.size≤32768)∧∃ v,WIn W v σ.ws∧Mem w V ((g,.cells (v::.int .i64 σ.fin::post).toArray T (0,0))::(K++W))
section
variable {w V V':World} {g:Nat} {post:List Value} {T:TypeId} {σ:Sg} {W K:List (Nat×Obj)}
theorem LnS.mem (h:LnS w V g post T σ W K):Mem w V (K++W):=by
 obtain ⟨-,-,v,-,h⟩:=h;exact h.sub
theorem LnS.all (h:LnS w V g post T σ W K):∃ o,Mem w V ((g,o)::(K++W)):=by
 obtain ⟨-,-,v,-,h⟩:=h;exact ⟨_,h⟩
theorem LnS.after (h:LnS w V g post T σ W K) (hb:Below V.heap.size V V'):LnS w V' g post T σ W K:=by
 obtain ⟨h1,h2,v,h3,h⟩:=h;exact ⟨h1,h2,v,h3,h.after hb⟩
theorem LnS.set (h:LnS w V g post T σ W K) {i n:Nat} {A:Array Value} {t:TypeId} (hi:K[i]? = some (n,.cells A t (0,0))) (j:Nat) (v:Value):LnS w (V.setCell ⟨n,j,none⟩ v) g post T σ W (K.set i (n,.cells (A.setIfInBounds j v) t (0,0))):=by
 obtain ⟨h1,h2,u,h3,h⟩:=h
 have hl:i < K.length:=by
  rcases Nat.lt_or_ge i K.length with h | h
  ·exact h
  ·rw [List.getElem?_eq_none h] at hi;cases hi
 have:=h.set (i+1) (by rw [List.getElem?_cons_succ,List.getElem?_append_left hl];exact hi) j v
 rw [List.set_cons_succ,List.set_append_left _ _ hl] at this
 exact ⟨h1,h2,u,h3,this⟩
theorem LnS.perm {K':List (Nat×Obj)} (h:LnS w V g post T σ W K) (hp:K.Perm K'):LnS w V g post T σ W K':=by
 obtain ⟨h1,h2,v,h3,h⟩:=h
 exact ⟨h1,h2,v,h3,h.perm (List.Perm.cons _ (hp.append_right W))⟩
end
end Go.Proofs.YtdigofgjhaakmaaGreatDoor
namespace Go.Proofs.YtdigofgjhaakmaaGreatDoor
open Go.RowKit
open Ad
namespace La
def tend (ws:List (List UInt8)) (cur:List UInt8):List (List UInt8):=if cur=[] then ws else ws++[cur]
def tln (ws:List (List UInt8)):List (List (List UInt8)):=if ws=[] then [] else [ws]
def tk:List UInt8→List (List UInt8)→List UInt8→Bool→List (List (List UInt8))
 | [],ws,cur,_=>tln (tend ws cur)
 | b::r,ws,cur,m =>
  if b=10 then tln (tend ws cur)++tk r [] [] false
  else if m=true then tk r ws cur true
  else if b=32 then tk r (tend ws cur) [] false
  else if b=35 then tk r (tend ws cur) [] true
  else tk r ws (cur++[b]) false
def wtx (ws:List Wd):List (List UInt8):=ws.map fun w=>w.1.data.toList
def spc (ws:List (List UInt8)):List UInt8:=Lib.join ws [32]++[10]
end La
end Go.Proofs.YtdigofgjhaakmaaGreatDoor
namespace Go.Proofs.YtdigofgjhaakmaaGreatDoor
open Go.RowKit
open Sm
open Cf
open Df
namespace Df
theorem tv_tv {w:World} {z:Tv} (hl:TLen z.1) (hr:Rws w z):TV w (tv z) z.1:=⟨hl,z.2.1,z.2.2.1,z.2.2.2,rfl,hr.1,hr.2.1,hr.2.2⟩
theorem wpList_bld {ops:Array Oper} {rest:List Oper} {o:Oper} {a:Act} {w w':World} {Q:Exit→Act→World→Prop} (hw:Region.wanted o (yielded ops a.tmps)=true) (ty:TypeId) (parts:Array (Nat×Operand)) (ho:o.op=.build ty parts) {vs:Array (Nat×Value)} {v:Value}
  (hr:(Instr.build ty vs).run Tryz.prog w=.ok v w') (hv:(parts.map fun (i,x)=>(i,a.eval x))=vs) (h:wpList Tryz.prog ops Q rest (a.put o.dst v) w'):wpList Tryz.prog ops Q (o::rest) a w :=
 wpList_wanted hw fun _ hK=>by
  subst hv
  unfold Oper.wp execOp
  simp only [ho,Sem.run_bind,hr,Result.andThen_ok,Sem.run_pure]
  exact hK _ _ h
end Df
namespace Df
theorem res_cell_tmp {fn:Func} {p q:Tmp} {ty:TypeId} (h:fn.results=#[.cell p ty,.tmp q]) (tmps:Array Value) (w:World) (g:Nat) (cs:Array Value)
  (hp:tmps.getD p undef=.pointer (some ⟨g,0,none⟩)) (hl:(loadVar ty ⟨g,0,none⟩).run Tryz.prog w=.ok (.agg cs) w) :
  (results fn tmps).run Tryz.prog w=.ok (.tuple #[.agg cs,tmps.getD q undef]) w:=by
 have hp':tmps[p]?.getD undef=.pointer (some ⟨g,0,none⟩):=by simpa using hp
 simp [results,h,hp',asAddr,hl]
theorem load_ten {w:World} {g:Nat} {A:Array Value} (h:w.heap[g]? = some (.cells A 46)) (hs:A.size=33):(loadVar 46 ⟨g,0,none⟩).run Tryz.prog w=.ok (.agg A) w:=by
 have hi:(Tryz.prog.info? 46).map (·.size)=some A.size:=by rw [hs];kernel_rfl
 exact run_loadVar_row w g 46 46 A (0,0) _ h Tryz.underlying46 rfl hi
def fnd (ts:List Ten) (n:List UInt8):Ten:=(look nk n ts).getD ten0
theorem look_at {α:Type} {f:α→List UInt8} {n:List UInt8} {l:List α} {i:Nat} (hi:i < l.length) (ha:∀ j (hj:j < i),f (l[j]'(by omega))≠n) (he:f l[i]=n):look f n l=some l[i]:=by
 induction l generalizing i with
 | nil=>cases hi
 | cons x l ih =>
  cases i with
  | zero =>
   simp only [List.getElem_cons_zero] at he
   simp [look,List.find?_cons,he]
  | succ i =>
   have h0:=ha 0 (by omega)
   simp only [List.getElem_cons_zero] at h0
   have:=ih (i:=i) (by simpa using hi) (fun j hj=>by have:=ha (j+1) (by omega);simpa using this) (by simpa using he)
   unfold look at this ⊢
   simp only [List.find?_cons,h0,decide_false]
   simpa using this
theorem name_eq (a b:ByteArray):(a.toList == b.toList)=decide (a.data.toList=b.data.toList):=by
 rw [Lib.toList_data,Lib.toList_data]
 by_cases h:a.data.toList=b.data.toList
 ·simp [h]
 ·rw [decide_eq_false h]
  exact beq_eq_false_iff_ne.2 h
theorem name_ne {a b:ByteArray} (h:a.data.toList≠b.data.toList):(a.toList == b.toList)=false:=by rw [name_eq];exact decide_eq_false h
theorem name_yes {a b:ByteArray} (h:a.data.toList=b.data.toList):(a.toList == b.toList)=true:=by rw [name_eq];exact decide_eq_true h
theorem find_any {w:World} {v:Value} {zs:List Tv} (hz:ZV w v zs) (hzn:∀ z∈zs,Nf z.1) (s:ByteArray) (hm:zs.length≤1000) :
  Calls Tryz.prog 76 #[v,.string s] w fun e V=>∃ A,e=.returned (.tuple #[.agg A,.bool (look nk s.data.toList (zs.map Prod.fst)).isSome])∧TV V (.agg A) (fnd (zs.map Prod.fst) s.data.toList)∧Below w.heap.size w V:=by
 obtain ⟨sa,sc,rfl,hlc,hcb,hx⟩:=hz.parts
 have HX:Hid (∀ i (hi:i < zs.length),(∃ b off,sa=some ⟨b,off,none⟩∧∀ V,Below w.heap.size w V→V.rangeAt b (off+i * 33) (zc zs[i]))∧TLen zs[i].1∧(zc zs[i]).toArray.all (·.oneCell')=true∧∀ V,Below w.heap.size w V→Calls Tryz.prog 79 #[.agg (zc zs[i]).toArray] V fun e V'=>∃ z' C,e=.returned (tv z')∧z'.1=zs[i].1∧ZB z' C∧Mem V V' C):=by
  intro i hi
  have hm:=List.getElem_mem hi
  exact ⟨hx i hi,(hz.each _ hm).1,zc_all (hz.each _ hm).2,fun V hV=>copied_any (hz.each _ hm).1 (Rws.at_ (hz.each _ hm).2 hV) (hzn _ hm).2⟩
 have HS:Hid (∀ i (hi:i < zs.length),(∀ j (hj:j < i),fk (zs[j]'(by omega))≠s.data.toList)→fk zs[i]=s.data.toList→(look nk s.data.toList (zs.map Prod.fst)).isSome=true∧fnd (zs.map Prod.fst) s.data.toList=zs[i].1):=by
  intro i hi h1 h2
  have:=look_at (f:=fk) hi h1 h2
  unfold fnd
  rw [look_fst,this]
  exact ⟨rfl,rfl⟩
 have HN:Hid ((∀ j (hj:j < zs.length),fk (zs[j]'(by omega))≠s.data.toList)→(look nk s.data.toList (zs.map Prod.fst)).isSome=false∧fnd (zs.map Prod.fst) s.data.toList=ten0):=by
  intro h1
  have:look fk s.data.toList zs=none:=look_none.2 fun x hx=>by
   obtain ⟨j,hj,rfl⟩:=List.mem_iff_getElem.1 hx
   exact h1 j hj
  unfold fnd
  rw [look_fst,this]
  exact ⟨rfl,rfl⟩
 clear hx hz hzn
 generalize (look nk s.data.toList (zs.map Prod.fst)).isSome=OK at *
 generalize fnd (zs.map Prod.fst) s.data.toList=T at *
 obtain ⟨N,hN⟩:∃ N,zs.length=N:=⟨_,rfl⟩
 rw [hN] at hlc hm
 simp only [hN] at HX HS HN ⊢
 obtain ⟨g,hg⟩:∃ g,w.heap.size=g:=⟨_,rfl⟩
 have HM0:Hid (Mem w (w.alloc (.cells tz 46)) [(g,.cells tz 46)]):=(Mem.nil w).push1 hg.symm
 go_enter Tryz.func76,Tryz.ntmps76
 go_upto_region 1 with fail
 refine wp_letter (fun X=>Mem w X [(g,.cells tz 46)]) (by exact HM0.out) ?_
 intro V0 hM0
 try simp only [hg]
 have H0:Hid (Mem w V0 [(g,.cells tz 46)]):=hM0
 clear HM0 hM0
 go_wp2_with fail
 go_loopw [10] (fun u10 w'=>∃ i:Nat,i≤N∧u10=.int .i64 i∧Hid (Mem w w' [(g,.cells tz 46)]∧∀ j (hj:j < i) (hj':j < zs.length),fk (zs[j]'hj')≠s.data.toList)) (fun u10 w'=>N - (intOf u10).toNat)
 case atStart=>exact ⟨0,Nat.zero_le _,rfl,H0.out,fun j hj=>absurd hj (by omega)⟩
 case round =>
  obtain ⟨i,hi,rfl,HR⟩:=hrel
  clear H0
  by_cases hlt:i < N
  ·have h1:(i:Int) < N:=by omega
   obtain ⟨⟨b,off,rfl,hV⟩,hl,ho,hcp⟩:=HX.out i hlt
   have hra:=hV _ HR.out.1.below
   have hSi:=HS.out i hlt
   have HRN:=HR.out.2
   clear hV HX HS HN
   have hj':i < zs.length:=by omega
   have HNX:Hid (fk (zs[i]'hj')≠s.data.toList→∀ j (hj:j < i+1) (hj':j < zs.length),fk (zs[j]'hj')≠s.data.toList):=by
    intro hne j hj hj2
    rcases Nat.lt_or_ge j i with h | h
    ·exact HRN j h hj2
    ·obtain rfl:j=i:=by omega
     exact hne
   have HYY:Hid (fk (zs[i]'hj')=s.data.toList→OK=true∧T=(zs[i]'hj').1):=fun he=>hSi (fun j hj=>HRN j hj _) he
   have HCP:Hid (∀ V,Below w.heap.size w V→Calls Tryz.prog 79 #[.agg (zc (zs[i]'hj')).toArray] V fun e V'=>∃ z' C,e=.returned (tv z')∧z'.1=(zs[i]'hj').1∧ZB z' C∧Mem V V' C):=hcp
   clear HRN hSi hcp
   generalize zs[i]'hj'=z at *
   have hi33:(Tryz.prog.info? 46).map (·.size)=some (zc z).length:=by rw [show (zc z).length=33 from tc_len hl _ _ _];kernel_rfl
   have hj33:(Tryz.prog.info? 46).map (·.size)=some (zc z).toArray.size:=by rw [zc_sz hl];kernel_rfl
   have hs33:tz.size=(zc z).toArray.size:=by rw [zc_sz hl];rfl
   obtain ⟨gt,hgt⟩:∃ g,wr.heap.size=g:=⟨_,rfl⟩
   have hk1:(wr.alloc (.cells tz 46)).heap[gt]? = some (.cells tz 46):=by rw [←hgt];exact heap_alloc_new _ _
   have HF:Hid (Mem w ((wr.alloc (.cells tz 46)).setRow gt (zc z).toArray) [(g,.cells tz 46),(gt,.cells (zc z).toArray 46)]):=by
    rw [←hgt,World.setRow_alloc_new]
    exact HR.out.1.push2 rfl
   clear HR
   go_upto_region 4 with (first | (refine wpList_load_mid rfl 46 (.tmp 12) (by with_reducible rfl) b (off+i * 33) (by simp [Act.eval]) (zc z) _ hra Tryz.underlying46 rfl hi33 ?_) | (refine wpList_store_row rfl 46 (.tmp 7) (.tmp 13) (by with_reducible rfl) gt (zc z).toArray (by simp [Act.eval];try exact hgt) (by first | rfl | simp [Act.eval]) 46 tz hk1 hj33 hs33 ho ?_) | fail)
   refine wp_letter (fun X=>Mem w X [(g,.cells tz 46),(gt,.cells (zc z).toArray 46)]) (by exact HF.out) ?_
   intro V1 hM1
   try simp only [hgt]
   clear HF hk1 hra hi33 hs33 ho hgt
   have hc0:V1.cell? ⟨gt,0,none⟩=some (.string z.1.name):=by rw [hM1.cell 1 rfl];exact (tc_at hl _ _ _).1
   have hk:=hM1.get 1 rfl
   have HM1:Hid (Mem w V1 [(g,.cells tz 46),(gt,.cells (zc z).toArray 46)]):=hM1
   clear hM1
   by_cases he:fk z=s.data.toList
   ·have hq:=name_yes (a:=z.1.name) (b:=s) he
    obtain ⟨rfl,rfl⟩:=HYY.out he
    have CC:=HCP.out V1 HM1.out.below
    clear HYY HNX HCP he
    go_wp2_with (first | (refine wpList_load_row_g rfl 46 (.tmp 7) (by with_reducible rfl) gt (by first | rfl | simp [Act.eval]) 46 (zc z).toArray (0,0) _ hk Tryz.underlying46 hj33 ?_) | fail)
    refine CC.mono ?_
    rintro e V2 ⟨z',C',rfl,k1,k2,k3⟩
    have hM2:=HM1.out.join k3
    have hg2:=hM2.get 0 rfl
    have hM3:=hM2.wrote 0 rfl (wrote_setRow V2 g _ (zc z').toArray _ hg2)
    have ho':(zc z').toArray.all (·.oneCell')=true:=by
     have:=zb_one k2
     rw [Array.all_eq_true_iff_forall_mem]
     intro x hx
     exact this x (by simpa using hx)
    have hj3:(Tryz.prog.info? 46).map (·.size)=some (zc z').toArray.size:=by rw [zc_sz k2.1];kernel_rfl
    have hs3:tz.size=(zc z').toArray.size:=by rw [zc_sz k2.1];rfl
    have HQ:Hid ((V2.setRow g (zc z').toArray).heap[g]? = some (.cells (zc z').toArray 46)∧TV (V2.setRow g (zc z').toArray) (.agg (zc z').toArray) z.1∧Below w.heap.size w (V2.setRow g (zc z').toArray)):=by
     refine ⟨hM3.get 0 rfl,?_,hM3.below⟩
     rw [←k1]
     have hC:∀ x∈C',(V2.setRow g (zc z').toArray).heap[x.1]? = some x.2:=fun x hx=>hM3.at_ x (by simp [hx])
     exact tv_tv k2.1 (zb_rws k2 hC).2
    have hz33:=zc_sz k2.1
    have etv:tv z'=.agg (zc z').toArray:=rfl
    rw [etv]
    generalize (zc z').toArray=A' at *
    clear CC k1 k2 k3 hM2 hM3 HM1 hk hc0 hj33 hl etv
    go_wp2_with (first | (refine wpList_store_row rfl 46 (.tmp 4) (.tmp 19) (by with_reducible rfl) g A' (by first | rfl | simp [Act.eval]) (by first | rfl | simp [Act.eval]) 46 tz hg2 hj3 hs3 ho' ?_) | fail)
    refine bodyPost_ret (v:=.tuple #[.agg A',.bool true]) ?_ rfl ⟨A',rfl,HQ.out.2.1,by first | exact HQ.out.2.2 | (have hq2:=HQ.out.2.2;rw [hg] at hq2;exact hq2)⟩
    exact res_cell_tmp (p:=4) (q:=5) (ty:=46) rfl _ _ g A' rfl (load_ten HQ.out.1 hz33)
   ·have hq:=name_ne (a:=z.1.name) (b:=s) he
    have HF:Hid (Mem w V1 [(g,.cells tz 46)]∧∀ j (hj:j < i+1) (hj':j < zs.length),fk (zs[j]'hj')≠s.data.toList):=⟨HM1.out.subl (by simp),HNX.out he⟩
    clear HYY HNX HCP he hk HM1
    go_wp2_with fail
    go_roundw
    case rel=>exact ⟨i+1,by omega,by go_num,HF⟩
    case measure=>simp [intOf];omega
  ·have h1:¬ ((i:Int) < N):=by omega
   obtain rfl:i=N:=by omega
   obtain ⟨rfl,rfl⟩:=HN.out fun j hj=>HR.out.2 j hj _
   have hM:=HR.out.1
   have hgz:=hM.get 0 rfl
   have hM3:=hM.wrote 0 rfl (wrote_setRow wr g _ tz _ hgz)
   have hj3:(Tryz.prog.info? 46).map (·.size)=some tz.size:=by kernel_rfl
   have ho':tz.all (·.oneCell')=true:=by kernel_rfl
   have HQ:Hid ((wr.setRow g tz).heap[g]? = some (.cells tz 46)∧TV (wr.setRow g tz) (.agg tz) ten0∧Below w.heap.size w (wr.setRow g tz)):=by
    refine ⟨hM3.get 0 rfl,⟨ten0_len,nilV,nilV,nilV,rfl,⟨none,0,rfl,Nat.le_refl _,by omega,fun _=>rfl,Or.inl rfl⟩,⟨none,0,rfl,Nat.le_refl _,by omega,fun _=>rfl,Or.inl rfl⟩,⟨none,0,rfl,Nat.le_refl _,by omega,fun _=>rfl,Or.inl rfl⟩⟩,hM3.below⟩
   have hbz:∀ V:World,(Instr.build 46 #[]).run Tryz.prog V=.ok (.agg tz) V:=fun V=>by kernel_rfl
   have hb1:=hbz wr
   have htz:tz.size=tz.size:=rfl
   have hsz:tz.size=33:=rfl
   clear HX HS HN HR hM hM3 hbz
   generalize htt:tz=A' at *
   clear htt
   go_wp2_with (first | (refine wpList_bld rfl 46 _ (by with_reducible rfl) hb1 (by first | kernel_rfl | rfl | simp [Act.eval]) ?_) | (refine wpList_store_row rfl 46 (.tmp 4) (.tmp 21) (by with_reducible rfl) g A' (by first | rfl | simp [Act.eval]) (by first | rfl | simp [Act.eval]) 46 A' hgz hj3 htz ho' ?_) | fail)
   refine bodyPost_ret (v:=.tuple #[.agg A',.bool false]) ?_ rfl ⟨A',rfl,HQ.out.2.1,by first | exact HQ.out.2.2 | (have hq2:=HQ.out.2.2;rw [hg] at hq2;exact hq2)⟩
   exact res_cell_tmp (p:=4) (q:=5) (ty:=46) rfl _ _ g A' rfl (load_ten HQ.out.1 hsz)
end Df
end Go.Proofs.YtdigofgjhaakmaaGreatDoor
namespace Go.Proofs.YtdigofgjhaakmaaGreatDoor
open Go.RowKit
open Sm
open Cf
def Has (V:World) (K:List (Nat×Obj)):Prop:=∀ x∈K,V.heap[x.1]? = some x.2
def On (w:World) (K:List (Nat×Obj)) (P:World→Prop):Prop:=∀ V,Below w.heap.size w V→Has V K→P V
section
variable {w W V:World} {K L:List (Nat×Obj)} {P Q:World→Prop}
theorem On.mem (h:On w K P) (hM:Mem w V L) (hs:∀ x∈K,x∈L):P V:=h V hM.below fun x hx=>hM.at_ x (hs x hx)
theorem On.more (h:On w K P) (hs:∀ x∈K,x∈L):On w L P:=fun V hb hV=>h V hb fun x hx=>hV x (hs x hx)
theorem On.imp (h:On w K P) (hq:∀ V,P V→Q V):On w K Q:=fun V hb hV=>hq V (h V hb hV)
theorem On.left (h:On w K P):On w (K++L) P:=h.more fun x hx=>List.mem_append_left _ hx
def nws (n:Nat) (V:World):List (Nat×Obj):=(List.range' n (V.heap.size - n)).map fun b=>(b,(V.heap[b]?).getD (.cells #[] 0))
theorem nws_in {n b:Nat} {o:Obj} (hb:n≤b) (h:V.heap[b]? = some o):(b,o)∈nws n V:=by
 have hl:=(Array.getElem?_eq_some_iff.mp h).1
 refine List.mem_map.mpr ⟨b,?_,by rw [h];rfl⟩
 rw [List.mem_range'_1];omega
theorem nws_out {n:Nat} {x:Nat×Obj} (h:x∈nws n V):n≤x.1∧V.heap[x.1]? = some x.2:=by
 obtain ⟨b,hb,rfl⟩:=List.mem_map.mp h
 rw [List.mem_range'_1] at hb
 refine ⟨hb.1,?_⟩
 have hl:b < V.heap.size:=by omega
 simp [hl]
theorem nws_mem (hb:Below W.heap.size W V):Mem W V (nws W.heap.size V):=by
 refine ⟨hb,fun x hx=>(nws_out hx).1,fun x hx=>(nws_out hx).2,?_⟩
 unfold nws
 rw [List.map_map]
 have e:∀ l:List Nat,l.map (Prod.fst ∘ fun b=>(b,(V.heap[b]?).getD (Obj.cells #[] 0)))=l:=fun l=>by induction l with
  | nil=>rfl
  | cons a l ih=>rw [List.map_cons,ih];rfl
 rw [e]
 exact List.nodup_range' 1 (by omega)
theorem CVs.on {n:Nat} {v:Value} {c:Cgf} (h:CVs n V v c) (hn:w.heap.size≤n):On w (nws n V) fun X=>CV X v c:=by
 intro X hb hX
 refine h w X hn hb fun b h1 h2=>?_
 have e:V.heap[b]? = some V.heap[b]:=Array.getElem?_eq_getElem h2
 rw [e]
 exact hX _ (nws_in h1 e)
theorem tsb_on {u:Value} {ts:List Ten} {B C:List (Nat×Obj)} (h:TsB u ts B C) (hB:∀ x∈B++C,x∈K):On w K fun X=>TSV X u ts:=fun X _ hX=>tsb_tsv h fun x hx=>hX x (hB x hx)
theorem Mem.more (h:Mem w W L) (k:Mem W V K):Mem w V (K++L):=(h.join k).perm List.perm_append_comm
end
theorem mem_mid {w:World} {b:Nat} {t:TypeId} {K:List (Nat×Obj)} {post:List Value}:∀ (vs mid pre:List Value) (V:World),mid.length=vs.length→Mem w V ((b,.cells (pre++(mid++post)).toArray t (0,0))::K)→Mem w (V.setCells b pre.length vs) ((b,.cells (pre++(vs++post)).toArray t (0,0))::K)
 | [],mid,pre,V,h,hM=>by
  have:mid=[]:=List.eq_nil_of_length_eq_zero h
  subst this
  exact hM
 | v::vs,[],pre,V,h,hM=>by simp at h
 | v::vs,m::mid,pre,V,h,hM=>by
  have h1:=hM.set 0 rfl pre.length v
  have hs:(pre++(m::mid++post)).toArray.setIfInBounds pre.length v=((pre++[v])++(mid++post)).toArray:=by
   rw [List.setIfInBounds_toArray,List.set_append_right _ _ (Nat.le_refl _),Nat.sub_self,List.cons_append,List.set_cons_zero,List.append_assoc]
   rfl
  simp only [List.set_cons_zero] at h1
  rw [hs] at h1
  have h2:=mem_mid vs mid (pre++[v]) _ (by simpa using h) h1
  rw [List.length_append,List.length_cons,List.length_nil,List.append_assoc] at h2
  exact h2
theorem mem_there {w V:World} {b:Nat} {t:TypeId} {K:List (Nat×Obj)} {A:Array Value} (hM:Mem w V ((b,.cells A t (0,0))::K)) {o n:Nat} (h:o+n≤A.size):V.there b o n:=fun j hj=>by
 refine ⟨?_,hM.free 0 rfl _⟩
 rw [hM.cell 0 rfl,Array.getElem?_eq_getElem (show o+j < A.size by omega)]
 rfl
theorem pc9 {L R:List (Nat×Obj)} {p q r:Nat×Obj} {A X K:List (Nat×Obj)} (h:R=p::q::(A++(r::(X++K)))):(p::q::(A++(r::(X++(L++K))))).Perm (L++R):=by
 subst h
 classical
 rw [List.perm_iff_count]
 intro z
 simp only [List.count_cons,List.count_append]
 omega
section
variable {w W:World} {p h m N:Nat} {D:Dk} {pl:Nat} {B:Int} {all:List (List Int)} {L:List (Nat×Obj)}
theorem Sy.frame (H:Sy w W p h m N D pl B all L):∃ R,Mem w W (L++R)∧∀ W' L',Mem w W' (L'++R)→Sy w W' p h m N D pl B all L':=by
 obtain ⟨hc,ks,v,X,K,h1,h2,h3,h4⟩:=H.at_
 refine ⟨_,h1.st.mem.perm (pc9 rfl),fun W' L' hM=>⟨hc,ks,v,X,K,⟨⟨hM.perm (pc9 rfl).symm,h1.st.heads,h1.st.ok⟩,h1.pos,h1.top,h1.mlo,h1.mhi,h1.left,h1.pre⟩,h2,h3,h4⟩⟩
theorem So.frame (H:So w W p h m N D pl L):∃ R,Mem w W (L++R)∧∀ W' L',Mem w W' (L'++R)→So w W' p h m N D pl L':=by
 obtain ⟨hc,ks,t,c,v,K,h1,h2⟩:=H.at_
 have h1':DkAt w W p h m D hc ks ((pl,.cells (lgA p t c v) lgT (0,0))::([]++(L++K))):=h1
 refine ⟨_,h1'.st.mem.perm (pc9 rfl),fun W' L' hM=>⟨hc,ks,t,c,v,K,⟨⟨hM.perm (pc9 (X:=[]) rfl).symm,h1.st.heads,h1.st.ok⟩,h1.pos,h1.top,h1.mlo,h1.mhi,h1.left,h1.pre⟩,h2⟩⟩
theorem pc8 {L R:List (Nat×Obj)} {p q:Nat×Obj} {A K:List (Nat×Obj)} (h:R=p::q::(A++K)):(p::q::(A++(L++K))).Perm (L++R):=by
 subst h
 classical
 rw [List.perm_iff_count]
 intro z
 simp only [List.count_cons,List.count_append]
 omega
theorem Sd.frame (H:Sd w W p h m N D B all L):∃ R,Mem w W (L++R)∧∀ W' L',Mem w W' (L'++R)→Sd w W' p h m N D B all L':=by
 obtain ⟨hc,ks,K,h1,h2,h3⟩:=H.at_
 refine ⟨_,h1.st.mem.perm (pc8 rfl),fun W' L' hM=>⟨hc,ks,K,⟨⟨hM.perm (pc8 rfl).symm,h1.st.heads,h1.st.ok⟩,h1.pos,h1.top,h1.mlo,h1.mhi,h1.left,h1.pre⟩,h2,h3⟩⟩
theorem Sy.mem (H:Sy w W p h m N D pl B all L):Mem w W L:=by
 obtain ⟨R,hM,-⟩:=H.frame
 exact ⟨hM.below,fun x hx=>hM.low x (List.mem_append_left _ hx),fun x hx=>hM.at_ x (List.mem_append_left _ hx),(List.nodup_append.mp (by rw [←List.map_append];exact hM.apart)).1⟩
end
end Go.Proofs.YtdigofgjhaakmaaGreatDoor
namespace Go.Proofs.YtdigofgjhaakmaaGreatDoor
open Go.RowKit
open Va
theorem within_u32 (w:World) (n a b:Int):Calls Tryz.prog 171 #[.int .u32 n,.int .u32 a,.int .u32 b] w fun e w'=>e=.returned (.bool (wi n a b))∧w=w':=by
 unfold wi
 by_cases h1:a≤n
 ·by_cases h2:n≤b
  ·have d1:decide (a≤n)=true:=decide_eq_true h1
   have d2:decide (n≤b)=true:=decide_eq_true h2
   rw [d1,d2]
   go_enter Tryz.func171,Tryz.ntmps171
   go_wp2_with fail
   go_ret
   exact ⟨by simp <;> rfl,rfl⟩
  ·have d1:decide (a≤n)=true:=decide_eq_true h1
   have d2:decide (n≤b)=false:=decide_eq_false h2
   rw [d1,d2]
   go_enter Tryz.func171,Tryz.ntmps171
   go_wp2_with fail
   go_ret
   exact ⟨by simp <;> rfl,rfl⟩
 ·have d1:decide (a≤n)=false:=decide_eq_false h1
  rw [d1,Bool.false_and]
  go_enter Tryz.func171,Tryz.ntmps171
  go_wp2_with fail
  go_ret
  exact ⟨by simp <;> rfl,rfl⟩
theorem within_u16 (w:World) (n a b:Int):Calls Tryz.prog 176 #[.int .u16 n,.int .u16 a,.int .u16 b] w fun e w'=>e=.returned (.bool (wi n a b))∧w=w':=by
 unfold wi
 by_cases h1:a≤n
 ·by_cases h2:n≤b
  ·have d1:decide (a≤n)=true:=decide_eq_true h1
   have d2:decide (n≤b)=true:=decide_eq_true h2
   rw [d1,d2]
   go_enter Tryz.func176,Tryz.ntmps176
   go_wp2_with fail
   go_ret
   exact ⟨by simp <;> rfl,rfl⟩
  ·have d1:decide (a≤n)=true:=decide_eq_true h1
   have d2:decide (n≤b)=false:=decide_eq_false h2
   rw [d1,d2]
   go_enter Tryz.func176,Tryz.ntmps176
   go_wp2_with fail
   go_ret
   exact ⟨by simp <;> rfl,rfl⟩
 ·have d1:decide (a≤n)=false:=decide_eq_false h1
  rw [d1,Bool.false_and]
  go_enter Tryz.func176,Tryz.ntmps176
  go_wp2_with fail
  go_ret
  exact ⟨by simp <;> rfl,rfl⟩
theorem within_int (w:World) (n a b:Int):Calls Tryz.prog 178 #[.int .i64 n,.int .i64 a,.int .i64 b] w fun e w'=>e=.returned (.bool (wi n a b))∧w=w':=by
 unfold wi
 by_cases h1:a≤n
 ·by_cases h2:n≤b
  ·have d1:decide (a≤n)=true:=decide_eq_true h1
   have d2:decide (n≤b)=true:=decide_eq_true h2
   rw [d1,d2]
   go_enter Tryz.func178,Tryz.ntmps178
   go_wp2_with fail
   go_ret
   exact ⟨by simp <;> rfl,rfl⟩
  ·have d1:decide (a≤n)=true:=decide_eq_true h1
   have d2:decide (n≤b)=false:=decide_eq_false h2
   rw [d1,d2]
   go_enter Tryz.func178,Tryz.ntmps178
   go_wp2_with fail
   go_ret
   exact ⟨by simp <;> rfl,rfl⟩
 ·have d1:decide (a≤n)=false:=decide_eq_false h1
  rw [d1,Bool.false_and]
  go_enter Tryz.func178,Tryz.ntmps178
  go_wp2_with fail
  go_ret
  exact ⟨by simp <;> rfl,rfl⟩
theorem unlike_any {w:World} {v:Value} {l:List Int} (h:Rw w 1 v (ux l)) (hb:l.length≤1000000) :
  Calls Tryz.prog 174 #[v] w fun e w'=>e=.returned (.bool (unl l))∧w=w':=by
 have h0:=h
 obtain ⟨a,c,rfl,hlc,hcb,hx⟩:=rw_u h
 have HX:Hid (∀ i,i < l.length→∃ b off,a=some ⟨b,off,none⟩∧w.cell? ⟨b,off+i,none⟩=some (.int .u32 (l.getD i 0))):=by
  intro i hi
  obtain ⟨b,off,h1,h2⟩:=hx i hi
  exact ⟨b,off,h1,h2 _ (Below.refl _ _)⟩
 have HC:Hid (∀ i,i < l.length→∀ x,Calls Tryz.prog 166 #[.slice a i c,.int .u32 x] w fun e w'=>e=.returned (.bool (hs (l.take i) x))∧w=w'):=by
  intro i hi x
  have hl:(ux l).length=l.length:=by simp [ux]
  have:=h0.head i (by omega)
  rw [ux_take] at this
  exact contains_u this (by simp;omega) x
 obtain ⟨R,hR⟩:∃ R,unl l=R:=⟨_,rfl⟩
 rw [hR]
 have HY:Hid (∀ i,i < l.length→bad l i→R=false):=fun i hi hbd=>by rw [←hR];exact decide_eq_false (fun h=>h i hi hbd)
 have HE:Hid ((∀ j,j < l.length→¬ bad l j)→R=true):=fun h=>by rw [←hR];exact decide_eq_true h
 have H0:Hid ((∀ j,j < 0→¬ bad l j)∧w=w):=⟨fun j hj=>absurd hj (by omega),rfl⟩
 clear h hx h0 hR
 generalize l.length=n at *
 go_enter Tryz.func174,Tryz.ntmps174
 go_wp2_with fail
 go_loopw [7] (fun u7 w'=>∃ i:Nat,i≤n∧u7=.int .i64 i∧Hid ((∀ j,j < i→¬ bad l j)∧w=w')) (fun u7 w'=>n - (intOf u7).toNat)
 case atStart=>exact ⟨0,Nat.zero_le _,rfl,H0.out.1,rfl⟩
 case round =>
  obtain ⟨i,hi,rfl,HR⟩:=hrel
  obtain ⟨hall,rfl⟩:=HR.out
  by_cases hlt:i < n
  ·have h1:(i:Int) < n:=by omega
   obtain ⟨b,off,rfl,d0⟩:=HX.out i hlt
   have HY1:Hid ((l.getD i 0=0∨hs (l.take i) (l.getD i 0)=true)→R=false):=HY.out i hlt
   have HN1:Hid (¬ (l.getD i 0=0∨hs (l.take i) (l.getD i 0)=true)→∀ j,j < i+1→¬ bad l j):=by
    intro hn j hj
    rcases Nat.lt_or_ge j i with h | h
    ·exact hall j h
    ·obtain rfl:j=i:=by omega
     exact hn
   have C:=HC.out i hlt (l.getD i 0)
   clear HX HY HE H0 HR HC hall
   generalize l.getD i 0=x at *
   generalize hs (l.take i) x=B at *
   have q1:(i:Int)≤c:=by omega
   by_cases hx0:x=0
   ·obtain rfl:=HY1.out (Or.inl hx0)
    subst hx0
    clear HY1 HN1
    go_wp2_with fail
    go_ret
    exact ⟨rfl,rfl⟩
   ·have hx1:(x == 0)=false:=by simp [hx0]
    cases B with
    | true =>
     obtain rfl:=HY1.out (Or.inr rfl)
     clear HY1 HN1
     go_wp2_with fail
     refine C.mono ?_
     rintro _ _ ⟨rfl,rfl⟩
     go_wp2_with fail
     go_ret
     exact ⟨rfl,rfl⟩
    | false =>
     have HF:Hid ((∀ j,j < i+1→¬ bad l j)∧True):=⟨HN1.out (by simp [hx0]),trivial⟩
     clear HY1 HN1
     go_wp2_with fail
     refine C.mono ?_
     rintro _ _ ⟨rfl,rfl⟩
     go_wp2_with fail
     go_roundw
     case rel=>exact ⟨i+1,by omega,by go_num,HF⟩
     case measure=>simp [intOf];omega
  ·have h1:¬ ((i:Int) < n):=by omega
   obtain rfl:i=n:=by omega
   obtain rfl:=HE.out hall
   clear HX HY HE H0 HR HC hall
   go_wp2_with fail
   go_ret
   exact ⟨rfl,rfl⟩
def PrF (W:World) (k:Nat) (caps:Array Value) (f:Int×Int→Int):Prop:=Enr k∧∀ x y,Clo W k caps #[.agg #[.int .u32 x,.int .u32 y]] (.int .u32 (f (x,y)))
theorem first1_any (W:World):PrF W 262 #[] Prod.fst:=by
 refine ⟨enters_of Tryz.func262 (by kernel_rfl) rfl,fun x y V hV=>?_⟩
 simp only [List.append_toArray,List.cons_append,List.nil_append,Array.append_empty]
 go_enter Tryz.func262,Tryz.ntmps262
 go_wp2_with fail
 go_ret
 exact ⟨rfl,(Below.refl _ _).alloc (Nat.le_refl _) _⟩
theorem second1_any (W:World):PrF W 263 #[] Prod.snd:=by
 refine ⟨enters_of Tryz.func263 (by kernel_rfl) rfl,fun x y V hV=>?_⟩
 simp only [List.append_toArray,List.cons_append,List.nil_append,Array.append_empty]
 go_enter Tryz.func263,Tryz.ntmps263
 go_wp2_with fail
 go_ret
 exact ⟨rfl,(Below.refl _ _).alloc (Nat.le_refl _) _⟩
def sof (f:Int×Int→Int) (l:List (Int×Int)) (i:Nat):List Value:=((l.take i).map f).map (Value.int .u32)++List.replicate (l.length - i) (.int .u32 0)
theorem sof_zero (f:Int×Int→Int) (l:List (Int×Int)):(madeCells #[.int .u32 0] l.length)=(sof f l 0).toArray:=by
 apply Array.toList_inj.mp
 rw [toList_madeCells_one]
 simp [sof]
theorem sof_len (f:Int×Int→Int) (l:List (Int×Int)) (i:Nat) (hi:i≤l.length):(sof f l i).length=l.length:=by simp [sof];omega
theorem sof_step (f:Int×Int→Int) (l:List (Int×Int)) (i:Nat) (hi:i < l.length):(sof f l i).toArray.setIfInBounds i (.int .u32 (f (l.getD i (0,0))))=(sof f l (i+1)).toArray:=by
 rw [List.setIfInBounds_toArray]
 congr 1
 have e1:l.length - i=(l.length - (i+1))+1:=by omega
 have e2:l.take (i+1)=l.take i++[l.getD i (0,0)]:=by rw [List.take_add_one];simp [List.getD,List.getElem?_eq_getElem hi]
 have hl:(((l.take i).map f).map (Value.int .u32)).length=i:=by simp;omega
 unfold sof
 rw [e1,List.replicate_succ,List.set_append_right _ _ (by omega),hl,Nat.sub_self,List.set_cons_zero,e2]
 simp
theorem sof_end (f:Int×Int→Int) (l:List (Int×Int)):sof f l l.length=(l.map f).map (Value.int .u32):=by simp [sof]
theorem make_u32 (n:Nat) (h:n≤1000000) (w:World):(Instr.makeSlice 43 (.int .i64 (n:Int)) (.int .i64 (n:Int))).run Tryz.prog w=.ok (.slice (some ⟨w.heap.size,0,none⟩) n n) (w.alloc (.cells (madeCells #[.int .u32 0] n) 33)) :=
 run_make_row' 43 33 (.int .u32 0) 4 Tryz.underlying43 infoU rfl .i64 .i64 n (by omega) (by omega) w
theorem rw_own {V:World} {g:Nat} {xs:List Int} (h:V.heap[g]? = some (.cells (xs.map (Value.int .u32)).toArray 33)) (hl:xs.length≤1000000):Rw V 1 (.slice (some ⟨g,0,none⟩) xs.length xs.length) (ux xs):=by
 have hk:(ux xs).length=xs.length:=by simp [ux]
 refine ⟨some ⟨g,0,none⟩,xs.length,by rw [hk],by omega,by omega,(fun e=>by cases e),Or.inr ⟨g,0,rfl,fun i hi j u hu=>?_⟩⟩
 rw [hk] at hi
 have e:(ux xs).getD i []=[.int .u32 xs[i]]:=by simp [ux,List.getD,List.getElem?_eq_getElem hi]
 rw [e] at hu
 have hj:j=0:=by
  rcases j with _ | j
  ·rfl
  ·simp at hu
 subst hj
 simp at hu
 subst hu
 rw [cell_of h]
 simp [List.getElem?_eq_getElem hi]
theorem each_any {w:World} {v:Value} {l:List (Int×Int)} (h:Rw w 2 v (px l)) (hb:l.length≤1000000) {k:Nat} {caps:Array Value} {f:Int×Int→Int} (hf:PrF w k caps f) :
  Calls Tryz.prog 261 #[v,.func (.func k) #[] caps] w fun e w'=>∃ u,e=.returned u∧Rw w' 1 u (ux (l.map f))∧Below w.heap.size w w':=by
 obtain ⟨a,c,rfl,hlc,hcb,hx⟩:=rw_p h
 have HX:Hid (∀ i,i < l.length→∃ b off,a=some ⟨b,off,none⟩∧∀ V,Below w.heap.size w V→V.cell? ⟨b,off+i * 2,none⟩=some (.int .u32 (l.getD i (0,0)).1)∧V.cell? ⟨b,off+i * 2+1,none⟩=some (.int .u32 (l.getD i (0,0)).2)):=hx
 obtain ⟨g,hg⟩:∃ g,w.heap.size=g:=⟨_,rfl⟩
 have hmk:=make_u32 l.length hb w
 have hM0:Mem w (w.alloc (.cells (madeCells #[.int .u32 0] l.length) 33)) [(g,.cells (sof f l 0).toArray 33)]:=by rw [sof_zero f];exact (Mem.nil w).push1 hg.symm
 have HS:Hid (∀ i,i < l.length→(sof f l i).toArray.setIfInBounds i (.int .u32 (f (l.getD i (0,0))))=(sof f l (i+1)).toArray):=sof_step f l
 have HL:Hid (∀ i,i≤l.length→(sof f l i).length=l.length):=sof_len f l
 have HE:Hid (∀ V,Mem w V [(g,.cells (sof f l l.length).toArray 33)]→Rw V 1 (.slice (some ⟨g,0,none⟩) l.length l.length) (ux (l.map f))):=by
  intro V hV
  rw [sof_end] at hV
  have:=rw_own (hV.get 0 rfl) (by simpa using hb)
  rwa [List.length_map] at this
 have eg:∀ args V,(callFunc k args).run Tryz.prog V=.ok (.enter k args) V:=hf.1
 have HC:Hid (PrF w k caps f):=hf
 clear h hx hf
 generalize hn:l.length=n at *
 go_enter Tryz.func261,Tryz.ntmps261
 go_upto_region 2 with fail
 refine wp_letter (fun X=>Mem w X [(g,.cells (sof f l 0).toArray 33)]) (by exact hM0) ?_
 intro V0 hM
 try simp only [hg]
 have HM:Hid (Mem w V0 [(g,.cells (sof f l 0).toArray 33)]):=hM
 clear hM0 hmk hM hg
 go_wp2_with fail
 go_loopw [13] (fun u13 w'=>∃ i:Nat,i≤n∧u13=.int .i64 i∧Hid (Mem w w' [(g,.cells (sof f l i).toArray 33)])) (fun u13 w'=>n - (intOf u13).toNat)
 case atStart=>exact ⟨0,Nat.zero_le _,rfl,HM⟩
 case round =>
  obtain ⟨i,hi,rfl,HR⟩:=hrel
  by_cases hlt:i < n
  ·have h1:(i:Int) < n:=by omega
   obtain ⟨b,off,rfl,hd⟩:=HX.out i hlt
   obtain ⟨d0,d1⟩:=hd _ HR.out.below
   obtain ⟨⟨y1,y2⟩,hy⟩:∃ y,l.getD i (0,0)=y:=⟨_,rfl⟩
   have HS1:=HS.out i hlt
   rw [hy] at d0 d1 HS1
   simp only at d0 d1
   obtain ⟨gp,hgp⟩:∃ gp,wr.heap.size=gp:=⟨_,rfl⟩
   have HM2:Hid (Mem w (wr.alloc (.cells #[.int .u32 y1,.int .u32 y2] 122)) [(gp,.cells #[.int .u32 y1,.int .u32 y2] 122),(g,.cells (sof f l i).toArray 33)]):=HR.out.front (.cells #[.int .u32 y1,.int .u32 y2] 122) hgp.symm
   have HC1:Hid (∀ V,Below w.heap.size w V→Calls Tryz.prog k (#[.agg #[.int .u32 y1,.int .u32 y2]]++caps) V fun e V'=>e=.returned (.int .u32 (f (y1,y2)))∧Below V.heap.size V V'):=fun V hV=>HC.out.2 y1 y2 V hV
   have HS2:Hid ((sof f l i).toArray.setIfInBounds i (.int .u32 (f (y1,y2)))=(sof f l (i+1)).toArray∧(sof f l i).length=n):=⟨HS1,HL.out i hi⟩
   clear HX HS HL HE HC HM HR hd hy HS1 hn
   generalize f (y1,y2)=z at *
   go_upto_region 5 with fail
   refine wp_letter (fun X=>Mem w X [(gp,.cells #[.int .u32 y1,.int .u32 y2] 122),(g,.cells (sof f l i).toArray 33)]) (by (try rw [hgp]);exact HM2.out) ?_
   intro V1 hM3
   try simp only [hgp]
   clear HM2 hgp d0 d1
   have e0:V1.cell? ⟨gp,0,none⟩=some (.int .u32 y1):=hM3.cell 0 rfl 0
   have e1:V1.cell? ⟨gp,1,none⟩=some (.int .u32 y2):=hM3.cell 0 rfl 1
   have C:=HC1.out V1 hM3.below
   have HM3:Hid (Mem w V1 [(gp,.cells #[.int .u32 y1,.int .u32 y2] 122),(g,.cells (sof f l i).toArray 33)]):=hM3
   clear hM3 HC1
   go_wp2_with fail
   refine C.mono ?_
   rintro _ V2 ⟨rfl,hb2⟩
   have hM4:=HM3.out.after hb2
   have hM5:=hM4.set 1 rfl i (.int .u32 z)
   rw [HS2.out.1] at hM5
   have f0:V2.frozen? ⟨g,i,none⟩=false:=hM4.free 1 rfl i
   have f1:∃ v0,V2.cell? ⟨g,i,none⟩=some v0:=⟨_,(hM4.cell 1 rfl i).trans (Array.getElem?_eq_getElem (by rw [List.size_toArray,HS2.out.2];exact hlt))⟩
   obtain ⟨v0,f1⟩:=f1
   have HM5:Hid (Mem w (V2.setCell ⟨g,i,none⟩ (.int .u32 z)) [(g,.cells (sof f l (i+1)).toArray 33)]):=hM5.sub
   clear hM4 hM5 HM3 HS2 hb2 C e0 e1
   go_wp2_with fail
   go_roundw
   case rel=>exact ⟨i+1,by omega,by go_num,HM5⟩
   case measure=>simp [intOf];omega
  ·have h1:¬ ((i:Int) < n):=by omega
   obtain rfl:i=n:=by omega
   have HF:Hid (Rw wr 1 (.slice (some ⟨g,0,none⟩) i i) (ux (l.map f))∧Below w.heap.size w wr):=⟨HE.out wr HR.out,HR.out.below⟩
   clear HX HS HL HE HC HM HR
   go_wp2_with fail
   go_ret
   exact ⟨_,rfl,HF.out.1,HF.out.2⟩
theorem firsts_any {w:World} {v:Value} {l:List (Int×Int)} (h:Rw w 2 v (px l)) (hb:l.length≤1000000) :
  Calls Tryz.prog 182 #[v] w fun e w'=>∃ u,e=.returned u∧Rw w' 1 u (ux (fst' l))∧Below w.heap.size w w':=by
 have C:=each_any h hb (first1_any w)
 unfold fst'
 clear h hb
 go_enter Tryz.func182,Tryz.ntmps182
 go_wp2_with fail
 refine C.mono ?_
 rintro _ V ⟨u,rfl,h1,h2⟩
 have HF:Hid (Rw V 1 u (ux (l.map Prod.fst))∧Below w.heap.size w V):=⟨h1,h2⟩
 clear h1 h2 C
 go_wp2_with fail
 go_ret
 exact ⟨_,rfl,HF.out.1,HF.out.2⟩
theorem seconds_any {w:World} {v:Value} {l:List (Int×Int)} (h:Rw w 2 v (px l)) (hb:l.length≤1000000) :
  Calls Tryz.prog 183 #[v] w fun e w'=>∃ u,e=.returned u∧Rw w' 1 u (ux (snd' l))∧Below w.heap.size w w':=by
 have C:=each_any h hb (second1_any w)
 unfold snd'
 clear h hb
 go_enter Tryz.func183,Tryz.ntmps183
 go_wp2_with fail
 refine C.mono ?_
 rintro _ V ⟨u,rfl,h1,h2⟩
 have HF:Hid (Rw V 1 u (ux (l.map Prod.snd))∧Below w.heap.size w V):=⟨h1,h2⟩
 clear h1 h2 C
 go_wp2_with fail
 go_ret
 exact ⟨_,rfl,HF.out.1,HF.out.2⟩
end Go.Proofs.YtdigofgjhaakmaaGreatDoor
namespace Go.Proofs.YtdigofgjhaakmaaGreatDoor
open Go.RowKit
open Ad
namespace La
def Takes (o:Option Cgf) (xs:List (List UInt8)) (c:Cgf):Prop:=∀ (ws:List Wd) (fin:Nat),wtx ws=xs→rdn o ⟨ws,fin,none⟩=(c,⟨[],fin,none⟩)∧∀ z:Wd,ip z.1.data.toList=none→(done (rdn o ⟨ws++[z],fin,none⟩).2).bad=some z.2
inductive Reads:Option Cgf→List (List (List UInt8))→Option Cgf→Prop
 | nil (o:Option Cgf):Reads o [] o
 | cons {o o':Option Cgf} {c:Cgf} {l:List (List UInt8)} {ls:List (List (List UInt8))}:Takes o l c→Reads (some c) ls o'→Reads o (l::ls) o'
theorem Reads.app {o p q:Option Cgf} {a b:List (List (List UInt8))} (h:Reads o a p) (k:Reads p b q):Reads o (a++b) q:=by
 induction h with
 | nil o=>exact k
 | cons h1 _ ih=>exact .cons h1 (ih k)
end La
end Go.Proofs.YtdigofgjhaakmaaGreatDoor
namespace Go.Proofs.YtdigofgjhaakmaaGreatDoor
open Go.RowKit
open Cf
open La
end Go.Proofs.YtdigofgjhaakmaaGreatDoor
