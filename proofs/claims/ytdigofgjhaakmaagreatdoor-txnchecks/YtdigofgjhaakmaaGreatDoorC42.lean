/- Parts of the proof. -/
import Derived.Test.YtdigofgjhaakmaaGreatDoorC41
set_option linter.all false
set_option maxHeartbeats 40000000
set_option maxRecDepth 20000
open Go.Proofs.Tryz
namespace Go.Proofs.YtdigofgjhaakmaaGreatDoor
variable {F C:List (Nat×Obj)} {v:Value} {w0 V:World} {B:Int} {g i:Nat} {o:Obj}
open Go.RowKit Sm Cf Df Va
section
variable {w W:World} {F:List (Nat×Obj)} {p h m N:Nat} {D:Dk} {all:List (List Int)} {ps pm:Nat} {ver:Int} {c:Cgf} {st:Option Cgf} {n:Nat}
theorem j60 {b:Array Oper} {S:World->Prop} {o:Oper} {a:Act} (hw:Region.wanted o (yielded b a.tmps)=true) (ty:TypeId) (parts:Array (Nat×Operand)) (f:o.op=.build ty parts) {d:Array (Nat×Value)}
 (hr:∀ X,(Instr.build ty d).run prog X=.ok v X) (e:(parts.map fun (i,x)=>(i,a.eval x))=d):YieldsIf prog b S o v a :=
 .inl ⟨hw,fun X _=>by
  subst e;unfold execOp;simp only [f,Sem.run_bind,hr,Result.andThen_ok,Sem.run_pure]⟩
theorem jme {st':Option Cgf} (H:TxA w W p h m N D 0 [] ps 0 cfg0 st' n F) (b:D.dead=false):BoH w (W.alloc (.cells mZ mT)) F p h m N D [] ps W.heap.size 0 cfg0 none st' n:=by
 refine ⟨b,Or.inl ⟨rfl,rfl,rfl⟩,rfl,F++[bxM W.heap.size 0 cfg0 nilV cfg0 nilV false],?_,?_⟩
 ·have:=(jn9 (w:=w) W.heap.size).more F;simpa using this
 ·obtain ⟨R,a,hb⟩:=(H.push ((Mem.nil W).push1 (o:=.cells mZ mT) rfl)).frame;exact hb _ _ (a.perm (List.Perm.append_right R List.perm_append_comm))
theorem Sd.baseF {L:List (Nat×Obj)} (H:Sd w0 W p h m N D B all L) (l:Mem w w0 F):Sd w W p h m N D B all (L++F):=by
 obtain ⟨hc,e,K,d,j,f⟩:=H.at_;have q:=l.join d.st.mem;have k:∀ (a b:Nat×Obj) (A:List (Nat×Obj)),(F++(a::b::(A++(L++K)))).Perm (a::b::(A++((L++F)++K))):=by
  intro a b A
  classical
  rw [List.perm_iff_count];intro z;simp only [List.count_append,List.count_cons];omega
 exact ⟨hc,e,K,⟨⟨q.perm (k _ _ _),d.st.heads,d.st.ok⟩,d.pos,d.top,d.mlo,d.mhi,d.left,d.pre⟩,j,f⟩
variable {st':Option Cgf} {c1:Cgf}
theorem jfj (H:BoH w W F p h m N D all ps pm ver c none st' n):Calls prog 27 #[.pointer (some ⟨pm,0,none⟩),.int .u64 ver] W fun e V=>e=.returned (.int .i64 0)/\BoH w V F p h m N D all ps pm ver c (some c) st' n:=by
 obtain ⟨q,l,k,L,j,f⟩:=H;obtain ⟨R,b,hb⟩:=f.frame;refine (jgj j b).mono ?_;rintro e V ⟨rfl,r,d,a⟩;exact ⟨rfl,q,l,k,r,d,hb _ _ a⟩
theorem jih {d:Cgf} (H:BoH w W F p h m N D all ps pm ver c (some c1) st' n) (a:CV W v d) :
 Calls prog 28 #[.pointer (some ⟨pm,0,none⟩),v] W fun e V=>e=.returned (.int .i64 0)/\BoH w V F p h m N D all ps pm ver c (some { d with ten:=c1.ten }) st' n:=by
 obtain ⟨s,r,q,L,l,k⟩:=H;obtain ⟨R,f,hb⟩:=k.frame;refine (jbb l f a).mono ?_;rintro e V ⟨rfl,t,j,b⟩;exact ⟨rfl,s,r,q,t,j,hb _ _ b⟩
variable {P:World->List (Nat×Obj)->Prop}
theorem DcF.readC (H:DcF w W F pm ver c (some c1) P) (a:Lig c1):∃ (lt:List Value) (e:Array Value),Hid (lt.toArray=e)/\(prog.info? 39).map (·.size)=some lt.length/\∀ X,Below W.heap.size W X->X.rangeAt pm 30 lt/\CV X (.agg e) c1:=by
 obtain ⟨L,R,l,k,q⟩:=H;obtain ⟨u,hr,hc⟩:=l.readT k;refine ⟨cc c1 u,_,rfl,by rw [jc a.cin.len];kernel_rfl,fun X b=>⟨fun j v f=>?_,hc.at_ b (Nat.le_refl _)⟩⟩;have d:=hr j v f;exact (b.cell (p:=⟨pm,30+j,none⟩) (j9 d)).trans d
theorem DcF.has (H:DcF w W F pm ver c st P) (a:(g,o)∈F):W.heap[g]?=some o:=by
 obtain ⟨L,R,d,b,e⟩:=H;exact b.at_ (g,o) (List.mem_append_left _ (d.keeps _ a))
theorem DcF.pushF (H:DcF w W F pm ver c st P) (k:Mem W V C):DcF w V (C++F) pm ver c st P:=by
 obtain ⟨L,R,d,b,a⟩:=H;refine ⟨C++L,R,d.more C,?_,a⟩;have:=b.more k;rwa [<-List.append_assoc] at this
theorem jq1 {ts:List Ten} {a:List Tv} (b:a.map Prod.fst=ts) (j:∀ t∈ts,TBy t/\TRg t) (q:Lgts ts 8) (hi:i<a.length) (d:TLen a[i].1):TIn a[i].1/\TRg a[i].1/\Lgt a[i].1:=by
 have k:a[i].1∈ts:=by rw [<-b];exact List.mem_map_of_mem (List.getElem_mem hi)
 have l:a.length=ts.length:=by rw [<-b,List.length_map]
 have f:=q.2 i (by omega);have e:ts.getD i ten0=a[i].1:=by
  subst b;rw [List.getD_eq_getElem?_getD,List.getElem?_map,List.getElem?_eq_getElem hi];rfl
 rw [e] at f;exact ⟨jhh f d (j _ k).1,(j _ k).2,f⟩
end
end Go.Proofs.YtdigofgjhaakmaaGreatDoor
