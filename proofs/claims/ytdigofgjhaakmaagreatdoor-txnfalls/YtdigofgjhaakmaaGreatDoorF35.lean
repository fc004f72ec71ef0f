/- Parts of the proof. -/
import Derived.Test.YtdigofgjhaakmaaGreatDoorF34
set_option linter.all false
set_option maxHeartbeats 40000000
set_option maxRecDepth 20000
open Go.Proofs.Tryz
open List renaming mem_iff_getElem->a0,getD->a1,getElem?_eq_getElem->a2,pairwise_iff_getElem->a3,getElem_mem->a4,any_eq_true->a5,mem_map->a6
open Bool renaming eq_false_iff->a7,and_eq_true->a8
namespace Go.Proofs.YtdigofgjhaakmaaGreatDoor
variable {i:Nat} {l:List Int} {w' W:World} {v:Value} {k:Int}
section
open Go.RowKit Va
open La (adr)
open Ad (nam)
namespace Va
theorem jah:bad l i ↔ (l.getD i 0=0\/l.getD i 0∈l.take i):=by unfold bad;rw [jgl]
theorem j3l:unl l=true ↔ ((∀ x∈l,x≠0)/\l.Nodup):=by
 unfold unl;rw [decide_eq_true_eq];constructor
 ·intro h;refine ⟨fun x hx o=>?_,?_⟩
  ·obtain ⟨i,hi,rfl⟩:=a0.mp hx;exact h i hi (jah.mpr (Or.inl (by simpa [a1,a2 hi] using o)))
  ·rw [List.Nodup,a3];intro i j hi c g e;apply h j c;rw [jah];right;have b:l.getD j 0=l[i]:=by simp [a1,a2 c,e]
   rw [b];have:(l.take j)[i]'(by simp;omega)=l[i]:=by simp
   rw [<-this];exact a4 _
 ·rintro ⟨m,d⟩ i hi hb;rw [jah] at hb;have b:l.getD i 0=l[i]:=by simp [a1,a2 hi]
  rw [b] at hb;rcases hb with hb|hb
  ·exact m _ (a4 hi) hb
  ·obtain ⟨k,f,e⟩:=a0.mp hb;have a:k<i:=by simp at f;omega
   rw [List.Nodup,a3] at d;have p:(l.take i)[k]=l[k]'(by omega):=by simp
   exact d k i (by omega) hi a (by rw [<-p,e])
structure TOk (t:Ten):Prop where
 r0:nam t.name.data.toList=true
 r1:wi t.vni 1 16777215=true
 r2:decide ((t.pool.length:Int)<=8)=true
 r3:unl t.pool=true
 r4:wi t.lo 1 t.hi=true
 r5:wi t.filter 0 2=true
 r6:decide ((t.stat.length:Int)<=16)=true
 r7:decide ((t.twi.length:Int)<=16)=true
 r8:(unl (fst' t.stat) && unl (snd' t.stat))=true
 r9:(unl (fst' t.twi) && unl (snd' t.twi))=true
 r10:(snd' t.stat).any (hs t.pool)=false
 r11:(fst' t.twi).any (owns t)=false
 r12:wi t.sess 1 256=true
 r13:wi t.queue 1 64=true
 r14:decide (t.rate<=1000000)=true
 r15:wi t.burst 1 1000000=true
 r16:(t.vtep != 0)=true
theorem TOk.zero {t:Ten} (h:TOk t):tchk t=0:=by
 unfold tchk Va.trs;rw [h.r0,h.r1,h.r2,h.r3,h.r4,h.r5,h.r6,h.r7,h.r8,h.r9,h.r10,h.r11,h.r12,h.r13,h.r14,h.r15,h.r16];rfl
theorem j22 {n a b:Int} (d:a<=n) (c:n<=b):wi n a b=true:=by unfold wi;rw [decide_eq_true d,decide_eq_true c];rfl
theorem j73 {α:Type} {f:α->Bool} {l:List α} (h:∀ x∈l,f x=false):l.any f=false:=by
 rw [a7];intro e;obtain ⟨x,hx,a⟩:=a5.mp e;rw [h x hx] at a;cases a
theorem jjj (i:Nat):nam [UInt8.ofNat (97+i % 8)]=true:=by
 obtain ⟨m,a⟩:∃ m,i % 8=m:=⟨_,rfl⟩;have b:m<8:=by omega
 rw [a];have:m=0\/m=1\/m=2\/m=3\/m=4\/m=5\/m=6\/m=7:=by omega
 rcases this with rfl|rfl|rfl|rfl|rfl|rfl|rfl|rfl<;>decide
structure SQ (i:Nat) (t:Ten):Prop where
 ok:TOk t
 name:t.name=⟨#[UInt8.ofNat (97+i % 8)]⟩
 vni:t.vni=100+(i:Int)
 pool:∀ x∈t.pool,x=adr 5 5 i 1\/x=adr 5 5 i 2
 stat:∀ x∈t.stat,x=(adr 10 0 0 9,adr 5 6 i 9)
 twi:∀ x∈t.twi,x=(adr 192 168 0 5,adr 8 8 8 8)\/x=(adr 192 168 0 6,adr 5 5 i 1)
 one:adr 5 5 i 1∈t.pool
 len:t.pool.length<=2/\t.stat.length<=1/\t.twi.length<=2
theorem yn.sq {t:Ten} (h:yn i k t) (hi:i<17):SQ i t:=by
 obtain ⟨y,j,A,o,u,s,m,rfl,r⟩:=h;generalize (bits .and .u16 k 4 != 0)=d;generalize (bits .and .u16 k 128 != 0)=st;generalize (bits .and .u16 k 256 != 0)=g;have b:∀ x∈(mkQ i d st g y j A o u s m).pool,x=adr 5 5 i 1\/x=adr 5 5 i 2:=by
  intro x hx;cases d
  ·left;simpa [mkQ] using hx
  ·simpa [mkQ] using hx
 have a:∀ x∈(mkQ i d st g y j A o u s m).stat,x=(adr 10 0 0 9,adr 5 6 i 9):=by
  intro x hx;cases st
  ·simp [mkQ] at hx
  ·simpa [mkQ] using hx
 have f:∀ x∈(mkQ i d st g y j A o u s m).twi,x=(adr 192 168 0 5,adr 8 8 8 8)\/x=(adr 192 168 0 6,adr 5 5 i 1):=by
  intro x hx;cases g
  ·simp [mkQ] at hx
  ·simpa [mkQ] using hx
 refine ⟨⟨jjj i,j22 (by show (1:Int)<=100+i;omega) (by show 100+(i:Int)<=_;omega),?_,?_,j22 r.lo.1 r.lo.2,j22 r.fi.1 r.fi.2,?_,?_,?_,?_,?_,?_,j22 r.se.1 (by have:=r.se.2;show o<=_;omega),j22 r.qu.1 (by have:=r.qu.2;show u<=_;omega),decide_eq_true (by have:=r.ra.2;show s<=_;omega),j22 (by have:=r.bu.1;show _<=m;omega) (by have:=r.bu.2;show m<=_;omega),?_⟩,rfl,rfl,b,a,f,?_,?_⟩
 ·cases d<;>rfl
 ·rw [j3l];cases d
  ·simp [mkQ,adr];omega
  ·simp [mkQ,adr];omega
 ·cases st<;>rfl
 ·cases g<;>rfl
 ·rw [a8,j3l,j3l];cases st
  ·simp [mkQ,fst',snd']
  ·simp [mkQ,fst',snd',adr];omega
 ·rw [a8,j3l,j3l];cases g
  ·simp [mkQ,fst',snd']
  ·simp [mkQ,fst',snd',adr];omega
 ·apply j73;intro x hx;obtain ⟨p,z,rfl⟩:=a6.mp hx;rw [a7];intro e;have w:=a p z;rcases b _ (jgl.mp e) with c|c<;>(rw [w] at c;simp only [adr] at c;omega)
 ·apply j73;intro x hx;obtain ⟨p,z,rfl⟩:=a6.mp hx;rw [a7];intro e;rw [jbl,List.mem_append] at e;rcases f p z with w|w<;>rcases e with e|e
  all_goals
   rw [w] at e
   first
    | (rcases b _ e with c|c<;>(simp only [adr] at c;omega))
    | (obtain ⟨q,B,c⟩:=a6.mp e;rw [a q B] at c;simp only [adr] at c;omega)
 ·show (adr 10 9 0 ((i:Int)+1) != 0)=true;simp [adr];omega
 ·cases d<;>simp [mkQ]
 ·refine ⟨?_,?_,?_⟩
  ·cases d<;>simp [mkQ]
  ·cases st<;>simp [mkQ]
  ·cases g<;>simp [mkQ]
theorem jnm {c:Cgf} (hi:i<c.ten.length):pchk c i=fnz [tchk (c.ten.getD i ten0),ul 90 (decide (i=0) || lss (c.ten.getD (i-1) ten0).name (c.ten.getD i ten0).name),wn 91 ((c.ten.take i).any (fun o=>o.vni==(c.ten.getD i ten0).vni)),wn 92 (ow1 (c.ten.getD i ten0) (fun x=>x==c.ip || (c.ten.take i).any (fun o=>owns o x)))]:=by
 have b:(c.ten.take i).length=i:=by simp;omega
 unfold pchk Va.prs;have a:(c.ten.take i).getD ((c.ten.take i).length-1) ten0=c.ten.getD (i-1) ten0\/i=0:=by
  rw [b];by_cases h:i=0
  ·exact Or.inr h
  ·left;have:i-1<i:=by omega
   simp [a1,this]
 have d:((c.ten.take i).length==0)=decide (i=0):=by rw [b];rfl
 rw [d];rcases a with a|a
 ·rw [a]
 ·subst a;simp
structure POk (c:Cgf) (i:Nat):Prop where
 ok:TOk (c.ten.getD i ten0)
 name:i=0\/lss (c.ten.getD (i-1) ten0).name (c.ten.getD i ten0).name=true
 vni:∀ o∈c.ten.take i,o.vni≠(c.ten.getD i ten0).vni
theorem POk.none {c:Cgf} (h:POk c i) (hi:i<c.ten.length) (b:∀ x∈(c.ten.getD i ten0).pool++snd' (c.ten.getD i ten0).stat,x≠c.ip/\∀ o∈c.ten.take i,x ∉ o.pool++snd' o.stat):pchk c i=0:=by
 have p:(decide (i=0) || lss (c.ten.getD (i-1) ten0).name (c.ten.getD i ten0).name)=true:=by
  rcases h.name with e|e
  ·rw [decide_eq_true e];rfl
  ·rw [e,Bool.or_true]
 have m:(c.ten.take i).any (fun o=>o.vni==(c.ten.getD i ten0).vni)=false:=j73 (fun o b=>by simpa using h.vni o b);have j:ow1 (c.ten.getD i ten0) (fun x=>x==c.ip || (c.ten.take i).any (fun o=>owns o x))=false:=by
  rw [a7];intro e;obtain ⟨x,hx,a⟩:=j40.mp e;obtain ⟨f,d⟩:=b x hx;rw [Bool.or_eq_true] at a;rcases a with a|a
  ·exact f (by simpa using a)
  ·obtain ⟨o,b,g⟩:=a5.mp a;exact d o b (jbl.mp g)
 rw [jnm hi,h.ok.zero,p,m,j];rfl
def GOk (c:Cgf):Prop:=c.ip≠0/\c.drain<=1000/\c.ten.length<=16
theorem GOk.zero {c:Cgf} (h:GOk c):fnz (grs c)=0:=by
 unfold grs;rw [decide_eq_true h.2.1,decide_eq_true (show (c.ten.length:Int)<=16 by have:=h.2.2;omega),show (c.ip != 0)=true by simpa using h.1];rfl
theorem j56 {c:Cgf}:∀ n i,(∀ j,i<=j->j<i+n->pchk c j=0)->q9 c i n=0
 | 0,i,_=>rfl
 | n+1,i,h=>by
  rw [j0w,if_pos (h i (by omega) (by omega))];exact j56 n (i+1) (fun j b a=>h j (by omega) (by omega))
theorem jrz {c:Cgf} (h:GOk c) (a:∀ j,j<c.ten.length->pchk c j=0):chk c=0:=by
 unfold chk;rw [h.zero,if_pos rfl];exact j56 _ 0 (fun j _ b=>a j (by omega))
end Va
end
section
open Go.RowKit La Ad
theorem j5t {b:Array Oper} {o:Oper} {a:Act} {K:Act->World->Prop} {Q:Exit->Act->World->Prop} {E:Prop} (c:o.guard=none) (ty:TypeId) (n:Nat) (parts:Array (Nat×Operand)) (f:o.op=.buildSlice ty n parts) {d:Array (Nat×Value)}
  (hr:(Instr.buildSlice ty n d).run prog W=.ok v w') (e:(parts.map fun (i,x)=>(i,a.eval x))=d) (h:K (a.put o.dst v) w'):if Region.wanted o (yielded b a.tmps)=true then Oper.wp prog o a W K Q else E:=by
 have hw:Region.wanted o (yielded b a.tmps)=true:=by simp [Region.wanted,c]
 rw [if_pos hw];subst e;unfold Oper.wp execOp;simp only [f,Sem.run_bind,hr,Result.andThen_ok,Sem.run_pure];exact h
end
end Go.Proofs.YtdigofgjhaakmaaGreatDoor
