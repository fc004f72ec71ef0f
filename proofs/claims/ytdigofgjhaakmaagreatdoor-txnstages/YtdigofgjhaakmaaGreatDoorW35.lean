/-
  The statements' seat of settings, in plain numbers: they may be; and which error a change makes.
  Settings as text: the program's reader: a line behind the first.
-/
import Derived.Test.YtdigofgjhaakmaaGreatDoorW34
import Derived.Test.YtdigofgjhaakmaaGreatDoorW23
import Derived.Test.YtdigofgjhaakmaaGreatDoorW32
set_option linter.unusedVariables false
set_option linter.unusedSimpArgs false
set_option maxRecDepth 20000
set_option maxHeartbeats 40000000
namespace Go.Proofs.YtdigofgjhaakmaaGreatDoor
open Go.RowKit
open La (adr)
open Ad (nam)
open Va
namespace Va
theorem bad_mem {l:List Int} {i:Nat}:bad l i ↔ (l.getD i 0=0∨l.getD i 0∈l.take i):=by unfold bad;rw [hs_iff]
theorem unl_iff {l:List Int}:unl l=true ↔ ((∀ x∈l,x≠0)∧l.Nodup):=by
 unfold unl
 rw [decide_eq_true_eq]
 constructor
 ·intro h
  refine ⟨fun x hx h0=>?_,?_⟩
  ·obtain ⟨i,hi,rfl⟩:=List.mem_iff_getElem.mp hx
   exact h i hi (bad_mem.mpr (Or.inl (by simpa [List.getD,List.getElem?_eq_getElem hi] using h0)))
  ·rw [List.Nodup,List.pairwise_iff_getElem]
   intro i j hi hj hij e
   apply h j hj
   rw [bad_mem]
   right
   have e2:l.getD j 0=l[i]:=by simp [List.getD,List.getElem?_eq_getElem hj,e]
   rw [e2]
   have:(l.take j)[i]'(by simp;omega)=l[i]:=by simp
   rw [←this]
   exact List.getElem_mem _
 ·rintro ⟨h1,h2⟩ i hi hb
  rw [bad_mem] at hb
  have e2:l.getD i 0=l[i]:=by simp [List.getD,List.getElem?_eq_getElem hi]
  rw [e2] at hb
  rcases hb with hb | hb
  ·exact h1 _ (List.getElem_mem hi) hb
  ·obtain ⟨k,hk,e⟩:=List.mem_iff_getElem.mp hb
   have hk':k < i:=by simp at hk;omega
   rw [List.Nodup,List.pairwise_iff_getElem] at h2
   have e3:(l.take i)[k]=l[k]'(by omega):=by simp
   exact h2 k i (by omega) hi hk' (by rw [←e3,e])
structure TOk (t:Ten):Prop where
 r0:nam t.name.data.toList=true
 r1:wi t.vni 1 16777215=true
 r2:decide ((t.pool.length:Int)≤8)=true
 r3:unl t.pool=true
 r4:wi t.lo 1 t.hi=true
 r5:wi t.filter 0 2=true
 r6:decide ((t.stat.length:Int)≤16)=true
 r7:decide ((t.twi.length:Int)≤16)=true
 r8:(unl (fst' t.stat) && unl (snd' t.stat))=true
 r9:(unl (fst' t.twi) && unl (snd' t.twi))=true
 r10:(snd' t.stat).any (hs t.pool)=false
 r11:(fst' t.twi).any (owns t)=false
 r12:wi t.sess 1 256=true
 r13:wi t.queue 1 64=true
 r14:decide (t.rate≤1000000)=true
 r15:wi t.burst 1 1000000=true
 r16:(t.vtep != 0)=true
theorem TOk.zero {t:Ten} (h:TOk t):tchk t=0:=by
 unfold tchk Va.trs
 rw [h.r0,h.r1,h.r2,h.r3,h.r4,h.r5,h.r6,h.r7,h.r8,h.r9,h.r10,h.r11,h.r12,h.r13,h.r14,h.r15,h.r16]
 rfl
theorem wi_true {n a b:Int} (h1:a≤n) (h2:n≤b):wi n a b=true:=by unfold wi;rw [decide_eq_true h1,decide_eq_true h2];rfl
theorem any_none {α:Type} {f:α→Bool} {l:List α} (h:∀ x∈l,f x=false):l.any f=false:=by
 rw [Bool.eq_false_iff]
 intro e
 obtain ⟨x,hx,hf⟩:=List.any_eq_true.mp e
 rw [h x hx] at hf
 cases hf
theorem nam_seat (i:Nat):nam [UInt8.ofNat (97+i % 8)]=true:=by
 obtain ⟨m,hm⟩:∃ m,i % 8=m:=⟨_,rfl⟩
 have h8:m < 8:=by omega
 rw [hm]
 have:m=0∨m=1∨m=2∨m=3∨m=4∨m=5∨m=6∨m=7:=by omega
 rcases this with rfl | rfl | rfl | rfl | rfl | rfl | rfl | rfl <;> decide
structure SQ (i:Nat) (t:Ten):Prop where
 ok:TOk t
 name:t.name=⟨#[UInt8.ofNat (97+i % 8)]⟩
 vni:t.vni=100+(i:Int)
 pool:∀ x∈t.pool,x=adr 5 5 i 1∨x=adr 5 5 i 2
 stat:∀ x∈t.stat,x=(adr 10 0 0 9,adr 5 6 i 9)
 twi:∀ x∈t.twi,x=(adr 192 168 0 5,adr 8 8 8 8)∨x=(adr 192 168 0 6,adr 5 5 i 1)
 one:adr 5 5 i 1∈t.pool
 len:t.pool.length≤2∧t.stat.length≤1∧t.twi.length≤2
theorem SeatQ.sq {i:Nat} {k:Int} {t:Ten} (h:SeatQ i k t) (hi:i < 17):SQ i t:=by
 obtain ⟨lo,hi2,fi,se,qu,ra,bu,rfl,r⟩:=h
 generalize (bits .and .u16 k 4 != 0)=p2
 generalize (bits .and .u16 k 128 != 0)=st
 generalize (bits .and .u16 k 256 != 0)=tw
 have hpool:∀ x∈(mkQ i p2 st tw lo hi2 fi se qu ra bu).pool,x=adr 5 5 i 1∨x=adr 5 5 i 2:=by
  intro x hx
  cases p2
  ·left;simpa [mkQ] using hx
  ·simpa [mkQ] using hx
 have hstat:∀ x∈(mkQ i p2 st tw lo hi2 fi se qu ra bu).stat,x=(adr 10 0 0 9,adr 5 6 i 9):=by
  intro x hx
  cases st
  ·simp [mkQ] at hx
  ·simpa [mkQ] using hx
 have htwi:∀ x∈(mkQ i p2 st tw lo hi2 fi se qu ra bu).twi,x=(adr 192 168 0 5,adr 8 8 8 8)∨x=(adr 192 168 0 6,adr 5 5 i 1):=by
  intro x hx
  cases tw
  ·simp [mkQ] at hx
  ·simpa [mkQ] using hx
 refine ⟨⟨nam_seat i,wi_true (by show (1:Int)≤100+i;omega) (by show 100+(i:Int)≤_;omega),?_,?_,wi_true r.lo.1 r.lo.2,wi_true r.fi.1 r.fi.2,?_,?_,?_,?_,?_,?_,wi_true r.se.1 (by have:=r.se.2;show se≤_;omega),wi_true r.qu.1 (by have:=r.qu.2;show qu≤_;omega),decide_eq_true (by have:=r.ra.2;show ra≤_;omega),wi_true (by have:=r.bu.1;show _≤bu;omega) (by have:=r.bu.2;show bu≤_;omega),?_⟩,rfl,rfl,hpool,hstat,htwi,?_,?_⟩
 ·cases p2 <;> rfl
 ·rw [unl_iff]
  cases p2
  ·simp [mkQ,adr];omega
  ·simp [mkQ,adr];omega
 ·cases st <;> rfl
 ·cases tw <;> rfl
 ·rw [Bool.and_eq_true,unl_iff,unl_iff]
  cases st
  ·simp [mkQ,fst',snd']
  ·simp [mkQ,fst',snd',adr];omega
 ·rw [Bool.and_eq_true,unl_iff,unl_iff]
  cases tw
  ·simp [mkQ,fst',snd']
  ·simp [mkQ,fst',snd',adr];omega
 ·apply any_none
  intro x hx
  obtain ⟨p,hp,rfl⟩:=List.mem_map.mp hx
  rw [Bool.eq_false_iff]
  intro e
  have e1:=hstat p hp
  rcases hpool _ (hs_iff.mp e) with e2 | e2 <;> (rw [e1] at e2;simp only [adr] at e2;omega)
 ·apply any_none
  intro x hx
  obtain ⟨p,hp,rfl⟩:=List.mem_map.mp hx
  rw [Bool.eq_false_iff]
  intro e
  rw [owns_iff,List.mem_append] at e
  rcases htwi p hp with e1 | e1 <;> rcases e with e | e
  all_goals
   rw [e1] at e
   first
    | (rcases hpool _ e with e2 | e2 <;> (simp only [adr] at e2;omega))
    | (obtain ⟨q,hq,e2⟩:=List.mem_map.mp e;rw [hstat q hq] at e2;simp only [adr] at e2;omega)
 ·show (adr 10 9 0 ((i:Int)+1) != 0)=true
  simp [adr];omega
 ·cases p2 <;> simp [mkQ]
 ·refine ⟨?_,?_,?_⟩
  ·cases p2 <;> simp [mkQ]
  ·cases st <;> simp [mkQ]
  ·cases tw <;> simp [mkQ]
theorem pchk_eq {c:Cgf} {i:Nat} (hi:i < c.ten.length):pchk c i=fnz [tchk (c.ten.getD i ten0),ul 90 (decide (i=0) || lss (c.ten.getD (i - 1) ten0).name (c.ten.getD i ten0).name),wn 91 ((c.ten.take i).any (fun o=>o.vni == (c.ten.getD i ten0).vni)),wn 92 (ow1 (c.ten.getD i ten0) (fun x=>x == c.ip || (c.ten.take i).any (fun o=>owns o x)))]:=by
 have hl:(c.ten.take i).length=i:=by simp;omega
 unfold pchk Va.prs
 have e2:(c.ten.take i).getD ((c.ten.take i).length - 1) ten0=c.ten.getD (i - 1) ten0∨i=0:=by
  rw [hl]
  by_cases h:i=0
  ·exact Or.inr h
  ·left
   have:i - 1 < i:=by omega
   simp [List.getD,this]
 have e3:((c.ten.take i).length == 0)=decide (i=0):=by rw [hl];rfl
 rw [e3]
 rcases e2 with e2 | e2
 ·rw [e2]
 ·subst e2;simp
structure POk (c:Cgf) (i:Nat):Prop where
 ok:TOk (c.ten.getD i ten0)
 name:i=0∨lss (c.ten.getD (i - 1) ten0).name (c.ten.getD i ten0).name=true
 vni:∀ o∈c.ten.take i,o.vni≠(c.ten.getD i ten0).vni
theorem POk.none {c:Cgf} {i:Nat} (h:POk c i) (hi:i < c.ten.length) (ho:∀ x∈(c.ten.getD i ten0).pool++snd' (c.ten.getD i ten0).stat,x≠c.ip∧∀ o∈c.ten.take i,x ∉ o.pool++snd' o.stat):pchk c i=0:=by
 have e1:(decide (i=0) || lss (c.ten.getD (i - 1) ten0).name (c.ten.getD i ten0).name)=true:=by
  rcases h.name with e | e
  ·rw [decide_eq_true e];rfl
  ·rw [e,Bool.or_true]
 have e2:(c.ten.take i).any (fun o=>o.vni == (c.ten.getD i ten0).vni)=false:=any_none (fun o ho=>by simpa using h.vni o ho)
 have e3:ow1 (c.ten.getD i ten0) (fun x=>x == c.ip || (c.ten.take i).any (fun o=>owns o x))=false:=by
  rw [Bool.eq_false_iff]
  intro e
  obtain ⟨x,hx,hf⟩:=ow1_iff.mp e
  obtain ⟨k1,k2⟩:=ho x hx
  rw [Bool.or_eq_true] at hf
  rcases hf with hf | hf
  ·exact k1 (by simpa using hf)
  ·obtain ⟨o,ho,h2⟩:=List.any_eq_true.mp hf
   exact k2 o ho (owns_iff.mp h2)
 rw [pchk_eq hi,h.ok.zero,e1,e2,e3]
 rfl
def GOk (c:Cgf):Prop:=c.ip≠0∧c.drain≤1000∧c.ten.length≤16
theorem GOk.zero {c:Cgf} (h:GOk c):fnz (grs c)=0:=by
 unfold grs
 rw [decide_eq_true h.2.1,decide_eq_true (show (c.ten.length:Int)≤16 by have:=h.2.2;omega),show (c.ip != 0)=true by simpa using h.1]
 rfl
theorem pfrom_none {c:Cgf}:∀ n i,(∀ j,i≤j→j < i+n→pchk c j=0)→pfrom c i n=0
 | 0,i,_=>rfl
 | n+1,i,h=>by
  rw [pfrom_succ,if_pos (h i (by omega) (by omega))]
  exact pfrom_none n (i+1) (fun j h1 h2=>h j (by omega) (by omega))
theorem chk_ok {c:Cgf} (h:GOk c) (hp:∀ j,j < c.ten.length→pchk c j=0):chk c=0:=by
 unfold chk
 rw [h.zero,if_pos rfl]
 exact pfrom_none _ 0 (fun j _ hj=>hp j (by omega))
end Va
end Go.Proofs.YtdigofgjhaakmaaGreatDoor
namespace Go.Proofs.YtdigofgjhaakmaaGreatDoor
open Go.RowKit
open La
open Ad
theorem step_bsl {ops:Array Oper} {o:Oper} {a:Act} {W:World} {K:Act→World→Prop} {Q:Exit→Act→World→Prop} {E:Prop} (hgd:o.guard=none) (ty:TypeId) (n:Nat) (parts:Array (Nat×Operand)) (ho:o.op=.buildSlice ty n parts) {vs:Array (Nat×Value)} {v:Value} {w':World}
  (hr:(Instr.buildSlice ty n vs).run Tryz.prog W=.ok v w') (hv:(parts.map fun (i,x)=>(i,a.eval x))=vs) (h:K (a.put o.dst v) w'):if Region.wanted o (yielded ops a.tmps)=true then Oper.wp Tryz.prog o a W K Q else E:=by
 have hw:Region.wanted o (yielded ops a.tmps)=true:=by simp [Region.wanted,hgd]
 rw [if_pos hw]
 subst hv
 unfold Oper.wp execOp
 simp only [ho,Sem.run_bind,hr,Result.andThen_ok,Sem.run_pure]
 exact h
end Go.Proofs.YtdigofgjhaakmaaGreatDoor
