/-
  Both stores, as TxnChecks asks them.
  The seat's tenants, name by name, as TxnStages stages them.
-/
import Derived.Test.YtdigofgjhaakmaaGreatDoorW41
import Derived.Test.YtdigofgjhaakmaaGreatDoorW40
set_option linter.unusedVariables false
set_option linter.unusedSimpArgs false
set_option maxRecDepth 20000
set_option maxHeartbeats 40000000
namespace Go.Proofs.YtdigofgjhaakmaaGreatDoor
open Go.RowKit
open Sm
open Cf
open Df
open Va
section
variable {w W:World} {F:List (Nat×Obj)} {p h m N:Nat} {D:Dk} {all:List (List Int)} {ps pm:Nat} {ver:Int} {c:Cgf} {st:Option Cgf} {n:Nat}
theorem yieldsIf_bld {ops:Array Oper} {S:World→Prop} {o:Oper} {a:Act} (hw:Region.wanted o (yielded ops a.tmps)=true) (ty:TypeId) (parts:Array (Nat×Operand)) (ho:o.op=.build ty parts) {vs:Array (Nat×Value)} {v:Value}
 (hr:∀ X,(Instr.build ty vs).run Tryz.prog X=.ok v X) (hv:(parts.map fun (i,x)=>(i,a.eval x))=vs):YieldsIf Tryz.prog ops S o v a :=
 .inl ⟨hw,fun X _=>by
  subst hv
  unfold execOp
  simp only [ho,Sem.run_bind,hr,Result.andThen_ok,Sem.run_pure]⟩
variable {st':Option Cgf} {c1:Cgf}
variable {P:World→List (Nat×Obj)→Prop}
theorem DcF.has (H:DcF w W F pm ver c st P) {g:Nat} {o:Obj} (hm:(g,o)∈F):W.heap[g]? = some o:=by
 obtain ⟨L,R,h1,h2,h3⟩:=H
 exact h2.at_ (g,o) (List.mem_append_left _ (h1.keeps _ hm))
end
def sNa (i:Nat):ByteArray:=⟨#[UInt8.ofNat (97+i % 8)]⟩
theorem one_lt:∀ i j:Fin 8,i < j→[UInt8.ofNat (97+i.val % 8)] < [UInt8.ofNat (97+j.val % 8)]:=by decide
theorem one_ne:∀ i j:Fin 8,[UInt8.ofNat (97+i.val % 8)]=[UInt8.ofNat (97+j.val % 8)]→i=j:=by decide
theorem nk_lt {ks:Nat→Int} {i j:Nat} (h:i < j) (hj:j < 8):nk (sQ i (ks i)) < nk (sQ j (ks j)):=one_lt ⟨i,by omega⟩ ⟨j,hj⟩ h
theorem nk_ne {ks:Nat→Int} {i j:Nat} (hi:i < 8) (hj:j < 8):nk (sQ i (ks i))=[UInt8.ofNat (97+j % 8)] ↔ i=j :=
 ⟨fun e=>congrArg Fin.val (one_ne ⟨i,hi⟩ ⟨j,hj⟩ e),fun e=>by rw [e];rfl⟩
def sLs (ks:Nat→Int) (n j:Nat):List Ten:=((List.range n).drop j).map fun i=>sQ i (ks i)
theorem sl_end (ks:Nat→Int) (n:Nat):sLs ks n n=[]:=by simp [sLs]
theorem sl_cons (ks:Nat→Int) {n j:Nat} (h:j < n):sLs ks n j=sQ j (ks j)::sLs ks n (j+1):=by
 rw [sLs,List.drop_eq_getElem_cons (by simpa using h)]
 simp [sLs]
theorem srt_seat (ks:Nat→Int) {l:List Nat} (h:l.Pairwise (· < ·)) (h8:∀ i∈l,i < 8):Srt nk (l.map fun i=>sQ i (ks i)):=by
 rw [Srt,List.pairwise_map]
 exact h.imp_of_mem fun ha hb hab=>nk_lt hab (h8 _ hb)
theorem srt_sl (ks:Nat→Int) {n j:Nat} (h:n≤8):Srt nk (sLs ks n j) :=
 srt_seat ks (List.pairwise_lt_range.sublist (List.drop_sublist _ _)) fun i hi=>by
  have:=List.mem_range.mp (List.mem_of_mem_drop hi);omega
theorem app_sl (ks:Nat→Int) {n j:Nat} (h:n≤8) (hj:j < n) (x:ByteArray):app (sLs ks n (j+1)) [⟨true,x,sQ j (ks j)⟩]=sLs ks n j:=by
 rw [sl_cons ks hj]
 rw [app,List.foldl_cons,List.foldl_nil,byn_srt (srt_sl ks h),stp,if_pos rfl]
 show put nk (sQ j (ks j)) true (sLs ks n (j+1))=_
 by_cases h1:j+1 < n
 ·rw [sl_cons ks h1]
  have hl:=nk_lt (ks:=ks) (Nat.lt_succ_self j) (show j+1 < 8 by omega)
  rw [put,if_neg (fun e=>lt_irr _ (lt_tr hl e)),if_neg (fun e=>lt_ne hl e.symm)]
 ·obtain rfl:j+1=n:=by omega
  rw [sl_end];rfl
theorem fts_sl {ts:List Ten} {i:Nat} {t:Ten} (h:SQ i t):ftsB ts ⟨true,sNa i,t⟩=true:=by
 unfold ftsB
 rw [if_pos rfl,h.name]
 show (Ad.nam (sNa i).data.toList && ((sNa i).toList == (sNa i).toList))=true
 rw [show Ad.nam (sNa i).data.toList=true from nam_seat i]
 simp
def wn (ks:Nat→Int) (a k:Nat):List Ten:=((List.range k).filter fun i=>decide (i≠a)).map fun i=>sQ i (ks i)
theorem wn_ne (ks:Nat→Int) {a k:Nat} (h:k≠a):wn ks a (k+1)=wn ks a k++[sQ k (ks k)]:=by
 simp [wn,List.range_succ,List.filter_append,h]
theorem wn_eq (ks:Nat→Int) (a:Nat):wn ks a (a+1)=wn ks a a:=by
 simp [wn,List.range_succ,List.filter_append]
theorem wn_length (ks:Nat→Int) (a k:Nat):(wn ks a k).length≤k:=by
 rw [wn,List.length_map];exact Nat.le_trans (List.length_filter_le _ _) (by simp)
theorem del_sl (ks:Nat→Int) {n a:Nat} (h:n≤8) (ha:a < 8):del nk [UInt8.ofNat (97+a % 8)] (sLs ks n 0)=wn ks a n:=by
 rw [sLs,List.drop_zero,del,List.filter_map,wn]
 congr 1
 apply List.filter_congr
 intro i hi
 have hi8:i < 8:=by have:=List.mem_range.mp hi;omega
 show decide (nk (sQ i (ks i))≠_)=_
 exact decide_eq_decide.mpr (not_congr (nk_ne hi8 ha))
theorem wn_all (ks:Nat→Int) {n a:Nat} (h:n≤a):wn ks a n=sLs ks n 0:=by
 rw [sLs,List.drop_zero,wn,List.filter_eq_self.mpr]
 intro i hi
 have:=List.mem_range.mp hi
 exact decide_eq_true (by omega)
theorem fts_gone (ks:Nat→Int) {n a:Nat} (h:n≤8) (ha:a < 8):ftsB (sLs ks n 0) (yN (sNa a)).1=decide (a < n):=by
 unfold ftsB
 rw [if_neg (show ¬ (yN (sNa a)).1.put=true from Bool.false_ne_true)]
 show (Ad.nam (sNa a).data.toList && (Df.look nk (sNa a).data.toList (sLs ks n 0)).isSome)=_
 rw [show Ad.nam (sNa a).data.toList=true from nam_seat a,Bool.true_and]
 by_cases hn:a < n
 ·have hm:sQ a (ks a)∈sLs ks n 0:=by
   rw [sLs,List.drop_zero]
   exact List.mem_map.mpr ⟨a,List.mem_range.mpr hn,rfl⟩
  have:=look_mem (srt_sl ks h) hm
  rw [show (sNa a).data.toList=nk (sQ a (ks a)) from rfl,this,decide_eq_true hn];rfl
 ·rw [decide_eq_false hn,look_none.mpr]
  ·rfl
  ·intro x hx
   rw [sLs,List.drop_zero] at hx
   obtain ⟨i,hi,rfl⟩:=List.mem_map.mp hx
   have:=List.mem_range.mp hi
   intro e
   have:=(nk_ne (ks:=ks) (show i < 8 by omega) ha).mp e
   omega
theorem stg_gone {c:Cgf} (ks:Nat→Int) {n a:Nat} (h:n≤8) (ha:a < 8) (hc:c.ten=sLs ks n 0):stg c (yN (sNa a)).1={ c with ten:=wn ks a n }:=by
 rw [stg,hc,fts_gone ks h ha]
 by_cases hn:a < n
 ·rw [if_pos (decide_eq_true hn)]
  have e:app (sLs ks n 0) [(yN (sNa a)).1]=wn ks a n:=by
   rw [app,List.foldl_cons,List.foldl_nil,byn_srt (srt_sl ks h),stp,if_neg (show ¬ (yN (sNa a)).1.put=true from Bool.false_ne_true)]
   exact del_sl ks h ha
  rw [e]
 ·rw [if_neg (by simp [hn]),wn_all ks (by omega),← hc]
theorem tsames_refl (l:List Ten):TSames l l:=⟨rfl,fun i _=>⟨rfl,rfl,rfl,rfl,rfl,rfl,rfl,rfl,rfl,rfl,rfl,rfl,rfl,rfl,rfl,rfl⟩⟩
theorem stg_put {c:Cgf} (ks:Nat→Int) {n j:Nat} (h:n≤8) (hj:j < n) (hc:c.ten=sLs ks n (j+1)) {t:Ten} (ht:SQ j t) (e:t=sQ j (ks j)):stg c ⟨true,sNa j,t⟩={ c with ten:=sLs ks n j }:=by
 rw [stg,if_pos (fts_sl ht),hc,e,app_sl ks h hj]
section
variable {w W:World} {p h m N:Nat} {D:Dk} {B:Int} {all:List (List Int)} {ps:Nat} {ver:Int} {c:Cgf} {st:Option Cgf} {n:Nat}
theorem tw_more {B0 C:List (Nat×Obj)} {u:Value} {ts:List Ten} (hT:TsB u ts B0 C) (H:TxA w W p h m N D B all ps ver c st n (B0++C)) (hn:ts.length≤900000) {X:World} {t:Ten} {q r s:Value} {C':List (Nat×Obj)} (hz:ZX (t,q,r,s) C') (hM':Mem W X C') {A:Array Value} (hA:(tc t q r s).toArray=A) (hon:A.all (·.oneCell')=true) :
 ∃ v4 V4 B',(Builtin.append_ #[37,37] 37 #[u,.slice (some ⟨X.heap.size,0,none⟩) 1 1]).run Tryz.prog (X.alloc (.cells A 46))=.ok v4 V4∧TsB v4 (ts++[t]) B' (C'++C)∧TxA w V4 p h m N D B all ps ver c st n (B'++(C'++C)):=by
 obtain ⟨zs,ez,hB,hzs⟩:=hT
 have hl:=hz.1
 have hzl:zs.length=ts.length:=by rw [←ez,List.length_map]
 have H2:=(H.push hM').join ((Below.refl X.heap.size X).alloc (Nat.le_refl _) (.cells A 46))
 obtain ⟨R,hM2,hb⟩:=H2.frame
 have hon2:∀ v∈tc t q r s,v.oneCell'=true:=by
  rw [←hA,Array.all_eq_true_iff_forall_mem] at hon
  intro v hv
  exact hon v (by simpa using hv)
 obtain ⟨v4,V4,B4,hrun,hM4,hB4⟩:=mem_append (t:=37) (ty:=37) Tryz.underlying37 infoT (by kernel_rfl) (by omega) (K:=C'++C++R) (hM2.perm (by
  classical
  rw [List.perm_iff_count]
  intro z
  simp only [List.count_append]
  omega)) hB ⟨X.heap.size,0,none⟩ (tc t q r s) (tc_len hl _ _ _) (fun j u hj=>by
   rw [addr_mid,Nat.zero_add,World.cell?_alloc_new,← hA]
   simpa using hj) hon2 (by omega) (by omega)
 refine ⟨v4,V4,B4,hrun,⟨zs++[(t,q,r,s)],by rw [List.map_append,ez];rfl,?_,?_⟩,hb _ _ (by rw [List.append_assoc];exact hM4)⟩
 ·rw [List.length_append,List.map_append,List.flatten_append]
  simpa [zc] using hB4
 ·intro y hy
  rcases List.mem_append.mp hy with hy | hy
  ·exact (hzs y hy).more fun x hx=>List.mem_append_right _ hx
  ·rw [List.mem_singleton] at hy;subst hy
   exact hz.zb fun x hx=>List.mem_append_left _ hx
end
end Go.Proofs.YtdigofgjhaakmaaGreatDoor
