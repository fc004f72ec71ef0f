/-
  The statements' seat of settings: its settings, block by block.
  The document's store: Take; a record of the document's.
  A store opened: txn.last, txn.Open.
-/
import Derived.Test.YtdigofgjhaakmaaGreatDoorW34
import Derived.Test.YtdigofgjhaakmaaGreatDoorW36
import Derived.Test.YtdigofgjhaakmaaGreatDoorW01
import Derived.Test.YtdigofgjhaakmaaGreatDoorW19
import Derived.Test.YtdigofgjhaakmaaGreatDoorW31
import Derived.Test.YtdigofgjhaakmaaGreatDoorW30
set_option linter.unusedVariables false
set_option linter.unusedSimpArgs false
set_option maxRecDepth 20000
set_option maxHeartbeats 40000000
namespace Go.Proofs.YtdigofgjhaakmaaGreatDoor
open Go.RowKit
open La
open Ad
open Va
open Sm (IsBytes)
abbrev Ty:=Tv×List (Nat×Obj)
def Cx (w V:World) (gc g4:Nat) (c:Cgf) (u:Value):Prop:=∃ (ys:List Ty) (B:List (Nat×Obj)),ys.map (fun y=>y.1.1)=c.ten∧OwB 46 33 u ys.length (ys.map (fun y=>zc y.1)).flatten B∧(∀ y∈ys,ZX y.1 y.2)∧CLen c∧Mem w V ((gc,.cells (cc c u).toArray 39)::(g4,.cells cz 39)::(B++ys.flatMap (·.2)))
theorem Cx.after {w V V':World} {gc g4:Nat} {c:Cgf} {u:Value} (h:Cx w V gc g4 c u) (hb:Below V.heap.size V V'):Cx w V' gc g4 c u:=by
 obtain ⟨ys,B,h1,h2,h3,h4,h5⟩:=h;exact ⟨ys,B,h1,h2,h3,h4,h5.after hb⟩
theorem Cx.below {w V:World} {gc g4:Nat} {c:Cgf} {u:Value} (h:Cx w V gc g4 c u):Below w.heap.size w V:=by
 obtain ⟨ys,B,h1,h2,h3,h4,h5⟩:=h;exact h5.below
theorem Cx.cell {w V:World} {gc g4:Nat} {c:Cgf} {u:Value} (h:Cx w V gc g4 c u):V.cell? ⟨gc,28,none⟩=some u:=by
 obtain ⟨ys,B,h1,h2,h3,h4,h5⟩:=h;exact (h5.cell 0 rfl 28).trans (cc_at28 h4 u)
theorem Cx.sl {w V:World} {gc g4:Nat} {c:Cgf} {u:Value} (h:Cx w V gc g4 c u):∃ a m c',u=.slice a m c':=by
 obtain ⟨ys,B,h1,h2,h3,h4,h5⟩:=h;exact owb_slice h2
theorem cx_more {w X X':World} {gc g4:Nat} {c:Cgf} {u:Value} {t:Ten} {p s q:Value} {C':List (Nat×Obj)} (h:Cx w X gc g4 c u) (hn:c.ten.length≤900000) (hz:ZX (t,p,s,q) C') (hM':Mem X X' C') {A:Array Value} (hA:(tc t p s q).toArray=A) (hon:A.all (·.oneCell')=true) :
  ∃ v4 V4,(Builtin.append_ #[37,37] 37 #[u,.slice (some ⟨X'.heap.size,0,none⟩) 1 1]).run Tryz.prog (X'.alloc (.cells A 46))=.ok v4 V4∧(∃ a m c,v4=.slice a m c)∧(∃ v0,V4.cell? ⟨gc,28,none⟩=some v0)∧(∀ j,V4.frozen? ⟨gc,j,none⟩=false)∧Below w.heap.size w V4∧Below w.heap.size w (V4.setCell ⟨gc,28,none⟩ v4) ∧
   Cx w (V4.setCell ⟨gc,28,none⟩ v4) gc g4 { c with ten:=c.ten++[t] } v4:=by
 obtain ⟨ys,B,ez,hB,hzs,hcl,hM⟩:=h
 have hl:=hz.1
 have hzl:ys.length=c.ten.length:=by rw [←ez,List.length_map]
 have hM2:=(hM.join hM').after ((Below.refl X'.heap.size X').alloc (Nat.le_refl _) (.cells A 46))
 have hon2:∀ v∈tc t p s q,v.oneCell'=true:=by
  rw [←hA,Array.all_eq_true_iff_forall_mem] at hon
  intro v hv
  exact hon v (by simpa using hv)
 obtain ⟨v4,V4,B4,hrun,hM4,hB4⟩:=mem_append (t:=37) (ty:=37) Tryz.underlying37 infoT (by kernel_rfl) (by omega) (K:=(gc,.cells (cc c u).toArray 39)::(g4,.cells cz 39)::(ys.flatMap (·.2)++C')) (hM2.perm (by
  classical
  rw [List.perm_iff_count]
  intro z
  simp only [List.count_append,List.count_cons,List.count_nil]
  omega)) hB ⟨X'.heap.size,0,none⟩ (tc t p s q) (tc_len hl _ _ _) (fun j u hj=>by
   rw [addr_mid,Nat.zero_add,World.cell?_alloc_new,← hA]
   simpa using hj) hon2 (by omega) (by omega)
 have hM5:Mem w V4 ((gc,.cells (cc c u).toArray 39)::(g4,.cells cz 39)::(B4++(ys.flatMap (·.2)++C'))):=hM4.perm (by
  classical
  rw [List.perm_iff_count]
  intro z
  simp only [List.count_append,List.count_cons,List.count_nil]
  omega)
 have h6:=hM5.set 0 rfl 28 v4
 rw [List.set_cons_zero,cc_ten c _ v4 hcl] at h6
 refine ⟨v4,V4,hrun,owb_slice hB4,⟨_,(hM5.cell 0 rfl 28).trans (cc_at28 hcl _)⟩,hM5.free 0 rfl,hM5.below,h6.below,ys++[((t,p,s,q),C')],B4,?_,?_,?_,⟨hcl.mac,hcl.omac,hcl.nmac,hcl.key⟩,?_⟩
 ·rw [List.map_append,ez];rfl
 ·rw [List.length_append,List.map_append,List.flatten_append]
  simpa [zc] using hB4
 ·intro y hy
  rcases List.mem_append.1 hy with hy | hy
  ·exact hzs y hy
  ·rw [List.mem_singleton] at hy;subst hy;exact hz
 ·have e:[((t,p,s,q),C')].flatMap (fun y:Ty=>y.2)=C':=by simp
  rw [List.flatMap_append,e];exact h6
def ScD (d:Int) (n:Nat) (ks:Nat→Int) (w:World) (e:Ending) (V:World):Prop:=∃ (f:Int) (ys:List Ty) (u:Value) (B:List (Nat×Obj)),(0≤f∧f≤7)∧f=Int.tmod d 8∧e=.returned (.agg (cc ⟨adr 10 9 0 200,[2,1,0,0,0,0],[2,2,0,0,0,0],[2,3,0,0,0,0],[200,0,0,0,0,0,0,0],f,ys.map (fun y=>y.1.1)⟩ u).toArray)∧ys.length=n∧(∀ j y,ys[j]? = some y→SeatQ j (ks j) y.1.1)∧OwB 46 33 u ys.length (ys.map (fun y=>zc y.1)).flatten B∧(∀ y∈ys,ZX y.1 y.2)∧Mem w V (B++ys.flatMap (·.2))
theorem sconf16_any (w:World) (a:Option Addr) (n cap:Nat) (ks:Nat→Int) (hks:∀ i,i < n→∃ b off,a=some ⟨b,off,none⟩∧w.cell? ⟨b,off+i,none⟩=some (.int .u16 (ks i))∧0≤ks i∧ks i≤65535) (d:Int) (hd0:0≤d) (hd1:d≤255) :
  Calls Tryz.prog 34 #[.slice a n cap,.int .u8 d] w (ScD d (min n 4) ks w):=by
 obtain ⟨g4,hg4⟩:∃ g4,w.heap.size=g4:=⟨_,rfl⟩
 obtain ⟨f,hf⟩:∃ x:Int,Int.tmod d 8=x:=⟨_,rfl⟩
 have hf2:0≤f∧f≤7:=by rw [←hf,Int.tmod_eq_emod_of_nonneg hd0];omega
 obtain ⟨a0,ha0⟩:∃ x:Int,adr 10 9 0 200=x:=⟨_,rfl⟩
 have A1:∀ X,Calls Tryz.prog 66 #[.int .u8 10,.int .u8 9,.int .u8 0,.int .u8 200] X fun e w'=>e=.returned (.int .u32 a0)∧X=w':=fun X=>by rw [←ha0];exact addr_any X 10 9 0 200 (by omega) (by omega) (by omega) (by omega)
 have e5:IntKind.u32.wrap f=f:=wrap32_small _ (by omega) (by omega)
 have HB0:Hid ((cc ⟨a0,[2,1,0,0,0,0],[2,2,0,0,0,0],[2,3,0,0,0,0],[200,0,0,0,0,0,0,0],f,[]⟩ nilV).toArray=(cc ⟨a0,[2,1,0,0,0,0],[2,2,0,0,0,0],[2,3,0,0,0,0],[200,0,0,0,0,0,0,0],f,[]⟩ nilV).toArray):=rfl
 obtain ⟨B0,hB0⟩:∃ B0,(cc ⟨a0,[2,1,0,0,0,0],[2,2,0,0,0,0],[2,3,0,0,0,0],[200,0,0,0,0,0,0,0],f,[]⟩ nilV).toArray=B0:=⟨_,rfl⟩
 have HB1:Hid ((cc ⟨a0,[2,1,0,0,0,0],[2,2,0,0,0,0],[2,3,0,0,0,0],[200,0,0,0,0,0,0,0],f,[]⟩ nilV).toArray=B0):=hB0
 have hsz:B0.size=29:=by rw [←hB0];rfl
 have hone:B0.all (·.oneCell')=true:=by rw [←hB0];exact cc_one _ rfl
 have i29:(Tryz.prog.info? 39).map (·.size)=some B0.size:=by rw [hsz];kernel_rfl
 have hM0:Mem w (w.alloc (.cells cz 39)) [(g4,.cells cz 39)]:=(Mem.nil w).push1 hg4.symm
 obtain ⟨N,hN⟩:∃ N,min n 4=N:=⟨_,rfl⟩
 rw [hN]
 have HN:Hid (N≤n∧N≤4∧(N=n∨N=4)):=by rw [←hN];exact ⟨by omega,by omega,by omega⟩
 have HK:Hid (∀ i,i < n→∃ b off,a=some ⟨b,off,none⟩∧0≤ks i∧ks i≤65535∧∀ X,Below w.heap.size w X→X.cell? ⟨b,off+i,none⟩=some (.int .u16 (ks i))):=by
  intro i hi
  obtain ⟨b,off,e,hc,h0,h1⟩:=hks i hi
  exact ⟨b,off,e,h0,h1,fun X hb=>(hb.cell (cell_in hc)).trans hc⟩
 have HV:Hid (adr 10 9 0 200=a0∧0≤f∧f≤7):=⟨ha0,hf2⟩
 have HF:Hid (f=Int.tmod d 8):=hf.symm
 clear hB0 HB0 hf2 ha0 hks hN
 go_enter Tryz.func34,Tryz.ntmps34
 go_upto_region 1 with fail
 refine wp_letter (fun X=>Mem w X [(g4,Obj.cells cz 39)]) (by exact hM0) ?_
 intro V0 hM
 try simp only [hg4]
 clear hM0 hg4
 obtain ⟨gc,hgc⟩:∃ gc,V0.heap.size=gc:=⟨_,rfl⟩
 have hk1:(V0.alloc (.cells cz 39)).heap[gc]? = some (.cells cz 39):=by rw [←hgc];exact heap_alloc_new _ _
 have e9:(V0.alloc (.cells cz 39)).setRow gc B0=V0.alloc (.cells B0 39):=by
  rw [←hgc];exact World.setRow_alloc_new V0 cz B0 39
 have HP:Hid (Cx w ((V0.alloc (.cells cz 39)).setRow gc B0) gc g4 ⟨a0,[2,1,0,0,0,0],[2,2,0,0,0,0],[2,3,0,0,0,0],[200,0,0,0,0,0,0,0],f,[]⟩ nilV):=by
  rw [e9]
  refine ⟨[],[],rfl,OwB.nil _ _,by simp,⟨rfl,rfl,rfl,rfl⟩,?_⟩
  rw [HB1.out]
  exact hM.front _ hgc.symm
 clear e9 hM
 go_wp2_with fail
 refine (A1 _).mono ?_
 rintro e _ ⟨rfl,rfl⟩
 clear A1
 go_upto_region 2 with (refine wpList_store_row rfl 39 (.tmp 5) (.tmp 15) (by with_reducible rfl) gc B0 (by simp [Act.eval];try exact hgc) (by rw [←HB1.out];rfl) 39 cz hk1 i29 (by rw [hsz];rfl) hone ?_)
 refine wp_letter (fun X=>Cx w X gc g4 ⟨a0,[2,1,0,0,0,0],[2,2,0,0,0,0],[2,3,0,0,0,0],[200,0,0,0,0,0,0,0],f,[]⟩ nilV) (by exact HP.out) ?_
 intro V1 hR
 try simp only [hgc]
 have H0:Hid (∃ ts u,ts.length=0∧(∀ j t,ts[j]? = some t→SeatQ j (ks j) t)∧Cx w V1 gc g4 ⟨a0,[2,1,0,0,0,0],[2,2,0,0,0,0],[2,3,0,0,0,0],[200,0,0,0,0,0,0,0],f,ts⟩ u):=⟨[],nilV,rfl,by simp,hR⟩
 clear HP hgc hk1 hsz hone i29 HB1 hR
 go_wp2_with fail
 go_loopw [6] (fun v w'=>∃ i:Nat,i≤N∧v=.int .i64 i∧Hid (∃ ts u,ts.length=i∧(∀ j t,ts[j]? = some t→SeatQ j (ks j) t)∧Cx w w' gc g4 ⟨a0,[2,1,0,0,0,0],[2,2,0,0,0,0],[2,3,0,0,0,0],[200,0,0,0,0,0,0,0],f,ts⟩ u)) (fun v w'=>N - (intOf v).toNat)
 case atStart=>exact ⟨0,Nat.zero_le _,rfl,H0⟩
 case round =>
  obtain ⟨i,hi,rfl,HR⟩:=hrel
  clear H0
  obtain ⟨ts,u,hts,hSt,hC⟩:=HR.out
  obtain ⟨pa,pm,pc,rfl⟩:=hC.sl
  have hNN:=HN.out
  by_cases hlt:i < N
  ·have h1:(i:Int) < n:=by omega
   have h2:(i:Int) < 4:=by omega
   have e7:IntKind.i64.wrap ((i:Int)+1)=(i:Int)+1:=wrap64 (by omega) (by omega)
   obtain ⟨b,off,rfl,hk0,hk1,hkc⟩:=HK.out i (by omega)
   obtain ⟨kk,hkk⟩:∃ kk,ks i=kk:=⟨_,rfl⟩
   rw [hkk] at hk0 hk1 hkc
   have CT:∀ X,Calls Tryz.prog 35 #[.int .i64 (i:Int),.int .u16 kk] X (StQ i kk X):=fun X=>sten14_any X i (by omega) kk hk0 hk1
   have HKC:Hid (∀ X,Below w.heap.size w X→X.cell? ⟨b,off+i,none⟩=some (.int .u16 kk)):=hkc
   have HKK:Hid (kk=ks i):=hkk.symm
   have HC:Hid (Cx w wr.drew gc g4 ⟨a0,[2,1,0,0,0,0],[2,2,0,0,0,0],[2,3,0,0,0,0],[200,0,0,0,0,0,0,0],f,ts⟩ (.slice pa pm pc)):=hC.after ((Below.refl _ _).drew)
   have HTS:Hid (ts.length=i∧i < N∧N≤4∧∀ j t,ts[j]? = some t→SeatQ j (ks j) t):=⟨hts,hlt,hNN.2.1,hSt⟩
   have p0:=HC.out.cell
   have pk0:=HKC.out _ HC.out.below
   have pk9:=HKC.out _ hC.below
   have hii:(0:Int)≤i:=by omega
   clear hkc hC HR hts hSt hNN hkk hk0 hk1
   go_upto_region 5 with fail
   refine wp_region_held_drew (S:=fun X=>X.cell? ⟨b,off+i,none⟩=some (.int .u16 kk)) (by kernel_rfl) pk0 (fun hHeld=>?_)
   refine tkq 0 rfl (v:=?_) (Or.inl ⟨by rfl,?qay0⟩) ?_
   case qay0=>intro w hSw;(try dsimp only at hSw);go_simp;all_goals with_reducible rfl
   try simp only [sqa,sqb,sqc,Act.put,sqd,sqe,sqf]
   refine tkq 2 rfl (v:=?_) (Or.inl ⟨by rfl,?qay2⟩) ?_
   case qay2=>intro w hSw;(try dsimp only at hSw);go_simp;all_goals with_reducible rfl
   try simp only [sqa,sqb,sqc,Act.put,sqd,sqe,sqf]
   refine tkq 3 rfl (v:=?_) (Or.inl ⟨by rfl,?qay3⟩) ?_
   case qay3=>intro w hSw;(try dsimp only at hSw);go_simp;all_goals with_reducible rfl
   try simp only [sqa,sqb,sqc,Act.put,sqd,sqe,sqf]
   refine tkq 4 rfl (v:=?_) (Or.inl ⟨by rfl,?qay4⟩) ?_
   case qay4=>intro w hSw;(try dsimp only at hSw);go_simp;all_goals with_reducible rfl
   try simp only [sqa,sqb,sqc,Act.put,sqd,sqe,sqf]
   refine tkq 5 rfl (v:=?_) (Or.inl ⟨by rfl,?qay5⟩) ?_
   case qay5=>intro w hSw;(try dsimp only at hSw);go_simp;all_goals with_reducible rfl
   try simp only [sqa,sqb,sqc,Act.put,sqd,sqe,sqf]
   refine tkq 6 rfl (v:=?_) (Or.inl ⟨by rfl,?qay6⟩) ?_
   case qay6=>intro w hSw;(try dsimp only at hSw);go_simp;all_goals with_reducible rfl
   try simp only [sqa,sqb,sqc,Act.put,sqd,sqe,sqf]
   refine wpAnyH_ready (rs:=[1,7]) (by kernel_rfl) (by simp) ?_
   refine AllReadyH.cons rfl (fun KK hK=>?_) (AllReadyH.cons rfl (fun KK hK=>?_) AllReadyH.nil)
   ·go_simp
    refine hK.out _ _ (by assumption) (fun hHeld=>?_)
    clear hK KK
    try simp only [sqa,sqb,sqc,Act.put,sqd,sqe,sqf]
    refine wpAnyH_ready (rs:=[7]) (by kernel_rfl) (by simp) ?_
    refine AllReadyH.cons rfl (fun KK hK=>?_) AllReadyH.nil
    go_simp
    with_reducible refine (CT _).mono ?_
    rintro e V2 ⟨t,p,s,q,C',rfl,hS,hzx,hM'⟩
    have hl:=hzx.1
    have hz:=hzx.zb (C:=C') (fun x hx=>hx)
    obtain ⟨A,hA⟩:∃ A,(tc t p s q).toArray=A:=⟨_,rfl⟩
    rw [hA]
    have hbs:=bsliceT (t,p,s,q) hl
    rw [show (zc (t,p,s,q)).toArray=A from hA] at hbs
    have hbs1:=hbs V2
    have hon:A.all (·.oneCell')=true:=by rw [←hA];exact all_oneCell_toArray (zb_one hz)
    have hB2:=HC.out.below.trans (hM'.below.mono (Below.size HC.out.below))
    have hC2:=HC.out.after hM'.below
    have p1:=hC2.cell
    have p2:=(hC2.after ((Below.refl V2.heap.size V2).alloc (Nat.le_refl _) (.cells A 46))).cell
    have pk1:=HKC.out _ hC2.below
    have pk2:=HKC.out _ (hC2.after ((Below.refl V2.heap.size V2).alloc (Nat.le_refl _) (.cells A 46))).below
    obtain ⟨v4,V4,hrun,⟨qa,qm,qc,rfl⟩,⟨v0,cv0⟩,fr4,hb4,hb5,hH⟩:=cx_more HC.out (by show ts.length≤_;have:=HTS.out;omega) hzx hM' hA hon
    have pk4:=HKC.out _ hb4
    have pk5:=HKC.out _ hb5
    have HH:Hid (∃ ts u,ts.length=i+1∧(∀ j t,ts[j]? = some t→SeatQ j (ks j) t)∧Cx w (V4.setCell ⟨gc,28,none⟩ (.slice qa qm qc)) gc g4 ⟨a0,[2,1,0,0,0,0],[2,2,0,0,0,0],[2,3,0,0,0,0],[200,0,0,0,0,0,0,0],f,ts⟩ u):=by
     refine ⟨ts++[t],_,by rw [List.length_append,HTS.out.1];rfl,fun j t' hj=>?_,hH⟩
     rcases Nat.lt_or_ge j ts.length with hjl | hjl
     ·rw [List.getElem?_append_left hjl] at hj;exact HTS.out.2.2.2 j t' hj
     ·rw [List.getElem?_append_right hjl] at hj
      have hj0:j - ts.length=0:=by
       rcases Nat.eq_zero_or_pos (j - ts.length) with h0 | h0
       ·exact h0
       ·rw [List.getElem?_eq_none (by simp;omega)] at hj;cases hj
      rw [hj0] at hj
      have ej:j=i:=by have:=HTS.out.1;omega
      simp at hj;subst hj;rw [ej];exact HKK.out ▸ hS
    clear hH hM' hz hS hon hA hl hbs hB2 hC2 hzx
    try go_wp2_with fail
    refine hK.out _ _ (by assumption) (fun hHeld=>?_)
    clear hK KK
    try simp only [sqa,sqb,sqc,Act.put,sqd,sqe,sqf]
    refine wpAnyH_ready (rs:=[8]) (by kernel_rfl) (by simp) ?_
    refine AllReadyH.cons rfl (fun KK hK=>?_) AllReadyH.nil
    refine step_bsl rfl 37 1 _ rfl hbs1 (by simp [Act.eval]) ?_
    refine hK.out _ _ (by assumption) (fun hHeld=>?_)
    clear hK KK
    try simp only [sqa,sqb,sqc,Act.put,sqd,sqe,sqf]
    refine wpAnyH_ready (rs:=[9]) (by kernel_rfl) (by simp) ?_
    refine AllReadyH.cons rfl (fun KK hK=>?_) AllReadyH.nil
    refine step_append_run rfl (.tmp 27) (.tmp 34) 37 37 rfl (by simp [Act.eval]) (by simp [Act.eval]) hrun ?_
    refine hK.out _ _ (by assumption) (fun hHeld=>?_)
    clear hK KK
    try simp only [sqa,sqb,sqc,Act.put,sqd,sqe,sqf]
    refine tkq 10 rfl (v:=?_) (Or.inl ⟨by rfl,?qbzy10⟩) ?_
    case qbzy10=>intro w hSw;(try dsimp only at hSw);go_simp;all_goals with_reducible rfl
    try simp only [sqa,sqb,sqc,Act.put,sqd,sqe,sqf]
    refine wpAnyH_ready (rs:=[11]) (by kernel_rfl) (by simp) ?_
    refine AllReadyH.cons rfl (fun KK hK=>?_) AllReadyH.nil
    go_simp
    refine hK.out _ _ (by assumption) (fun hHeld=>?_)
    clear hK KK
    try simp only [sqa,sqb,sqc,Act.put,sqd,sqe,sqf]
    refine wpAnyH_done (by kernel_rfl) ?_ _
    go_wp2_with fail
    go_roundw
    case rel=>exact ⟨i+1,by omega,by go_num,HH⟩
    case measure=>simp [intOf];omega
   ·go_simp
    with_reducible refine (CT _).mono ?_
    rintro e V2 ⟨t,p,s,q,C',rfl,hS,hzx,hM'⟩
    have hl:=hzx.1
    have hz:=hzx.zb (C:=C') (fun x hx=>hx)
    obtain ⟨A,hA⟩:∃ A,(tc t p s q).toArray=A:=⟨_,rfl⟩
    rw [hA]
    have hbs:=bsliceT (t,p,s,q) hl
    rw [show (zc (t,p,s,q)).toArray=A from hA] at hbs
    have hbs1:=hbs V2
    have hon:A.all (·.oneCell')=true:=by rw [←hA];exact all_oneCell_toArray (zb_one hz)
    have hB2:=HC.out.below.trans (hM'.below.mono (Below.size HC.out.below))
    have hC2:=HC.out.after hM'.below
    have p1:=hC2.cell
    have p2:=(hC2.after ((Below.refl V2.heap.size V2).alloc (Nat.le_refl _) (.cells A 46))).cell
    have pk1:=HKC.out _ hC2.below
    have pk2:=HKC.out _ (hC2.after ((Below.refl V2.heap.size V2).alloc (Nat.le_refl _) (.cells A 46))).below
    obtain ⟨v4,V4,hrun,⟨qa,qm,qc,rfl⟩,⟨v0,cv0⟩,fr4,hb4,hb5,hH⟩:=cx_more HC.out (by show ts.length≤_;have:=HTS.out;omega) hzx hM' hA hon
    have pk4:=HKC.out _ hb4
    have pk5:=HKC.out _ hb5
    have HH:Hid (∃ ts u,ts.length=i+1∧(∀ j t,ts[j]? = some t→SeatQ j (ks j) t)∧Cx w (V4.setCell ⟨gc,28,none⟩ (.slice qa qm qc)) gc g4 ⟨a0,[2,1,0,0,0,0],[2,2,0,0,0,0],[2,3,0,0,0,0],[200,0,0,0,0,0,0,0],f,ts⟩ u):=by
     refine ⟨ts++[t],_,by rw [List.length_append,HTS.out.1];rfl,fun j t' hj=>?_,hH⟩
     rcases Nat.lt_or_ge j ts.length with hjl | hjl
     ·rw [List.getElem?_append_left hjl] at hj;exact HTS.out.2.2.2 j t' hj
     ·rw [List.getElem?_append_right hjl] at hj
      have hj0:j - ts.length=0:=by
       rcases Nat.eq_zero_or_pos (j - ts.length) with h0 | h0
       ·exact h0
       ·rw [List.getElem?_eq_none (by simp;omega)] at hj;cases hj
      rw [hj0] at hj
      have ej:j=i:=by have:=HTS.out.1;omega
      simp at hj;subst hj;rw [ej];exact HKK.out ▸ hS
    clear hH hM' hz hS hon hA hl hbs hB2 hC2 hzx
    try go_wp2_with fail
    refine hK.out _ _ (by assumption) (fun hHeld=>?_)
    clear hK KK
    try simp only [sqa,sqb,sqc,Act.put,sqd,sqe,sqf]
    refine wpAnyH_ready (rs:=[1,8]) (by kernel_rfl) (by simp) ?_
    refine AllReadyH.cons rfl (fun KK hK=>?_) (AllReadyH.cons rfl (fun KK hK=>?_) AllReadyH.nil)
    ·go_simp
     refine hK.out _ _ (by assumption) (fun hHeld=>?_)
     clear hK KK
     try simp only [sqa,sqb,sqc,Act.put,sqd,sqe,sqf]
     refine wpAnyH_ready (rs:=[8]) (by kernel_rfl) (by simp) ?_
     refine AllReadyH.cons rfl (fun KK hK=>?_) AllReadyH.nil
     refine step_bsl rfl 37 1 _ rfl hbs1 (by simp [Act.eval]) ?_
     refine hK.out _ _ (by assumption) (fun hHeld=>?_)
     clear hK KK
     try simp only [sqa,sqb,sqc,Act.put,sqd,sqe,sqf]
     refine wpAnyH_ready (rs:=[9]) (by kernel_rfl) (by simp) ?_
     refine AllReadyH.cons rfl (fun KK hK=>?_) AllReadyH.nil
     refine step_append_run rfl (.tmp 27) (.tmp 34) 37 37 rfl (by simp [Act.eval]) (by simp [Act.eval]) hrun ?_
     refine hK.out _ _ (by assumption) (fun hHeld=>?_)
     clear hK KK
     try simp only [sqa,sqb,sqc,Act.put,sqd,sqe,sqf]
     refine tkq 10 rfl (v:=?_) (Or.inl ⟨by rfl,?qczy10⟩) ?_
     case qczy10=>intro w hSw;(try dsimp only at hSw);go_simp;all_goals with_reducible rfl
     try simp only [sqa,sqb,sqc,Act.put,sqd,sqe,sqf]
     refine wpAnyH_ready (rs:=[11]) (by kernel_rfl) (by simp) ?_
     refine AllReadyH.cons rfl (fun KK hK=>?_) AllReadyH.nil
     go_simp
     refine hK.out _ _ (by assumption) (fun hHeld=>?_)
     clear hK KK
     try simp only [sqa,sqb,sqc,Act.put,sqd,sqe,sqf]
     refine wpAnyH_done (by kernel_rfl) ?_ _
     go_wp2_with fail
     go_roundw
     case rel=>exact ⟨i+1,by omega,by go_num,HH⟩
     case measure=>simp [intOf];omega
    ·refine step_bsl rfl 37 1 _ rfl hbs1 (by simp [Act.eval]) ?_
     refine hK.out _ _ (by assumption) (fun hHeld=>?_)
     clear hK KK
     try simp only [sqa,sqb,sqc,Act.put,sqd,sqe,sqf]
     refine wpAnyH_ready (rs:=[1]) (by kernel_rfl) (by simp) ?_
     refine AllReadyH.cons rfl (fun KK hK=>?_) AllReadyH.nil
     go_simp
     refine hK.out _ _ (by assumption) (fun hHeld=>?_)
     clear hK KK
     try simp only [sqa,sqb,sqc,Act.put,sqd,sqe,sqf]
     refine wpAnyH_ready (rs:=[9]) (by kernel_rfl) (by simp) ?_
     refine AllReadyH.cons rfl (fun KK hK=>?_) AllReadyH.nil
     refine step_append_run rfl (.tmp 27) (.tmp 34) 37 37 rfl (by simp [Act.eval]) (by simp [Act.eval]) hrun ?_
     refine hK.out _ _ (by assumption) (fun hHeld=>?_)
     clear hK KK
     try simp only [sqa,sqb,sqc,Act.put,sqd,sqe,sqf]
     refine tkq 10 rfl (v:=?_) (Or.inl ⟨by rfl,?qdzy10⟩) ?_
     case qdzy10=>intro w hSw;(try dsimp only at hSw);go_simp;all_goals with_reducible rfl
     try simp only [sqa,sqb,sqc,Act.put,sqd,sqe,sqf]
     refine wpAnyH_ready (rs:=[11]) (by kernel_rfl) (by simp) ?_
     refine AllReadyH.cons rfl (fun KK hK=>?_) AllReadyH.nil
     go_simp
     refine hK.out _ _ (by assumption) (fun hHeld=>?_)
     clear hK KK
     try simp only [sqa,sqb,sqc,Act.put,sqd,sqe,sqf]
     refine wpAnyH_done (by kernel_rfl) ?_ _
     go_wp2_with fail
     go_roundw
     case rel=>exact ⟨i+1,by omega,by go_num,HH⟩
     case measure=>simp [intOf];omega
  ·obtain rfl:i=N:=by omega
   obtain ⟨ys,B,ez,hB,hz,hcl,hM⟩:=hC
   obtain ⟨A,hA⟩:∃ A,(cc ⟨a0,[2,1,0,0,0,0],[2,2,0,0,0,0],[2,3,0,0,0,0],[200,0,0,0,0,0,0,0],f,ts⟩ (.slice pa pm pc)).toArray=A:=⟨_,rfl⟩
   rw [hA] at hM
   have hsz:A.size=29:=by rw [←hA,List.size_toArray];exact cc_len hcl _
   have hone:A.all (·.oneCell')=true:=by rw [←hA];exact cc_one _ rfl
   have i29:(Tryz.prog.info? 39).map (·.size)=some A.size:=by rw [hsz];kernel_rfl
   have k4:=hM.get 0 rfl
   have k5:=hM.get 1 rfl
   have hM3:=hM.wrote 1 rfl (wrote_setRow wr g4 _ A _ k5)
   have HQ:Hid ((wr.setRow g4 A).heap[g4]? = some (.cells A 39)∧ScD d i ks w (.returned (.agg A)) (wr.setRow g4 A)):=by
    refine ⟨hM3.get 1 rfl,f,ys,_,B,HV.out.2,HF.out,?_,?_,?_,hB,hz,hM3.sub.sub⟩
    ·have ez':ys.map (fun y=>y.1.1)=ts:=ez
     rw [←hA,ez',HV.out.1]
    ·have:=congrArg List.length ez
     rw [List.length_map] at this
     rw [this];exact hts
    ·intro j y hj
     apply hSt j
     have ez':ys.map (fun y=>y.1.1)=ts:=ez
     rw [←ez',List.getElem?_map,hj];rfl
   have d1:(((i:Int) < n)∧¬ ((i:Int) < 4))∨¬ ((i:Int) < n):=by omega
   clear HR hM hM3 hB hz ez hSt hts hcl hA HK hNN HN
   rcases d1 with ⟨h1,h2⟩ | h1
   all_goals
    go_wp2_with (first | (refine wpList_load_row rfl 39 (.tmp 5) (by with_reducible rfl) gc (by first | rfl | simp [Act.eval]) 39 A (0,0) _ k4 Tryz.underlying39 rfl i29 ?_) | (refine wpList_store_row rfl 39 (.tmp 4) (.tmp 37) (by with_reducible rfl) g4 A (by first | rfl | simp [Act.eval]) (by first | rfl | simp [Act.eval]) 39 cz k5 i29 (by rw [hsz];rfl) hone ?_))
    refine bodyPost_ret (v:=.agg A) ?_ rfl HQ.out.2
    exact results_cell_row (p:=4) (ty:=39) rfl _ _ g4 39 _ (0,0) _ rfl HQ.out.1 Tryz.underlying39 rfl i29
end Go.Proofs.YtdigofgjhaakmaaGreatDoor
namespace Go.Proofs.YtdigofgjhaakmaaGreatDoor
open Go.RowKit
open Sm
open Cf
open Df
open Va
section
variable {ver:Int} {c t:Cgf} {u ut:Value} {op:Bool} {w W:World} {pm:Nat} {L:List (Nat×Obj)}
end
end Go.Proofs.YtdigofgjhaakmaaGreatDoor
namespace Go.Proofs.YtdigofgjhaakmaaGreatDoor
open Go.RowKit
open Sm
open Cf
theorem rs_end {v:Value} {bl:List (List Int)} {Y:List (Nat×Obj)} (h:RS v bl Y) {r:List Int} (hr:bl.getLast? = some r) {V:World} (hV:Has V Y) (hl:r.length≤100000000) :
 ∃ hh n cap ad,v=.slice (some ⟨hh,0,none⟩) (n+1) cap∧n+1≤cap∧V.cell? ⟨hh,n,none⟩=some (.slice ad r.length r.length)∧Sl V ad r r.length:=by
 rcases h with ⟨_,e,_⟩ | ⟨hh,cap,hc,ks,rfl,h0,h1,h2,h3,h4,h5,rfl⟩
 ·rw [e] at hr;simp at hr
 ·obtain ⟨n,hn⟩:∃ n,bl.length=n+1:=⟨bl.length - 1,by omega⟩
  have hi:bl[n]? = some r:=by rw [List.getLast?_eq_getElem?,hn] at hr;exact hr
  have hil:=(List.getElem?_eq_some_iff.mp hi).1
  rw [←h5,List.getElem?_map] at hi
  obtain ⟨k,hk,hkr⟩:=Option.map_eq_some_iff.mp hi
  have hk2:=h4 k (List.mem_of_getElem? hk)
  have e:=congrArg (fun l=>l[n]?) h3
  simp only [List.getElem?_map,hk,Option.map_some,List.getElem?_take,if_pos hil,Array.getElem?_toList] at e
  have hg:=hV (k.g,.cells k.cur 5) (List.mem_cons_of_mem _ (List.mem_map.mpr ⟨k,List.mem_of_getElem? hk,rfl⟩))
  refine ⟨hh,n,cap,some ⟨k.g,0,none⟩,by rw [hn],by omega,?_,?_⟩
  ·rw [cell_of (hV (hh,.cells hc 86) (by simp)),e,Bk.hdB,hk2.2,hkr]
  ·have ho:=hk2.1
   rw [hkr] at ho
   have ho2:(Bk.mk k.g k.cap k.cur r).Ok r.length:=by rw [←hkr] at ho ⊢;exact ho
   exact ⟨row_of_bk ho2 hg (by omega),Nat.le_refl _,by omega,nofun⟩
theorem last_nil (w:World):Calls Tryz.prog 42 #[.slice none 0 0] w fun e V=>e=.returned (.tuple #[.agg s0A,.int .i64 0])∧Below w.heap.size w V:=by
 obtain ⟨g,hg⟩:∃ g,w.heap.size=g:=⟨_,rfl⟩
 have hM0:Mem w (w.alloc (.cells s0A stS)) [(g,.cells s0A stS (0,0))]:=(Mem.nil w).push1 hg.symm
 have hi30:(Tryz.prog.info? stS).map (·.size)=some s0A.size:=by kernel_rfl
 go_enter Tryz.func42,Tryz.ntmps42
 go_upto_region 1 with fail
 refine wp_letter (fun X=>Mem w X [(g,.cells s0A stS (0,0))]) (by exact hM0) ?_
 intro V0 hM
 try simp only [hg]
 clear hM0 hg
 have k0:=hM.get 0 rfl
 have hM1:=hM.wrote 0 rfl (wrote_setRow V0 g _ s0A _ k0)
 have HQ:Hid ((V0.setRow g s0A).heap[g]? = some (.cells s0A stS (0,0))∧Below w.heap.size w (V0.setRow g s0A)):=⟨hM1.get 0 rfl,hM1.below⟩
 clear hM hM1
 go_wp2_with (refine wpList_store_row rfl stS (.tmp 2) (.tmp 7) (by with_reducible rfl) g s0A (by first | rfl | simp [Act.eval]) (by first | rfl | simp [Act.eval]) stS s0A k0 hi30 rfl s0A_one ?_)
 refine bodyPost_ret (v:=.tuple #[.agg s0A,.int .i64 0]) ?_ rfl ⟨rfl,HQ.out.2⟩
 exact results_two' (p:=2) (q:=3) (ty:=stS) rfl _ _ g _ rfl (run_loadVar_row _ _ stS stS _ (0,0) _ HQ.out.1 Tryz.underlying96 rfl hi30)
theorem last_some {w:World} {v:Value} {bl:List (List Int)} {Y:List (Nat×Obj)} (h:RS v bl Y) (hY:∀ x∈Y,w.heap[x.1]? = some x.2) {r:List Int} (hr:bl.getLast? = some r) (hl:r.length≤100000000) (hbl:bl.length≤1000) (h8:8≤r.length) {c:Cgf} (hd:cdec (r.drop 8)=some c) :
 Calls Tryz.prog 42 #[v] w (RdP w (num (r.take 8)) c):=by
 obtain ⟨g,hg⟩:∃ g,w.heap.size=g:=⟨_,rfl⟩
 have hM0:Mem w (w.alloc (.cells s0A stS)) [(g,.cells s0A stS (0,0))]:=(Mem.nil w).push1 hg.symm
 have hlt:∀ x∈Y,x.1 < w.heap.size:=fun x hx=>(Array.getElem?_eq_some_iff.mp (hY x hx)).1
 have hH:∀ V,Below w.heap.size w V→Has V Y:=fun V hV x hx=>(hV.block x.1 (hlt x hx)).trans (hY x hx)
 obtain ⟨a0,c0,hv⟩:=h.shape
 obtain ⟨hh,n,cap,ad,e,hc,hcell,hs⟩:=rs_end h hr (hH _ hM0.below) hl
 have hnb:n+1≤1000:=by
  rw [hv] at e
  simp only [Value.slice.injEq] at e
  omega
 have C:=rd_any hs rfl h8 hd
 subst e
 clear hv h hH hY hlt hs hr
 have HM0:Hid (Mem w (w.alloc (.cells s0A stS)) [(g,.cells s0A stS (0,0))]):=hM0
 have hn1:((n:Int)+1 == 0)=false:=by rw [beq_eq_false_iff_ne];omega
 have hn2:IntKind.i64.wrap ((n:Int)+1 - 1)=n:=by rw [wrap64n (by omega) (by omega)];omega
 have hn3:(n:Int) < (n:Int)+1:=by omega
 obtain ⟨rl,hrl⟩:∃ k,r.length=k:=⟨_,rfl⟩
 rw [hrl] at hcell C
 obtain ⟨N,hN⟩:∃ N,num (r.take 8)=N:=⟨_,rfl⟩
 rw [hN] at C ⊢
 have HL:Hid (Mem w (w.alloc (.cells s0A stS)) [(g,.cells s0A stS (0,0))]∧(w.alloc (.cells s0A stS)).cell? ⟨hh,n,none⟩=some (.slice ad rl rl)∧Calls Tryz.prog 71 #[.slice ad rl rl] (w.alloc (.cells s0A stS)) (RdP (w.alloc (.cells s0A stS)) N c)):=⟨hM0,hcell,C⟩
 clear hM0 HM0 hcell C hN hrl hl
 go_enter Tryz.func42,Tryz.ntmps42
 go_upto_region 1 with fail
 refine wp_letter (fun X=>Mem w X [(g,.cells s0A stS (0,0))]∧X.cell? ⟨hh,n,none⟩=some (.slice ad rl rl)∧Calls Tryz.prog 71 #[.slice ad rl rl] X (RdP X N c)) (by exact HL.out) ?_
 rintro V0 ⟨hM,hcell,C⟩
 try simp only [hg]
 clear HL hg
 have HM:Hid (Mem w V0 [(g,.cells s0A stS (0,0))]):=hM
 clear hM
 go_wp2_with fail
 refine C.mono ?_
 rintro e V ⟨u,K,rfl,hM1,hon⟩
 have hM2:Mem w V ((g,.cells s0A stS (0,0))::K):=(HM.out.more hM1).perm List.perm_append_comm
 have k0:=hM2.get 0 rfl
 obtain ⟨A,hA⟩:∃ A,(Value.int .u64 N::cc c u).toArray=A:=⟨_,rfl⟩
 have hcv:=hon V0 (Nat.le_refl _) V hM1.below (fun x hx=>hM1.at_ x hx)
 have hcl:=hcv.1
 have hu:u.oneCell'=true:=by
  obtain ⟨u',e,h'⟩:=hcv.2
  have:u=u':=by
   have e2:=congrArg (fun v=>match v with | .agg a=>a[28]? | _=>none) e
   simp only [cc_28 hcl,Option.some.injEq] at e2
   exact e2
  rw [this];exact h'.one
 have hsz:A.size=30:=by rw [←hA];simp [cc_len hcl]
 have hone:A.all (·.oneCell')=true:=by rw [←hA];exact st_one N hu
 have i30:(Tryz.prog.info? stS).map (·.size)=some A.size:=by rw [hsz];kernel_rfl
 have z30:s0A.size=A.size:=by rw [hsz];rfl
 have hM3:=hM2.wrote 0 rfl (wrote_setRow V g _ A _ k0)
 have hws:w.heap.size≤V0.heap.size:=HM.out.below.size
 have HQ:Hid ((V.setRow g A).heap[g]? = some (.cells A stS (0,0))∧RdP w N c (.returned (.tuple #[.agg A,.int .i64 0])) (V.setRow g A)) :=
  ⟨hM3.get 0 rfl,u,K,by rw [hA],hM3.sub,fun w1 h1=>hon w1 (Nat.le_trans h1 hws)⟩
 rw [hA]
 clear hM1 hM2 hM3 hon hcv HM hA C hcell
 go_wp2_with (refine wpList_store_row rfl stS (.tmp 2) (.tmp 15) (by with_reducible rfl) g A (by first | rfl | simp [Act.eval]) (by first | rfl | simp [Act.eval]) stS s0A k0 i30 z30 hone ?_)
 refine bodyPost_ret (v:=.tuple #[.agg A,.int .i64 0]) ?_ rfl HQ.out.2
 exact results_two' (p:=2) (q:=3) (ty:=stS) rfl _ _ g _ rfl (run_loadVar_row _ _ stS stS _ (0,0) _ HQ.out.1 Tryz.underlying96 rfl i30)
end Go.Proofs.YtdigofgjhaakmaaGreatDoor
